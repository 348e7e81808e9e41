/- Helpers: what an operation looks at. No condition but the hypotheses that each theorem names. -/
import Derived.Test.YtaemlmpcclfmdaaB06
namespace Go.Proofs.Ytaemlmpcclfmdaa
open Go.RowKit
def Agree (ν ν' : Nat → AB) (rd : List Nat) : Prop := ∀ k, k ∈ rd → ν' k = ν k
theorem Agree.l {ν ν' : Nat → AB} {a b : List Nat} (h : Agree ν ν' (a ++ b)) : Agree ν ν' a := fun k hk => h k (List.mem_append.2 (.inl hk))
theorem Agree.r {ν ν' : Nat → AB} {a b : List Nat} (h : Agree ν ν' (a ++ b)) : Agree ν ν' b := fun k hk => h k (List.mem_append.2 (.inr hk))
theorem Agree.one {ν ν' : Nat → AB} {k : Nat} (h : Agree ν ν' [k]) : ν' k = ν k := h k (by simp)
def SeeLoc (f : (Nat → AB) → AV → SeeR) : Prop := ∀ (ν ν' : Nat → AB) (x y : AV) (rd : List Nat) (wr : List (Nat × AB)), f ν x = some (y, rd, wr) → Agree ν ν' rd → f ν' x = some (y, rd, wr)
theorem see0_loc : SeeLoc seeV0 := by
  intro ν ν' x y rd wr e h
  cases x with
  | own k =>
    simp only [seeV0] at e ⊢
    split at e
    · rename_i z n g sd hk
      cases e
      rw [h.one, hk]
    · cases e
  | pB k o =>
    simp only [seeV0] at e ⊢
    split at e
    · rename_i n hh sd hk
      obtain ⟨hb, q⟩ := bif_some e
      cases q
      rw [h.one, hk]
      exact e
    · cases e
  | _ => exact e
theorem seeL_loc {f : (Nat → AB) → AV → SeeR} (hf : SeeLoc f) : ∀ {l : List AV} {ν ν' : Nat → AB} {ys : List AV} {rd : List Nat} {wr : List (Nat × AB)}, seeLg f ν l = some (ys, rd, wr) → Agree ν ν' rd → seeLg f ν' l = some (ys, rd, wr)
  | [], ν, ν', ys, rd, wr, e, _ => e
  | x :: l, ν, ν', ys, rd, wr, e, h => by
    unfold seeLg at e ⊢
    split at e
    case h_2 => cases e
    rename_i y rd1 wr1 h1
    split at e
    case h_2 => cases e
    rename_i ys2 rd2 wr2 h2
    cases e
    rw [hf _ _ _ _ _ _ h1 h.l]
    simp only
    rw [seeL_loc hf (ν' := nmw ν' wr1) h2 (fun k hk => nmw_in _ _ _ _ (.inl (h.r k hk)))]
theorem seeF_loc : ∀ f, SeeLoc (seeF f)
  | 0 => see0_loc
  | f + 1 => by
    intro ν ν' x y rd wr e h
    have ih := seeF_loc f
    cases x with
    | agg n hh =>
      simp only [seeF] at e ⊢
      cases hb : allN n (fun i => noref (hh i)) with
      | true => rw [hb] at e; exact e
      | false =>
        rw [hb] at e
        simp only [cond_false] at e ⊢
        split at e
        · rename_i ys rd1 wr1 h1
          cases e
          rw [seeL_loc ih h1 h]
        · cases e
    | cloM f n1 h1 n2 h2 =>
      simp only [seeF] at e ⊢
      split at e
      · rename_i ys rd1 wr1 hs
        cases e
        rw [seeL_loc ih hs h]
      · cases e
    | pB k o =>
      simp only [seeF] at e ⊢
      split at e
      case h_2 => cases e
      rename_i m hh sd hk
      cases hb : allN m (fun i => noref (hh i)) with
      | true =>
        rw [hb] at e
        simp only [cond_true] at e
        have h2 := see0_loc ν ν' (.pB k o) y rd wr e h
        have hkk : ν' k = .box m hh sd := by
          simp only [seeV0, hk, hb, Bool.and_true] at e
          obtain ⟨_, q⟩ := bif_some e
          cases q
          rw [h.one, hk]
        rw [hkk]
        simp only [hb, cond_true]
        exact h2
      | false =>
        rw [hb] at e
        simp only [cond_false] at e
        split at e
        case h_2 => cases e
        rename_i ys rd1 wr1 hs
        split at e
        case h_2 => cases e
        rename_i m' h' hk1
        obtain ⟨hb2, q⟩ := bif_some e
        cases q
        have hkk : ν' k = ν k := h k (by simp)
        rw [hkk, hk]
        simp only [hb, cond_false]
        rw [seeL_loc ih hs (fun j hj => h j (by simp [hj]))]
        simp only
        rw [nmw_in ν' ν wr1 k (.inl hkk), hk1]
        exact e
    | _ => simp only [seeF] at e ⊢; exact see0_loc _ _ _ _ _ _ e h
theorem see_loc : SeeLoc seeV := seeF_loc 6
theorem wob_loc {l : List AV} {r r' : Option AO} {ao : AO} (h : wob l r = some ao) (hr : ∀ ao0, r = some ao0 → ao0.rd = ao.rd → r' = some ao0) : wob l r' = some ao := by
  cases hq : r with
  | none => rw [hq] at h; cases h
  | some ao0 =>
    have h' := h
    rw [hq] at h
    rw [hr ao0 hq (by cases h; rfl), ← hq]
    exact h'
theorem oLoad_loc {P : Program} {ν ν' : Nat → AB} {t : TypeId} {x : AV} {ao : AO} (e : oLoad P ν t x = some ao) (h : Agree ν ν' ao.rd) : oLoad P ν' t x = some ao := by
  unfold oLoad at e ⊢
  cases hT : tinf P t with
  | none => rw [hT] at e; cases e
  | some bs =>
    rw [hT] at e
    obtain ⟨b, s⟩ := bs
    cases x with
    | pB k o =>
      simp only at e ⊢
      split at e
      · rename_i n hh sd hk
        obtain ⟨hb, q⟩ := bif_some e
        subst q
        rw [h.one, hk]
        exact e
      · cases e
    | pX k b0 len z i o =>
      simp only at e ⊢
      split at e
      · rename_i n hh sd hk
        obtain ⟨hb, q⟩ := bif_some e
        subst q
        rw [h.one, hk]
        exact e
      · cases e
    | pA k z i o =>
      simp only at e ⊢
      split at e
      · rename_i z' n g sd hk
        obtain ⟨hb, q⟩ := bif_some e
        subst q
        rw [h.one, hk]
        exact e
      · cases e
    | _ => exact e
theorem oStore_loc {P : Program} {ν ν' : Nat → AB} {t : TypeId} {x y : AV} {ao : AO} (e : oStore P ν t x y = some ao) (h : Agree ν ν' ao.rd) : oStore P ν' t x y = some ao := by
  unfold oStore at e ⊢
  cases hT : tinf P t with
  | none => rw [hT] at e; cases e
  | some bs =>
  cases hC : cellsAV y with
  | none => rw [hT, hC] at e; cases e
  | some sh =>
    rw [hT, hC] at e
    obtain ⟨b, s⟩ := bs
    obtain ⟨s', hv⟩ := sh
    simp only at e ⊢
    cases hq : Nat.beq s s' with
    | false => rw [hq] at e; cases e
    | true =>
    rw [hq] at e
    simp only [cond_true] at e ⊢
    cases x with
    | pB k o =>
      simp only at e ⊢
      split at e
      · rename_i n hh hk
        obtain ⟨hb, q⟩ := bif_some e
        subst q
        rw [h.one, hk]
        exact e
      · cases e
    | pX k b0 len z i o =>
      simp only at e ⊢
      split at e
      · rename_i n hh hk
        obtain ⟨hb, q⟩ := bif_some e
        subst q
        rw [h.one, hk]
        exact e
      · cases e
    | pA k z i o =>
      simp only at e ⊢
      split at e
      · rename_i z' n g hk
        obtain ⟨hb, q⟩ := bif_some e
        subst q
        rw [h.one, hk]
        exact e
      · cases e
    | _ => exact e
theorem oIndexAddr_loc {P : Program} {ν ν' : Nat → AB} {t : TypeId} {x i : AV} {ao : AO} (e : oIndexAddr P ν t x i = some ao) (h : Agree ν ν' ao.rd) : oIndexAddr P ν' t x i = some ao := by
  unfold oIndexAddr at e ⊢
  split at e
  case h_2 => cases e
  split at e
  · split at e
    case h_2 => cases e
    split at e
    · exact e
    · split at e
      · rename_i z' m g sd hk
        obtain ⟨hb, q⟩ := bif_some e
        subst q
        try simp only
        rw [h.one, hk]
        exact e
      · cases e
    · cases e
  · exact e
  · cases e
theorem oLen_loc {P : Program} {ν ν' : Nat → AB} {t : TypeId} {x : AV} {ao : AO} (e : oLen P ν t x = some ao) (h : Agree ν ν' ao.rd) : oLen P ν' t x = some ao := by
  unfold oLen at e ⊢
  split at e
  · exact e
  · split at e
    · exact e
    · exact e
    · split at e
      · rename_i z n g sd hk
        cases e
        try simp only
        rw [h.one, hk]
      · cases e
    · cases e
  · exact e
  · cases e
theorem oApp_loc {P : Program} {ν ν' : Nat → AB} {nm : Nat} {t tx : TypeId} {x y : AV} {ao : AO} (e : oApp P ν nm t tx x y = some ao) (h : Agree ν ν' ao.rd) : oApp P ν' nm t tx x y = some ao := by
  unfold oApp at e ⊢
  split at e
  case h_2 => cases e
  rename_i el z hap
  split at e
  case h_2 => cases e
  rename_i k n g sd m gs rd hd hs
  cases e
  have h1 : dstAV ν' z x = some (k, n, g, sd) := by
    unfold dstAV at hd ⊢
    split at hd
    · exact hd
    · rename_i q
      split at hd
      · rename_i z' n' g' sd' hk
        have hkq : k = some q := by
          cases hb : Nat.beq z z' with
          | false => rw [hb] at hd; cases hd
          | true => rw [hb] at hd; cases hd; rfl
        try simp only
        rw [h q (by rw [hkq]; simp), hk]
        exact hd
      · cases hd
    · cases hd
  have h2 : srcAV ν' z y = some (m, gs, rd) := by
    unfold srcAV at hs ⊢
    split at hs
    · exact hs
    · exact hs
    · rename_i q
      split at hs
      · rename_i z' m' g' sd' hk
        have hkq : rd = [q] := by
          cases hb : Nat.beq z z' with
          | false => rw [hb] at hs; cases hs
          | true => rw [hb] at hs; cases hs; rfl
        try simp only
        rw [h q (by rw [hkq]; simp), hk]
        exact hs
      · cases hs
    · cases hs
  simp only [h1, h2]
theorem oCall_loc {P : Program} {ν ν' : Nat → AB} {hint f : AV} {xs : List AV} {ao : AO} (e : oCall P ν hint f xs = some ao) (h : Agree ν ν' ao.rd) : oCall P ν' hint f xs = some ao := by
  unfold oCall at e ⊢
  split at e
  · split at e
    · rename_i ys rd wr hs
      obtain ⟨hb, q⟩ := bif_some e
      subst q
      rw [show seeL ν' xs = some (ys, rd, wr) from seeL_loc (f := seeV) see_loc hs h]
      exact e
    · cases e
  · cases e
theorem oCallM_loc {P : Program} {nm : Nat} {ν ν' : Nat → AB} {fp : List Nat} {wr : List (Nat × AB)} {r f : AV} {xs : List AV} {ao : AO} (e : oCallM P nm ν fp wr r f xs = some ao) (h : Agree ν ν' ao.rd) : oCallM P nm ν' fp wr r f xs = some ao := by
  unfold oCallM at e ⊢
  split at e
  case h_2 => cases e
  rename_i g l1 l2 hcp
  obtain ⟨hb, q⟩ := bif_some e
  subst q
  have h : ∀ k, k ∈ fp → ν' k = ν k := h
  have h1 : restr fp ν' = restr fp ν := by
    funext k
    by_cases hk : k ∈ fp
    · rw [restr_in hk, restr_in hk, h k hk]
    · rw [restr_out hk, restr_out hk]
  have h2 : (fp.all fun k => refsInB fp (ν' k)) = fp.all fun k => refsInB fp (ν k) := by
    rw [Bool.eq_iff_iff, List.all_eq_true, List.all_eq_true]
    exact ⟨fun g k hk => by rw [← h k hk]; exact g k hk, fun g k hk => by rw [h k hk]; exact g k hk⟩
  rw [h1, h2]
  exact e
theorem oMakeFunc_loc {ν ν' : Nat → AB} {f : Fn} {xs ys : List AV} {ao : AO} (e : oMakeFunc ν f xs ys = some ao) (h : Agree ν ν' ao.rd) : oMakeFunc ν' f xs ys = some ao := by
  unfold oMakeFunc at e ⊢
  split at e
  · split at e
    · rename_i zs rd wr hs
      cases e
      rw [show seeL ν' (xs ++ ys) = some (zs, rd, wr) from seeL_loc (f := seeV) see_loc hs h]
    · cases e
  · cases e
theorem oBuildSlice_loc {P : Program} {ν ν' : Nat → AB} {nm : Nat} {t : TypeId} {len : Nat} {is : List Nat} {xs : List AV} {ao : AO} (e : oBuildSlice P ν nm t len is xs = some ao) (h : Agree ν ν' ao.rd) : oBuildSlice P ν' nm t len is xs = some ao := by
  unfold oBuildSlice at e ⊢
  split at e
  case h_2 => cases e
  rename_i el hu
  split at e
  case h_2 => cases e
  rename_i i hi
  split at e
  case h_2 => cases e
  rename_i z hz
  cases hb : (allOne z.cells && Nat.blt 0 i.size && Nat.beq z.cells.size i.size && Nat.ble (len * i.size) 16777216) with
  | false => rw [hb] at e; cases e
  | true =>
  rw [hb] at e
  simp only [cond_true] at e ⊢
  split at e
  case h_2 => cases e
  rename_i ys rd wr hs
  split at e
  case h_2 => cases e
  rename_i hh hf
  obtain ⟨hb2, q⟩ := bif_some e
  subst q
  rw [show seeL ν' xs = some (ys, rd, wr) from seeL_loc (f := seeV) see_loc hs h]
  simp only [hf, hb2, cond_true]
theorem oSlN_loc {P : Program} {ν ν' : Nat → AB} {t : TypeId} {x : AV} {lo hi : Option AV} {ao : AO} (e : oSlN P ν t x lo hi = some ao) (h : Agree ν ν' ao.rd) : oSlN P ν' t x lo hi = some ao := by
  unfold oSlN at e ⊢
  split at e
  case h_2 => cases e
  rename_i y rd wr hs
  have hrd : ao.rd = rd := by
    split at e
    case h_2 => cases e
    split at e <;> first | (cases e; rfl) | cases e
  rw [see_loc _ _ _ _ _ _ hs (by rw [← hrd]; exact h)]
  exact e
theorem oSlice_loc {P : Program} {ν ν' : Nat → AB} {t : TypeId} {x : AV} {lo hi : Option AV} {ao : AO} (e : oSlice P ν t x lo hi = some ao) (h : Agree ν ν' ao.rd) : oSlice P ν' t x lo hi = some ao := by
  unfold oSlice at e ⊢
  split at e
  · exact e
  · exact oSlN_loc e h
def tmpsOf (o : Op) : List Nat := o.operands.toList.filterMap fun | .tmp t => some t | _ => none
theorem opv_agree {s s' : Nat → AV} {o : Op} (h : ∀ t, t ∈ tmpsOf o → s' t = s t) : ∀ x, x ∈ o.operands.toList → opv s' x = opv s x := by
  intro x hx
  cases x with
  | tmp t => exact h t (List.mem_filterMap.2 ⟨.tmp t, hx, rfl⟩)
  | _ => rfl
theorem opOut_slots {P : Program} {hint : HT} {nm : Nat} {s s' : Nat → AV} {ν : Nat → AB} {o : Op} (h : ∀ x, x ∈ o.operands.toList → opv s' x = opv s x) : opOut P hint nm s' ν o = opOut P hint nm s ν o := by
  cases o with
  | move x => simp only [opOut]; rw [h x (by simp [Op.operands])]
  | assign x => simp only [opOut]; rw [h x (by simp [Op.operands])]
  | pick c x y => simp only [opOut]; rw [h c (by simp [Op.operands]), h x (by simp [Op.operands]), h y (by simp [Op.operands])]
  | box t x => simp only [opOut]; rw [h x (by simp [Op.operands])]
  | build t ps =>
    simp only [opOut]
    have h1 : ps.toList.map (fun p => opv s' p.2) = ps.toList.map (fun p => opv s p.2) := List.map_congr_left fun p hp => h p.2 (by simp [Op.operands]; exact ⟨p.1, by simpa using hp⟩)
    have h2 : ps.toList.map (fun p => strp (opv s' p.2)) = ps.toList.map (fun p => strp (opv s p.2)) := List.map_congr_left fun p hp => by rw [h p.2 (by simp [Op.operands]; exact ⟨p.1, by simpa using hp⟩)]
    rw [h1, h2]
  | buildSlice t len ps =>
    simp only [opOut]
    have h1 : ps.toList.map (fun p => opv s' p.2) = ps.toList.map (fun p => opv s p.2) := List.map_congr_left fun p hp => h p.2 (by simp [Op.operands]; exact ⟨p.1, by simpa using hp⟩)
    have h2 : ps.toList.map (fun p => strp (opv s' p.2)) = ps.toList.map (fun p => strp (opv s p.2)) := List.map_congr_left fun p hp => by rw [h p.2 (by simp [Op.operands]; exact ⟨p.1, by simpa using hp⟩)]
    rw [h1, h2]
  | load t x => simp only [opOut]; rw [h x (by simp [Op.operands])]
  | store t x y => simp only [opOut]; rw [h x (by simp [Op.operands]), h y (by simp [Op.operands])]
  | nilCheck x => simp only [opOut]; rw [h x (by simp [Op.operands])]
  | binOp op t x y t2 => simp only [opOut]; rw [h x (by simp [Op.operands]), h y (by simp [Op.operands])]
  | unOp op t x => simp only [opOut]; rw [h x (by simp [Op.operands])]
  | convert a b x => simp only [opOut]; rw [h x (by simp [Op.operands])]
  | makeFunc f fi ca =>
    simp only [opOut]
    have h0 : (fi.toList ++ ca.toList).map (opv s') = (fi.toList ++ ca.toList).map (opv s) := List.map_congr_left fun x hx => h x (by simp [Op.operands] at hx ⊢; exact hx)
    have h1 : fi.toList.map (fun x => strp (opv s' x)) = fi.toList.map (fun x => strp (opv s x)) := List.map_congr_left fun x hx => by rw [h x (by simp [Op.operands]; exact .inl (by simpa using hx))]
    have h2 : ca.toList.map (fun x => strp (opv s' x)) = ca.toList.map (fun x => strp (opv s x)) := List.map_congr_left fun x hx => by rw [h x (by simp [Op.operands]; exact .inr (by simpa using hx))]
    rw [h0, h1, h2]
  | makeSlice t l c => simp only [opOut]; rw [h l (by simp [Op.operands]), h c (by simp [Op.operands])]
  | fieldAddr t x f => simp only [opOut]; rw [h x (by simp [Op.operands])]
  | field t x f => simp only [opOut]; rw [h x (by simp [Op.operands])]
  | indexAddr t x i => simp only [opOut]; rw [h x (by simp [Op.operands]), h i (by simp [Op.operands])]
  | index t x i => simp only [opOut]; rw [h x (by simp [Op.operands]), h i (by simp [Op.operands])]
  | extract x i => simp only [opOut]; rw [h x (by simp [Op.operands])]
  | slice t x lo hi m =>
    cases m with
    | some _ => rfl
    | none =>
      cases lo with
      | none => cases hi with
        | none => simp only [opOut]; rw [h x (by simp [Op.operands])]; rfl
        | some hi => simp only [opOut, Option.map_some, Option.toList_some, List.map_append, List.map_cons, List.map_nil]; rw [h x (by simp [Op.operands]), h hi (by simp [Op.operands])]; rfl
      | some lo => cases hi with
        | none => simp only [opOut, Option.map_some, Option.toList_some, List.map_append, List.map_cons, List.map_nil]; rw [h x (by simp [Op.operands]), h lo (by simp [Op.operands])]; rfl
        | some hi => simp only [opOut, Option.map_some, Option.toList_some, List.map_append, List.map_cons, List.map_nil]; rw [h x (by simp [Op.operands]), h lo (by simp [Op.operands]), h hi (by simp [Op.operands])]
  | call c =>
    have ha : ∀ x, x ∈ c.args.toList → opv s' x = opv s x := fun x hx => h x (by simp [Op.operands, Call.operands]; exact .inr (by simpa using hx))
    have h1 : c.args.toList.map (opv s') = c.args.toList.map (opv s) := List.map_congr_left ha
    have h2 : c.args.toList.map (fun x => strp (opv s' x)) = c.args.toList.map (fun x => strp (opv s x)) := List.map_congr_left fun x hx => by rw [ha x hx]
    simp only [opOut]
    split
    · rename_i f hf
      rw [h f (by simp [Op.operands, Call.operands, hf]), h1, h2]
    · split
      · rename_i x t hx ht
        rw [ha x (by rw [hx]; simp)]
      · rfl
    · split
      · rename_i x y t tx hx ht
        rw [ha x (by rw [hx]; simp), ha y (by rw [hx]; simp)]
      · rfl
    · rw [h1, h2]
    · rw [h1, h2]
    · rw [h1, h2]
    · rw [h1, h2]
    · rw [h1, h2]
    · rfl
  | _ => rfl
theorem oBinN_loc {P : Program} {ν ν' : Nat → AB} {op : BinOp} {t : TypeId} {x y : AV} {ao : AO} (e : oBinN P ν op t x y = some ao) (h : Agree ν ν' ao.rd) : oBinN P ν' op t x y = some ao := by
  unfold oBinN at e ⊢
  cases hc : isNilC y with
  | false => rw [hc] at e; exact e
  | true =>
    rw [hc] at e
    simp only [cond_true] at e ⊢
    split at e
    case h_2 => exact e
    split at e
    case h_2 => cases e
    rename_i b rd hk
    have hrd : ao.rd = rd := by
      split at e
      · cases e; rfl
      · cases e; rfl
      · cases e
    rw [nilK_loc hk (fun k hk => h k (by rw [hrd]; exact hk))]
    exact e
theorem opOut_loc {P : Program} {hint : HT} {nm : Nat} {s : Nat → AV} {ν ν' : Nat → AB} {o : Op} {ao : AO} (e : opOut P hint nm s ν o = some ao) (h : Agree ν ν' ao.rd) : opOut P hint nm s ν' o = some ao := by
  cases o with
  | buildSlice t len ps => exact wob_loc e fun ao0 h1 h2 => oBuildSlice_loc h1 (by rw [h2]; exact h)
  | slice t x lo hi m => cases m with | some _ => exact e | none => exact wob_loc e fun ao0 h1 h2 => oSlice_loc h1 (by rw [h2]; exact h)
  | load t x => exact wob_loc e fun ao0 h1 h2 => oLoad_loc h1 (by rw [h2]; exact h)
  | binOp op t x y t2 => exact wob_loc e fun ao0 h1 h2 => oBinN_loc h1 (by rw [h2]; exact h)
  | store t x y => exact wob_loc e fun ao0 h1 h2 => oStore_loc h1 (by rw [h2]; exact h)
  | makeFunc f fi ca =>
    simp only [opOut] at e ⊢
    cases hm : hint.m with
    | false => rw [hm] at e; exact wob_loc e fun ao0 h1 h2 => oMakeFunc_loc h1 (by rw [h2]; exact h)
    | true => rw [hm] at e; exact e
  | indexAddr t x i => exact wob_loc e fun ao0 h1 h2 => oIndexAddr_loc h1 (by rw [h2]; exact h)
  | call c =>
    simp only [opOut] at e ⊢
    split at e
    · cases hm : hint.m with
      | false => rw [hm] at e; exact wob_loc e fun ao0 h1 h2 => oCall_loc h1 (by rw [h2]; exact h)
      | true => rw [hm] at e; exact wob_loc e fun ao0 h1 h2 => oCallM_loc h1 (by rw [h2]; exact h)
    · split at e
      · exact wob_loc e fun ao0 h1 h2 => oLen_loc h1 (by rw [h2]; exact h)
      · cases e
    · split at e
      · exact wob_loc e fun ao0 h1 h2 => oApp_loc h1 (by rw [h2]; exact h)
      · cases e
    · exact e
    · exact e
    · exact e
    · exact e
    · exact e
    · cases e
  | _ => exact e
theorem oYield_loc {P : Program} {nm : Nat} {ν ν' : Nat → AB} {fp : List Nat} {wr : List (Nat × AB)} {r : AV} {k : Nat} {xs : List AV} {ao : AO} (e : oYield P nm ν fp wr r k xs = some ao) (h : Agree ν ν' ao.rd) : oYield P nm ν' fp wr r k xs = some ao := by
  unfold oYield at e ⊢
  obtain ⟨hb, q⟩ := bif_some e
  subst q
  have h : ∀ k, k ∈ fp → ν' k = ν k := h
  have h1 : restr fp ν' = restr fp ν := by
    funext k
    by_cases hk : k ∈ fp
    · rw [restr_in hk, restr_in hk, h k hk]
    · rw [restr_out hk, restr_out hk]
  have h2 : (fp.all fun k => refsInB fp (ν' k)) = fp.all fun k => refsInB fp (ν k) := by
    rw [Bool.eq_iff_iff, List.all_eq_true, List.all_eq_true]
    exact ⟨fun g k hk => by rw [← h k hk]; exact g k hk, fun g k hk => by rw [h k hk]; exact g k hk⟩
  rw [h1, h2]
  exact e
theorem opI_slots {P : Program} {hint : HT} {nm : Nat} {s s' : Nat → AV} {ν : Nat → AB} {o : Op} (h : ∀ x, x ∈ o.operands.toList → opv s' x = opv s x) : opI P hint nm s' ν o = opI P hint nm s ν o := by
  have h0 := opOut_slots (P := P) (hint := hint) (nm := nm) (ν := ν) h
  cases o with
  | call c =>
    have ha : ∀ x, x ∈ c.args.toList → opv s' x = opv s x := fun x hx => h x (by simp [Op.operands, Call.operands]; exact .inr (by simpa using hx))
    have h1 : c.args.toList.map (opv s') = c.args.toList.map (opv s) := List.map_congr_left ha
    have h2 : c.args.toList.map (fun x => strp (opv s' x)) = c.args.toList.map (fun x => strp (opv s x)) := List.map_congr_left fun x hx => by rw [ha x hx]
    simp only [opI]
    split
    · rename_i f hf
      rw [h f (by simp [Op.operands, Call.operands, hf]), h1, h2]
      split
      · rfl
      · exact h0
    · exact h0
  | _ => exact h0
theorem opI_loc {P : Program} {hint : HT} {nm : Nat} {s : Nat → AV} {ν ν' : Nat → AB} {o : Op} {ao : AO} (e : opI P hint nm s ν o = some ao) (h : Agree ν ν' ao.rd) : opI P hint nm s ν' o = some ao := by
  cases o with
  | call c =>
    simp only [opI] at e ⊢
    split at e
    · split at e
      · exact wob_loc e fun ao0 h1 h2 => oYield_loc h1 (by rw [h2]; exact h)
      · exact opOut_loc e h
    · exact opOut_loc e h
  | _ => simp only [opI] at e ⊢; exact opOut_loc e h
end Go.Proofs.Ytaemlmpcclfmdaa
