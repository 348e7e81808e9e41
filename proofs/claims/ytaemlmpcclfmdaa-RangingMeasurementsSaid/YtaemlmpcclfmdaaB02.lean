/- Helpers: append, as an operation. No condition but the hypotheses that each theorem names. -/
import Derived.Test.YtaemlmpcclfmdaaB01
import Derived.CallsIn
namespace Go.Proofs.Ytaemlmpcclfmdaa
open Go.RowKit
theorem appI_of {P : Program} {t tx e : TypeId} {z : Nat} (h : appI P t tx = some (e, z)) : ∃ e' i zv, P.underlying t = some (.slice e) ∧ P.underlying tx = some (.slice e') ∧ P.info? e = some i ∧ i.zero = some zv ∧ i.bytes ≤ 4096 ∧ i.size = z ∧ 0 < z ∧ zv.cells.size = z := by
  unfold appI at h
  split at h
  · rename_i e1 e2 h1 h2
    split at h
    · rename_i i hi
      split at h
      · rename_i zv hz
        obtain ⟨hb, q⟩ := bif_some h
        cases q
        simp only [Bool.and_eq_true] at hb
        exact ⟨e2, i, zv, h1, h2, hi, hz, ble_iff hb.1.1, rfl, blt_iff hb.1.2, Nat.eq_of_beq_eq_true hb.2⟩
      · cases h
    · cases h
  · cases h
theorem getD_app_l {l r : List Value} {i : Nat} (h : i < l.length) : (l ++ r).getD i undef = l.getD i undef := by simp [List.getD_eq_getElem?_getD, List.getElem?_append, h]
theorem getD_app_r {l r : List Value} {i : Nat} (h : l.length ≤ i) : (l ++ r).getD i undef = r.getD (i - l.length) undef := by
  have : ¬ i < l.length := by omega
  simp [List.getD_eq_getElem?_getD, List.getElem?_append, this]
theorem zeroCells_size {z : Array Value} {n : Nat} : (Builtin.zeroCells z n).size = n * z.size := by simp [Builtin.zeroCells]
theorem grown_ge (w : World) (need old : Nat) (e : TypeId) : need ≤ grownCap w need old e := by
  unfold grownCap Question.cut
  simp
section
variable {P : Program} {S0 : Addr → Prop} {mm : Nat} {w0 : Bs mm} {N : Nat} {U U' : Nat → Prop} {σ : ASt} {a : Act} {w w' : World} {S S' : Addr → Prop} {κ κ' : Nat → Option Hdr} {o : Oper} {Q : Exit → Act → World → Prop} {nm : Nat}
theorem appG_rd {S : Addr → Prop} {w : World} {z n m : Nat} {g gs : Nat → Nat → AV} {F : Nat → Value} (h1 : ∀ i, i < n → ∀ j, j < z → (F (i * z + j)).oneCell' = true ∧ Rd S (fun _ => none) w (g i j) (F (i * z + j)))
    (h2 : ∀ i, i < m → ∀ j, j < z → (F ((n + i) * z + j)).oneCell' = true ∧ Rd S (fun _ => none) w (gs i j) (F ((n + i) * z + j))) : ∀ i, i < n + m → ∀ j, j < z → (F (i * z + j)).oneCell' = true ∧ Rd S (fun _ => none) w (appG n m g gs i j) (F (i * z + j)) := by
  intro i hi j hj
  by_cases hin : i < n
  · unfold appG
    rw [blt_t hin]
    exact h1 i hin j hj
  · unfold appG
    rw [blt_f (by omega)]
    have := h2 (i - n) (by omega) j hj
    rw [show n + (i - n) = i from by omega] at this
    cases hm : Nat.beq m 1 with
    | true =>
      have hm1 := Nat.eq_of_beq_eq_true hm
      rw [show i - n = 0 from by omega] at this
      exact this
    | false => exact this
theorem sApp {t tx : TypeId} {x y : Operand} {call : Call} (ho : o.op = .call call) (hcal : call.callee = .builtin .append) (hargs : call.args = #[x, y]) (hty : call.argTypes = #[t, tx]) (hd : ∀ t, o.dst = some t → t < N) (h : RelX S0 w0 N U σ a w S κ) (hk : κ nm = none)
    {X Y : AV} (hx : Rd S κ w X (a.eval x)) (hy : Rd S κ w Y (a.eval y)) {ao : AO} (e : oApp P σ.name nm t tx X Y = some ao) (hp : allP ao.pre) : o.wp P a w (Aft S0 w0 N U σ nm o.dst ao.val ao.wr) Q := by
  unfold oApp at e
  split at e
  case h_2 => cases e
  rename_i el z hap
  obtain ⟨e', inf, zv, ht, htx, hinf, hzv, hbytes, hsz, hz, hzs⟩ := appI_of hap
  split at e
  case h_2 => cases e
  rename_i k n g sd m gs rd hdst hsrc
  cases e
  have hle : n + m ≤ 1000000000 := hp
  obtain ⟨ad, c', hyv, hm0, f, hf1, hf2, hf3⟩ := srcAV_rd h hz hy hsrc
  -- what is appended
  have hsrcP : Src P inf.size tx (a.eval y) m ((List.range (m * z)).map f) w := by
    rw [hyv]
    cases ad with
    | none =>
      have : m = 0 := by
        rcases Nat.eq_zero_or_pos m with q | q
        · exact q
        · exact absurd rfl (hm0 (by omega))
      subst this
      have := Src.ofNil (P := P) w (size := inf.size) htx c'
      simpa using this
    | some b =>
      refine Src.ofSlice w htx b m c' _ (by simp [hsz]) (fun j u hj => ?_) (fun u hu => ?_)
      · simp [List.getElem?_map] at hj
        obtain ⟨q, q1, rfl⟩ := hj
        by_cases hjm : j < m * z
        · simp [hjm] at q1
          rw [← q1]
          exact hf1 b rfl j hjm
        · simp [hjm] at q1
      · obtain ⟨j, hj, rfl⟩ := List.mem_map.1 hu
        exact hf2 j (List.mem_range.1 hj)
  -- onto what
  have hdest : ∃ ad n' c, a.eval x = .slice ad n c ∧ n ≤ c ∧ n' = n ∧ (∀ q, k = some q → κ q = some (.sl ad n c) ∧ σ.name q ≠ .none ∧ q ≠ nm) ∧ ((ad = none ∧ n = 0 ∧ c = 0) ∨ ∃ b cs el, k.isSome = true ∧ ad = some ⟨b, 0, none⟩ ∧ w0.O b ∧ w.heap[b]? = some (.cells cs el (0, 0)) ∧ cs.size = c * z ∧ (∀ i, i < n → ∀ j, j < z → (cs.getD (i * z + j) undef).oneCell' = true ∧ Rd S (fun _ => none) w (g i j) (cs.getD (i * z + j) undef)) ∧ (∀ o, S ⟨b, o, none⟩ → sd = true ∧ o < n * z) ∧ (sd = true → ∀ o, o < n * z → S ⟨b, o, none⟩)) := by
    unfold dstAV at hdst
    split at hdst
    · cases hdst
      exact ⟨none, 0, 0, hx, Nat.le_refl _, rfl, fun q hq => (by cases hq), .inl ⟨rfl, rfl, rfl⟩⟩
    · rename_i q
      split at hdst
      case h_2 => cases hdst
      rename_i z' n' g' sd' hq
      cases hb : Nat.beq z z' with
      | false => rw [hb] at hdst; cases hdst
      | true =>
      rw [hb] at hdst
      cases hdst
      obtain rfl := Nat.eq_of_beq_eq_true hb
      obtain ⟨ad, n2, c, h1, h2⟩ := hx
      have hn := h.names q
      rw [hq] at hn
      obtain ⟨ad', c2, h3, h4, h5⟩ := hn
      rw [h1] at h3
      cases h3
      refine ⟨ad, n, c, h2, h4, rfl, fun q' hq' => (by cases hq'; exact ⟨h1, (by rw [hq]; exact fun q => by cases q), fun e => (by rw [e, hk] at h1; cases h1)⟩), h5.imp id ?_⟩
      rintro ⟨b, cs, el, g1, g2, g3, g4, g5, g6, g7⟩
      exact ⟨b, cs, el, rfl, g1, g2, g3, g4, g5, g6, g7⟩
    · cases hdst
  obtain ⟨base, _, c, hxv, hnc, _, hkk, hown⟩ := hdest
  have hexec : ∀ r w'', (Builtin.append_ #[t, tx] o.type #[.slice base n c, a.eval y]).run P w = .ok r w'' → (execOp a.eval o).run P w = .ok (.value r) w'' := by
    intro r w'' hr
    unfold execOp
    simp [ho, resolve, hcal, hargs, hty, hxv, invoke, builtin, hr]
  have hothers : ∀ b, base = some ⟨b, 0, none⟩ → ∀ k' b', σ.name k' ≠ .none → k ≠ some k' → hblk (κ k') = some b' → b' ≠ b := by
    intro b hb k' b' h1 h2 h3 e
    subst e
    rcases hown with ⟨q, _⟩ | ⟨b2, _, _, hks, q, _⟩
    · rw [q] at hb; cases hb
    · cases hkq : k with
      | none => rw [hkq] at hks; cases hks
      | some q' =>
        obtain ⟨g1, g2, _⟩ := hkk q' hkq
        refine h2 ?_
        rw [hkq, h.inj q' k' b' g2 h1 (by rw [g1, hb]; rfl) h3]
  have hkill : ∀ q, k = some q → q ≠ nm := fun q hq => (hkk q hq).2.2
  by_cases hroom : n + m ≤ c
  · rcases hown with ⟨rfl, rfl, rfl⟩ | ⟨b, cs, el', hks, rfl, g1, g2, g3, g4, g5, g6⟩
    · -- nothing onto nothing
      obtain rfl : m = 0 := by omega
      have hr : (Builtin.append_ #[t, tx] o.type #[.slice none 0 0, a.eval y]).run P w = .ok (.slice none 0 0) w := by
        rcases hsrcP.kind with ⟨e2, hk2⟩ | hk2 <;> simp [Builtin.append_, run_underlying ht, run_underlying hk2, sizeOf, typeInfo, hinf, hsrcP.len, hsrcP.cells]
      have hX := h.app hk k hkill (w' := w) (z := z) (n := 0) (c := 0) (G := appG 0 0 g gs) (sd := sd) (ad := none) (BelX.refl _ _ _) (DefK.refl _) (fun _ _ => rfl) (Nat.le_refl _) (fun k' b _ _ _ => ⟨rfl, fun p hp => (by cases hp)⟩) (.inl ⟨rfl, rfl, rfl⟩)
      exact goes_value hd (hexec _ _ hr) hX ⟨none, 0, 0, upd_own _ _ _, rfl⟩
    · -- there is room
      have hnz : n * z + m * z ≤ cs.size := by rw [g3, ← Nat.add_mul]; exact Nat.mul_le_mul_right z hroom
      have hr := run_append_room_src (P := P) w t tx o.type el inf ht hinf b 0 n c (a.eval y) m _ hsrcP hroom (fun j hj => by
        simp at hj
        rw [cell_row g2, hsz]
        simp
        omega) (fun j hj => by simp [World.frozen?, g2])
      rw [hsz, Nat.zero_add, setCells_row P g2 _ (by simp; omega) hsrcP.one] at hr
      generalize hV : ((List.range (m * z)).map f).toArray = V at hr
      have hVs : V.size = m * z := by rw [← hV]; simp
      have hVg : ∀ i, i < m * z → V.getD i undef = f i := fun i hi => by rw [← hV]; simp [Array.getD_eq_getD_getElem?, hi]
      have hns : ∀ o, S ⟨b, o, none⟩ → (putAt cs (n * z) V)[o]? = cs[o]? := fun o ho => putAt_out' (by omega) (.inl (g5 o ho).2)
      have hcell := setRow_cells (S := S) g2 hns
      have hoth : ∀ i, i ≠ b → (w.setRow b (putAt cs (n * z) V)).heap[i]? = w.heap[i]? := fun i hi => by simp [World.setRow, Array.getElem?_modify, Ne.symm hi]
      have hX := h.app hk k hkill (w' := w.setRow b (putAt cs (n * z) V)) (z := z) (n := n + m) (c := c) (G := appG n m g gs) (sd := sd) (ad := some ⟨b, 0, none⟩)
        ⟨rfl, rfl, rfl, by simp [World.setRow], fun i hi hX => hoth i (fun q => by subst q; exact g1.elim (fun q => by omega) hX)⟩ (fun D ds hD => (hoth D (fun q => by subst q; rw [g2] at hD; cases hD)).trans hD) hcell hroom
        (fun k' b' l1 l2 l3 => ⟨hoth b' (hothers b rfl k' b' l1 l2 l3), fun p hp => hothers b rfl k' b' l1 l2 l3 (by cases hp; rfl)⟩)
        (.inr ⟨b, _, el', rfl, g1, setRow_heap w b cs _ el' _ g2, by rw [putAt_size (by omega)]; exact g3,
          appG_rd (F := fun i => (putAt cs (n * z) V).getD i undef) (fun i hi j hj => by
            have hlt : i * z + j < n * z := by have : i * z + z ≤ n * z := by rw [← Nat.succ_mul]; exact Nat.mul_le_mul_right z hi
                                               omega
            simp only [putAt_out (cs := cs) (vs := V) (p := n * z) (i := i * z + j) (by omega) (.inl hlt)]
            exact ⟨(g4 i hi j hj).1, Rd.mono (fun _ h => h) hcell _ (fun _ _ h => h) _ (g4 i hi j hj).2⟩) (fun i hi j hj => by
            have hlt : i * z + j < m * z := by have : i * z + z ≤ m * z := by rw [← Nat.succ_mul]; exact Nat.mul_le_mul_right z hi
                                               omega
            have e3 : (n + i) * z + j = n * z + (i * z + j) := by rw [Nat.add_mul, Nat.add_assoc]
            simp only [e3, putAt_in (cs := cs) (vs := V) (p := n * z) (i := n * z + (i * z + j)) (by omega) (by omega) (by omega), show n * z + (i * z + j) - n * z = i * z + j from by omega, hVg _ hlt]
            exact ⟨hf2 _ hlt, Rd.mono (fun _ h => h) hcell _ (fun _ _ h => h) _ (hf3 i hi j hj)⟩), fun o ho => ⟨(g5 o ho).1, by have := (g5 o ho).2; rw [Nat.add_mul]; omega⟩⟩)
      exact goes_value hd (hexec _ _ hr) hX ⟨_, _, _, upd_own _ _ _, rfl⟩
  · -- there is none
    have hG := nextcap_le (show c < n + m by omega)
    obtain ⟨olds, ho1, ho2, ho3⟩ : ∃ olds : List Value, (Builtin.firstCells inf.size n (.slice base n c)).run P w.drew = .ok olds.toArray w.drew ∧ olds.length = n * z ∧ ∀ i, i < n → ∀ j, j < z → (olds.getD (i * z + j) undef).oneCell' = true ∧ Rd S (fun _ => none) w (g i j) (olds.getD (i * z + j) undef) := by
      rcases hown with ⟨rfl, rfl, rfl⟩ | ⟨b, cs, el', hks, rfl, g1, g2, g3, g4, g5, g6⟩
      · exact ⟨[], run_firstCells_none w.drew inf.size 0 0 0, by simp, fun i hi => absurd hi (Nat.not_lt_zero _)⟩
      · have hcz : n * z ≤ cs.size := by rw [g3]; exact Nat.mul_le_mul_right z hnc
        refine ⟨cs.toList.take (n * z), run_firstCells_some w.drew inf.size n _ n c _ (by simp [hsz]; omega) (fun j u hj => ?_), by simp; omega, fun i hi j hj => ?_⟩
        · rw [Addr.add_lit, Nat.zero_add]
          have hd2 : w.drew.heap[b]? = some (.cells cs el' (0, 0)) := g2
          rw [cell_row hd2]
          simp [List.getElem?_take] at hj
          exact hj.2
        · have hlt : i * z + j < n * z := by have : i * z + z ≤ n * z := by rw [← Nat.succ_mul]; exact Nat.mul_le_mul_right z hi
                                             omega
          have := g4 i hi j hj
          simpa [List.getD_eq_getElem?_getD, Array.getD_eq_getD_getElem?, List.getElem?_take, hlt] using this
    have hr := run_append_grow_src (P := P) w t tx o.type el inf zv ht hinf hzv base n c olds ho1 (a.eval y) m _ hsrcP (by omega) (by omega) (by
      exact Nat.le_trans (Nat.mul_le_mul (Nat.le_trans hG (show 4 * (n + m) + 4096 ≤ 4000004096 by omega)) hbytes) (Nat.le_of_ble_eq_true rfl))
    have hge := grown_ge w (n + m) c el
    generalize grownCap w (n + m) c el = nc at hr hge
    generalize hV : (olds ++ (List.range (m * z)).map f).toArray ++ Builtin.zeroCells zv.cells (nc - (n + m)) = V at hr
    have hVs : V.size = nc * z := by
      rw [← hV, Array.size_append, zeroCells_size, hzs]
      simp [ho2]
      rw [← Nat.add_mul, ← Nat.add_mul]
      congr 1
      omega
    have hVg : ∀ i, i < n * z + m * z → V.getD i undef = (olds ++ (List.range (m * z)).map f).getD i undef := fun i hi => by
      rw [← hV]
      simp [Array.getD_eq_getD_getElem?, List.getD_eq_getElem?_getD, Array.getElem?_append, List.getElem?_append, ho2]
      by_cases q : i < n * z
      · have : i < n * z + m * z := by omega
        simp [q, this]
      · have : i < n * z + m * z := by omega
        simp [q, this]
    have hkeep : ∀ i, i < w.heap.size → (w.drew.alloc (.cells V el)).heap[i]? = w.heap[i]? := fun i hi => Below.heap_alloc w.drew _ i hi
    have hcell : ∀ x, S x → (w.drew.alloc (.cells V el)).cell? x = w.cell? x := fun x hx => World.cell?_of_block (w := w) (a := x) (hkeep _ (h.dfn x hx))
    have hX := h.app hk k hkill (w' := w.drew.alloc (.cells V el)) (z := z) (n := n + m) (c := nc) (G := appG n m g gs) (sd := sd) (ad := some ⟨w.heap.size, 0, none⟩)
      (.of ((Below.refl _ w).drew.alloc h.below.size _)) (fun D ds hD => (Below.heap_alloc w.drew _ D (show D < w.drew.heap.size from (Array.getElem?_eq_some_iff.1 hD).1)).trans hD) hcell hge
      (fun k' b' l1 l2 l3 => by
        have := (RdB.lt (h.names k') l1 l3).1
        exact ⟨hkeep b' this, fun p hp => by cases hp; omega⟩)
      (.inr ⟨w.heap.size, V, el, rfl, .inl h.below.size, by show (w.heap.push _)[w.heap.size]? = _; simp, hVs,
        appG_rd (F := fun i => V.getD i undef) (fun i hi j hj => by
          have hlt : i * z + j < n * z := by have : i * z + z ≤ n * z := by rw [← Nat.succ_mul]; exact Nat.mul_le_mul_right z hi
                                             omega
          have := ho3 i hi j hj
          simp only [hVg (i * z + j) (by omega)]
          rw [getD_app_l (by omega)]
          exact ⟨this.1, Rd.mono (fun _ h => h) hcell _ (fun _ _ h => h) _ this.2⟩) (fun i hi j hj => by
          have hlt : i * z + j < m * z := by have : i * z + z ≤ m * z := by rw [← Nat.succ_mul]; exact Nat.mul_le_mul_right z hi
                                             omega
          have e3 : (n + i) * z + j = n * z + (i * z + j) := by rw [Nat.add_mul, Nat.add_assoc]
          have e4 : (olds ++ (List.range (m * z)).map f).getD (n * z + (i * z + j)) undef = f (i * z + j) := by
            rw [getD_app_r (by omega), ho2, show n * z + (i * z + j) - n * z = i * z + j from by omega]
            simp [List.getD_eq_getElem?_getD, hlt]
          simp only [e3, hVg (n * z + (i * z + j)) (by omega), e4]
          exact ⟨hf2 _ hlt, Rd.mono (fun _ h => h) hcell _ (fun _ _ h => h) _ (hf3 i hi j hj)⟩), fun o ho => absurd (h.dfn _ ho) (Nat.lt_irrefl _)⟩)
    exact goes_value hd (hexec _ _ hr) hX ⟨_, _, _, upd_own _ _ _, rfl⟩
end
end Go.Proofs.Ytaemlmpcclfmdaa
namespace Go.Proofs.Ytaemlmpcclfmdaa
open Go.RowKit
abbrev SeeR := Option (AV × List Nat × List (Nat × AB))
/-- a value as others see it: what it names never changes any more -/
def seeV0 (ν : Nat → AB) : AV → SeeR
  | .own k => match ν k with
    | .own z n g sd => some (.sl z n g, [k], bif sd then [] else [(k, .own z n g true)])
    | _ => none
  | .pB k o => match ν k with
    | .box n h sd => bif Nat.ble o n && allN n (fun i => noref (h i)) then some (.elp (n - o) (vec (lst (n - o) (fun j => h (o + j)))), [k], bif sd then [] else [(k, .box n h true)]) else none
    | _ => none
  | x => bif noref x then some (x, [], []) else none
def seeLg (f : (Nat → AB) → AV → SeeR) : (Nat → AB) → List AV → Option (List AV × List Nat × List (Nat × AB))
  | _, [] => some ([], [], [])
  | ν, x :: l => match f ν x with
    | some (y, rd, wr) => match seeLg f (nmw ν wr) l with
      | some (ys, rd', wr') => some (y :: ys, rd ++ rd', wr ++ wr')
      | none => none
    | none => none
def seeF : Nat → (Nat → AB) → AV → SeeR
  | 0, ν, x => seeV0 ν x
  | f + 1, ν, x => match x with
    | .agg n h => bif allN n (fun i => noref (h i)) then some (.agg n h, [], []) else match seeLg (seeF f) ν ((List.range n).map h) with
      | some (ys, rd, wr) => some (.agg n (vec ys), rd, wr)
      | none => none
    | .cloM g n1 h1 n2 h2 => match seeLg (seeF f) ν (lst n1 h1 ++ lst n2 h2) with
      | some (ys, rd, wr) => some (.clo g n1 (vec (ys.take n1)) n2 (vec (ys.drop n1)), rd, wr)
      | none => none
    | .pB k o => match ν k with
      | .box m h _ => bif allN m (fun i => noref (h i)) then seeV0 ν (.pB k o) else match seeLg (seeF f) ν (lst m h) with
        | some (ys, rd, wr) => match nmw ν wr k with
          | .box m' _ false => bif Nat.beq m m' && Nat.ble o m then some (.elp (m - o) (vec (lst (m - o) (fun j => vec ys (o + j)))), k :: rd, wr ++ [(k, .box m (vec ys) true)]) else none
          | _ => none
        | none => none
      | _ => none
    | x => seeV0 ν x
def seeV := seeF 6
def seeL := seeLg seeV
theorem nmw_app (ν : Nat → AB) : ∀ (l m : List (Nat × AB)), nmw ν (l ++ m) = nmw (nmw ν l) m
  | [], _ => rfl
  | (k, b) :: l, m => nmw_app (upd ν k b) l m
theorem nmw_in (ν ν' : Nat → AB) : ∀ (wr : List (Nat × AB)) (k : Nat), (ν k = ν' k ∨ k ∈ wr.map (·.1)) → nmw ν wr k = nmw ν' wr k
  | [], k, h => h.elim id (fun q => by cases q)
  | (j, b) :: l, k, h => by
    refine nmw_in (upd ν j b) (upd ν' j b) l k ?_
    by_cases e : k = j
    · subst e; left; rw [upd_own, upd_own]
    · rw [upd_ne _ _ e, upd_ne _ _ e]
      rcases h with q | q
      · exact .inl q
      · right
        rcases List.mem_cons.1 q with q | q
        · exact absurd q e
        · exact q
theorem nmw_out (ν : Nat → AB) : ∀ (wr : List (Nat × AB)) (k : Nat), k ∉ wr.map (·.1) → nmw ν wr k = ν k
  | [], _, _ => rfl
  | (j, b) :: l, k, h => by
    rw [show nmw ν ((j, b) :: l) k = nmw (upd ν j b) l k from rfl, nmw_out _ l k (fun q => h (by simp [q])), upd_ne _ _ (fun e => h (by simp [e]))]
/-- a function f calls so, whatever the memory -/
def PC (P : Program) (f : FuncId) (ds : List AV) (r : AV) : Prop :=
  (∀ args w, (callFunc f args).run P w = .ok (.enter f args) w) ∧
  ∀ (w : World) (S : Addr → Prop) (args : Array Value), (∀ x, S x → x.block < w.heap.size) → args.size = ds.length → (∀ i, i < ds.length → Rd S (fun _ => none) w (ds.getD i .dead) (args.getD i undef)) →
    Calls P f args w fun e w' => ∃ v S', e = .returned v ∧ Below w.heap.size w w' ∧ (∀ x, S x → S' x) ∧ (∀ x, S' x → S x ∨ w.heap.size ≤ x.block) ∧ (∀ x, S' x → x.block < w'.heap.size) ∧ Rd S' (fun _ => none) w' r v
/-- blocks that are lent -/
def lentB (ν : Nat → AB) (κ : Nat → Option Hdr) (b : Nat) : Prop := ∃ k, ν k ≠ .none ∧ hblk (κ k) = some b
def injB (ν : Nat → AB) (κ : Nat → Option Hdr) : Prop := ∀ k k' b, ν k ≠ .none → ν k' ≠ .none → hblk (κ k) = some b → hblk (κ k') = some b → k = k'
/-- what is so behind a call to which names were lent -/
abbrev PostM (w : World) (S : Addr → Prop) (κ : Nat → Option Hdr) (ν : Nat → AB) (nm : Nat) (r : AV) (wr : List (Nat × AB)) (e : Ending) (w' : World) : Prop :=
  ∃ v S' κ', e = .returned v ∧ BelX (lentB ν κ) w.heap.size w w' ∧ (∀ x, S x → S' x) ∧ (∀ x, S' x → S x ∨ w.heap.size ≤ x.block ∨ lentB ν κ x.block) ∧ (∀ x, S' x → x.block < w'.heap.size) ∧ (∀ x, S x → w'.cell? x = w.cell? x) ∧
      (∀ k, κ' k = κ k ∨ nmR nm k) ∧ injB (nmw ν wr) κ' ∧ (∀ k, RdB S' κ' w' (fun b => w.heap.size ≤ b ∨ lentB ν κ b) (nmw ν wr k) (κ' k)) ∧ Rd S' κ' w' r v
/-- what is so ahead of it -/
structure PreM (w : World) (S : Addr → Prop) (κ : Nat → Option Hdr) (ν : Nat → AB) (nm : Nat) (fp : List Nat) : Prop where
  dfn : ∀ x, S x → x.block < w.heap.size
  fp : ∀ k, κ k ≠ none → k ∈ fp
  inj : injB ν κ
  names : ∀ k, RdB S κ w (fun _ => True) (ν k) (κ k)
  new : ∀ k, nmR nm k → κ k = none
/-- a function f calls so, whatever the memory: what its arguments name is lent to it; the names of what it makes begin at nm -/
def PCM (P : Program) (f : FuncId) (ds : List AV) (nm : Nat) (ν : Nat → AB) (fp : List Nat) (r : AV) (wr : List (Nat × AB)) : Prop :=
  (∀ args w, (callFunc f args).run P w = .ok (.enter f args) w) ∧
  ∀ (w : World) (S : Addr → Prop) (κ : Nat → Option Hdr) (args : Array Value), PreM w S κ ν nm fp →
    args.size = ds.length → (∀ i, i < ds.length → Rd S κ w (ds.getD i .dead) (args.getD i undef)) →
    Calls P f args w (PostM w S κ ν nm r wr)
/-- a round of the loop whose record has the name k, what is handed to it reads xs -/
def PCY (P : Program) (k : Nat) (xs : List AV) (nm : Nat) (ν : Nat → AB) (fp : List Nat) (r : AV) (wr : List (Nat × AB)) : Prop :=
  ∀ (w : World) (S : Addr → Prop) (κ : Nat → Option Hdr) (args : Array Value), PreM w S κ ν nm fp →
    args.size = xs.length → (∀ i, i < xs.length → Rd S κ w (xs.getD i .dead) (args.getD i undef)) →
    ∃ l rec, κ k = some (.bx l) ∧ w.heap[l]? = some (.loop rec) ∧ rec.params.size = xs.length ∧
      RoundIn Fence.wide 0 P l rec.fn ((rec.params.zip args).foldl (fun t (p, v) => t.setIfInBounds p v) rec.tmps) rec.assign rec.body w (PostM w S κ ν nm r wr)
/-- the names of a list, the others unknown -/
def restr (fp : List Nat) (ν : Nat → AB) : Nat → AB := fun k => bif has fp k then ν k else .none
def kres (fp : List Nat) (κ : Nat → Option Hdr) : Nat → Option Hdr := fun k => bif has fp k then κ k else none
theorem restr_in {fp : List Nat} {ν : Nat → AB} {k : Nat} (h : k ∈ fp) : restr fp ν k = ν k := by unfold restr; rw [has_iff.2 h]; rfl
theorem has_f {fp : List Nat} {k : Nat} (h : k ∉ fp) : has fp k = false := by
  cases hb : has fp k with
  | false => rfl
  | true => exact absurd (has_iff.1 hb) h
theorem restr_out {fp : List Nat} {ν : Nat → AB} {k : Nat} (h : k ∉ fp) : restr fp ν k = .none := by unfold restr; rw [has_f h]; rfl
theorem kres_in {fp : List Nat} {κ : Nat → Option Hdr} {k : Nat} (h : k ∈ fp) : kres fp κ k = κ k := by unfold kres; rw [has_iff.2 h]; rfl
theorem kres_out {fp : List Nat} {κ : Nat → Option Hdr} {k : Nat} (h : k ∉ fp) : kres fp κ k = none := by unfold kres; rw [has_f h]; rfl
def nmRb (nm k : Nat) : Bool := Nat.ble nm k && Nat.blt k (nm + 16)
theorem nmRb_iff {nm k : Nat} : nmRb nm k = true ↔ nmR nm k := by
  unfold nmRb nmR
  rw [Bool.and_eq_true]
  exact ⟨fun h => ⟨ble_iff h.1, blt_iff h.2⟩, fun h => ⟨ble_t h.1, blt_t h.2⟩⟩
theorem nmRb_f {nm k : Nat} (h : ¬ nmR nm k) : nmRb nm k = false := by
  cases hb : nmRb nm k with
  | false => rfl
  | true => exact absurd (nmRb_iff.1 hb) h
theorem getD_arr {α : Type} {l : List α} {i : Nat} {d : α} : l.toArray.getD i d = l.getD i d := by simp [Array.getD_eq_getD_getElem?, List.getD_eq_getElem?_getD]
/-- the arguments' readings may say more than is asked -/
theorem PC.weak {P : Program} {f : FuncId} {ds ds' : List AV} {r r' : AV} (h : PC P f ds' r) (hl : ds'.length = ds.length) (hd : ∀ i, i < ds.length → AV.le (ds.getD i .dead) (ds'.getD i .dead)) (hr : AV.le r r') : PC P f ds r' :=
  ⟨h.1, fun w S args h1 h2 h3 => (h.2 w S args h1 (h2.trans hl.symm) (fun i hi => hd i (by omega) _ _ _ _ (h3 i (by omega)))).mono fun _ _ ⟨v, S', g1, g2, g3, g4, g5, g6⟩ => ⟨v, S', g1, g2, g3, g4, g5, hr _ _ _ _ g6⟩⟩
section
variable {P : Program} {S0 : Addr → Prop} {mm : Nat} {w0 : Bs mm} {N : Nat} {U U' : Nat → Prop} {σ : ASt} {a : Act} {w w' : World} {S S' : Addr → Prop} {κ κ' : Nat → Option Hdr} {o : Oper} {Q : Exit → Act → World → Prop} {nm : Nat}
/-- cells of one's own that never change any more -/
theorem RelX.settle (h : RelX S0 w0 N U σ a w S κ) {k : Nat} (hl : σ.name k ≠ .none) {B : AB} (S' : Addr → Prop) (hS : ∀ x, S x → S' x) (hn : ∀ x, S' x → S x ∨ (∃ b, hblk (κ k) = some b ∧ x.block = b)) (hB : RdB S' κ w w0.O B (κ k)) : RelX S0 w0 N U ⟨σ.slot, upd σ.name k B⟩ a w S' κ := by
  refine h.step (BelX.refl _ _ _) hS ?_ ?_ (fun _ _ h => h) h.used (fun _ _ => rfl) ?_ ?_ (DefK.refl _)
  · intro x hx
    rcases hn x hx with g | ⟨b, g1, g2⟩
    · exact .inl g
    · exact .inr (by rw [g2]; exact (RdB.lt (h.names k) hl g1).2)
  · intro x hx
    rcases hn x hx with g | ⟨b, g1, g2⟩
    · exact h.dfn x g
    · rw [g2]; exact (RdB.lt (h.names k) hl g1).1
  · intro j j' b' l1 l2 e1 e2
    refine h.inj j j' b' ?_ ?_ e1 e2
    · intro q
      by_cases c : j = k
      · subst c; exact hl q
      · rw [upd_ne _ _ c] at l1; exact l1 q
    · intro q
      by_cases c : j' = k
      · subst c; exact hl q
      · rw [upd_ne _ _ c] at l2; exact l2 q
  · intro j
    by_cases c : j = k
    · subst c; rw [upd_own]; exact hB
    · rw [upd_ne _ _ c]
      by_cases hl' : σ.name j = .none
      · rw [hl']; trivial
      · refine RdB.keep (h.names j) hS (fun _ _ h => h) (fun _ _ => rfl) (fun b' hb' => ⟨rfl, fun o ho => ?_⟩)
        rcases hn _ ho with g | ⟨b, g1, g2⟩
        · exact g
        · exact absurd (h.inj j k b' hl' hl hb' (by rw [g1]; exact congrArg some g2.symm)) c
def SeeOK (f : (Nat → AB) → AV → SeeR) : Prop := ∀ {S0 : Addr → Prop} {mm : Nat} {w0 : Bs mm} {N : Nat} {U : Nat → Prop} {σ : ASt} {a : Act} {w : World} {S : Addr → Prop} {κ : Nat → Option Hdr} {x : AV} {u : Value} {y : AV} {rd : List Nat} {wr : List (Nat × AB)},
  RelX S0 w0 N U σ a w S κ → Rd S κ w x u → f σ.name x = some (y, rd, wr) → ∃ S', RelX S0 w0 N U ⟨σ.slot, nmw σ.name wr⟩ a w S' κ ∧ (∀ x, S x → S' x) ∧ Rd S' (fun _ => none) w y u
theorem see0_ok : SeeOK seeV0 := by
  intro S0 mm w0 N U σ a w S κ x u y rd wr h hx e
  have base : (bif noref x then some (x, ([] : List Nat), ([] : List (Nat × AB))) else none) = some (y, rd, wr) → ∃ S', RelX S0 w0 N U ⟨σ.slot, nmw σ.name wr⟩ a w S' κ ∧ (∀ x, S x → S' x) ∧ Rd S' (fun _ => none) w y u := by
    intro e
    obtain ⟨hb, q⟩ := bif_some e
    cases q
    exact ⟨S, h, fun _ h => h, noref_rd _ hb hx⟩
  unfold seeV0 at e
  split at e
  · rename_i k
    split at e
    case h_2 => cases e
    rename_i z n g sd hk
    cases e
    obtain ⟨ad, n', c', h1, h2⟩ := hx
    have hn := h.names k
    rw [hk] at hn
    obtain ⟨ad', c, h3, h4, h5⟩ := hn
    rw [h1] at h3
    cases h3
    have hlive : σ.name k ≠ .none := by rw [hk]; exact fun q => by cases q
    rcases h5 with ⟨rfl, rfl, rfl⟩ | ⟨b, cs, el, rfl, h6, h7, h8, h9, h10, h11⟩
    · have hsl : Rd S (fun _ => none) w (.sl z 0 g) u := ⟨none, 0, h2, ⟨Nat.le_refl _, fun _ => rfl⟩, fun q => absurd rfl q⟩
      cases sd with
      | true => exact ⟨S, h, fun _ h => h, hsl⟩
      | false => exact ⟨S, h.settle hlive S (fun _ h => h) (fun _ h => .inl h) (by rw [h1]; exact ⟨none, 0, rfl, Nat.le_refl _, .inl ⟨rfl, rfl, rfl⟩⟩), fun _ h => h, hsl⟩
    · have hsl : ∀ S' : Addr → Prop, (∀ x, S x → S' x) → (∀ o, o < n * z → S' ⟨b, o, none⟩) → Rd S' (fun _ => none) w (.sl z n g) u := by
        intro S' hS hc
        refine ⟨_, c', h2, ⟨h4, fun q => (by cases q)⟩, fun _ => ⟨b, 0, rfl, fun i hi j hj => ?_⟩⟩
        have hlt : i * z + j < n * z := by have : i * z + z ≤ n * z := by rw [← Nat.succ_mul]; exact Nat.mul_le_mul_right z hi
                                           omega
        have hcz : n * z ≤ c' * z := Nat.mul_le_mul_right z h4
        rw [Nat.zero_add]
        exact ⟨hc _ hlt, _, by rw [cell_row h7]; exact getD_some (by omega), (h9 i hi j hj).1, Rd.mono hS (fun _ _ => rfl) _ (fun _ _ h => h) _ (h9 i hi j hj).2⟩
      cases sd with
      | true => exact ⟨S, h, fun _ h => h, hsl S (fun _ h => h) (h11 rfl)⟩
      | false =>
        have hS : ∀ x, S x → setS S true (some ⟨b, 0, none⟩) (n * z) x := fun _ h => .inl h
        refine ⟨setS S true (some ⟨b, 0, none⟩) (n * z), h.settle hlive _ hS ?_ ?_, hS, hsl _ hS (fun o ho => .inr ⟨rfl, ho, b, rfl, rfl⟩)⟩
        · rintro x (hx | ⟨_, _, b', hb', e⟩)
          · exact .inl hx
          · cases hb'
            exact .inr ⟨b, by rw [h1]; rfl, by rw [e]⟩
        · rw [h1]
          refine ⟨_, c', rfl, h4, .inr ⟨b, cs, el, rfl, h6, h7, h8, fun i hi j hj => ⟨(h9 i hi j hj).1, Rd.mono hS (fun _ _ => rfl) _ (fun _ _ h => h) _ (h9 i hi j hj).2⟩, ?_, fun _ o ho => .inr ⟨rfl, ho, b, rfl, rfl⟩⟩⟩
          rintro o (ho | ⟨_, ho, _⟩)
          · exact absurd (h10 o ho).1 (by simp)
          · exact ⟨rfl, ho⟩
  · rename_i k p
    split at e
    case h_2 => cases e
    rename_i n hh sd hk
    obtain ⟨hb, q⟩ := bif_some e
    cases q
    simp only [Bool.and_eq_true] at hb
    have hpn := ble_iff hb.1
    have hnr := allN_iff hb.2
    obtain ⟨b, h1, h2⟩ := hx
    have hn := h.names k
    rw [hk] at hn
    obtain ⟨b', cs, el, h3, h4, h5, h6, h7, h8, h9⟩ := hn
    rw [h1] at h3
    cases h3
    have hlive : σ.name k ≠ .none := by rw [hk]; exact fun q => by cases q
    have hsl : ∀ S' : Addr → Prop, (∀ x, S x → S' x) → (∀ o, o < n → S' ⟨b, o, none⟩) → Rd S' (fun _ => none) w (.elp (n - p) (vec (lst (n - p) (fun j => hh (p + j))))) u := by
      intro S' hS hc
      exact ⟨b, p, h2, fun j hj => ⟨hc _ (by omega), _, by rw [cell_row h5]; exact getD_some (by omega), (h7 _ (by omega)).1, by rw [vec_lst hj]; exact Rd.mono hS (fun _ _ => rfl) _ (fun _ _ h => h) _ (noref_rd _ (hnr _ (by omega)) (h7 _ (by omega)).2)⟩⟩
    cases sd with
    | true => exact ⟨S, h, fun _ h => h, hsl S (fun _ h => h) (h8 rfl)⟩
    | false =>
      have hS : ∀ x, S x → setS S true (some ⟨b, 0, none⟩) n x := fun _ h => .inl h
      refine ⟨setS S true (some ⟨b, 0, none⟩) n, h.settle hlive _ hS ?_ ?_, hS, hsl _ hS (fun o ho => .inr ⟨rfl, ho, b, rfl, rfl⟩)⟩
      · rintro x (hx | ⟨_, _, b', hb', e⟩)
        · exact .inl hx
        · cases hb'
          exact .inr ⟨b, by rw [h1]; rfl, by rw [e]⟩
      · rw [h1]
        exact ⟨b, cs, el, rfl, h4, h5, h6, fun i hi => ⟨(h7 i hi).1, Rd.mono hS (fun _ _ => rfl) _ (fun _ _ h => h) _ (h7 i hi).2⟩, fun _ i hi => .inr ⟨rfl, hi, b, rfl, rfl⟩, fun q => (by cases q)⟩
  · exact base e
theorem seeL_ok {f : (Nat → AB) → AV → SeeR} (hf : SeeOK f) {S0 : Addr → Prop} {mm : Nat} {w0 : Bs mm} {N : Nat} {U : Nat → Prop} {a : Act} {w : World} {κ : Nat → Option Hdr} (s : Nat → AV) : ∀ (l : List AV) (vs : List Value) (ν : Nat → AB) (S : Addr → Prop) (ys : List AV) (rd : List Nat) (wr : List (Nat × AB)),
    RelX S0 w0 N U ⟨s, ν⟩ a w S κ → vs.length = l.length → (∀ i, i < l.length → Rd S κ w (l.getD i .dead) (vs.getD i undef)) → seeLg f ν l = some (ys, rd, wr) → ∃ S', RelX S0 w0 N U ⟨s, nmw ν wr⟩ a w S' κ ∧ (∀ x, S x → S' x) ∧ ys.length = l.length ∧ ∀ i, i < l.length → Rd S' (fun _ => none) w (ys.getD i .dead) (vs.getD i undef)
  | [], vs, ν, S, ys, rd, wr, h, hl, hr, e => by
    cases e
    exact ⟨S, h, fun _ h => h, rfl, fun i hi => absurd hi (Nat.not_lt_zero _)⟩
  | x :: l, vs, ν, S, ys, rd, wr, h, hl, hr, e => by
    unfold seeLg at e
    split at e
    case h_2 => cases e
    rename_i y rd1 wr1 h1
    split at e
    case h_2 => cases e
    rename_i ys2 rd2 wr2 h2
    cases e
    cases vs with
    | nil => cases hl
    | cons v vs =>
    have hx := hr 0 (Nat.zero_lt_succ _)
    obtain ⟨S1, g1, g2, g3⟩ := hf h hx h1
    obtain ⟨S2, k1, k2, k3, k4⟩ := seeL_ok hf s l vs _ S1 ys2 rd2 wr2 g1 (by simpa using hl) (fun i hi => Rd.mono g2 (fun _ _ => rfl) _ (fun _ _ h => h) _ (hr (i + 1) (by simpa using hi))) h2
    refine ⟨S2, by rw [nmw_app]; exact k1, fun x hx => k2 x (g2 x hx), by simp [k3], fun i hi => ?_⟩
    cases i with
    | zero => exact Rd.mono k2 (fun _ _ => rfl) _ (fun _ _ h => h) _ g3
    | succ i => exact k4 i (by simpa using hi)
theorem seeF_ok (f : Nat) : SeeOK (seeF f) := by
  induction f with
  | zero => exact see0_ok
  | succ f ih =>
    intro S0 mm w0 N U σ a w S κ x u y rd wr h hx e
    cases x with
    | agg n hh =>
      unfold seeF at e
      simp only at e
      cases hb : allN n (fun i => noref (hh i)) with
      | true =>
        simp only [hb, cond_true] at e
        cases e
        exact ⟨S, h, fun _ h => h, noref_rd (.agg n hh) hb hx⟩
      | false =>
        simp only [hb, cond_false] at e
        split at e
        case h_2 => cases e
        rename_i ys rd1 wr1 h1
        cases e
        obtain ⟨cs, rfl, h3, h4⟩ := hx
        obtain ⟨S', g1, g2, g3, g4⟩ := seeL_ok ih σ.slot _ cs.toList _ S _ _ _ h (by simp [h3]) (fun i hi => by
          have hi' : i < n := by simpa using hi
          have := h4 i hi'
          simpa [List.getD_eq_getElem?_getD, Array.getD_eq_getD_getElem?, hi'] using this) h1
        exact ⟨S', g1, g2, cs, rfl, h3, fun i hi => by
          have := g4 i (by simpa using hi)
          show Rd S' _ w (ys.getD i .dead) _
          simpa [List.getD_eq_getElem?_getD, Array.getD_eq_getD_getElem?] using this⟩
    | cloM f n1 h1 n2 h2 =>
      unfold seeF at e
      simp only at e
      split at e
      case h_2 => cases e
      rename_i ys rd1 wr1 hs
      cases e
      obtain ⟨fs, cs, rfl, e1, e2, r1, r2⟩ := hx
      obtain ⟨S', g1, g2, g3, g4⟩ := seeL_ok ih σ.slot _ (fs.toList ++ cs.toList) _ S _ _ _ h (by simp [lst_len, e1, e2]) (fun i hi => by
        have hi' : i < n1 + n2 := by simpa [lst_len] using hi
        by_cases c : i < n1
        · have c2 : i < fs.size := by omega
          have := r1 i c
          rw [show (lst n1 h1 ++ lst n2 h2).getD i .dead = h1 i from by
            rw [List.getD_eq_getElem?_getD, List.getElem?_append_left (by rw [lst_len]; exact c), ← List.getD_eq_getElem?_getD, lst_getD c]]
          simpa [List.getD_eq_getElem?_getD, Array.getD_eq_getD_getElem?, List.getElem?_append, c2] using this
        · have c2 : ¬ i < fs.size := by omega
          have := r2 (i - n1) (by omega)
          rw [show (lst n1 h1 ++ lst n2 h2).getD i .dead = h2 (i - n1) from by
            rw [List.getD_eq_getElem?_getD, List.getElem?_append_right (by rw [lst_len]; omega), lst_len, ← List.getD_eq_getElem?_getD, lst_getD (by omega)]]
          simpa [List.getD_eq_getElem?_getD, Array.getD_eq_getD_getElem?, List.getElem?_append, c2, c, e1] using this) hs
      have hyl : ys.length = n1 + n2 := by rw [g3]; simp [lst_len]
      refine ⟨S', g1, g2, fs, cs, rfl, e1, e2, fun i hi => ?_, fun i hi => ?_⟩
      · have := g4 i (by simp [lst_len]; omega)
        have c2 : i < fs.size := by omega
        rw [show vec (ys.take n1) i = ys.getD i .dead from by simp [vec, List.getD_eq_getElem?_getD, hi]]
        simpa [List.getD_eq_getElem?_getD, Array.getD_eq_getD_getElem?, List.getElem?_append, c2] using this
      · have := g4 (n1 + i) (by simp [lst_len]; omega)
        have c2 : ¬ n1 + i < fs.size := by omega
        have c3 : n1 + i - fs.size = i := by omega
        rw [show vec (ys.drop n1) i = ys.getD (n1 + i) .dead from by simp [vec, List.getD_eq_getElem?_getD]]
        simpa [List.getD_eq_getElem?_getD, Array.getD_eq_getD_getElem?, List.getElem?_append, c2, c3] using this
    | pB k o =>
      unfold seeF at e
      simp only at e
      split at e
      case h_2 => cases e
      rename_i m hh sd hk
      cases hb : allN m (fun i => noref (hh i)) with
      | true =>
        rw [hb] at e
        exact see0_ok h hx e
      | false =>
        rw [hb] at e
        simp only [cond_false] at e
        split at e
        case h_2 => cases e
        rename_i ys rd1 wr1 hs
        split at e
        case h_2 => cases e
        rename_i m' h' hk1
        obtain ⟨hb2, q⟩ := bif_some e
        cases q
        simp only [Bool.and_eq_true] at hb2
        obtain rfl := Nat.eq_of_beq_eq_true hb2.1
        have hom := ble_iff hb2.2
        obtain ⟨b, q1, q2⟩ := hx
        have hn := h.names k
        rw [hk] at hn
        obtain ⟨b0, cs, el, h3, h4, h5, h6, h7, _⟩ := hn
        rw [q1] at h3
        cases h3
        obtain ⟨S1, g1, g2, g3, g4⟩ := seeL_ok ih σ.slot (lst m hh) cs.toList _ S _ _ _ h (by simp [lst_len, h6]) (fun i hi => by
          have hi' : i < m := by simpa [lst_len] using hi
          have := (h7 i hi').2
          rw [lst_getD hi']
          simpa [List.getD_eq_getElem?_getD, Array.getD_eq_getD_getElem?] using this) hs
        have hyl : ys.length = m := by rw [g3, lst_len]
        have hy : ∀ i, i < m → Rd S1 (fun _ => none) w (vec ys i) (cs.getD i undef) := fun i hi => by
          have := g4 i (by rw [lst_len]; exact hi)
          show Rd S1 _ w (ys.getD i .dead) _
          simpa [List.getD_eq_getElem?_getD, Array.getD_eq_getD_getElem?] using this
        have hlive : (nmw σ.name wr1) k ≠ .none := by rw [hk1]; exact fun q => by cases q
        have hS : ∀ x, S1 x → setS S1 true (some ⟨b, 0, none⟩) m x := fun _ h => .inl h
        have g5 := RelX.settle (B := .box m (vec ys) true) g1 hlive (setS S1 true (some ⟨b, 0, none⟩) m) hS (by
          rintro x (hx | ⟨_, _, b', hb', e⟩)
          · exact .inl hx
          · cases hb'
            exact .inr ⟨b, by rw [q1]; rfl, by rw [e]⟩) (by
          rw [q1]
          exact ⟨b, cs, el, rfl, h4, h5, h6, fun i hi => ⟨(h7 i hi).1, none_mono (Rd.mono hS (fun _ _ => rfl) _ (fun _ _ h => h) _ (hy i hi))⟩, fun _ i hi => .inr ⟨rfl, hi, b, rfl, rfl⟩, fun q => (by cases q)⟩)
        refine ⟨_, by rw [nmw_app]; exact g5, fun x hx => hS x (g2 x hx), b, o, q2, fun j hj => ⟨.inr ⟨rfl, (show o + j < m by omega), b, rfl, rfl⟩, _, by rw [cell_row h5]; exact getD_some (by omega), (h7 _ (by omega)).1, ?_⟩⟩
        rw [vec_lst hj]
        exact Rd.mono hS (fun _ _ => rfl) _ (fun _ _ h => h) _ (hy (o + j) (by omega))
    | _ => exact see0_ok h hx e
theorem see_ok : SeeOK seeV := seeF_ok 6
end
end Go.Proofs.Ytaemlmpcclfmdaa
