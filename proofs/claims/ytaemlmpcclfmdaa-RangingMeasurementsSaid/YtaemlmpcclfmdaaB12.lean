/- Helpers: a round of a range over a function. No condition but the hypotheses that each theorem names. -/
import Derived.Test.YtaemlmpcclfmdaaB11
import Derived.RangeFuncIn
namespace Go.Proofs.Ytaemlmpcclfmdaa
open Go.RowKit
section scope
variable {P : Program} {F : Fence} {n : Nat} {b : Frame} {a : Act} {k : List Item} {cs : List Frame} {w : World} {Q : Exit → Act → World → Prop}
theorem stepR_scope' {c : Code} : step P (lone (b.atR a (.code (.scope c) :: k)) cs w) = .next (lone (b.atR a (.code c :: .inScope c :: k)) cs w) :=
  step_lone_go (by simp [stepG, stepG.exec, Frame.atR])
theorem stepR_inScope' {c : Code} : step P (lone (b.atR a (.inScope c :: k)) cs w) = .next (lone (b.atR a k) cs w) :=
  step_lone_go (by simp [stepG, stepG.exec, Frame.atR])
/-- a scope through which the run goes without a jump -/
theorem wpIn_scope' {c : Code} (h : c.wpIn F n P (fun e a w => (∀ l, e ≠ .goto l) ∧ Q e a w) a w) : (Code.scope c).wpIn F n P Q a w := by
  intro b k cs hro hb hr
  have h0 : (lone (b.atR a (.code (.scope c) :: k)) cs w).fenced P F := fenced_calm hb hr rfl
  obtain ⟨e, a₁, w₁, ⟨hg, hq⟩, harr⟩ := h b (.inScope c :: k) cs hro hb hr
  cases e with
  | normal => exact ⟨.normal, a₁, w₁, hq, .head h0 stepR_scope' (StepsIn.trans harr (.one (fenced_calm hb hr rfl) stepR_inScope'))⟩
  | exit id =>
    have hx : exitTo id (.inScope c :: k) = exitTo id k := by simp [exitTo]
    exact ⟨.exit id, a₁, w₁, hq, fun k' hk => .head h0 stepR_scope' (harr.1 k' (by rw [hx]; exact hk)),
        fun hr' hk => let ⟨k₁, h1, h2⟩ := harr.2 hr' (by rw [hx]; exact hk); ⟨k₁, h1, .head h0 stepR_scope' h2⟩⟩
  | goto l => exact absurd rfl (hg l)
  | ret => exact ⟨_, a₁, w₁, hq, .of_steps (.one h0 stepR_scope') harr⟩
  | panic ch => exact ⟨_, a₁, w₁, hq, .of_steps (.one h0 stepR_scope') harr⟩
  | outgrown => exact ⟨_, a₁, w₁, hq, .of_steps (.one h0 stepR_scope') harr⟩
end scope
section
variable {P : Program} {S0 : Addr → Prop} {mm : Nat} {w0 : Bs mm} {N : Nat} {nx : Nat} {σ : ASt} {K : AK}
theorem AW.scope {c : Code} (h : AW P S0 w0 N c nx σ (fun e nx σ => (∀ l, e ≠ .goto l) ∧ K e nx σ)) : AW P S0 w0 N (.scope c) nx σ K :=
  ⟨fun ro a w ho hr => wpIn_scope' (wpIn_mono (h.go ro a w ho hr) fun _ _ _ ⟨nx', σ', ⟨h1, h2⟩, h3⟩ => ⟨h1, nx', σ', h2, h3⟩)⟩
theorem AW.label {l : Nat} (h : K .normal nx σ) : AW P S0 w0 N (.label l) nx σ K := ⟨fun _ _ _ _ hr => wpIn_label ⟨nx, σ, h, hr⟩⟩
end
def isGo : Exit → Bool
  | .goto _ => true
  | _ => false
def atKM (e : Exit) (nx : Nat) (σ : ASt) : AK := fun e' nx' σ' => e' = e ∧ nx' = nx ∧ σ' = σ
theorem putObj_sz {w : World} {l : Nat} {o : Obj} : (w.putObj l o).heap.size = w.heap.size := by simp
/-- the loop's variables take what is handed to them -/
def parL (l : List (Tmp × AV)) (s : Nat → AV) : Nat → AV := l.foldl (fun s p => upd s p.1 p.2) s
def jumpOf : Exit → Option Code
  | .ret => some .ret
  | .exit id => some (.exit id)
  | _ => none
def isNm : Exit → Bool
  | .normal => true
  | _ => false
def okEx : Exit → Bool
  | .normal => true
  | .ret => true
  | .exit _ => true
  | _ => false
theorem parL_ok {S : Addr → Prop} {κ : Nat → Option Hdr} {w : World} {N : Nat} : ∀ (ps : List Tmp) (xs : List AV) (vs : List Value) (s : Nat → AV) (t : Array Value), xs.length = ps.length → vs.length = ps.length → (∀ p, p ∈ ps → p < N) → t.size = N → (∀ i, i < N → Rd S κ w (s i) (t.getD i undef)) → (∀ i, i < xs.length → Rd S κ w (xs.getD i .dead) (vs.getD i undef)) →
    ((ps.zip vs).foldl (fun t (p : Tmp × Value) => t.setIfInBounds p.1 p.2) t).size = N ∧ ∀ i, i < N → Rd S κ w (parL (ps.zip xs) s i) (((ps.zip vs).foldl (fun t (p : Tmp × Value) => t.setIfInBounds p.1 p.2) t).getD i undef)
  | [], xs, vs, s, t, _, _, _, hN, h, _ => ⟨hN, h⟩
  | p :: ps, xs, vs, s, t, h1, h2, h3, hN, h, hx => by
    cases xs with
    | nil => cases h1
    | cons x xs =>
    cases vs with
    | nil => cases h2
    | cons v vs =>
    refine parL_ok ps xs vs (upd s p x) (t.setIfInBounds p v) (by simpa using h1) (by simpa using h2) (fun q hq => h3 q (by simp [hq])) (by simpa using hN) (fun i hi => ?_) (fun i hi => hx (i + 1) (by simpa using hi))
    by_cases c : i = p
    · subst c
      rw [upd_own]
      have h0 := hx 0 (by simp)
      simp only [List.getD_cons_zero] at h0
      simpa [Array.getD_eq_getD_getElem?, hN, hi] using h0
    · rw [upd_ne _ _ c]
      have := h i hi
      simpa [Array.getD_eq_getD_getElem?, Array.getElem?_setIfInBounds, Ne.symm c] using this
theorem PCY.intro {P : Program} {k nm nx nx1 nx2 N : Nat} {s : Nat → AV} {ps : Array Tmp} {asg bd : Code} {xs : List AV} {ν : Nat → AB} {fp ρ : List Nat} {wr : List (Nat × AB)} {σa σb : ASt} {e : Exit}
    (hk : ν k = .lp N s ps asg bd true none) (hkf : k ∈ fp) (hxl : xs.length = ps.size) (hps : ps.toList.all (fun p => Nat.blt p N) = true) (hfp : ∀ j, j ∈ fp → ν j ≠ .none) (hlow : ∀ j, j ∈ fp → j < nx * 16) (h16 : ρ.length ≤ 16) (he : okEx e = true)
    (h1 : ∀ S0 (w0 : Bs (nx * 16)), AW P S0 w0 N asg nx ⟨parL (ps.toList.zip xs) (fun t => bif Nat.blt t N then s t else .v undef), upd ν k .none⟩ (atKM .normal nx1 σa))
    (h2 : ∀ S0 (w0 : Bs (nx1 * 16)), AW P S0 w0 N bd nx1 σa (atKM e nx2 σb))
    (hR : RetN (upd σb.name k (.lp N s ps asg bd (isNm e) (jumpOf e))) (nx * 16) nm ν fp ρ (.v (.bool (isNm e))) wr) : PCY P k xs nm ν fp (.v (.bool (isNm e))) wr := by
  intro w S κ args hP hal har
  have hnk := hP.names k
  rw [hk] at hnk
  obtain ⟨l, rec, g1, _, g3, g4, g5, g6, g7, g8, g9, g10⟩ := hnk
  have hlive : ν k ≠ .none := by rw [hk]; exact fun q => by cases q
  have hlsz : l < w.heap.size := (Array.getElem?_eq_some_iff.1 g3).1
  refine ⟨l, rec, g1, g3, by rw [g6, hxl], ?_⟩
  have hlk : ∀ j, nx * 16 ≤ j → κ j = none := by
    intro j hj
    cases hq : κ j with
    | none => rfl
    | some q => exact absurd (hlow j (hP.fp j (by rw [hq]; exact fun q => by cases q))) (Nat.not_lt.2 hj)
  have hl1 : ∀ b, lentB (upd ν k .none) κ b → lentB ν κ b ∧ b ≠ l := by
    rintro b ⟨j, q1, q2⟩
    by_cases c : j = k
    · subst c; exact absurd (upd_own _ _ _) q1
    · rw [upd_ne _ _ c] at q1
      exact ⟨⟨j, q1, q2⟩, fun q => c (hP.inj j k l q1 hlive (by rw [← q]; exact q2) (by rw [g1]; rfl))⟩
  have hll : lentB ν κ l := ⟨k, hlive, by rw [g1]; rfl⟩
  -- the first base
  have hpar := parL_ok (S := S) (κ := κ) (w := w) (N := N) ps.toList xs args.toList (fun t => bif Nat.blt t N then s t else .v undef) rec.tmps (by simpa using hxl) (by simp [hal, hxl]) (fun p hp => blt_iff (List.all_eq_true.1 hps p hp)) g9 (fun t ht => by simp only [blt_t ht, cond_true]; exact g10 t ht) (fun i hi => by
    have := har i hi
    simpa [List.getD_eq_getElem?_getD, Array.getD_eq_getD_getElem?] using this)
  have hfold : (rec.params.zip args).foldl (fun t (p : Tmp × Value) => t.setIfInBounds p.1 p.2) rec.tmps = (ps.toList.zip args.toList).foldl (fun t (p : Tmp × Value) => t.setIfInBounds p.1 p.2) rec.tmps := by
    rw [g6, ← Array.foldl_toList, Array.toList_zip]
  have hout : ∀ (l' : List (Tmp × AV)) (s' : Nat → AV) (t : Nat), (∀ p, p ∈ l' → p.1 < N) → ¬ t < N → parL l' s' t = s' t := by
    intro l'
    induction l' with
    | nil => intro s' t _ _; rfl
    | cons p l' ih =>
      intro s' t h ht
      rw [show parL (p :: l') s' t = parL l' (upd s' p.1 p.2) t from rfl, ih _ _ (fun q hq => h q (by simp [hq])) ht, upd_ne _ _ (fun q => ht (by rw [q]; exact h p (by simp)))]
  have hst : ∀ t, Rd S κ w (parL (ps.toList.zip xs) (fun t => bif Nat.blt t N then s t else .v undef) t) (((rec.params.zip args).foldl (fun t (p : Tmp × Value) => t.setIfInBounds p.1 p.2) rec.tmps).getD t undef) := by
    intro t
    rw [hfold]
    by_cases ht : t < N
    · exact hpar.2 t ht
    · rw [hout _ _ _ (fun p hp => blt_iff (List.all_eq_true.1 hps p.1 (List.of_mem_zip (a := p.1) (b := p.2) hp).1)) ht]
      simp only [blt_f (Nat.le_of_not_lt ht), cond_false]
      show _ = undef
      have : ¬ t < ((ps.toList.zip args.toList).foldl (fun t (p : Tmp × Value) => t.setIfInBounds p.1 p.2) rec.tmps).size := by rw [hpar.1]; exact ht
      simp [Array.getD_eq_getD_getElem?, this]
  refine roundIn_of_wpIn trivial ?_
  rw [g7, g8]
  let B1 : Bs (nx * 16) := ⟨w, lentB (upd ν k .none) κ, κ, hlk⟩
  have hBl : ¬ B1.O l := fun q => q.elim (fun q => by have : w.heap.size ≤ l := q; omega) (fun q => (hl1 l q).2 rfl)
  have hO1 : ∀ b, B1.O b → w.heap.size ≤ b ∨ lentB ν κ b := fun b q => q.imp id fun q => (hl1 b q).1
  refine wpIn_mono ((h1 S B1).go (some l) _ w ⟨hlsz, fun q => (hl1 l q).2 rfl, rec, g3⟩ ⟨S, κ, BelX.refl _ _ _, fun _ h => h, fun _ h => .inl h, fun _ _ => rfl, fun _ _ h => h, hP.dfn, fun j hj => ?_, fun j j' b l1 l2 => ?_, hst, fun j => ?_, ⟨[], rfl, List.nodup_nil, fun D hD => by cases hD⟩, by rw [hfold]; exact hpar.1⟩) ?_
  · rcases Nat.lt_or_ge j (nx * 16) with q | q
    · exact q
    · exact absurd (hlk j q) hj
  · refine hP.inj j j' b ?_ ?_
    · intro q
      refine l1 ?_
      by_cases c : j = k
      · subst c; exact upd_own _ _ _
      · exact (upd_ne _ _ c).trans q
    · intro q
      refine l2 ?_
      by_cases c : j' = k
      · subst c; exact upd_own _ _ _
      · exact (upd_ne _ _ c).trans q
  · by_cases c : j = k
    · subst c
      rw [show (⟨parL (ps.toList.zip xs) (fun t => bif Nat.blt t N then s t else .v undef), upd ν j .none⟩ : ASt).name j = .none from upd_own _ _ _]
      trivial
    · have hu : upd ν k .none j = ν j := upd_ne _ _ c
      rw [show (⟨parL (ps.toList.zip xs) (fun t => bif Nat.blt t N then s t else .v undef), upd ν k .none⟩ : ASt).name j = ν j from hu]
      exact RdB.reO (hP.names j) (fun b hl hb _ => .inr ⟨j, by rw [hu]; exact hl, hb⟩)
  rintro e1 a1 w1 ⟨nx', σ', ⟨rfl, hx1, hx2⟩, S1, κ1, hr1⟩
  rw [hx1, hx2] at hr1
  have hb1 : w1.heap[l]? = some (.loop rec) := (hr1.below.block l hlsz (fun q => (hl1 l q).2 rfl)).trans g3
  refine ⟨_, run_beginRound hb1 (by rw [g4]; rfl), ?_⟩
  have hl1sz : l < w1.heap.size := (Array.getElem?_eq_some_iff.1 hb1).1
  obtain ⟨Ds, d1, d2, d3⟩ := hr1.dfs
  have hκ1 : κ1 k = some (.bx l) := hr1.kap _ _ g1
  -- the second base
  have hlow2 : ∀ j, nx1 * 16 ≤ j → κ1 j = none := by
    intro j hj
    cases hq : κ1 j with
    | none => rfl
    | some q => exact absurd (hr1.used j (by rw [hq]; exact fun q => by cases q)) (Nat.not_lt.2 hj)
  let B2 : Bs (nx1 * 16) := ⟨w1.putObj l (.loop { rec with state := .busy }), fun b => lentB σa.name κ1 b ∨ b ∈ Ds, κ1, hlow2⟩
  have hX2 : ∀ b, B2.X b → B1.O b := by
    rintro b (⟨j, q1, q2⟩ | q)
    · exact (RdB.lt (hr1.names j) q1 q2).2
    · exact (d3 b q).1
  have hXl : ¬ B2.X l := fun q => hBl (hX2 l q)
  have hO2 : ∀ b, B2.O b → w.heap.size ≤ b ∨ lentB ν κ b := by
    rintro b (q | q)
    · refine .inl (Nat.le_trans hr1.below.size ?_)
      have : (w1.putObj l (.loop { rec with state := .busy })).heap.size ≤ b := q
      simpa using this
    · exact hO1 b (hX2 b q)
  have hc2 : ∀ x, (w1.putObj l (.loop { rec with state := .busy })).cell? x = w1.cell? x := putObj_cells hb1
  refine wpIn_mono ((h2 S1 B2).go (some l) a1 _ ⟨by show l < (w1.putObj l (.loop { rec with state := .busy })).heap.size; simpa using hl1sz, hXl, _, World.putObj_heap_same hl1sz⟩ ⟨S1, κ1, BelX.refl _ _ _, fun _ h => h, fun _ h => .inl h, fun _ _ => rfl, fun _ _ h => h, fun x hx => by have := hr1.dfn x hx; simpa using this, hr1.used, hr1.inj, fun t => Rd.mono (fun _ h => h) (fun x _ => hc2 x) _ (fun _ _ h => h) _ (hr1.slots t), fun j => ?_, ⟨Ds, d1, d2, fun D hD => ⟨.inr (.inr hD), ?_⟩⟩, hr1.size⟩) ?_
  · by_cases hl' : σa.name j = .none
    · rw [hl']; trivial
    · refine RdB.reO (RdB.keep (h := hr1.names j) (hS := fun _ h => h) (hκ := fun _ _ h => h) (hw := fun x _ => hc2 x) (hb := fun b hb => ⟨putObj_other (fun q => ?_), fun _ h => h⟩)) (fun b hl hb _ => .inr (.inl ⟨j, hl, hb⟩))
      exact hBl (by rw [← q]; exact (RdB.lt (hr1.names j) hl' hb).2)
  · exact (putObj_other (fun q => hBl (by rw [← q]; exact (d3 D hD).1))).trans (d3 D hD).2
  rintro e2 a2 w3 ⟨nx', σ', ⟨hx0, hx1, hx2⟩, S2, κ2, hr2⟩
  rw [hx1, hx2] at hr2
  have hx0 := hx0.symm
  subst hx0
  have hb3 : w3.heap[l]? = some (.loop { rec with state := .busy }) := (hr2.below.block l (by show l < (w1.putObj l (.loop { rec with state := .busy })).heap.size; simpa using hl1sz) hXl).trans (World.putObj_heap_same hl1sz)
  have hl3 : l < w3.heap.size := (Array.getElem?_eq_some_iff.1 hb3).1
  have hκ2 : κ2 k = some (.bx l) := hr2.kap _ _ hκ1
  suffices key : ∀ jump : Option Code, jumpOf e = jump → isNm e = jump.isNone → ∃ v w', (Instr.endRound l jump).run P w3 = .ok v w' ∧ PostM w S κ ν nm (.v (.bool (isNm e))) wr (.returned v) w' by
    cases e with
    | normal => exact key none rfl rfl
    | ret => exact key (some .ret) rfl rfl
    | exit id => exact key (some (.exit id)) rfl rfl
    | goto t => cases he
    | panic c => cases he
    | outgrown => cases he
  intro jump hj hn
  refine ⟨_, _, run_endRound jump hb3, ?_⟩
  have hc3 : ∀ (r' : Loop) x, (w3.putObj l (.loop r')).cell? x = w3.cell? x := fun r' => putObj_cells hb3
  have hbel : ∀ o, BelX (lentB ν κ) w.heap.size w (w3.putObj l o) := by
    intro o
    refine ⟨hr2.below.os.trans hr1.below.os, hr2.below.tape.trans hr1.below.tape, hr2.below.output.trans hr1.below.output, ?_, fun b hb hX => ?_⟩
    · have h1 := hr1.below.size
      have h2 : (w1.putObj l (.loop { rec with state := .busy })).heap.size ≤ w3.heap.size := hr2.below.size
      simp at h2
      have h1' : w.heap.size ≤ w1.heap.size := h1
      simp only [putObj_sz]
      omega
    · have hbl : b ≠ l := fun q => hX (by rw [q]; exact hll)
      have hX1 : ¬ B1.O b := fun q => (hO1 b q).elim (fun q => by omega) hX
      rw [putObj_other hbl]
      have e1 : w3.heap[b]? = (w1.putObj l (.loop { rec with state := .busy })).heap[b]? := hr2.below.block b (by
        show b < (w1.putObj l (.loop { rec with state := .busy })).heap.size
        have : w.heap.size ≤ w1.heap.size := hr1.below.size
        simp only [putObj_sz]
        omega) (fun q => hX1 (hX2 b q))
      rw [e1, putObj_other hbl]
      exact hr1.below.block b hb (fun q => hX (hl1 b q).1)
  have hkeep : ∀ (r' : Loop) x, S x → (w3.putObj l (.loop r')).cell? x = w.cell? x := fun r' x hx => (hc3 r' x).trans ((hr2.keep x (hr1.sub x hx)).trans ((hc2 x).trans (hr1.keep x hx)))
  have hBl2 : ¬ B2.O l := fun q => q.elim (fun q => by have : (w1.putObj l (.loop { rec with state := .busy })).heap.size ≤ l := q; simp at this; omega) hXl
  refine postM_of hP hfp hlow h16 (hbel _) (fun x hx => hr2.sub x (hr1.sub x hx)) (fun x hx => ?_) (fun x hx => by have := hr2.dfn x hx; simpa using this) (hkeep _) (fun j q hq => hr2.kap _ _ (hr1.kap _ _ hq)) (fun j j' b l1 l2 e1 e2 => ?_) (fun j => ?_) hR (by rw [hn]; rfl)
  · rcases hr2.new x hx with q | q
    · rcases hr1.new x q with q | q
      · exact .inl q
      · exact .inr (hO1 _ q)
    · exact .inr (hO2 _ q)
  · have other : ∀ i b, i ≠ k → upd σb.name k (.lp N s ps asg bd (isNm e) (jumpOf e)) i ≠ .none → hblk (κ2 i) = some b → σb.name i ≠ .none ∧ b ≠ l := by
      intro i b c q1 q2
      rw [upd_ne _ _ c] at q1
      exact ⟨q1, fun q => hBl2 (by rw [← q]; exact (RdB.lt (hr2.names i) q1 q2).2)⟩
    by_cases c : j = k
    · by_cases c' : j' = k
      · rw [c, c']
      · subst c
        rw [hκ2] at e1
        cases e1
        exact absurd rfl (other j' _ c' l2 e2).2
    · by_cases c' : j' = k
      · subst c'
        rw [hκ2] at e2
        cases e2
        exact absurd rfl (other j _ c l1 e1).2
      · exact hr2.inj j j' b (other j b c l1 e1).1 (other j' b c' l2 e2).1 e1 e2
  · by_cases c : j = k
    · subst c
      rw [upd_own, hκ2]
      refine ⟨l, _, rfl, .inr hll, World.putObj_heap_same hl3, ?_, hj.symm, g6, g7, g8, g9, fun t ht => ?_⟩
      · show (if jump.isNone then _ else _) = _
        rw [hn]
        cases jump <;> rfl
      · refine Rd.mono (fun x hx => hr2.sub x (hr1.sub x hx)) (hkeep _) _ (fun j q hq => hr2.kap _ _ (hr1.kap _ _ hq)) _ (g10 t ht)
    · rw [upd_ne _ _ c]
      by_cases hl' : σb.name j = .none
      · rw [hl']; trivial
      · refine RdB.reO (RdB.keep (h := hr2.names j) (hS := fun _ h => h) (hκ := fun _ _ h => h) (hw := fun x _ => hc3 _ x) (hb := fun b hb => ⟨putObj_other (fun q => ?_), fun _ h => h⟩)) (fun b _ _ hO => hO2 b hO)
        exact hBl2 (by rw [← q]; exact (RdB.lt (hr2.names j) hl' hb).2)
end Go.Proofs.Ytaemlmpcclfmdaa
namespace Go.Proofs.Ytaemlmpcclfmdaa
open Go.RowKit
section
variable {R : Type}
def frcN (n : Nat) (k : Nat → R) : R := match n with | .zero => k 0 | .succ m => k (.succ m)
def frcI (n : Int) (k : Int → R) : R := match n with | .ofNat m => frcN m fun m' => k (.ofNat m') | .negSucc m => frcN m fun m' => k (.negSucc m')
theorem frcN_eq (n : Nat) (k : Nat → R) : frcN n k = k n := by cases n <;> rfl
theorem frcI_eq (n : Int) (k : Int → R) : frcI n k = k n := by
  cases n with
  | ofNat m => exact frcN_eq m fun m' => k (.ofNat m')
  | negSucc m => exact frcN_eq m fun m' => k (.negSucc m')
def frcB (b : Bool) (k : Bool → R) : R := match b with | true => k true | false => k false
theorem frcB_eq (b : Bool) (k : Bool → R) : frcB b k = k b := by cases b <;> rfl
def frcX (x : Value) (k : Value → R) : R := match x with
  | .int t n => frcI n fun n' => k (.int t n')
  | .bool b => frcB b fun b' => k (.bool b')
  | x => k x
theorem frcX_eq (x : Value) (k : Value → R) : frcX x k = k x := by
  unfold frcX
  split
  · exact frcI_eq _ _
  · exact frcB_eq _ _
  · rfl
def frcR : Nat → Nat → (Nat → (AV → R) → R) → (List AV → R) → R
  | 0, _, _, k => k []
  | n + 1, o, g, k => g o fun x => frcR n (o + 1) g fun l => k (x :: l)
/-- what comes out is no less -/
def FrcOK (x : AV) (f : (AV → R) → R) : Prop := ∃ x', AV.le x x' ∧ ∀ k, f k = k x'
theorem frcR_ok (h : Nat → AV) (g : Nat → (AV → R) → R) : ∀ (n o : Nat), (∀ i, i < n → FrcOK (h (o + i)) (g (o + i))) → ∃ l : List AV, l.length = n ∧ (∀ i, i < n → AV.le (h (o + i)) (l.getD i .dead)) ∧ ∀ k, frcR n o g k = k l
  | 0, _, _ => ⟨[], rfl, fun i hi => absurd hi (Nat.not_lt_zero _), fun _ => rfl⟩
  | n + 1, o, hg => by
    obtain ⟨x, h1, h2⟩ := hg 0 (Nat.zero_lt_succ _)
    obtain ⟨l, g1, g2, g3⟩ := frcR_ok h g n (o + 1) (fun i hi => by have := hg (i + 1) (by omega); rwa [show o + 1 + i = o + (i + 1) from by omega])
    refine ⟨x :: l, by simp [g1], fun i hi => ?_, fun k => ?_⟩
    · cases i with
      | zero => exact h1
      | succ i => have := g2 i (by omega); rw [show o + 1 + i = o + (i + 1) from by omega] at this; exact this
    · show g o _ = _
      rw [show o = o + 0 from rfl, h2]
      exact g3 _
def frcV : AV → (AV → R) → R
  | .v x, k => frcX x fun x' => k (.v x')
  | .agg n h, k => frcN n fun n' => frcR n' 0 (fun i => frcV (h i)) fun l => k (.agg n' (vec l))
  | .tup n h, k => frcN n fun n' => frcR n' 0 (fun i => frcV (h i)) fun l => k (.tup n' (vec l))
  | .own a, k => frcN a fun a' => k (.own a')
  | .pB a o, k => frcN a fun a' => frcN o fun o' => k (.pB a' o')
  | .mref a, k => frcN a fun a' => k (.mref a')
  | .yld a, k => frcN a fun a' => k (.yld a')
  | .cloM f n1 h1 n2 h2, k => frcN n1 fun n1' => frcN n2 fun n2' => frcR n1' 0 (fun i => frcV (h1 i)) fun l1 => frcR n2' 0 (fun i => frcV (h2 i)) fun l2 => k (.cloM f n1' (vec l1) n2' (vec l2))
  | .clo f n1 h1 n2 h2, k => frcN n1 fun n1' => frcN n2 fun n2' => frcR n1' 0 (fun i => frcV (h1 i)) fun l1 => frcR n2' 0 (fun i => frcV (h2 i)) fun l2 => k (.clo f n1' (vec l1) n2' (vec l2))
  | .gd b x, k => frcB b fun b' => frcV x fun x' => k (.gd b' x')
  | .elp m h, k => frcN m fun m' => frcR m' 0 (fun i => frcV (h i)) fun l => k (.elp m' (vec l))
  | .sl z n g, k => frcN z fun z' => frcN n fun n' => frcR (n' * z') 0 (fun i => frcV (g (i / z') (i % z'))) fun l => k (.sl z' n' (fun i j => vec l (i * z' + j)))
  | .pA a z i o, k => frcN a fun a' => frcN z fun z' => frcN i fun i' => frcN o fun o' => k (.pA a' z' i' o')
  | x, k => k x
theorem AV.le_cloM {f : FuncId} {n1 n2 : Nat} {h1 h2 h1' h2' : Nat → AV} (e1 : ∀ i, i < n1 → AV.le (h1 i) (h1' i)) (e2 : ∀ i, i < n2 → AV.le (h2 i) (h2' i)) : AV.le (.cloM f n1 h1 n2 h2) (.cloM f n1 h1' n2 h2') := by
  rintro S κ w u ⟨fs, cs, e, q1, q2, g1, g2⟩
  exact ⟨fs, cs, e, q1, q2, fun i hi => e1 i hi _ _ _ _ (g1 i hi), fun i hi => e2 i hi _ _ _ _ (g2 i hi)⟩
theorem AV.le_clo {f : FuncId} {n1 n2 : Nat} {h1 h2 h1' h2' : Nat → AV} (e1 : ∀ i, i < n1 → AV.le (h1 i) (h1' i)) (e2 : ∀ i, i < n2 → AV.le (h2 i) (h2' i)) : AV.le (.clo f n1 h1 n2 h2) (.clo f n1 h1' n2 h2') := by
  rintro S κ w u ⟨fs, cs, e, q1, q2, g1, g2⟩
  exact ⟨fs, cs, e, q1, q2, fun i hi => e1 i hi _ _ _ _ (g1 i hi), fun i hi => e2 i hi _ _ _ _ (g2 i hi)⟩
theorem AV.le_elp {m : Nat} {h h' : Nat → AV} (e : ∀ i, i < m → AV.le (h i) (h' i)) : AV.le (.elp m h) (.elp m h') := by
  rintro S κ w u ⟨b, o, q, h4⟩
  refine ⟨b, o, q, fun j hj => ?_⟩
  obtain ⟨h5, x, h6, h7, h8⟩ := h4 j hj
  exact ⟨h5, x, h6, h7, e j hj _ _ _ _ h8⟩
theorem AV.le_gd {b : Bool} {x x' : AV} (h : AV.le x x') : AV.le (.gd b x) (.gd b x') := fun _ _ _ _ q => ⟨fun hb => h _ _ _ _ (q.1 hb), q.2⟩
theorem frcV_ok : ∀ (x : AV), FrcOK (R := R) x (frcV x) := by
  intro x
  induction x with
  | v y => exact ⟨_, AV.le.refl _, fun k => frcX_eq _ _⟩
  | agg n h ih =>
    obtain ⟨l, g1, g2, g3⟩ := frcR_ok (R := R) h (fun i => frcV (h i)) n 0 (fun i _ => by rw [Nat.zero_add]; exact ih i)
    refine ⟨.agg n (vec l), AV.le_agg fun i hi => by have := g2 i hi; rwa [Nat.zero_add] at this, fun k => ?_⟩
    unfold frcV
    rw [frcN_eq, g3]
  | tup n h ih =>
    obtain ⟨l, g1, g2, g3⟩ := frcR_ok (R := R) h (fun i => frcV (h i)) n 0 (fun i _ => by rw [Nat.zero_add]; exact ih i)
    refine ⟨.tup n (vec l), AV.le_tup fun i hi => by have := g2 i hi; rwa [Nat.zero_add] at this, fun k => ?_⟩
    unfold frcV
    rw [frcN_eq, g3]
  | elp n h ih =>
    obtain ⟨l, g1, g2, g3⟩ := frcR_ok (R := R) h (fun i => frcV (h i)) n 0 (fun i _ => by rw [Nat.zero_add]; exact ih i)
    refine ⟨.elp n (vec l), AV.le_elp fun i hi => by have := g2 i hi; rwa [Nat.zero_add] at this, fun k => ?_⟩
    unfold frcV
    rw [frcN_eq, g3]
  | sl z n g ih =>
    obtain ⟨l, g1, g2, g3⟩ := frcR_ok (R := R) (fun i => g (i / z) (i % z)) (fun i => frcV (g (i / z) (i % z))) (n * z) 0 (fun i _ => by rw [Nat.zero_add]; exact ih _ _)
    refine ⟨.sl z n (fun i j => vec l (i * z + j)), AV.le_sl fun i hi j hj => ?_, fun k => ?_⟩
    · have hz : 0 < z := by omega
      have hlt : i * z + j < n * z := by have : i * z + z ≤ n * z := by rw [← Nat.succ_mul]; exact Nat.mul_le_mul_right z hi
                                         omega
      have := g2 _ hlt
      rw [Nat.zero_add, show (i * z + j) / z = i from by rw [Nat.mul_comm, Nat.mul_add_div hz, Nat.div_eq_of_lt hj]; rfl, show (i * z + j) % z = j from by rw [Nat.mul_comm, Nat.mul_add_mod, Nat.mod_eq_of_lt hj]] at this
      exact this
    · unfold frcV
      rw [frcN_eq, frcN_eq, g3]
  | clo f n1 h1 n2 h2 ih1 ih2 =>
    obtain ⟨l1, g1, g2, g3⟩ := frcR_ok (R := R) h1 (fun i => frcV (h1 i)) n1 0 (fun i _ => by rw [Nat.zero_add]; exact ih1 i)
    obtain ⟨l2, k1, k2, k3⟩ := frcR_ok (R := R) h2 (fun i => frcV (h2 i)) n2 0 (fun i _ => by rw [Nat.zero_add]; exact ih2 i)
    refine ⟨.clo f n1 (vec l1) n2 (vec l2), AV.le_clo (fun i hi => by have := g2 i hi; rwa [Nat.zero_add] at this) (fun i hi => by have := k2 i hi; rwa [Nat.zero_add] at this), fun k => ?_⟩
    unfold frcV
    rw [frcN_eq, frcN_eq, g3, k3]
  | cloM f n1 h1 n2 h2 ih1 ih2 =>
    obtain ⟨l1, g1, g2, g3⟩ := frcR_ok (R := R) h1 (fun i => frcV (h1 i)) n1 0 (fun i _ => by rw [Nat.zero_add]; exact ih1 i)
    obtain ⟨l2, k1, k2, k3⟩ := frcR_ok (R := R) h2 (fun i => frcV (h2 i)) n2 0 (fun i _ => by rw [Nat.zero_add]; exact ih2 i)
    refine ⟨.cloM f n1 (vec l1) n2 (vec l2), AV.le_cloM (fun i hi => by have := g2 i hi; rwa [Nat.zero_add] at this) (fun i hi => by have := k2 i hi; rwa [Nat.zero_add] at this), fun k => ?_⟩
    unfold frcV
    rw [frcN_eq, frcN_eq, g3, k3]
  | mref a => exact ⟨_, AV.le.refl _, fun k => frcN_eq _ _⟩
  | yld a => exact ⟨_, AV.le.refl _, fun k => frcN_eq _ _⟩
  | own a => exact ⟨_, AV.le.refl _, fun k => frcN_eq _ _⟩
  | pB a o => exact ⟨_, AV.le.refl _, fun k => by unfold frcV; rw [frcN_eq, frcN_eq]⟩
  | pX k b0 len z i o => exact ⟨_, AV.le.refl _, fun k => rfl⟩
  | pA a z i o => exact ⟨_, AV.le.refl _, fun k => by unfold frcV; rw [frcN_eq, frcN_eq, frcN_eq, frcN_eq]⟩
  | gd b x ih =>
    obtain ⟨x', h1, h2⟩ := ih
    exact ⟨.gd b x', AV.le_gd h1, fun k => by unfold frcV; rw [frcB_eq, h2]⟩
  | dead => exact ⟨_, AV.le.refl _, fun k => rfl⟩
def frcS (N : Nat) (s : Nat → AV) (k : (Nat → AV) → R) : R := frcR N 0 (fun i => frcV (s i)) fun l => k (vec l)
theorem frcS_ok (N : Nat) (s : Nat → AV) : ∃ s', (∀ t, AV.le (s t) (s' t)) ∧ ∀ k : (Nat → AV) → R, frcS N s k = k s' := by
  obtain ⟨l, g1, g2, g3⟩ := frcR_ok (R := R) s (fun i => frcV (s i)) N 0 (fun i _ => by rw [Nat.zero_add]; exact frcV_ok _)
  refine ⟨vec l, fun t => ?_, fun k => g3 _⟩
  by_cases ht : t < N
  · have := g2 t ht; rwa [Nat.zero_add] at this
  · rw [show vec l t = .dead from by simp [vec, List.getD_eq_getElem?_getD, List.getElem?_eq_none (show l.length ≤ t by omega)]]
    exact AV.le_dead _
end
section
variable {P : Program} {S0 : Addr → Prop} {mm : Nat} {w0 : Bs mm} {N : Nat} {nx : Nat} {σ : ASt} {K : AK}
theorem AW.slotle {c : Code} {s' : Nat → AV} (hs : ∀ t, AV.le (σ.slot t) (s' t)) (h : AW P S0 w0 N c nx ⟨s', σ.name⟩ K) : AW P S0 w0 N c nx σ K :=
  ⟨fun ro a w ho ⟨S, κ, hr⟩ => h.go ro a w ho ⟨S, κ, RelX.slotle (ν := σ.name) hr hs⟩⟩
end
/-- slots as a list -/
structure LSt where
  sl : List AV
  nm : Nat → AB
noncomputable def lget (l : List AV) (i : Nat) : AV := @List.rec AV (fun _ => Nat → AV) (fun _ => .dead) (fun x _ ih i => @Nat.rec (fun _ => AV) x (fun m _ => ih m) i) l i
theorem lget_eq : ∀ (l : List AV) (i : Nat), lget l i = l.getD i .dead
  | [], i => by simp [lget]
  | x :: l, 0 => rfl
  | x :: l, i + 1 => by
    show lget l i = _
    rw [lget_eq l i]
    simp
noncomputable def toA (σ : LSt) : ASt := ⟨lget σ.sl, σ.nm⟩
noncomputable def lset {R : Type} (v : AV) (l : List AV) (i : Nat) (k : List AV → R) : R := @List.rec AV (fun _ => Nat → (List AV → R) → R) (fun _ k => k []) (fun x l ih i k => @Nat.rec (fun _ => R) (k (v :: l)) (fun m _ => ih m fun l' => k (x :: l')) i) l i k
theorem lset_eq {R : Type} (v : AV) : ∀ (l : List AV) (i : Nat) (k : List AV → R), lset v l i k = k (l.set i v)
  | [], i, k => by simp [lset]
  | x :: l, 0, k => rfl
  | x :: l, i + 1, k => by
    show lset v l i (fun l' => k (x :: l')) = _
    rw [lset_eq v l i]
    rfl
/-- a value, as far as it is one cell -/
def frcV0 {R : Type} (x : AV) (k : AV → R) : R := match x with
  | .v y => frcX y fun y' => k (.v y')
  | .own a => frcN a fun a' => k (.own a')
  | .pB a o => frcN a fun a' => frcN o fun o' => k (.pB a' o')
  | .gd b (.v y) => frcB b fun b' => frcX y fun y' => k (.gd b' (.v y'))
  | x => k x
theorem frcV0_eq {R : Type} (x : AV) (k : AV → R) : frcV0 x k = k x := by
  unfold frcV0
  split
  · exact frcX_eq _ _
  · exact frcN_eq _ _
  · rw [frcN_eq, frcN_eq]
  · rw [frcB_eq, frcX_eq]
  · rfl
noncomputable def updB (ν : Nat → AB) (k : Nat) (b : AB) (j : Nat) : AB := @Bool.rec (fun _ => AB) (ν j) b (Nat.beq j k)
theorem updB_eq (ν : Nat → AB) (k : Nat) (b : AB) : updB ν k b = upd ν k b := by
  funext j
  unfold updB upd
  cases Nat.beq j k <;> rfl
noncomputable def nmwK {R : Type} (wr : List (Nat × AB)) (ν : Nat → AB) (k : (Nat → AB) → R) : R := @List.rec (Nat × AB) (fun _ => (Nat → AB) → R) (fun ν => k ν) (fun p _ ih ν => frcN p.1 fun j => ih (updB ν j p.2)) wr ν
theorem nmwK_eq {R : Type} : ∀ (wr : List (Nat × AB)) (ν : Nat → AB) (k : (Nat → AB) → R), nmwK wr ν k = k (nmw ν wr)
  | [], ν, k => rfl
  | (j, b) :: l, ν, k => by
    show frcN j (fun j => nmwK l (updB ν j b) k) = _
    rw [frcN_eq, nmwK_eq l, updB_eq]
    rfl
noncomputable def putK {R : Type} (σ : LSt) (d : Option Nat) (v : AV) (wr : List (Nat × AB)) (k : LSt → R) : R :=
  nmwK wr σ.nm fun ν => match d with
    | none => k ⟨σ.sl, ν⟩
    | some d => frcV0 v fun v' => lset v' σ.sl d fun l => k ⟨l, ν⟩
def lput (l : List AV) (d : Option Nat) (v : AV) : List AV := match d with | none => l | some d => l.set d v
theorem putK_eq {R : Type} (σ : LSt) (d : Option Nat) (v : AV) (wr : List (Nat × AB)) (k : LSt → R) : putK σ d v wr k = k ⟨lput σ.sl d v, nmw σ.nm wr⟩ := by
  unfold putK
  rw [nmwK_eq]
  cases d with
  | none => rfl
  | some d => show frcV0 v _ = _; rw [frcV0_eq, lset_eq]; rfl
theorem lput_len (l : List AV) (d : Option Nat) (v : AV) : (lput l d v).length = l.length := by cases d <;> simp [lput]
theorem lput_get {N : Nat} {l : List AV} (hl : l.length = N) {d : Option Nat} (hd : okDst N d = true) (v : AV) : lget (lput l d v) = dstU (lget l) d v := by
  funext t
  cases d with
  | none => rfl
  | some d =>
    have hd' : d < l.length := by rw [hl]; exact blt_iff hd
    show lget (l.set d v) t = upd (lget l) d v t
    rw [lget_eq]
    by_cases c : t = d
    · subst c; rw [upd_own]; simp [List.getD_eq_getElem?_getD, hd']
    · rw [upd_ne _ _ c, lget_eq]; simp [List.getD_eq_getElem?_getD, Ne.symm c]
noncomputable def frcL {R : Type} (l : List AV) (k : List AV → R) : R := @List.rec AV (fun _ => (List AV → R) → R) (fun k => k []) (fun x _ ih k => frcV x fun x' => ih fun l => k (x' :: l)) l k
theorem frcL_ok {R : Type} : ∀ (l : List AV), ∃ l', l'.length = l.length ∧ (∀ t, AV.le (lget l t) (lget l' t)) ∧ ∀ k : List AV → R, frcL l k = k l'
  | [] => ⟨[], rfl, fun t => AV.le.refl _, fun k => rfl⟩
  | x :: l => by
    obtain ⟨x', h1, h2⟩ := frcV_ok (R := R) x
    obtain ⟨l', g1, g2, g3⟩ := frcL_ok (R := R) l
    refine ⟨x' :: l', by simp [g1], fun t => ?_, fun k => ?_⟩
    · cases t with
      | zero => exact h1
      | succ t => exact g2 t
    · show frcV x (fun x' => frcL l fun l => k (x' :: l)) = _
      rw [h2, g3]
/-- the slots at a call's begin -/
def beg (N : Nat) (l : List AV) : List AV := l ++ List.replicate (N - l.length) (.v undef)
theorem beg_len {N : Nat} {l : List AV} (h : l.length ≤ N) : (beg N l).length = N := by simp [beg]; omega
theorem beg_le {N : Nat} {l : List AV} : ∀ t, AV.le ((sig0 l).slot t) (lget (beg N l) t) := by
  intro t
  rw [lget_eq]
  show AV.le (bif Nat.blt t l.length then l.getD t .dead else .v undef) _
  by_cases ht : t < l.length
  · rw [blt_t ht, show (beg N l).getD t .dead = l.getD t .dead from by simp [beg, List.getD_eq_getElem?_getD, List.getElem?_append_left ht]]
    exact AV.le.refl _
  · rw [blt_f (Nat.le_of_not_lt ht)]
    by_cases h2 : t - l.length < N - l.length
    · rw [show (beg N l).getD t .dead = .v undef from by simp [beg, List.getD_eq_getElem?_getD, List.getElem?_append_right (Nat.le_of_not_lt ht), h2]]
      exact AV.le.refl _
    · rw [show (beg N l).getD t .dead = .dead from by simp [beg, List.getD_eq_getElem?_getD, List.getElem?_append_right (Nat.le_of_not_lt ht), h2]]
      exact AV.le_dead _
def frcD {R : Type} (ds : List AV) (k : List AV → R) : R := frcR ds.length 0 (fun i => frcV (ds.getD i .dead)) k
theorem frcD_ok {R : Type} (ds : List AV) : ∃ l, l.length = ds.length ∧ (∀ t, AV.le ((sig0 ds).slot t) ((sig0 l).slot t)) ∧ ∀ k : List AV → R, frcD ds k = k l := by
  obtain ⟨l, g1, g2, g3⟩ := frcR_ok (R := R) (fun i => ds.getD i .dead) (fun i => frcV (ds.getD i .dead)) ds.length 0 (fun i _ => by rw [Nat.zero_add]; exact frcV_ok _)
  refine ⟨l, g1, fun t => ?_, fun k => g3 _⟩
  show AV.le (bif Nat.blt t ds.length then ds.getD t .dead else .v undef) (bif Nat.blt t l.length then l.getD t .dead else .v undef)
  rw [g1]
  by_cases ht : t < ds.length
  · rw [blt_t ht]
    have := g2 t ht; rwa [Nat.zero_add] at this
  · rw [blt_f (Nat.le_of_not_lt ht)]
    exact AV.le.refl _
end Go.Proofs.Ytaemlmpcclfmdaa
