/- Helpers: packets that clash. No condition but the hypotheses that each theorem names. -/
import Derived.Test.YtpkacfgmojblbaaB06
import Derived.Deep.CutRange
import Derived.Test.YtpkacfgmojblbaaB05
import Derived.Maps.AppendAt
namespace Go.Proofs.Ytpkacfgmojblbaa
open Go.RowKit
attribute [local go_sem] old1 fro1 old2 fro2 old3 fro3 old4 fro4 old5 fro5 old6 fro6 old7 fro7 old8 fro8 old9 fro9 old10 fro10 old11 fro11 old12 fro12
def mcl0 : List Bool := [false, false, false, false, false, false, false, false, false, false, false, false, false, false, false, false, false, false, false, false, false, false, false, false, false, false, false, false, false, false, false, false, false, true, true, true, true, true, true, false]
theorem undMP : Try.prog.underlying 164 = some (.map 3 26) := by kernel_rfl
/-- the last one of the first ones that has a counter -/
def lst (f : Nat → Int) : Nat → Int → Option Nat
  | 0, _ => none
  | j + 1, x => if x = f j then some j else lst f j x
def clk (k : Nat → Nat → Int) (f : Nat → Int) : Nat → Bool
  | 0 => false
  | j + 1 => clk k f j || match lst f j (f j) with
    | some i => !pkEq (k j) (k i)
    | none => false
theorem clk_up {k : Nat → Nat → Int} {f : Nat → Int} {j : Nat} (h : clk k f j = true) : ∀ n, j ≤ n → clk k f n = true
  | 0, hn => by obtain rfl : j = 0 := by omega
                exact h
  | n + 1, hn => by
    rcases Nat.lt_or_eq_of_le hn with h1 | rfl
    · simp only [clk, clk_up h n (by omega), Bool.true_or]
    · exact h
def mpk (k : Nat → Nat → Int) (f : Nat → Int) (j : Nat) (x : Int) : Option Value := (lst f j x).map fun i => .agg (pk (k i))
theorem mpk_s (k : Nat → Nat → Int) (f : Nat → Int) (j : Nat) : (fun x => if x = f j then some (.agg (pk (k j))) else mpk k f j x) = mpk k f (j + 1) := by
  funext x
  simp only [mpk, lst]
  split <;> rfl
/-- a guarded read, a comparison, a look-up, an entry, at the operations -/
theorem wl_lng {ops : Array Oper} {rest : List Oper} {op : Oper} {a : Act} {w : World} {Q : Exit → Act → World → Prop} (x : Operand) (ho : op.op = .load 26 x) (hgd : Region.wanted op (yielded ops a.tmps) = true) (b : Nat) (hx : a.eval x = .pointer (some ⟨b, 0, none⟩)) (p : Nat → Int) (hc : ∀ j, j < 18 → w.cell? ⟨b, 0 + j, none⟩ = some (.int .i64 (p j)))
    (h : wpList Try.prog ops Q rest (a.put op.dst (.agg (pk p))) w) : wpList Try.prog ops Q (op :: rest) a w := by
  refine wpList_step fun K hK => ?_
  rw [if_pos hgd]
  unfold Oper.wp execOp
  simp only [ho, hx, Instr.loadAt, Instr.sureAddr, Sem.run_bind, Sem.run_pure, Result.andThen_ok, ldP hc]
  exact hK _ _ h
theorem wl_neg {ops : Array Oper} {rest : List Oper} {op : Oper} {a : Act} {w : World} {Q : Exit → Act → World → Prop} (x y : Operand) (t2 : TypeId) (ho : op.op = .binOp .neq 26 x y t2) (hgd : Region.wanted op (yielded ops a.tmps) = true) (p q : Nat → Int) (hx : a.eval x = .agg (pk p)) (hy : a.eval y = .agg (pk q)) 
    (h : wpList Try.prog ops Q rest (a.put op.dst (.bool (!pkEq p q))) w) : wpList Try.prog ops Q (op :: rest) a w := by
  refine wpList_step fun K hK => ?_
  rw [if_pos hgd]
  have hg : (eqGuard .neq 26 x y (.agg (pk p)) (.agg (pk q))).run Try.prog w = .ok () w := by
    have hge : Try.prog.eqGuardType Try.prog.depth 26 = false := by kernel_rfl
    simp [eqGuard, hge, go_sem]
  unfold Oper.wp execOp
  simp only [ho, hx, hy, Sem.run_bind, Sem.run_pure, Result.andThen_ok, hg, pk_ne]
  exact hK _ _ h
theorem wl_look {ops : Array Oper} {rest : List Oper} {op : Oper} {a : Act} {w : World} {Q : Exit → Act → World → Prop} (hgd : op.guard = none) (t : TypeId) (x y : Operand) {c : Bool} (ho : op.op = .lookup t x y c) {b : Nat} {k : Int} (hx : a.eval x = .map (some b)) (hy : a.eval y = .int .i64 k) {v : Value} (hc : (Instr.lookup t (.map (some b)) (.int .i64 k) c).run Try.prog w = .ok v w)
    (h : wpList Try.prog ops Q rest (a.put op.dst v) w) : wpList Try.prog ops Q (op :: rest) a w := by
  refine wpList_plain hgd fun K hK => ?_
  unfold Oper.wp execOp
  simp only [ho, hx, hy, Sem.run_bind, Sem.run_pure, Result.andThen_ok, hc]
  exact hK _ _ h
theorem op_mu {op : Oper} {a : Act} {w : World} {K : Act → World → Prop} {Q : Exit → Act → World → Prop} {t e : TypeId} {x y z : Operand} (ho : op.op = .mapUpdate t x y z) (ht : Try.prog.underlying t = some (.map 3 e)) {b n : Nat} {f : Int → Option Value} {k : Int} {v : Value} (hx : a.eval x = .map (some b)) (hy : a.eval y = .int .i64 k) (hz : a.eval z = v)
    (hM : MI w b n f) (hn : n < maxLen) (h1 : -9223372036854775808 ≤ k) (h2 : k ≤ 9223372036854775807) (h : ∀ w', MI w' b (n + 1) (fun x => if x = k then some v else f x) → w.grownBy w' (some b) → K (a.put op.dst undef) w') : op.wp Try.prog a w K Q := by
  obtain ⟨w', hr, hm, hg⟩ := hM.store ht hn h1 h2 v
  unfold Oper.wp execOp
  simp only [ho, hx, hy, hz, Sem.run_bind, Sem.run_pure, Result.andThen_ok, hr]
  exact h _ hm hg


set_option maxRecDepth 100000 in
set_option maxHeartbeats 4000000 in
theorem clash_any (A B : Option Addr) (n cA cB : Nat) (k : Nat → Nat → Int) (f : Nat → Int) (w : World) (hn : n ≤ 30) (hA : KA w A n k) (hB : IA w B n f) (hf : ∀ i, i < n → 0 ≤ f i ∧ f i ≤ 40000) :
    Calls Try.prog 139 #[.slice A n cA, .slice B n cB] w fun e w' => e = .returned (.bool (clk k f n)) ∧ Below w.heap.size w w' := by
  have HF := Lib.hid hf
  have HA := Lib.hid hA
  have HB0 := Lib.hid hB
  clear hf hA hB
  have hmm := @run_makeMap Try.prog
  go_enter Try.func139, Try.ntmps139
  go_wp2
  clear hmm
  have HM0 := Lib.hid (MI.made w)
  generalize hG : w.heap.size = G at *
  go_loopw [6, 7, 8, 9, 13] (fun s6 s7 s8 s9 s13 wr => ∃ j : Nat, j ≤ n ∧ s13 = .int .i64 j ∧ Below G w wr ∧ Hid (MI wr G j (mpk k f j)) ∧ Hid (clk k f j = false)) (fun _ _ _ _ i _ => n - (intOf i).toNat)
  case atStart => exact ⟨0, Nat.zero_le _, rfl, (Below.refl _ _).alloc (by omega) _, HM0.out, rfl⟩
  case round =>
    obtain ⟨j, hj, rfl, hbel, HI, HC⟩ := hrel
    have HB := Lib.hid hbel
    by_cases hlt : j < n
    · obtain ⟨bA, oA, rfl, hA2⟩ := HA.out.bel (hG.symm ▸ hbel) (by omega)
      obtain ⟨bB, oB, rfl, hB2⟩ := HB0.out.bel (hG.symm ▸ hbel) (by omega)
      have LD := Lib.hid (hA2 j hlt)
      have cB := hB2 j hlt
      have F0 := Lib.hid (HF.out j hlt)
      have g1 : (0 : Int) ≤ (j : Int) := by omega
      have g2 : (j : Int) < (n : Int) := by omega
      have hGw : G < wr.heap.size := HI.out.lt
      clear hA2 hB2 hbel
      go_upto_region 5 with (first | (refine wl_ld rfl _ rfl bA (oA + j * 18) rfl (k j) LD.out ?_) | (refine wl_st rfl _ _ rfl _ rfl rfl (k j) rfl ?_))
      have hbw : Below wr.heap.size wr (wr.alloc (.cells (pk (k j)) 26)) := (Below.refl _ _).alloc (Nat.le_refl _) _
      have HB1 : Hid (Below G w (wr.alloc (.cells (pk (k j)) 26))) := HB.out.alloc (by omega) _
      have HI1 : Hid (MI (wr.alloc (.cells (pk (k j)) 26)) G j (mpk k f j)) := HI.out.alloc _
      have HP1 := Lib.hid (fun i hi => (Nat.zero_add i).symm ▸ pk_cell wr (k j) 26 i hi : ∀ i, i < 18 → (wr.alloc (.cells (pk (k j)) 26)).cell? ⟨wr.heap.size, 0 + i, none⟩ = some (.int .i64 (k j i)))
      have cB1 := keep hbw cB
      have hsz : wr.heap.size < (wr.alloc (.cells (pk (k j)) 26)).heap.size := by simp
      have hq : ∃ (q : Nat → Int) (r : Bool), (mpk k f j (f j)).getD (.agg (pk fun _ => 0)) = .agg (pk q) ∧ (mpk k f j (f j)).isSome = r ∧ clk k f (j + 1) = (r && !pkEq (k j) q) := by
        have hc := HC.out
        cases hl : lst f j (f j) with
        | none => exact ⟨fun _ => 0, false, by simp [mpk, hl], by simp [mpk, hl], by simp [clk, hl, hc]⟩
        | some i => exact ⟨k i, true, by simp [mpk, hl], by simp [mpk, hl], by simp [clk, hl, hc]⟩
      obtain ⟨q, r, hq1, hq2, hq3⟩ := hq
      have HQ3 := Lib.hid hq3
      clear hbw cB hq3
      generalize (wr.alloc (.cells (pk (k j)) 26)) = w1 at *
      have LK := HI1.out.look_ok undMP (zeroPk w1) (k := f j) (by have := F0.out; omega) (by have := F0.out; omega)
      rw [hq1, hq2] at LK
      have HP2 : ∀ i, i < 18 → (w1.alloc (.cells (pk q) 26)).cell? ⟨wr.heap.size, 0 + i, none⟩ = some (.int .i64 (k j i)) := fun i hi => keep ((Below.refl _ _).alloc (Nat.le_refl _) _) (HP1.out i hi)
      have HQ2 : ∀ i, i < 18 → (w1.alloc (.cells (pk q) 26)).cell? ⟨w1.heap.size, 0 + i, none⟩ = some (.int .i64 (q i)) := fun i hi => (Nat.zero_add i).symm ▸ pk_cell w1 q 26 i hi
      have HQ := Lib.hid (And.intro hq1 hq2)
      clear hq1 hq2
      cases r
      · go_upto_region 8 with (first | (refine wl_look rfl _ _ _ rfl rfl rfl LK ?_) | (refine wl_st rfl _ _ rfl _ rfl rfl q rfl ?_) | (refine wl_lng _ rfl rfl wr.heap.size rfl (k j) HP2 ?_) | (refine wl_lng _ rfl rfl w1.heap.size rfl q HQ2 ?_) | (refine wl_neg _ _ _ rfl rfl (k j) q rfl rfl ?_))
        have HB2 : Hid (Below G w (w1.alloc (.cells (pk q) 26))) := HB1.out.alloc (by omega) _
        have HM2 : Hid (MI (w1.alloc (.cells (pk q) 26)) G j (mpk k f j)) := HI1.out.alloc _
        have HP := Lib.hid HP2
        have cB0 := keep ((Below.refl _ _).alloc (Nat.le_refl _) (.cells (pk q) 26)) cB1
        clear HP2 HQ2 LK cB1 HQ
        generalize (w1.alloc (.cells (pk q) 26)) = w2 at *
        refine wp_region_last [mpEq (.map (some G)), mpEq (.slice (some ⟨bB, oB, none⟩) n cB), mpEq (.int .i64 j), mpEq (.pointer (some ⟨bB, oB + j, none⟩)), mpEq (.int .i64 (f j)), mpEq (.agg (pk (k j)))] 6 mcl0 (by kernel_rfl) (by kernel_rfl) (by kernel_rfl) rfl (by kernel_rfl) (
              allOps_cons (fun _ a' w' hb hs hd => rg_op fun K hK => by
            have e0 := (hs.get 5 (by kernel_rfl)).trans (show _ = .map (some G) from rfl)
            have ec : ∀ v, a'.eval (.const v) = v := fun _ => rfl
            clear hs hd
            unfold Oper.wp
            generalize a'.eval = ρ at e0 ec ⊢
            simp [go_sem, e0]
            exact hK _ _ (Below.refl _ _) rfl) <|
              allOps_cons (fun _ a' w' hb hs hd => rg_op fun K hK => by
            have e0 := (hs.get 1 (by kernel_rfl)).trans (show _ = .slice (some ⟨bB, oB, none⟩) n cB from rfl)
            have ec : ∀ v, a'.eval (.const v) = v := fun _ => rfl
            clear hs hd
            unfold Oper.wp
            generalize a'.eval = ρ at e0 ec ⊢
            simp [go_sem, e0]
            exact hK _ _ (Below.refl _ _) rfl) <|
              allOps_cons (fun _ a' w' hb hs hd => rg_op fun K hK => by
            have e0 := (hs.get 6 (by kernel_rfl)).trans (show _ = .int .i64 j from rfl)
            have ec : ∀ v, a'.eval (.const v) = v := fun _ => rfl
            clear hs hd
            unfold Oper.wp
            generalize a'.eval = ρ at e0 ec ⊢
            simp [go_sem, e0]
            exact hK _ _ (Below.refl _ _) rfl) <|
              allOps_cons (fun _ a' w' hb hs hd => rg_op fun K hK => by
            have e0 := (show a'.eval (.tmp 34) = .slice (some ⟨bB, oB, none⟩) n cB from hd.get 1 34 (by kernel_rfl) (by kernel_rfl))
            have e1 := (show a'.eval (.tmp 35) = .int .i64 j from hd.get 2 35 (by kernel_rfl) (by kernel_rfl))
            have e2 := g1
            have e3 := g2
            have ec : ∀ v, a'.eval (.const v) = v := fun _ => rfl
            clear hs hd
            unfold Oper.wp
            generalize a'.eval = ρ at e0 e1 e2 e3 ec ⊢
            simp [go_sem, e0, e1, e2, e3]
            exact hK _ _ (Below.refl _ _) rfl) <|
              allOps_cons (fun _ a' w' hb hs hd => rg_op fun K hK => by
            have e0 := (show a'.eval (.tmp 36) = .pointer (some ⟨bB, oB + j, none⟩) from hd.get 3 36 (by kernel_rfl) (by kernel_rfl))
            have ec : ∀ v, a'.eval (.const v) = v := fun _ => rfl
            have c0 := keep hb cB0
            clear hs hd
            unfold Oper.wp
            generalize a'.eval = ρ at e0 ec ⊢
            simp [go_sem, e0, c0]
            exact hK _ _ (Below.refl _ _) rfl) <|
              allOps_cons (fun _ a' w' hb hs hd => rg_op fun K hK => by
            have e0 := (hs.get 7 (by kernel_rfl)).trans (show _ = .pointer (some ⟨wr.heap.size, 0, none⟩) from rfl)
            have ld := ldP (w := w') (b := wr.heap.size) (o := 0) (p := k j) (fun i hi => keep hb (HP.out i hi))
            clear hs hd
            unfold Oper.wp execOp
            generalize a'.eval = ρ at e0 ⊢
            simp only [e0, Instr.loadAt, Instr.sureAddr, Sem.run_bind, Sem.run_pure, Result.andThen_ok, ld]
            exact hK _ _ (Below.refl _ _) rfl) <| allOps_cons (fun h => absurd rfl h) <| allOps_nil) (fun V w1 hb1 hall K hK => ?_)
        have h33 : V 33 = .map (some G) := hall.get 0 rfl (by decide)
        have h37 : V 37 = .int .i64 (f j) := hall.get 4 rfl (by decide)
        have h38 : V 38 = .agg (pk (k j)) := hall.get 5 rfl (by decide)
        clear hall
        refine op_mu rfl undMP h33 h37 h38 (HM2.out.on hb1) (by unfold maxLen; omega) (by have := F0.out; omega) (by have := F0.out; omega) ?_
        intro w3 hm3 hg3
        have HM3 := Lib.hid hm3
        have hlt3 := (HM2.out.on hb1).lt
        have HB3 : Hid (Below G w w3) := (belowB (Nat.le_of_lt HM2.out.lt) HB2.out hb1).grown hg3 (Nat.le_of_lt hlt3) (fun r hr => by cases hr; exact Nat.le_refl _)
        refine hK _ _ ?_
        simp only [mcl0, maskPut, Nat.reduceAdd]
        clear hm3 hg3 hK h33 h37 h38 hlt3 hb1 HB2 HM2 HP
        go_wp2
        go_roundw
        case rel => exact ⟨j + 1, by omega, by go_num, HB3.out, mpk_s k f j ▸ HM3.out, by rw [HQ3.out]; rfl⟩
        case measure => simp [intOf]; omega
      · cases he : pkEq (k j) q
        · go_wp2_with (first | (refine wl_look rfl _ _ _ rfl rfl rfl LK ?_) | (refine wl_st rfl _ _ rfl _ rfl rfl q rfl ?_) | (refine wl_lng _ rfl rfl wr.heap.size rfl (k j) HP2 ?_) | (refine wl_lng _ rfl rfl w1.heap.size rfl q HQ2 ?_) | (refine wl_neg _ _ _ rfl rfl (k j) q rfl rfl ?_))
          go_ret
          exact ⟨by rw [clk_up (j := j + 1) (by rw [HQ3.out, he]; rfl) n hlt]; rfl, hG.symm ▸ HB1.out.alloc (by omega) _⟩
        · go_upto_region 8 with (first | (refine wl_look rfl _ _ _ rfl rfl rfl LK ?_) | (refine wl_st rfl _ _ rfl _ rfl rfl q rfl ?_) | (refine wl_lng _ rfl rfl wr.heap.size rfl (k j) HP2 ?_) | (refine wl_lng _ rfl rfl w1.heap.size rfl q HQ2 ?_) | (refine wl_neg _ _ _ rfl rfl (k j) q rfl rfl ?_))
          have HB2 : Hid (Below G w (w1.alloc (.cells (pk q) 26))) := HB1.out.alloc (by omega) _
          have HM2 : Hid (MI (w1.alloc (.cells (pk q) 26)) G j (mpk k f j)) := HI1.out.alloc _
          have HP := Lib.hid HP2
          have cB0 := keep ((Below.refl _ _).alloc (Nat.le_refl _) (.cells (pk q) 26)) cB1
          clear HP2 HQ2 LK cB1 HQ
          generalize (w1.alloc (.cells (pk q) 26)) = w2 at *
          refine wp_region_last [mpEq (.map (some G)), mpEq (.slice (some ⟨bB, oB, none⟩) n cB), mpEq (.int .i64 j), mpEq (.pointer (some ⟨bB, oB + j, none⟩)), mpEq (.int .i64 (f j)), mpEq (.agg (pk (k j)))] 6 mcl0 (by kernel_rfl) (by kernel_rfl) (by kernel_rfl) rfl (by kernel_rfl) (
                allOps_cons (fun _ a' w' hb hs hd => rg_op fun K hK => by
              have e0 := (hs.get 5 (by kernel_rfl)).trans (show _ = .map (some G) from rfl)
              have ec : ∀ v, a'.eval (.const v) = v := fun _ => rfl
              clear hs hd
              unfold Oper.wp
              generalize a'.eval = ρ at e0 ec ⊢
              simp [go_sem, e0]
              exact hK _ _ (Below.refl _ _) rfl) <|
                allOps_cons (fun _ a' w' hb hs hd => rg_op fun K hK => by
              have e0 := (hs.get 1 (by kernel_rfl)).trans (show _ = .slice (some ⟨bB, oB, none⟩) n cB from rfl)
              have ec : ∀ v, a'.eval (.const v) = v := fun _ => rfl
              clear hs hd
              unfold Oper.wp
              generalize a'.eval = ρ at e0 ec ⊢
              simp [go_sem, e0]
              exact hK _ _ (Below.refl _ _) rfl) <|
                allOps_cons (fun _ a' w' hb hs hd => rg_op fun K hK => by
              have e0 := (hs.get 6 (by kernel_rfl)).trans (show _ = .int .i64 j from rfl)
              have ec : ∀ v, a'.eval (.const v) = v := fun _ => rfl
              clear hs hd
              unfold Oper.wp
              generalize a'.eval = ρ at e0 ec ⊢
              simp [go_sem, e0]
              exact hK _ _ (Below.refl _ _) rfl) <|
                allOps_cons (fun _ a' w' hb hs hd => rg_op fun K hK => by
              have e0 := (show a'.eval (.tmp 34) = .slice (some ⟨bB, oB, none⟩) n cB from hd.get 1 34 (by kernel_rfl) (by kernel_rfl))
              have e1 := (show a'.eval (.tmp 35) = .int .i64 j from hd.get 2 35 (by kernel_rfl) (by kernel_rfl))
              have e2 := g1
              have e3 := g2
              have ec : ∀ v, a'.eval (.const v) = v := fun _ => rfl
              clear hs hd
              unfold Oper.wp
              generalize a'.eval = ρ at e0 e1 e2 e3 ec ⊢
              simp [go_sem, e0, e1, e2, e3]
              exact hK _ _ (Below.refl _ _) rfl) <|
                allOps_cons (fun _ a' w' hb hs hd => rg_op fun K hK => by
              have e0 := (show a'.eval (.tmp 36) = .pointer (some ⟨bB, oB + j, none⟩) from hd.get 3 36 (by kernel_rfl) (by kernel_rfl))
              have ec : ∀ v, a'.eval (.const v) = v := fun _ => rfl
              have c0 := keep hb cB0
              clear hs hd
              unfold Oper.wp
              generalize a'.eval = ρ at e0 ec ⊢
              simp [go_sem, e0, c0]
              exact hK _ _ (Below.refl _ _) rfl) <|
                allOps_cons (fun _ a' w' hb hs hd => rg_op fun K hK => by
              have e0 := (hs.get 7 (by kernel_rfl)).trans (show _ = .pointer (some ⟨wr.heap.size, 0, none⟩) from rfl)
              have ld := ldP (w := w') (b := wr.heap.size) (o := 0) (p := k j) (fun i hi => keep hb (HP.out i hi))
              clear hs hd
              unfold Oper.wp execOp
              generalize a'.eval = ρ at e0 ⊢
              simp only [e0, Instr.loadAt, Instr.sureAddr, Sem.run_bind, Sem.run_pure, Result.andThen_ok, ld]
              exact hK _ _ (Below.refl _ _) rfl) <| allOps_cons (fun h => absurd rfl h) <| allOps_nil) (fun V w1 hb1 hall K hK => ?_)
          have h33 : V 33 = .map (some G) := hall.get 0 rfl (by decide)
          have h37 : V 37 = .int .i64 (f j) := hall.get 4 rfl (by decide)
          have h38 : V 38 = .agg (pk (k j)) := hall.get 5 rfl (by decide)
          clear hall
          refine op_mu rfl undMP h33 h37 h38 (HM2.out.on hb1) (by unfold maxLen; omega) (by have := F0.out; omega) (by have := F0.out; omega) ?_
          intro w3 hm3 hg3
          have HM3 := Lib.hid hm3
          have hlt3 := (HM2.out.on hb1).lt
          have HB3 : Hid (Below G w w3) := (belowB (Nat.le_of_lt HM2.out.lt) HB2.out hb1).grown hg3 (Nat.le_of_lt hlt3) (fun r hr => by cases hr; exact Nat.le_refl _)
          refine hK _ _ ?_
          simp only [mcl0, maskPut, Nat.reduceAdd]
          clear hm3 hg3 hK h33 h37 h38 hlt3 hb1 HB2 HM2 HP
          go_wp2
          go_roundw
          case rel => exact ⟨j + 1, by omega, by go_num, HB3.out, mpk_s k f j ▸ HM3.out, by rw [HQ3.out, he]; rfl⟩
          case measure => simp [intOf]; omega
    · obtain rfl : j = n := by omega
      clear hbel
      go_wp2
      go_ret
      exact ⟨by rw [HC.out]; rfl, hG.symm ▸ HB.out⟩

end Go.Proofs.Ytpkacfgmojblbaa
namespace Go.Proofs.Ytpkacfgmojblbaa
open Go.RowKit
attribute [local go_sem] old1 fro1 old2 fro2 old3 fro3 old4 fro4 old5 fro5 old6 fro6 old7 fro7 old8 fro8 old9 fro9 old10 fro10 old11 fro11 old12 fro12
def mg0 : List Bool := [false, false, true, true, true, true, true, true, true, true, true, true, true, true]
theorem infoG : (Try.prog.info? 23).map (fun i => (i.zero, i.size, i.bytes)) = some (some (.agg #[.int .i64 0, .int .i64 0]), 2, 16) := by kernel_rfl
theorem undGs : Try.prog.underlying 42 = some (.slice 23) := by kernel_rfl
/-- pairs as cells -/
def gV : Nat → (Nat → Int × Int) → List Value
  | 0, _ => []
  | n + 1, g => gV n g ++ [.int .i64 (g n).1, .int .i64 (g n).2]
theorem gV_len (g : Nat → Int × Int) : ∀ n, (gV n g).length = n * 2
  | 0 => rfl
  | n + 1 => by simp [gV, gV_len g n]; omega
theorem gV_get (g : Nat → Int × Int) : ∀ n i, i < n → (gV n g)[i * 2]? = some (.int .i64 (g i).1) ∧ (gV n g)[i * 2 + 1]? = some (.int .i64 (g i).2)
  | 0, i, h => absurd h (Nat.not_lt_zero i)
  | n + 1, i, h => by
    simp only [gV]
    have hl := gV_len g n
    by_cases e : i = n
    · subst e
      rw [List.getElem?_append_right (by omega), List.getElem?_append_right (by omega), hl]
      simp
    · have ih := gV_get g n i (by omega)
      rw [List.getElem?_append_left (by omega), List.getElem?_append_left (by omega)]
      exact ih
theorem own_gV {w : World} {base e n : Nat} {v : Value} {g : Nat → Int × Int} (h : w.ownsRow base e 2 v n (gV n g)) : v = .slice (sA v) n (sC v) ∧ GA w (sA v) n g ∧ (sA v = none → n = 0 ∧ sC v = 0) := by
  rcases h.2 with ⟨rfl, rfl⟩ | ⟨k, cap, cur, rfl, _⟩
  · exact ⟨rfl, fun h0 => absurd h0 (Nat.lt_irrefl 0), fun _ => ⟨rfl, rfl⟩⟩
  · refine ⟨rfl, fun _ => ⟨k, 0, rfl, fun i hi => ?_⟩, fun h => by cases h⟩
    have h0 := h.cells (g := k) rfl (i * 2) _ (gV_get g n i hi).1
    have h1 := h.cells (g := k) rfl (i * 2 + 1) _ (gV_get g n i hi).2
    rw [addr_addI] at h0 h1
    exact ⟨h0, by rw [Nat.add_assoc]; exact h1⟩
theorem news2 (w : World) (x y : Value) (t : TypeId) : ∀ j u, [x, y][j]? = some u → (w.alloc (.cells #[x, y] t)).cell? ((⟨w.heap.size, 0, none⟩ : Addr).add j) = some u := by
  intro j u hj
  match j, hj with
  | 0, hj => simp at hj; subst hj; simp [Addr.add]
  | 1, hj => simp at hj; subst hj; simp [Addr.add]
  | j + 2, hj => simp at hj
/-- a list that grows by its own: what lies below stays -/
theorem app_bel {wr w1 : World} {o : Obj} {B e sz n : Nat} {v : Value} {xs : List Value} (hB : B ≤ wr.heap.size) (hown : wr.ownsRow B e sz v n xs) (hg : (wr.alloc o).grownBy w1 v.ownBlock) : Below B wr w1 :=
  ((Below.refl B wr).alloc hB _).grown hg (by simp; omega) (fun i hi => (hown.lt i hi).1)
def flE (n : Nat) (xs : Nat → Int) (den : Int) : Int := if (if decide (0 < (n : Int)) then (0 : Int) else 10) = 0 then (if atEI 8 n xs (fun x => rgE x (-100) 100) = 0 then rgE den 1 100 else atEI 8 n xs (fun x => rgE x (-100) 100)) else (if decide (0 < (n : Int)) then 0 else 10)
theorem fl_0 {n : Nat} {xs : Nat → Int} {den : Int} (h : flE n xs den = 0) : (0 < n ∧ n ≤ 8) ∧ (1 ≤ den ∧ den ≤ 100) ∧ ∀ i, i < n → -100 ≤ xs i ∧ xs i ≤ 100 := by
  unfold flE at h
  by_cases h0 : 0 < (n : Int)
  · simp only [h0, decide_true, if_true] at h
    by_cases h1 : atEI 8 n xs (fun x => rgE x (-100) 100) = 0
    · rw [if_pos h1] at h
      unfold atEI at h1
      by_cases h2 : (n : Int) ≤ 8
      · rw [if_pos h2] at h1
        exact ⟨by omega, rg_0 h, fun i hi => rg_0 (ferr_all n 0 h1 i (by omega) (by omega))⟩
      · rw [if_neg h2] at h1; cases h1
    · rw [if_neg h1] at h; exact absurd h h1
  · have hn : n = 0 := by omega
    subst hn
    simp at h
set_option maxRecDepth 100000 in
set_option maxHeartbeats 800000 in
theorem checkFilter1_any (b : Nat) (A : Option Addr) (n c : Nat) (w : World) (h0 : w.cell? ⟨b, 0, none⟩ = some (.slice A n c)) :
    Calls Try.prog 117 #[.pointer (some ⟨b, 0, none⟩)] w fun e w' => e = .returned (.bool (decide (0 < (n : Int)))) ∧ Below w.heap.size w w' := by
  go_enter Try.func117, Try.ntmps117
  go_wp2
  go_ret
  exact ⟨ret_bool (by simp), by (repeat (first | with_reducible exact Below.refl _ _ | with_reducible assumption | with_reducible refine Below.alloc ?_ (by first | (simp; done) | (simp; omega) | omega) _ | with_reducible refine Below.setCell ?_ (by first | (simp; done) | (simp; omega) | omega) _ | with_reducible refine Below.drew ?_ | with_reducible refine below_drewN ?_ _))⟩

set_option maxRecDepth 100000 in
set_option maxHeartbeats 2000000 in
theorem checkFilter_any (A : Option Addr) (n c : Nat) (xs : Nat → Int) (den : Int) (w : World) (hn : n ≤ 1000000000) (hA : IA w A n xs) :
    Calls Try.prog 61 #[.agg #[.slice A n c, .int .i64 den]] w fun e w' => e = .returned (.int .i64 (flE n xs den)) ∧ Below w.heap.size w w' := by
  go_enter Try.func61, Try.ntmps61
  go_wp2_with fail
  have hbw : Below w.heap.size w (w.alloc (.cells #[.slice A n c, .int .i64 den] 82)) := by (repeat (first | with_reducible exact Below.refl _ _ | with_reducible assumption | with_reducible refine Below.alloc ?_ (by first | (simp; done) | (simp; omega) | omega) _ | with_reducible refine Below.setCell ?_ (by first | (simp; done) | (simp; omega) | omega) _ | with_reducible refine Below.drew ?_ | with_reducible refine below_drewN ?_ _))
  have HA := Lib.hid (hA.bel hbw)
  have p0 : (w.alloc (.cells #[.slice A n c, .int .i64 den] 82)).cell? ⟨w.heap.size, 0, none⟩ = some (.slice A n c) := by simp [go_sem]
  have p1 : (w.alloc (.cells #[.slice A n c, .int .i64 den] 82)).cell? ⟨w.heap.size, 1, none⟩ = some (.int .i64 den) := by simp [go_sem]
  clear hA
  generalize (w.alloc (.cells #[.slice A n c, .int .i64 den] 82)) = w1 at *
  refine wp_region_mp [mpCnd True (decide (0 < (n : Int))), mpChk (True) (if decide (0 < (n : Int)) then (0 : Int) else 10), mpEq (.pointer (some ⟨w.heap.size, 0, none⟩)), mpEq (.slice A n c), mpItm (iv) (fun x => rgE x (-100) 100), mpChk (True) (atEI 8 n xs (fun x => rgE x (-100) 100)), mpEq (.pointer (some ⟨w.heap.size, 1, none⟩)), mpEq (.int .i64 den), mpChk (True) (rgE den 1 100), mpChks 3 (fun i => if i = 0 then if decide (0 < (n : Int)) then (0 : Int) else 10 else if i = 1 then atEI 8 n xs (fun x => rgE x (-100) 100) else rgE den 1 100), mpEq (.int .i64 (flE n xs den)), mpEq (.int .i64 (flE n xs den))] mg0 (by kernel_rfl) (by kernel_rfl) (by kernel_rfl) (
      allOps_cons (fun a' w' hb hs hd => rg_op fun K hK => by
    have e0 := (hs.get 1 (by kernel_rfl)).trans (show _ = .pointer (some ⟨w.heap.size, 0, none⟩) from rfl)
    clear hs hd
    unfold Oper.wp
    generalize a'.eval = ρ at e0 ⊢
    simp [go_sem, e0]
    exact hK _ _ (Below.refl _ _) ⟨_, _, rfl, (enters_of Try.func117 (by kernel_rfl) rfl), fun w1 h1 _ => checkFilter1_any w.heap.size A n c w1 (keep (belowT hb h1) p0)⟩) <|
      allOps_cons (fun a' w' hb hs hd => by
    exact rg_fn (φ := (mpChk (True) (if decide (0 < (n : Int)) then (0 : Int) else 10)).p) (vs := #[.int .i64 10, a'.eval (.tmp 3)]) rfl (enters_of Try.func116 (by kernel_rfl) rfl) (by simp [(show a'.eval (.const (.int .i64 10)) = .int .i64 10 from rfl)]) ((require_chk 10 _ w' (show Cnd True (decide (0 < (n : Int))) (a'.eval (.tmp 3)) w' from hd.get 0 3 (by kernel_rfl) (by kernel_rfl))))) <|
      allOps_cons (fun a' w' hb hs hd => rg_op fun K hK => by
    have e0 := (hs.get 1 (by kernel_rfl)).trans (show _ = .pointer (some ⟨w.heap.size, 0, none⟩) from rfl)
    have ec : ∀ v, a'.eval (.const v) = v := fun _ => rfl
    clear hs hd
    unfold Oper.wp
    generalize a'.eval = ρ at e0 ec ⊢
    simp [go_sem, e0]
    exact hK _ _ (Below.refl _ _) rfl) <|
      allOps_cons (fun a' w' hb hs hd => rg_op fun K hK => by
    have e0 := (show a'.eval (.tmp 5) = .pointer (some ⟨w.heap.size, 0, none⟩) from hd.get 2 5 (by kernel_rfl) (by kernel_rfl))
    have ec : ∀ v, a'.eval (.const v) = v := fun _ => rfl
    have c0 := keep hb p0
    clear hs hd
    unfold Oper.wp
    generalize a'.eval = ρ at e0 ec ⊢
    simp [go_sem, e0, c0]
    exact hK _ _ (Below.refl _ _) rfl) <|
      allOps_cons (fun a' w' hb hs hd => by
    exact rg_fn (φ := (mpItm (iv) (fun x => rgE x (-100) 100)).p) (vs := #[Value.int IntKind.i64 (-100), .int .i64 100]) rfl (enters_of Try.func119 (by kernel_rfl) rfl) (by simp [(show a'.eval (.const (Value.int IntKind.i64 (-100))) = Value.int IntKind.i64 (-100) from rfl), (show a'.eval (.const (.int .i64 100)) = .int .i64 100 from rfl)]) (numbers_itm (-100) 100 w')) <|
      allOps_cons (fun a' w' hb hs hd => by
    exact rg_fn (φ := (mpChk (True) (atEI 8 n xs (fun x => rgE x (-100) 100))).p) (vs := #[.int .i64 8, .slice A n c, a'.eval (.tmp 7)]) rfl (enters_of Try.func118 (by kernel_rfl) rfl) (by simp [(show a'.eval (.const (.int .i64 8)) = .int .i64 8 from rfl), (show a'.eval (.tmp 6) = .slice A n c from hd.get 3 6 (by kernel_rfl) (by kernel_rfl))]) ((atmostI_chk A n c xs (fun x => rgE x (-100) 100) 8 _ w' hn (HA.out.bel hb) (show Itm iv (fun x => rgE x (-100) 100) (a'.eval (.tmp 7)) w' from hd.get 4 7 (by kernel_rfl) (by kernel_rfl))))) <|
      allOps_cons (fun a' w' hb hs hd => rg_op fun K hK => by
    have e0 := (hs.get 1 (by kernel_rfl)).trans (show _ = .pointer (some ⟨w.heap.size, 0, none⟩) from rfl)
    have ec : ∀ v, a'.eval (.const v) = v := fun _ => rfl
    clear hs hd
    unfold Oper.wp
    generalize a'.eval = ρ at e0 ec ⊢
    simp [go_sem, e0]
    exact hK _ _ (Below.refl _ _) rfl) <|
      allOps_cons (fun a' w' hb hs hd => rg_op fun K hK => by
    have e0 := (show a'.eval (.tmp 9) = .pointer (some ⟨w.heap.size, 1, none⟩) from hd.get 6 9 (by kernel_rfl) (by kernel_rfl))
    have ec : ∀ v, a'.eval (.const v) = v := fun _ => rfl
    have c0 := keep hb p1
    clear hs hd
    unfold Oper.wp
    generalize a'.eval = ρ at e0 ec ⊢
    simp [go_sem, e0, c0]
    exact hK _ _ (Below.refl _ _) rfl) <|
      allOps_cons (fun a' w' hb hs hd => by
    exact rg_fn (φ := (mpChk (True) (rgE den 1 100)).p) (vs := #[.int .i64 den, .int .i64 1, .int .i64 100]) rfl (enters_of Try.func88 (by kernel_rfl) rfl) (by simp [(show a'.eval (.tmp 10) = .int .i64 den from hd.get 7 10 (by kernel_rfl) (by kernel_rfl)), (show a'.eval (.const (.int .i64 1)) = .int .i64 1 from rfl), (show a'.eval (.const (.int .i64 100)) = .int .i64 100 from rfl)]) (range_chk den 1 100 w')) <|
      allOps_cons (fun a' w' hb hs hd => rg_op fun K hK => by
    have k0 : (mpChk (True) (if decide (0 < (n : Int)) then (0 : Int) else 10)).p (a'.eval (.tmp 4)) w' := hd.get 1 4 (by kernel_rfl) (by kernel_rfl)
    have k1 : (mpChk (True) (atEI 8 n xs (fun x => rgE x (-100) 100))).p (a'.eval (.tmp 8)) w' := hd.get 5 8 (by kernel_rfl) (by kernel_rfl)
    have k2 : (mpChk (True) (rgE den 1 100)).p (a'.eval (.tmp 11)) w' := hd.get 8 11 (by kernel_rfl) (by kernel_rfl)
    clear hs hd
    unfold Oper.wp
    generalize a'.eval = ρ at k0 k1 k2 ⊢
    obtain ⟨g0, f0, e0, h0⟩ := k0
    obtain ⟨g1, f1, e1, h1⟩ := k1
    obtain ⟨g2, f2, e2, h2⟩ := k2
    simp [go_sem, e0, e1, e2]
    have hx := (Below.refl w'.heap.size w').alloc (Nat.le_refl _) (.cells #[.func (.func g0) #[] f0, .func (.func g1) #[] f1, .func (.func g2) #[] f2] 121)
    refine hK _ _ hx ⟨_, rfl, fun i => if i = 0 then .func (.func g0) #[] f0 else if i = 1 then .func (.func g1) #[] f1 else .func (.func g2) #[] f2, fun i hi => ?_, fun i hi => ?_⟩
    · rcases (by omega : i = 0 ∨ i = 1 ∨ i = 2) with rfl | rfl | rfl <;> simp [go_sem]
    · rcases (by omega : i = 0 ∨ i = 1 ∨ i = 2) with rfl | rfl | rfl
      · exact Chk.imp (Chk.on (show Chk (True) (if decide (0 < (n : Int)) then (0 : Int) else 10) (.func (.func g0) #[] f0) w' from ⟨g0, f0, rfl, h0⟩) hx) (fun _ => trivial)
      · exact Chk.imp (Chk.on (show Chk (True) (atEI 8 n xs (fun x => rgE x (-100) 100)) (.func (.func g1) #[] f1) w' from ⟨g1, f1, rfl, h1⟩) hx) (fun _ => trivial)
      · exact Chk.imp (Chk.on (show Chk (True) (rgE den 1 100) (.func (.func g2) #[] f2) w' from ⟨g2, f2, rfl, h2⟩) hx) (fun _ => trivial)) <|
      allOps_cons (fun a' w' hb hs hd => by
    exact rg_fn (φ := (mpEq (.int .i64 (flE n xs den))).p) (vs := #[a'.eval (.tmp 12)]) rfl (enters_of Try.func87 (by kernel_rfl) rfl) (by simp) ((first_chks (n := 3) (er := (fun i => if i = 0 then if decide (0 < (n : Int)) then (0 : Int) else 10 else if i = 1 then atEI 8 n xs (fun x => rgE x (-100) 100) else rgE den 1 100)) (by omega) (by omega) (hd.get 9 12 (by kernel_rfl) (by kernel_rfl))).mono (by rintro e w1 ⟨rfl, h1⟩; exact ⟨_, rfl, h1, congrArg (Value.int .i64) (ferr_3 _ _ _)⟩))) <|
      allOps_cons (fun a' w' hb hs hd => rg_op fun K hK => by
    have e0 := (show a'.eval (.tmp 13) = .int .i64 (flE n xs den) from hd.get 10 13 (by kernel_rfl) (by kernel_rfl))
    have ec : ∀ v, a'.eval (.const v) = v := fun _ => rfl
    clear hs hd
    unfold Oper.wp
    generalize a'.eval = ρ at e0 ec ⊢
    simp [go_sem, e0]
    exact hK _ _ (Below.refl _ _) rfl) <| allOps_nil) (fun V w2 hb2 hall => ?_)
  have h2 : V 2 = .int .i64 (flE n xs den) := hall.get 11 rfl
  clear hall
  simp only [mg0, maskPut, Nat.reduceAdd]
  rw [h2]
  clear h2
  go_wp2_with fail
  go_ret
  exact ⟨rfl, belowT hbw hb2⟩
set_option maxRecDepth 100000 in
set_option maxHeartbeats 800000 in
theorem filterCheck1_any (b : Nat) (A : Option Addr) (n c : Nat) (xs : Nat → Int) (den : Int) (w : World) (hn : n ≤ 1000000000) (hA : IA w A n xs) (h0 : w.cell? ⟨b, 0, none⟩ = some (.slice A n c)) (h1 : w.cell? ⟨b, 1, none⟩ = some (.int .i64 den)) :
    Calls Try.prog 146 #[.pointer (some ⟨b, 0, none⟩)] w fun e w' => e = .returned (.int .i64 (flE n xs den)) ∧ Below w.heap.size w w' := by
  have HC := Lib.hid (checkFilter_any A n c xs den w hn hA)
  clear hA
  go_enter Try.func146, Try.ntmps146
  go_wp2_with (go_at_call 61; (with_reducible refine Calls.mono HC.out ?_); rintro e w1 ⟨rfl, hb1⟩; have B1 := Lib.hid hb1; clear hb1)
  go_ret
  exact ⟨rfl, B1.out⟩
set_option maxRecDepth 100000 in
set_option maxHeartbeats 800000 in
theorem filterCheck_chk (A : Option Addr) (n c : Nat) (xs : Nat → Int) (den : Int) (w : World) (hn : n ≤ 1000000000) (hA : IA w A n xs) :
    Calls Try.prog 114 #[.agg #[.slice A n c, .int .i64 den]] w fun e w' => ∃ v, e = .returned v ∧ Below w.heap.size w w' ∧ Chk True (flE n xs den) v w' := by
  go_enter Try.func114, Try.ntmps114
  go_wp2
  go_ret
  have hb : Below w.heap.size w (w.alloc (.cells #[.slice A n c, .int .i64 den] 82)) := by (repeat (first | with_reducible exact Below.refl _ _ | with_reducible assumption | with_reducible refine Below.alloc ?_ (by first | (simp; done) | (simp; omega) | omega) _ | with_reducible refine Below.setCell ?_ (by first | (simp; done) | (simp; omega) | omega) _ | with_reducible refine Below.drew ?_ | with_reducible refine below_drewN ?_ _))
  exact ⟨_, rfl, hb, _, _, rfl, (enters_of Try.func146 (by kernel_rfl) rfl), fun w1 h1 _ => filterCheck1_any w.heap.size A n c xs den w1 hn (hA.bel (belowT hb h1)) (keep h1 (by simp [go_sem])) (keep h1 (by simp [go_sem]))⟩
set_option maxRecDepth 100000 in
set_option maxHeartbeats 800000 in
theorem quarterCheck_chk (q : Int) (w : World) :
    Calls Try.prog 120 #[.int .i64 q] w fun e w' => ∃ v, e = .returned v ∧ Below w.heap.size w w' ∧ Chk True (rgE q 0 3) v w' := by
  have HR := Lib.hid (fun W => range_chk q 0 3 W)
  go_enter Try.func120, Try.ntmps120
  go_wp2_with (go_at_call 88; (with_reducible refine Calls.mono (HR.out _) ?_); rintro e w1 ⟨v, rfl, hb1, hc1⟩; have B1 := Lib.hid (belowT (show Below w.heap.size w _ by (repeat (first | with_reducible exact Below.refl _ _ | with_reducible assumption | with_reducible refine Below.alloc ?_ (by first | (simp; done) | (simp; omega) | omega) _ | with_reducible refine Below.setCell ?_ (by first | (simp; done) | (simp; omega) | omega) _ | with_reducible refine Below.drew ?_ | with_reducible refine below_drewN ?_ _))) hb1); have K1 := Lib.hid hc1; clear hb1 hc1)
  go_ret
  exact ⟨v, rfl, B1.out, K1.out⟩
def rsE (n : Nat) (xs : Nat → Int) (den q : Int) : Int := fs2 (flE n xs den) (rgE q 0 3)
set_option maxRecDepth 100000 in
set_option maxHeartbeats 2000000 in
theorem responseAt_err (A : Option Addr) (n c : Nat) (xs : Nat → Int) (den q E : Int) (hE : fs2 (flE n xs den) (rgE q 0 3) = E) (h0 : E ≠ 0) (w : World) (hn : n ≤ 1000000000) (hA : IA w A n xs) :
    Calls Try.prog 65 #[.agg #[.slice A n c, .int .i64 den], .int .i64 q] w fun e w' => e = .returned (.tuple #[.agg #[.int .i64 0, .int .i64 0], .int .i64 E]) ∧ Below w.heap.size w w' := by
  have HFC := Lib.hid (fun W (hW : Below w.heap.size w W) => filterCheck_chk A n c xs den W hn (hA.bel hW))
  have HQC := Lib.hid (fun W => quarterCheck_chk q W)
  have hq : (E != 0) = true := by simpa using h0
  clear h0 hA
  go_enter Try.func65, Try.ntmps65
  go_wp2_with (first
    | (go_at_call 114; (with_reducible refine Calls.mono (HFC.out _ (by (repeat (first | with_reducible exact Below.refl _ _ | with_reducible assumption | with_reducible refine Below.alloc ?_ (by first | (simp; done) | (simp; omega) | omega) _ | with_reducible refine Below.setCell ?_ (by first | (simp; done) | (simp; omega) | omega) _ | with_reducible refine Below.drew ?_ | with_reducible refine below_drewN ?_ _)))) ?_); rintro e y1 ⟨v0, rfl, hb1, g0, f0, rfl, hg0, hh0⟩; have BV := Lib.hid (belowT (show Below w.heap.size w _ by (repeat (first | with_reducible exact Below.refl _ _ | with_reducible assumption | with_reducible refine Below.alloc ?_ (by first | (simp; done) | (simp; omega) | omega) _ | with_reducible refine Below.setCell ?_ (by first | (simp; done) | (simp; omega) | omega) _ | with_reducible refine Below.drew ?_ | with_reducible refine below_drewN ?_ _))) hb1); have l0 := keep hb1 (b := w.heap.size) (o := 0) (v := .slice A n c) (by simp [go_sem]); have l1 := keep hb1 (b := w.heap.size) (o := 1) (v := .int .i64 den) (by simp [go_sem]); have r0 := keep hb1 (b := w.heap.size + 1) (o := 0) (v := .int .i64 0) (by simp [go_sem]); have r1 := keep hb1 (b := w.heap.size + 1) (o := 1) (v := .int .i64 0) (by simp [go_sem]); have K0 := Lib.hid (show Chk True _ (.func (.func g0) #[] f0) y1 from ⟨g0, f0, rfl, hg0, hh0⟩); have z0 : y1.frozen? ⟨w.heap.size + 1, 0, none⟩ = false := (hb1.frozen (p := ⟨w.heap.size + 1, 0, none⟩) (by simp)).trans (by simp [go_sem]); have z1 : y1.frozen? ⟨w.heap.size + 1, 1, none⟩ = false := (hb1.frozen (p := ⟨w.heap.size + 1, 1, none⟩) (by simp)).trans (by simp [go_sem]); clear hg0 hh0; clear hb1)
    | (go_at_call 120; (with_reducible refine Calls.mono (HQC.out _) ?_); rintro e y2 ⟨v1, rfl, hb2, g1, f1, rfl, hg1, hh1⟩; replace z0 := (hb2.frozen (p := ⟨w.heap.size + 1, 0, none⟩) (by have := lt_of r0; omega)).trans z0; replace z1 := (hb2.frozen (p := ⟨w.heap.size + 1, 1, none⟩) (by have := lt_of r0; omega)).trans z1; replace l0 := keep hb2 l0; replace l1 := keep hb2 l1; replace r0 := keep hb2 r0; replace r1 := keep hb2 r1; replace BV := Lib.hid (belowT (show Below w.heap.size w _ by have Bq := BV.out; (repeat (first | with_reducible exact Below.refl _ _ | with_reducible assumption | with_reducible refine Below.alloc ?_ (by first | (simp; done) | (simp; omega) | omega) _ | with_reducible refine Below.setCell ?_ (by first | (simp; done) | (simp; omega) | omega) _ | with_reducible refine Below.drew ?_ | with_reducible refine below_drewN ?_ _))) hb2); have K1 := Lib.hid (show Chk True _ (.func (.func g1) #[] f1) y2 from ⟨g1, f1, rfl, hg1, hh1⟩); replace K0 := Lib.hid (K0.out.on hb2); clear hg1 hh1; clear hb2)
    | (go_at_call 87; (with_reducible refine Calls.mono (hE ▸ first_2 _ K0.out K1.out trivial (fun _ => trivial)) ?_); rintro e y3 ⟨rfl, hb3⟩; replace z0 := (hb3.frozen (p := ⟨w.heap.size + 1, 0, none⟩) (by have := lt_of r0; omega)).trans z0; replace z1 := (hb3.frozen (p := ⟨w.heap.size + 1, 1, none⟩) (by have := lt_of r0; omega)).trans z1; replace l0 := keep hb3 l0; replace l1 := keep hb3 l1; replace r0 := keep hb3 r0; replace r1 := keep hb3 r1; replace BV := Lib.hid (belowT (show Below w.heap.size w _ by have Bq := BV.out; (repeat (first | with_reducible exact Below.refl _ _ | with_reducible assumption | with_reducible refine Below.alloc ?_ (by first | (simp; done) | (simp; omega) | omega) _ | with_reducible refine Below.setCell ?_ (by first | (simp; done) | (simp; omega) | omega) _ | with_reducible refine Below.drew ?_ | with_reducible refine below_drewN ?_ _))) hb3); clear hb3))
  refine bodyPost_ret (v := .tuple #[.agg #[.int .i64 0, .int .i64 0], .int .i64 E]) (by simp [results, Try.results65, go_sem, *]) rfl ⟨rfl, by have Bq := BV.out; (repeat (first | with_reducible exact Below.refl _ _ | with_reducible assumption | with_reducible refine Below.alloc ?_ (by first | (simp; done) | (simp; omega) | omega) _ | with_reducible refine Below.setCell ?_ (by first | (simp; done) | (simp; omega) | omega) _ | with_reducible refine Below.drew ?_ | with_reducible refine below_drewN ?_ _))⟩
theorem fs2_0 {a b : Int} (h : fs2 a b = 0) : a = 0 ∧ b = 0 := by
  unfold fs2 at h
  by_cases h1 : a = 0
  · rw [if_pos h1] at h; exact ⟨h1, h⟩
  · rw [if_neg h1] at h; exact absurd h h1
def re0 (xs : Nat → Int) (i : Nat) : Int × Int := (xs i, 0)
set_option maxRecDepth 100000 in
set_option maxHeartbeats 2000000 in
theorem responseAt_ok (A : Option Addr) (n c : Nat) (xs : Nat → Int) (den q : Int) (hE : fs2 (flE n xs den) (rgE q 0 3) = 0) (w : World) (hA : IA w A n xs) :
    Calls Try.prog 65 #[.agg #[.slice A n c, .int .i64 den], .int .i64 q] w fun e w' => e = .returned (.tuple #[.agg #[.int .i64 (bnS (-q) (re0 xs) n).1, .int .i64 (bnS (-q) (re0 xs) n).2], .int .i64 0]) ∧ Below w.heap.size w w' := by
  obtain ⟨hfl, hrg⟩ := fs2_0 hE
  obtain ⟨⟨n0, n8⟩, _, hxs⟩ := fl_0 hfl
  obtain ⟨q0, q1⟩ := rg_0 hrg
  have hn : n ≤ 1000000000 := by omega
  have HFC := Lib.hid (fun W (hW : Below w.heap.size w W) => filterCheck_chk A n c xs den W hn (hA.bel hW))
  have HQC := Lib.hid (fun W => quarterCheck_chk q W)
  have HBN := Lib.hid (fun A' c' W (hW : GA W A' n (re0 xs)) => bin_any A' n c' (re0 xs) q W (by omega) hW (by omega) (by omega) (fun i hi => by have := hxs i hi; simp only [re0]; omega))
  obtain ⟨i0, hi0, hz0, hz1, hz2⟩ := info_parts infoG
  have HA := Lib.hid hA
  clear hA hfl hrg hxs q0 q1
  generalize hG : re0 xs = gg at *
  have hgk : ∀ k : Nat, gg k = (xs k, 0) := fun k => by rw [← hG]; rfl
  go_enter Try.func65, Try.ntmps65
  go_wp2_with (first
    | (go_at_call 114; (with_reducible refine Calls.mono (HFC.out _ (by (repeat (first | with_reducible exact Below.refl _ _ | with_reducible assumption | with_reducible refine Below.alloc ?_ (by first | (simp; done) | (simp; omega) | omega) _ | with_reducible refine Below.setCell ?_ (by first | (simp; done) | (simp; omega) | omega) _ | with_reducible refine Below.drew ?_ | with_reducible refine below_drewN ?_ _)))) ?_); rintro e y1 ⟨v0, rfl, hb1, g0, f0, rfl, hg0, hh0⟩; have BV := Lib.hid (belowT (show Below w.heap.size w _ by (repeat (first | with_reducible exact Below.refl _ _ | with_reducible assumption | with_reducible refine Below.alloc ?_ (by first | (simp; done) | (simp; omega) | omega) _ | with_reducible refine Below.setCell ?_ (by first | (simp; done) | (simp; omega) | omega) _ | with_reducible refine Below.drew ?_ | with_reducible refine below_drewN ?_ _))) hb1); have l0 := keep hb1 (b := w.heap.size) (o := 0) (v := .slice A n c) (by simp [go_sem]); have l1 := keep hb1 (b := w.heap.size) (o := 1) (v := .int .i64 den) (by simp [go_sem]); have r0 := keep hb1 (b := w.heap.size + 1) (o := 0) (v := .int .i64 0) (by simp [go_sem]); have r1 := keep hb1 (b := w.heap.size + 1) (o := 1) (v := .int .i64 0) (by simp [go_sem]); have K0 := Lib.hid (show Chk True _ (.func (.func g0) #[] f0) y1 from ⟨g0, f0, rfl, hg0, hh0⟩); have z0 : y1.frozen? ⟨w.heap.size + 1, 0, none⟩ = false := (hb1.frozen (p := ⟨w.heap.size + 1, 0, none⟩) (by simp)).trans (by simp [go_sem]); have z1 : y1.frozen? ⟨w.heap.size + 1, 1, none⟩ = false := (hb1.frozen (p := ⟨w.heap.size + 1, 1, none⟩) (by simp)).trans (by simp [go_sem]); clear hg0 hh0; clear hb1)
    | (go_at_call 120; (with_reducible refine Calls.mono (HQC.out _) ?_); rintro e y2 ⟨v1, rfl, hb2, g1, f1, rfl, hg1, hh1⟩; replace z0 := (hb2.frozen (p := ⟨w.heap.size + 1, 0, none⟩) (by have := lt_of r0; omega)).trans z0; replace z1 := (hb2.frozen (p := ⟨w.heap.size + 1, 1, none⟩) (by have := lt_of r0; omega)).trans z1; replace l0 := keep hb2 l0; replace l1 := keep hb2 l1; replace r0 := keep hb2 r0; replace r1 := keep hb2 r1; replace BV := Lib.hid (belowT (show Below w.heap.size w _ by have Bq := BV.out; (repeat (first | with_reducible exact Below.refl _ _ | with_reducible assumption | with_reducible refine Below.alloc ?_ (by first | (simp; done) | (simp; omega) | omega) _ | with_reducible refine Below.setCell ?_ (by first | (simp; done) | (simp; omega) | omega) _ | with_reducible refine Below.drew ?_ | with_reducible refine below_drewN ?_ _))) hb2); have K1 := Lib.hid (show Chk True _ (.func (.func g1) #[] f1) y2 from ⟨g1, f1, rfl, hg1, hh1⟩); replace K0 := Lib.hid (K0.out.on hb2); clear hg1 hh1; clear hb2)
    | (go_at_call 87; (with_reducible refine Calls.mono (hE ▸ first_2 _ K0.out K1.out trivial (fun _ => trivial)) ?_); rintro e y3 ⟨rfl, hb3⟩; replace z0 := (hb3.frozen (p := ⟨w.heap.size + 1, 0, none⟩) (by have := lt_of r0; omega)).trans z0; replace z1 := (hb3.frozen (p := ⟨w.heap.size + 1, 1, none⟩) (by have := lt_of r0; omega)).trans z1; replace l0 := keep hb3 l0; replace l1 := keep hb3 l1; replace r0 := keep hb3 r0; replace r1 := keep hb3 r1; replace BV := Lib.hid (belowT (show Below w.heap.size w _ by have Bq := BV.out; (repeat (first | with_reducible exact Below.refl _ _ | with_reducible assumption | with_reducible refine Below.alloc ?_ (by first | (simp; done) | (simp; omega) | omega) _ | with_reducible refine Below.setCell ?_ (by first | (simp; done) | (simp; omega) | omega) _ | with_reducible refine Below.drew ?_ | with_reducible refine below_drewN ?_ _))) hb3); clear hb3))
  have hsz : w.heap.size + 1 < y3.heap.size := lt_of r0
  go_loopw [7, 9, 23] (fun s7 s9 s23 wr => ∃ (k : Nat), k ≤ n ∧ s23 = .int .i64 k ∧ Below w.heap.size w wr ∧ w.heap.size + 1 < wr.heap.size ∧ Hid (wr.ownsRow (w.heap.size + 2) 23 2 s7 k (gV k gg)) ∧ ((wr.cell? ⟨w.heap.size, 0, none⟩ = some (.slice A n c) ∧ wr.cell? ⟨w.heap.size + 1, 0, none⟩ = some (.int .i64 0) ∧ wr.cell? ⟨w.heap.size + 1, 1, none⟩ = some (.int .i64 0)) ∧ wr.frozen? ⟨w.heap.size + 1, 0, none⟩ = false ∧ wr.frozen? ⟨w.heap.size + 1, 1, none⟩ = false)) (fun _ _ i _ => n - (intOf i).toNat)
  case atStart => exact ⟨0, Nat.zero_le _, rfl, BV.out, hsz, World.ownsRow_nil _ _ _ _, ⟨l0, r0, r1⟩, z0, z1⟩
  case round =>
    obtain ⟨k, hk, rfl, hbel, hsz2, HO, ⟨l0', r0', r1'⟩, z0', z1'⟩ := hrel
    have HB := Lib.hid hbel
    by_cases hlt : k < n
    · obtain ⟨bA, oA, rfl, hA2⟩ := HA.out.bel hbel (by omega)
      have x0 := hA2 k hlt
      have HS : Hid (gV (k + 1) gg = gV k gg ++ [.int .i64 (xs k), .int .i64 0]) := Lib.hid (by simp only [gV, hgk])
      have g1 : (0 : Int) ≤ (k : Int) := by omega
      have g2 : (k : Int) < (n : Int) := by omega
      clear hbel hA2
      go_wp2_with (at_builtin; go_loud (refine wpList_append_own_at _ rfl _ _ 42 rfl (w.heap.size + 2) 23 i0 _ 2 16 undGs hi0 hz0 hz1 hz2 rfl (by decide) u7 _ _ rfl (HO.out.alloc _) ⟨wr.heap.size, 0, none⟩ 1 1 [.int .i64 (xs k), .int .i64 0] rfl rfl (news2 _ _ _ _) (by simp [Value.oneCell']) (by unfold maxLen; omega) (by omega) (by simp; omega) ?_; intro v' w5 hown' hgrow hnil hloc; rw [← HS.out] at hown'; have HO5 := Lib.hid hown'; have BW := app_bel (by omega) HO.out hgrow; have HB5 := Lib.hid (HB.out.trans (BW.mono (by omega))); have L0 := (BW.cell (p := ⟨w.heap.size, 0, none⟩) (by show w.heap.size < _; omega)).trans l0'; have R0 := (BW.cell (p := ⟨w.heap.size + 1, 0, none⟩) (by show w.heap.size + 1 < _; omega)).trans r0'; have R1 := (BW.cell (p := ⟨w.heap.size + 1, 1, none⟩) (by show w.heap.size + 1 < _; omega)).trans r1'; have Z0 := (BW.frozen (p := ⟨w.heap.size + 1, 0, none⟩) (by show w.heap.size + 1 < _; omega)).trans z0'; have Z1 := (BW.frozen (p := ⟨w.heap.size + 1, 1, none⟩) (by show w.heap.size + 1 < _; omega)).trans z1'; have hs5 : w.heap.size + 1 < w5.heap.size := Nat.lt_of_lt_of_le hsz2 BW.size; clear hown' hgrow hnil hloc BW))
      go_roundw
      case rel => exact ⟨k + 1, by omega, by go_num, HB5.out, hs5, HO5.out, ⟨L0, R0, R1⟩, Z0, Z1⟩
      case measure => simp [intOf]; omega
    · obtain rfl : k = n := by omega
      clear hbel
      obtain ⟨e7, h7, _⟩ := own_gV HO.out
      have HG := Lib.hid h7
      generalize sA u7 = A7 at *
      generalize sC u7 = C7 at *
      subst e7
      clear h7
      generalize hX : (bnS (-q) gg k).1 = X at *
      generalize hY : (bnS (-q) gg k).2 = Y at *
      go_wp2_with (go_at_call 121; (with_reducible refine Calls.mono (HBN.out _ _ _ HG.out) ?_); rintro e w6 ⟨rfl, hb6⟩; have HB6 := Lib.hid (belowT HB.out hb6); have R0 := keep hb6 r0'; have R1 := keep hb6 r1'; have Z0 := (hb6.frozen (p := ⟨w.heap.size + 1, 0, none⟩) (lt_of r0')).trans z0'; have Z1 := (hb6.frozen (p := ⟨w.heap.size + 1, 1, none⟩) (lt_of r1')).trans z1'; clear hb6)
      refine bodyPost_ret (v := .tuple #[.agg #[.int .i64 X, .int .i64 Y], .int .i64 0]) (by simp [results, Try.results65, go_sem, *]) rfl ⟨by rw [hX, hY], by have Bq := HB6.out; (repeat (first | with_reducible exact Below.refl _ _ | with_reducible assumption | with_reducible refine Below.alloc ?_ (by first | (simp; done) | (simp; omega) | omega) _ | with_reducible refine Below.setCell ?_ (by first | (simp; done) | (simp; omega) | omega) _ | with_reducible refine Below.drew ?_ | with_reducible refine below_drewN ?_ _))⟩
end Go.Proofs.Ytpkacfgmojblbaa
