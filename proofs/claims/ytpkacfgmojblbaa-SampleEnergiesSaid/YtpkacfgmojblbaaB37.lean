/- Helpers: arrays of four pairs, held opaque: loaded, stored, compared; Restored on both sides in one word. No condition but the hypotheses that each theorem names. -/
import Derived.Test.YtpkacfgmojblbaaB34
import Derived.Test.YtpkacfgmojblbaaB36
import Derived.Test.YtpkacfgmojblbaaB23
namespace Go.Proofs.Ytpkacfgmojblbaa
open Go.RowKit
attribute [local go_sem] old1 fro1 old2 fro2 old3 fro3 old4 fro4 old5 fro5 old6 fro6 old7 fro7 old8 fro8 old9 fro9 old10 fro10 old11 fro11 old12 fro12
/-- eight numbers -/
def arr (f : Nat → Int) : Array Value := #[.int .i64 (f 0), .int .i64 (f 1), .int .i64 (f 2), .int .i64 (f 3), .int .i64 (f 4), .int .i64 (f 5), .int .i64 (f 6), .int .i64 (f 7)]
theorem arr_im (w : World) (f : Nat → Int) (T : TypeId) : IM (w.alloc (.cells (arr f) T)) w.heap.size 8 f := by
  refine ⟨by simp, fun i hi => ⟨?_, by simp [go_sem]⟩⟩
  unfold arr
  rcases (by omega : i = 0 ∨ i = 1 ∨ i = 2 ∨ i = 3 ∨ i = 4 ∨ i = 5 ∨ i = 6 ∨ i = 7) with rfl | rfl | rfl | rfl | rfl | rfl | rfl | rfl <;> simp [go_sem]
theorem ld8 {w : World} {b : Nat} {f : Nat → Int} (h : IM w b 8 f) : (loadVar 102 ⟨b, 0, none⟩).run Try.prog w = .ok (.agg (arr f)) w := by
  have c0 := (h.2 0 (by omega)).1
  have c1 := (h.2 1 (by omega)).1
  have c2 := (h.2 2 (by omega)).1
  have c3 := (h.2 3 (by omega)).1
  have c4 := (h.2 4 (by omega)).1
  have c5 := (h.2 5 (by omega)).1
  have c6 := (h.2 6 (by omega)).1
  have c7 := (h.2 7 (by omega)).1
  simp [go_sem, c0, c1, c2, c3, c4, c5, c6, c7, arr]
theorem wl_ld8 {ops : Array Oper} {rest : List Oper} {op : Oper} {a : Act} {w : World} {Q : Exit → Act → World → Prop} (hgd : Region.wanted op (yielded ops a.tmps) = true) (x : Operand) (ho : op.op = .load 102 x) (b : Nat) (hx : a.eval x = .pointer (some ⟨b, 0, none⟩)) (f : Nat → Int) (hc : IM w b 8 f)
    (h : wpList Try.prog ops Q rest (a.put op.dst (.agg (arr f))) w) : wpList Try.prog ops Q (op :: rest) a w := by
  refine wpList_step fun K hK => ?_
  rw [if_pos hgd]
  unfold Oper.wp execOp
  simp only [ho, hx, Instr.loadAt, Instr.sureAddr, Sem.run_bind, Sem.run_pure, Result.andThen_ok, ld8 hc]
  exact hK _ _ h
theorem op_ld8 {op : Oper} {a : Act} {w : World} {K : Act → World → Prop} {Q : Exit → Act → World → Prop} {x : Operand} (ho : op.op = .load 102 x) {b : Nat} (hx : a.eval x = .pointer (some ⟨b, 0, none⟩)) {f : Nat → Int} (hc : IM w b 8 f) (h : K (a.put op.dst (.agg (arr f))) w) : op.wp Try.prog a w K Q := by
  unfold Oper.wp execOp
  simp only [ho, hx, Instr.loadAt, Instr.sureAddr, Sem.run_bind, Sem.run_pure, Result.andThen_ok, ld8 hc]
  exact h

set_option maxRecDepth 100000 in
set_option maxHeartbeats 800000 in
theorem ar_ne (f : Nat → Int) (w : World) : (binOp .neq 102 (.agg (arr f)) (.agg (arr f))).run Try.prog w = .ok (.bool false) w := by
  have hc : Try.prog.cellsOf 23 = 2 := by kernel_rfl
  unfold arr
  simp [go_sem]
  rw [run_equalIn_array _ 9999 (e := 23) (n := 4) _ _ rfl rfl]
  simp [go_sem, Op.eqItems, List.range, List.range.loop, hc]
set_option maxRecDepth 100000 in
set_option maxHeartbeats 800000 in
theorem ar_eq (f : Nat → Int) (w : World) : (binOp .eql 102 (.agg (arr f)) (.agg (arr f))).run Try.prog w = .ok (.bool true) w := by
  have hc : Try.prog.cellsOf 23 = 2 := by kernel_rfl
  unfold arr
  simp [go_sem]
  rw [run_equalIn_array _ 9999 (e := 23) (n := 4) _ _ rfl rfl]
  simp [go_sem, Op.eqItems, List.range, List.range.loop, hc]
theorem ar_guard (o : BinOp) (ho : o = .neq ∨ o = .eql) (x y : Operand) (f : Nat → Int) (w : World) : (eqGuard o 102 x y (.agg (arr f)) (.agg (arr f))).run Try.prog w = .ok () w := by
  have hge : Try.prog.eqGuardType Try.prog.depth 102 = false := by kernel_rfl
  rcases ho with rfl | rfl <;> simp [eqGuard, hge, go_sem]
theorem wl_arE {ops : Array Oper} {rest : List Oper} {op : Oper} {a : Act} {w : World} {Q : Exit → Act → World → Prop} (x y : Operand) (t2 : TypeId) (ho : op.op = .binOp .eql 102 x y t2) (hgd : Region.wanted op (yielded ops a.tmps) = true) (f : Nat → Int) (hx : a.eval x = .agg (arr f)) (hy : a.eval y = .agg (arr f))
    (h : wpList Try.prog ops Q rest (a.put op.dst (.bool true)) w) : wpList Try.prog ops Q (op :: rest) a w := by
  refine wpList_step fun K hK => ?_
  rw [if_pos hgd]
  unfold Oper.wp execOp
  simp only [ho, hx, hy, Sem.run_bind, Sem.run_pure, Result.andThen_ok, ar_guard .eql (.inr rfl), ar_eq]
  exact hK _ _ h
theorem wl_arN {ops : Array Oper} {rest : List Oper} {op : Oper} {a : Act} {w : World} {Q : Exit → Act → World → Prop} (x y : Operand) (t2 : TypeId) (ho : op.op = .binOp .neq 102 x y t2) (hgd : Region.wanted op (yielded ops a.tmps) = true) (f : Nat → Int) (hx : a.eval x = .agg (arr f)) (hy : a.eval y = .agg (arr f))
    (h : wpList Try.prog ops Q rest (a.put op.dst (.bool false)) w) : wpList Try.prog ops Q (op :: rest) a w := by
  refine wpList_step fun K hK => ?_
  rw [if_pos hgd]
  unfold Oper.wp execOp
  simp only [ho, hx, hy, Sem.run_bind, Sem.run_pure, Result.andThen_ok, ar_guard .neq (.inl rfl), ar_ne]
  exact hK _ _ h
theorem op_arN {op : Oper} {a : Act} {w : World} {K : Act → World → Prop} {Q : Exit → Act → World → Prop} {x y : Operand} {t2 : TypeId} (ho : op.op = .binOp .neq 102 x y t2) {f : Nat → Int} (hx : a.eval x = .agg (arr f)) (hy : a.eval y = .agg (arr f)) (h : K (a.put op.dst (.bool false)) w) : op.wp Try.prog a w K Q := by
  unfold Oper.wp execOp
  simp only [ho, hx, hy, Sem.run_bind, Sem.run_pure, Result.andThen_ok, ar_guard .neq (.inl rfl), ar_ne]
  exact h

set_option maxRecDepth 100000 in
set_option maxHeartbeats 800000 in
theorem st8 {w : World} {b : Nat} {f0 : Nat → Int} (hc : IM w b 8 f0) (f : Nat → Int) : ∃ w', (storeVar 102 ⟨b, 0, none⟩ (.agg (arr f))).run Try.prog w = .ok () w' ∧ IM w' b 8 f ∧ Below b w w' := by
  have c0 := (hc.2 0 (by omega)).1
  have c1 := (hc.2 1 (by omega)).1
  have c2 := (hc.2 2 (by omega)).1
  have c3 := (hc.2 3 (by omega)).1
  have c4 := (hc.2 4 (by omega)).1
  have c5 := (hc.2 5 (by omega)).1
  have c6 := (hc.2 6 (by omega)).1
  have c7 := (hc.2 7 (by omega)).1
  have z0 := (hc.2 0 (by omega)).2
  have z1 := (hc.2 1 (by omega)).2
  have z2 := (hc.2 2 (by omega)).2
  have z3 := (hc.2 3 (by omega)).2
  have z4 := (hc.2 4 (by omega)).2
  have z5 := (hc.2 5 (by omega)).2
  have z6 := (hc.2 6 (by omega)).2
  have z7 := (hc.2 7 (by omega)).2
  refine ⟨_, by simp [go_sem, c0, c1, c2, c3, c4, c5, c6, c7, z0, z1, z2, z3, z4, z5, z6, z7, arr]; rfl, ((((((((hc.set (k := 0) (by omega) _).set (k := 1) (by omega) _).set (k := 2) (by omega) _).set (k := 3) (by omega) _).set (k := 4) (by omega) _).set (k := 5) (by omega) _).set (k := 6) (by omega) _).set (k := 7) (by omega) _).same (fun i hi => ?_), (((((((((Below.refl b w).setCell (Nat.le_refl _) _).setCell (Nat.le_refl _) _).setCell (Nat.le_refl _) _).setCell (Nat.le_refl _) _).setCell (Nat.le_refl _) _).setCell (Nat.le_refl _) _).setCell (Nat.le_refl _) _).setCell (Nat.le_refl _) _)⟩
  rcases (by omega : i = 0 ∨ i = 1 ∨ i = 2 ∨ i = 3 ∨ i = 4 ∨ i = 5 ∨ i = 6 ∨ i = 7) with rfl | rfl | rfl | rfl | rfl | rfl | rfl | rfl <;> rfl
theorem wl_st8 {ops : Array Oper} {rest : List Oper} {op : Oper} {a : Act} {w : World} {Q : Exit → Act → World → Prop} (hgd : op.guard = none) (x y : Operand) (ho : op.op = .store 102 x y) (b : Nat) (hx : a.eval x = .pointer (some ⟨b, 0, none⟩)) (f0 f : Nat → Int) (hc : IM w b 8 f0) (hy : a.eval y = .agg (arr f))
    (h : ∀ w', IM w' b 8 f → Below b w w' → wpList Try.prog ops Q rest (a.put op.dst undef) w') : wpList Try.prog ops Q (op :: rest) a w := by
  obtain ⟨w', hr, h1, h2⟩ := st8 hc f
  refine wpList_plain hgd fun K hK => ?_
  unfold Oper.wp execOp
  simp only [ho, hx, hy, Instr.storeAt, Instr.sureAddr, Sem.run_bind, Sem.run_pure, Result.andThen_ok, hr]
  exact hK _ _ (h w' h1 h2)
theorem sizeA4 : (Try.prog.info? 102).map (·.size) = some 8 := by kernel_rfl
theorem arr_size (f : Nat → Int) : (arr f).size = 8 := rfl
theorem arr_one (f : Nat → Int) : (arr f).all (·.oneCell') = true := by simp [arr, Value.oneCell']
theorem wl_st8n {ops : Array Oper} {rest : List Oper} {op : Oper} {a : Act} {w : World} {Q : Exit → Act → World → Prop} (hgd : op.guard = none) (x y : Operand) (ho : op.op = .store 102 x y) (c : Array Value) (hx : a.eval x = .pointer (some ⟨w.heap.size, 0, none⟩)) (hc : c.size = 8) (f : Nat → Int) (hy : a.eval y = .agg (arr f))
    (h : wpList Try.prog ops Q rest (a.put op.dst undef) (w.alloc (.cells (arr f) 102))) : wpList Try.prog ops Q (op :: rest) a (w.alloc (.cells c 102)) := by
  refine wpList_plain hgd fun K hK => ?_
  have hr : (storeVar 102 ⟨w.heap.size, 0, none⟩ (.agg (arr f))).run Try.prog (w.alloc (.cells c 102)) = .ok () (w.alloc (.cells (arr f) 102)) :=
    run_storeVar_new w _ c (arr f) (by rw [sizeA4, arr_size]) (by rw [hc, arr_size]) (arr_one f)
  unfold Oper.wp execOp
  simp only [ho, hx, hy, Instr.storeAt, Instr.sureAddr, Sem.run_bind, Sem.run_pure, Result.andThen_ok, hr]
  exact hK _ _ h
theorem first_no (g : Nat → Int × Int) : (∀ j, j < 4 → rsK g j) ∨ ∃ f, f < 4 ∧ (∀ j, j < f → rsK g j) ∧ ¬ rsK g f := by
  by_cases h0 : rsK g 0
  · by_cases h1 : rsK g 1
    · by_cases h2 : rsK g 2
      · by_cases h3 : rsK g 3
        · exact .inl fun j hj => by rcases (by omega : j = 0 ∨ j = 1 ∨ j = 2 ∨ j = 3) with rfl | rfl | rfl | rfl <;> assumption
        · exact .inr ⟨3, by omega, fun j hj => by rcases (by omega : j = 0 ∨ j = 1 ∨ j = 2) with rfl | rfl | rfl <;> assumption, h3⟩
      · exact .inr ⟨2, by omega, fun j hj => by rcases (by omega : j = 0 ∨ j = 1) with rfl | rfl <;> assumption, h2⟩
    · exact .inr ⟨1, by omega, fun j hj => by obtain rfl : j = 0 := by omega
                                              assumption, h1⟩
  · exact .inr ⟨0, by omega, fun j hj => absurd hj (Nat.not_lt_zero _), h0⟩
/-- Restored on both sides -/
theorem restored_both (g : Nat → Int × Int) (hE : b4E 8000 g = 0) : ∃ (z : Nat → Int) (E : Int), (∀ w, Calls Try.prog 74 #[.agg (arr (flt g))] w fun e w' => e = .returned (.tuple #[.agg (arr z), .int .i64 E]) ∧ Below w.heap.size w w') ∧ (∀ w, Calls Try.prog 76 #[.agg (arr (flt g))] w fun e w' => e = .returned (.tuple #[.agg (arr z), .int .i64 E]) ∧ Below w.heap.size w w') := by
  rcases first_no g with ha | ⟨f, hf, hlo, hno⟩
  · by_cases h2 : b4E 2000 (rsF g) = 0
    · exact ⟨flt (rsF g), 0, fun w => restoredS_ok g w hE ha h2, fun w => restoredR_ok g w hE ha h2⟩
    · exact ⟨fun _ => 0, _, fun w => restoredS_e1 g _ w hE ha rfl h2, fun w => restoredR_e1 g _ w hE ha rfl h2⟩
  · exact ⟨fun _ => 0, 3, fun w => restoredS_e3 g f w hE hf hlo hno, fun w => restoredR_e3 g f w hE hf hlo hno⟩
end Go.Proofs.Ytpkacfgmojblbaa
