/- Helpers: the law PathEnclosed, where it answers early. -/
import Derived.Test.YtmhcmiajikffpaaB18
namespace Go.Proofs.Ytmhcmiajikffpaa
open Go.RowKit Go.Shelf Go.Sort
attribute [local go_sem] idx3_0 idx3_1 idx3_2 old1 fro1 old2 fro2 old3 fro3 old4 fro4 old5 fro5 old6 fro6 old7 fro7 old8 fro8 old9 fro9 old10 fro10 old11 fro11 old12 fro12
set_option maxRecDepth 100000 in
set_option maxHeartbeats 4000000 in
theorem pe_e0 (A B C : Option Addr) (na nb nc ca cb cc : Nat) (da db dc time more : Int) (ka kb kc : Nat → Knot) (w : World) (hA : KA w A na ka) (hB : KA w B nb kb) (hC : KA w C nc kc) (hF2 : ∀ W, Calls Try.prog 7 #[.agg #[.slice A na ca, .int .i64 da], .agg #[.slice B nb cb, .int .i64 db]] W fun e w' => e = .returned (.bool false) ∧ Below W.heap.size W w')  :
    Calls Try.prog 3 #[.agg #[.slice A na ca, .int .i64 da, .slice B nb cb, .int .i64 db, .slice C nc cc, .int .i64 dc], .int .i64 time, .int .i64 more] w fun e w' => e = .returned (.bool true) ∧ Below w.heap.size w w' := by
  have HA := Lib.hid hA
  have HB := Lib.hid hB
  have HC := Lib.hid hC
  have HF2 := Lib.hid hF2
  clear hA hB hC hF2
  go_enter Try.func3, Try.ntmps3
  go_wp2_with (first
    | (go_at_call 6; (with_reducible refine Calls.mono (awake_any _) ?_); rintro e w1 ⟨rfl, hb1⟩; have B1 := Lib.hid (thenB (show Below w.heap.size w _ by (repeat (first | with_reducible exact Below.refl _ _ | with_reducible assumption | with_reducible refine Below.alloc ?_ (by first | (simp; done) | (simp; omega) | omega) _ | with_reducible refine Below.setCell ?_ (by first | (simp; done) | (simp; omega) | omega) _ | with_reducible refine Below.drew ?_ | with_reducible refine below_drewN ?_ _))) hb1); have l0 := (hb1.cell (p := ⟨w.heap.size, 0, none⟩) (by first | (simp; done) | (simp; omega) | omega)).trans (show _ = some (.slice A na ca) by simp [go_sem]); have l1 := (hb1.cell (p := ⟨w.heap.size, 1, none⟩) (by first | (simp; done) | (simp; omega) | omega)).trans (show _ = some (.int .i64 da) by simp [go_sem]); have l2 := (hb1.cell (p := ⟨w.heap.size, 2, none⟩) (by first | (simp; done) | (simp; omega) | omega)).trans (show _ = some (.slice B nb cb) by simp [go_sem]); have l3 := (hb1.cell (p := ⟨w.heap.size, 3, none⟩) (by first | (simp; done) | (simp; omega) | omega)).trans (show _ = some (.int .i64 db) by simp [go_sem]); have l4 := (hb1.cell (p := ⟨w.heap.size, 4, none⟩) (by first | (simp; done) | (simp; omega) | omega)).trans (show _ = some (.slice C nc cc) by simp [go_sem]); have l5 := (hb1.cell (p := ⟨w.heap.size, 5, none⟩) (by first | (simp; done) | (simp; omega) | omega)).trans (show _ = some (.int .i64 dc) by simp [go_sem]); clear hb1)
    | fail)
  go_cut [7, 8, 9] from 32 to 39 (fun s7 s8 s9 wx => ∃ pa pb pc : Nat, s7 = .pointer (some ⟨pa, 0, none⟩) ∧ s8 = .pointer (some ⟨pb, 0, none⟩) ∧ s9 = .pointer (some ⟨pc, 0, none⟩) ∧ PE0 w A B C na nb nc ca cb cc da db dc pa pb pc wx)
  case first =>
    go_region_held3 (fun w' => w'.cell? ⟨w.heap.size, 0, none⟩ = some (.slice A na ca) ∧ w'.cell? ⟨w.heap.size, 1, none⟩ = some (.int .i64 da) ∧ w'.cell? ⟨w.heap.size, 2, none⟩ = some (.slice B nb cb) ∧ w'.cell? ⟨w.heap.size, 3, none⟩ = some (.int .i64 db) ∧ w'.cell? ⟨w.heap.size, 4, none⟩ = some (.slice C nc cc) ∧ w'.cell? ⟨w.heap.size, 5, none⟩ = some (.int .i64 dc)) (simp [go_sem, *]) (first | fail)
    all_goals
      go_wp2_with fail
      go_meet
      first
        | (obtain ⟨e, x0, x1, y0, y1, z0, z1⟩ := three_new B1.out (.slice A na ca) (.int .i64 da) (.slice B nb cb) (.int .i64 db) (.slice C nc cc) (.int .i64 dc) 24; refine ⟨_, _, _, rfl, rfl, rfl, ?_⟩; unfold PE0; with_reducible exact ⟨e, x0, x1, y0, y1, z0, z1⟩)
        | (obtain ⟨e, x0, x1, y0, y1, z0, z1⟩ := three_new B1.out (.slice A na ca) (.int .i64 da) (.slice C nc cc) (.int .i64 dc) (.slice B nb cb) (.int .i64 db) 24; refine ⟨_, _, _, rfl, rfl, rfl, ?_⟩; unfold PE0; with_reducible exact ⟨e, x0, x1, z0, z1, y0, y1⟩)
        | (obtain ⟨e, x0, x1, y0, y1, z0, z1⟩ := three_new B1.out (.slice B nb cb) (.int .i64 db) (.slice A na ca) (.int .i64 da) (.slice C nc cc) (.int .i64 dc) 24; refine ⟨_, _, _, rfl, rfl, rfl, ?_⟩; unfold PE0; with_reducible exact ⟨e, y0, y1, x0, x1, z0, z1⟩)
        | (obtain ⟨e, x0, x1, y0, y1, z0, z1⟩ := three_new B1.out (.slice B nb cb) (.int .i64 db) (.slice C nc cc) (.int .i64 dc) (.slice A na ca) (.int .i64 da) 24; refine ⟨_, _, _, rfl, rfl, rfl, ?_⟩; unfold PE0; with_reducible exact ⟨e, z0, z1, x0, x1, y0, y1⟩)
        | (obtain ⟨e, x0, x1, y0, y1, z0, z1⟩ := three_new B1.out (.slice C nc cc) (.int .i64 dc) (.slice A na ca) (.int .i64 da) (.slice B nb cb) (.int .i64 db) 24; refine ⟨_, _, _, rfl, rfl, rfl, ?_⟩; unfold PE0; with_reducible exact ⟨e, y0, y1, z0, z1, x0, x1⟩)
        | (obtain ⟨e, x0, x1, y0, y1, z0, z1⟩ := three_new B1.out (.slice C nc cc) (.int .i64 dc) (.slice B nb cb) (.int .i64 db) (.slice A na ca) (.int .i64 da) 24; refine ⟨_, _, _, rfl, rfl, rfl, ?_⟩; unfold PE0; with_reducible exact ⟨e, z0, z1, y0, y1, x0, x1⟩)
  case rest =>
    obtain ⟨pa, pb, pc, rfl, rfl, rfl, hP⟩ := hcut
    have B0_ := Lib.hid hP.1
    obtain ⟨_, p0_0, p1_0, p2_0, p3_0, p4_0, p5_0⟩ := hP
    go_wp2_with (first
      | (go_at_call 7; (with_reducible refine Calls.mono (HF2.out _) ?_); rintro e w2 ⟨rfl, hb2⟩; have B2 := Lib.hid (thenB B0_.out hb2); have p0_2 := keep hb2 p0_0; have p1_2 := keep hb2 p1_0; have p2_2 := keep hb2 p2_0; have p3_2 := keep hb2 p3_0; have p4_2 := keep hb2 p4_0; have p5_2 := keep hb2 p5_0; clear hb2)
      | fail)
    go_ret
    exact ⟨rfl, B2.out⟩
set_option maxRecDepth 100000 in
set_option maxHeartbeats 4000000 in
theorem pe_e1 (A B C : Option Addr) (na nb nc ca cb cc : Nat) (da db dc time more : Int) (ka kb kc : Nat → Knot) (w : World) (hA : KA w A na ka) (hB : KA w B nb kb) (hC : KA w C nc kc) (hF2 : ∀ W, Calls Try.prog 7 #[.agg #[.slice A na ca, .int .i64 da], .agg #[.slice B nb cb, .int .i64 db]] W fun e w' => e = .returned (.bool true) ∧ Below W.heap.size W w') (hF1 : ∀ W, Calls Try.prog 8 #[.agg #[.slice C nc cc, .int .i64 dc]] W fun e w' => e = .returned (.bool false) ∧ Below W.heap.size W w')  :
    Calls Try.prog 3 #[.agg #[.slice A na ca, .int .i64 da, .slice B nb cb, .int .i64 db, .slice C nc cc, .int .i64 dc], .int .i64 time, .int .i64 more] w fun e w' => e = .returned (.bool true) ∧ Below w.heap.size w w' := by
  have HA := Lib.hid hA
  have HB := Lib.hid hB
  have HC := Lib.hid hC
  have HF2 := Lib.hid hF2
  have HF1 := Lib.hid hF1
  clear hA hB hC hF2 hF1
  go_enter Try.func3, Try.ntmps3
  go_wp2_with (first
    | (go_at_call 6; (with_reducible refine Calls.mono (awake_any _) ?_); rintro e w1 ⟨rfl, hb1⟩; have B1 := Lib.hid (thenB (show Below w.heap.size w _ by (repeat (first | with_reducible exact Below.refl _ _ | with_reducible assumption | with_reducible refine Below.alloc ?_ (by first | (simp; done) | (simp; omega) | omega) _ | with_reducible refine Below.setCell ?_ (by first | (simp; done) | (simp; omega) | omega) _ | with_reducible refine Below.drew ?_ | with_reducible refine below_drewN ?_ _))) hb1); have l0 := (hb1.cell (p := ⟨w.heap.size, 0, none⟩) (by first | (simp; done) | (simp; omega) | omega)).trans (show _ = some (.slice A na ca) by simp [go_sem]); have l1 := (hb1.cell (p := ⟨w.heap.size, 1, none⟩) (by first | (simp; done) | (simp; omega) | omega)).trans (show _ = some (.int .i64 da) by simp [go_sem]); have l2 := (hb1.cell (p := ⟨w.heap.size, 2, none⟩) (by first | (simp; done) | (simp; omega) | omega)).trans (show _ = some (.slice B nb cb) by simp [go_sem]); have l3 := (hb1.cell (p := ⟨w.heap.size, 3, none⟩) (by first | (simp; done) | (simp; omega) | omega)).trans (show _ = some (.int .i64 db) by simp [go_sem]); have l4 := (hb1.cell (p := ⟨w.heap.size, 4, none⟩) (by first | (simp; done) | (simp; omega) | omega)).trans (show _ = some (.slice C nc cc) by simp [go_sem]); have l5 := (hb1.cell (p := ⟨w.heap.size, 5, none⟩) (by first | (simp; done) | (simp; omega) | omega)).trans (show _ = some (.int .i64 dc) by simp [go_sem]); clear hb1)
    | fail)
  go_cut [7, 8, 9] from 32 to 39 (fun s7 s8 s9 wx => ∃ pa pb pc : Nat, s7 = .pointer (some ⟨pa, 0, none⟩) ∧ s8 = .pointer (some ⟨pb, 0, none⟩) ∧ s9 = .pointer (some ⟨pc, 0, none⟩) ∧ PE0 w A B C na nb nc ca cb cc da db dc pa pb pc wx)
  case first =>
    go_region_held3 (fun w' => w'.cell? ⟨w.heap.size, 0, none⟩ = some (.slice A na ca) ∧ w'.cell? ⟨w.heap.size, 1, none⟩ = some (.int .i64 da) ∧ w'.cell? ⟨w.heap.size, 2, none⟩ = some (.slice B nb cb) ∧ w'.cell? ⟨w.heap.size, 3, none⟩ = some (.int .i64 db) ∧ w'.cell? ⟨w.heap.size, 4, none⟩ = some (.slice C nc cc) ∧ w'.cell? ⟨w.heap.size, 5, none⟩ = some (.int .i64 dc)) (simp [go_sem, *]) (first | fail)
    all_goals
      go_wp2_with fail
      go_meet
      first
        | (obtain ⟨e, x0, x1, y0, y1, z0, z1⟩ := three_new B1.out (.slice A na ca) (.int .i64 da) (.slice B nb cb) (.int .i64 db) (.slice C nc cc) (.int .i64 dc) 24; refine ⟨_, _, _, rfl, rfl, rfl, ?_⟩; unfold PE0; with_reducible exact ⟨e, x0, x1, y0, y1, z0, z1⟩)
        | (obtain ⟨e, x0, x1, y0, y1, z0, z1⟩ := three_new B1.out (.slice A na ca) (.int .i64 da) (.slice C nc cc) (.int .i64 dc) (.slice B nb cb) (.int .i64 db) 24; refine ⟨_, _, _, rfl, rfl, rfl, ?_⟩; unfold PE0; with_reducible exact ⟨e, x0, x1, z0, z1, y0, y1⟩)
        | (obtain ⟨e, x0, x1, y0, y1, z0, z1⟩ := three_new B1.out (.slice B nb cb) (.int .i64 db) (.slice A na ca) (.int .i64 da) (.slice C nc cc) (.int .i64 dc) 24; refine ⟨_, _, _, rfl, rfl, rfl, ?_⟩; unfold PE0; with_reducible exact ⟨e, y0, y1, x0, x1, z0, z1⟩)
        | (obtain ⟨e, x0, x1, y0, y1, z0, z1⟩ := three_new B1.out (.slice B nb cb) (.int .i64 db) (.slice C nc cc) (.int .i64 dc) (.slice A na ca) (.int .i64 da) 24; refine ⟨_, _, _, rfl, rfl, rfl, ?_⟩; unfold PE0; with_reducible exact ⟨e, z0, z1, x0, x1, y0, y1⟩)
        | (obtain ⟨e, x0, x1, y0, y1, z0, z1⟩ := three_new B1.out (.slice C nc cc) (.int .i64 dc) (.slice A na ca) (.int .i64 da) (.slice B nb cb) (.int .i64 db) 24; refine ⟨_, _, _, rfl, rfl, rfl, ?_⟩; unfold PE0; with_reducible exact ⟨e, y0, y1, z0, z1, x0, x1⟩)
        | (obtain ⟨e, x0, x1, y0, y1, z0, z1⟩ := three_new B1.out (.slice C nc cc) (.int .i64 dc) (.slice B nb cb) (.int .i64 db) (.slice A na ca) (.int .i64 da) 24; refine ⟨_, _, _, rfl, rfl, rfl, ?_⟩; unfold PE0; with_reducible exact ⟨e, z0, z1, y0, y1, x0, x1⟩)
  case rest =>
    obtain ⟨pa, pb, pc, rfl, rfl, rfl, hP⟩ := hcut
    have B0_ := Lib.hid hP.1
    obtain ⟨_, p0_0, p1_0, p2_0, p3_0, p4_0, p5_0⟩ := hP
    go_wp2_with (first
      | (go_at_call 7; (with_reducible refine Calls.mono (HF2.out _) ?_); rintro e w2 ⟨rfl, hb2⟩; have B2 := Lib.hid (thenB B0_.out hb2); have p0_2 := keep hb2 p0_0; have p1_2 := keep hb2 p1_0; have p2_2 := keep hb2 p2_0; have p3_2 := keep hb2 p3_0; have p4_2 := keep hb2 p4_0; have p5_2 := keep hb2 p5_0; clear hb2)
      | (go_at_call 8; (with_reducible refine Calls.mono (HF1.out _) ?_); rintro e w3 ⟨rfl, hb3⟩; have B3 := Lib.hid (thenB B2.out hb3); have p0_3 := keep hb3 p0_2; have p1_3 := keep hb3 p1_2; have p2_3 := keep hb3 p2_2; have p3_3 := keep hb3 p3_2; have p4_3 := keep hb3 p4_2; have p5_3 := keep hb3 p5_2; clear hb3)
      | fail)
    go_ret
    exact ⟨rfl, B3.out⟩
set_option maxRecDepth 100000 in
set_option maxHeartbeats 4000000 in
theorem pe_e2 (A B C : Option Addr) (na nb nc ca cb cc : Nat) (da db dc time more : Int) (ka kb kc : Nat → Knot) (w : World) {D : Int} (hA : KA w A na ka) (hB : KA w B nb kb) (hC : KA w C nc kc) (hF2 : ∀ W, Calls Try.prog 7 #[.agg #[.slice A na ca, .int .i64 da], .agg #[.slice B nb cb, .int .i64 db]] W fun e w' => e = .returned (.bool true) ∧ Below W.heap.size W w') (hF1 : ∀ W, Calls Try.prog 8 #[.agg #[.slice C nc cc, .int .i64 dc]] W fun e w' => e = .returned (.bool true) ∧ Below W.heap.size W w') (hBE : ∀ W, KA W A na ka → KA W B nb kb → Calls Try.prog 9 #[.agg #[.slice A na ca, .int .i64 da], .agg #[.slice B nb cb, .int .i64 db]] W fun e w' => e = .returned (.int .i64 D) ∧ Below W.heap.size W w') (hD : D ≠ 0) :
    Calls Try.prog 3 #[.agg #[.slice A na ca, .int .i64 da, .slice B nb cb, .int .i64 db, .slice C nc cc, .int .i64 dc], .int .i64 time, .int .i64 more] w fun e w' => e = .returned (.bool true) ∧ Below w.heap.size w w' := by
  have HA := Lib.hid hA
  have HB := Lib.hid hB
  have HC := Lib.hid hC
  have HF2 := Lib.hid hF2
  have HF1 := Lib.hid hF1
  have HBE := Lib.hid hBE
  have g0 : (D == 0) = false := by simp [hD]
  have g1 : (D != 0) = true := by simp [hD]
  clear hD
  clear hA hB hC hF2 hF1 hBE
  go_enter Try.func3, Try.ntmps3
  go_wp2_with (first
    | (go_at_call 6; (with_reducible refine Calls.mono (awake_any _) ?_); rintro e w1 ⟨rfl, hb1⟩; have B1 := Lib.hid (thenB (show Below w.heap.size w _ by (repeat (first | with_reducible exact Below.refl _ _ | with_reducible assumption | with_reducible refine Below.alloc ?_ (by first | (simp; done) | (simp; omega) | omega) _ | with_reducible refine Below.setCell ?_ (by first | (simp; done) | (simp; omega) | omega) _ | with_reducible refine Below.drew ?_ | with_reducible refine below_drewN ?_ _))) hb1); have l0 := (hb1.cell (p := ⟨w.heap.size, 0, none⟩) (by first | (simp; done) | (simp; omega) | omega)).trans (show _ = some (.slice A na ca) by simp [go_sem]); have l1 := (hb1.cell (p := ⟨w.heap.size, 1, none⟩) (by first | (simp; done) | (simp; omega) | omega)).trans (show _ = some (.int .i64 da) by simp [go_sem]); have l2 := (hb1.cell (p := ⟨w.heap.size, 2, none⟩) (by first | (simp; done) | (simp; omega) | omega)).trans (show _ = some (.slice B nb cb) by simp [go_sem]); have l3 := (hb1.cell (p := ⟨w.heap.size, 3, none⟩) (by first | (simp; done) | (simp; omega) | omega)).trans (show _ = some (.int .i64 db) by simp [go_sem]); have l4 := (hb1.cell (p := ⟨w.heap.size, 4, none⟩) (by first | (simp; done) | (simp; omega) | omega)).trans (show _ = some (.slice C nc cc) by simp [go_sem]); have l5 := (hb1.cell (p := ⟨w.heap.size, 5, none⟩) (by first | (simp; done) | (simp; omega) | omega)).trans (show _ = some (.int .i64 dc) by simp [go_sem]); clear hb1)
    | fail)
  go_cut [7, 8, 9] from 32 to 39 (fun s7 s8 s9 wx => ∃ pa pb pc : Nat, s7 = .pointer (some ⟨pa, 0, none⟩) ∧ s8 = .pointer (some ⟨pb, 0, none⟩) ∧ s9 = .pointer (some ⟨pc, 0, none⟩) ∧ PE0 w A B C na nb nc ca cb cc da db dc pa pb pc wx)
  case first =>
    go_region_held3 (fun w' => w'.cell? ⟨w.heap.size, 0, none⟩ = some (.slice A na ca) ∧ w'.cell? ⟨w.heap.size, 1, none⟩ = some (.int .i64 da) ∧ w'.cell? ⟨w.heap.size, 2, none⟩ = some (.slice B nb cb) ∧ w'.cell? ⟨w.heap.size, 3, none⟩ = some (.int .i64 db) ∧ w'.cell? ⟨w.heap.size, 4, none⟩ = some (.slice C nc cc) ∧ w'.cell? ⟨w.heap.size, 5, none⟩ = some (.int .i64 dc)) (simp [go_sem, *]) (first | fail)
    all_goals
      go_wp2_with fail
      go_meet
      first
        | (obtain ⟨e, x0, x1, y0, y1, z0, z1⟩ := three_new B1.out (.slice A na ca) (.int .i64 da) (.slice B nb cb) (.int .i64 db) (.slice C nc cc) (.int .i64 dc) 24; refine ⟨_, _, _, rfl, rfl, rfl, ?_⟩; unfold PE0; with_reducible exact ⟨e, x0, x1, y0, y1, z0, z1⟩)
        | (obtain ⟨e, x0, x1, y0, y1, z0, z1⟩ := three_new B1.out (.slice A na ca) (.int .i64 da) (.slice C nc cc) (.int .i64 dc) (.slice B nb cb) (.int .i64 db) 24; refine ⟨_, _, _, rfl, rfl, rfl, ?_⟩; unfold PE0; with_reducible exact ⟨e, x0, x1, z0, z1, y0, y1⟩)
        | (obtain ⟨e, x0, x1, y0, y1, z0, z1⟩ := three_new B1.out (.slice B nb cb) (.int .i64 db) (.slice A na ca) (.int .i64 da) (.slice C nc cc) (.int .i64 dc) 24; refine ⟨_, _, _, rfl, rfl, rfl, ?_⟩; unfold PE0; with_reducible exact ⟨e, y0, y1, x0, x1, z0, z1⟩)
        | (obtain ⟨e, x0, x1, y0, y1, z0, z1⟩ := three_new B1.out (.slice B nb cb) (.int .i64 db) (.slice C nc cc) (.int .i64 dc) (.slice A na ca) (.int .i64 da) 24; refine ⟨_, _, _, rfl, rfl, rfl, ?_⟩; unfold PE0; with_reducible exact ⟨e, z0, z1, x0, x1, y0, y1⟩)
        | (obtain ⟨e, x0, x1, y0, y1, z0, z1⟩ := three_new B1.out (.slice C nc cc) (.int .i64 dc) (.slice A na ca) (.int .i64 da) (.slice B nb cb) (.int .i64 db) 24; refine ⟨_, _, _, rfl, rfl, rfl, ?_⟩; unfold PE0; with_reducible exact ⟨e, y0, y1, z0, z1, x0, x1⟩)
        | (obtain ⟨e, x0, x1, y0, y1, z0, z1⟩ := three_new B1.out (.slice C nc cc) (.int .i64 dc) (.slice B nb cb) (.int .i64 db) (.slice A na ca) (.int .i64 da) 24; refine ⟨_, _, _, rfl, rfl, rfl, ?_⟩; unfold PE0; with_reducible exact ⟨e, z0, z1, y0, y1, x0, x1⟩)
  case rest =>
    obtain ⟨pa, pb, pc, rfl, rfl, rfl, hP⟩ := hcut
    have B0_ := Lib.hid hP.1
    obtain ⟨_, p0_0, p1_0, p2_0, p3_0, p4_0, p5_0⟩ := hP
    go_wp2_with (first
      | (go_at_call 7; (with_reducible refine Calls.mono (HF2.out _) ?_); rintro e w2 ⟨rfl, hb2⟩; have B2 := Lib.hid (thenB B0_.out hb2); have p0_2 := keep hb2 p0_0; have p1_2 := keep hb2 p1_0; have p2_2 := keep hb2 p2_0; have p3_2 := keep hb2 p3_0; have p4_2 := keep hb2 p4_0; have p5_2 := keep hb2 p5_0; clear hb2)
      | (go_at_call 8; (with_reducible refine Calls.mono (HF1.out _) ?_); rintro e w3 ⟨rfl, hb3⟩; have B3 := Lib.hid (thenB B2.out hb3); have p0_3 := keep hb3 p0_2; have p1_3 := keep hb3 p1_2; have p2_3 := keep hb3 p2_2; have p3_3 := keep hb3 p3_2; have p4_3 := keep hb3 p4_2; have p5_3 := keep hb3 p5_2; clear hb3)
      | (go_at_call 9; (with_reducible refine Calls.mono (HBE.out _ (HA.out.bel B3.out) (HB.out.bel B3.out)) ?_); rintro e w4 ⟨rfl, hb4⟩; have B4 := Lib.hid (thenB B3.out hb4); have p0_4 := keep hb4 p0_3; have p1_4 := keep hb4 p1_3; have p2_4 := keep hb4 p2_3; have p3_4 := keep hb4 p3_3; have p4_4 := keep hb4 p4_3; have p5_4 := keep hb4 p5_3; clear hb4)
      | fail)
    go_ret
    exact ⟨rfl, B4.out⟩
set_option maxRecDepth 100000 in
set_option maxHeartbeats 4000000 in
theorem pe_e3 (A B C : Option Addr) (na nb nc ca cb cc : Nat) (da db dc time more : Int) (ka kb kc : Nat → Knot) (w : World) {D : Int} (hA : KA w A na ka) (hB : KA w B nb kb) (hC : KA w C nc kc) (hF2 : ∀ W, Calls Try.prog 7 #[.agg #[.slice A na ca, .int .i64 da], .agg #[.slice B nb cb, .int .i64 db]] W fun e w' => e = .returned (.bool true) ∧ Below W.heap.size W w') (hF1 : ∀ W, Calls Try.prog 8 #[.agg #[.slice C nc cc, .int .i64 dc]] W fun e w' => e = .returned (.bool true) ∧ Below W.heap.size W w') (hBE : ∀ W, KA W A na ka → KA W B nb kb → Calls Try.prog 9 #[.agg #[.slice A na ca, .int .i64 da], .agg #[.slice B nb cb, .int .i64 db]] W fun e w' => e = .returned (.int .i64 0) ∧ Below W.heap.size W w') (hTR : ∀ W, KA W C nc kc → Calls Try.prog 10 #[.agg #[.slice C nc cc, .int .i64 dc]] W fun e w' => e = .returned (.int .i64 D) ∧ Below W.heap.size W w') (hD : D ≠ 0) :
    Calls Try.prog 3 #[.agg #[.slice A na ca, .int .i64 da, .slice B nb cb, .int .i64 db, .slice C nc cc, .int .i64 dc], .int .i64 time, .int .i64 more] w fun e w' => e = .returned (.bool true) ∧ Below w.heap.size w w' := by
  have HA := Lib.hid hA
  have HB := Lib.hid hB
  have HC := Lib.hid hC
  have HF2 := Lib.hid hF2
  have HF1 := Lib.hid hF1
  have HBE := Lib.hid hBE
  have HTR := Lib.hid hTR
  have g0 : (D == 0) = false := by simp [hD]
  have g1 : (D != 0) = true := by simp [hD]
  clear hD
  clear hA hB hC hF2 hF1 hBE hTR
  go_enter Try.func3, Try.ntmps3
  go_wp2_with (first
    | (go_at_call 6; (with_reducible refine Calls.mono (awake_any _) ?_); rintro e w1 ⟨rfl, hb1⟩; have B1 := Lib.hid (thenB (show Below w.heap.size w _ by (repeat (first | with_reducible exact Below.refl _ _ | with_reducible assumption | with_reducible refine Below.alloc ?_ (by first | (simp; done) | (simp; omega) | omega) _ | with_reducible refine Below.setCell ?_ (by first | (simp; done) | (simp; omega) | omega) _ | with_reducible refine Below.drew ?_ | with_reducible refine below_drewN ?_ _))) hb1); have l0 := (hb1.cell (p := ⟨w.heap.size, 0, none⟩) (by first | (simp; done) | (simp; omega) | omega)).trans (show _ = some (.slice A na ca) by simp [go_sem]); have l1 := (hb1.cell (p := ⟨w.heap.size, 1, none⟩) (by first | (simp; done) | (simp; omega) | omega)).trans (show _ = some (.int .i64 da) by simp [go_sem]); have l2 := (hb1.cell (p := ⟨w.heap.size, 2, none⟩) (by first | (simp; done) | (simp; omega) | omega)).trans (show _ = some (.slice B nb cb) by simp [go_sem]); have l3 := (hb1.cell (p := ⟨w.heap.size, 3, none⟩) (by first | (simp; done) | (simp; omega) | omega)).trans (show _ = some (.int .i64 db) by simp [go_sem]); have l4 := (hb1.cell (p := ⟨w.heap.size, 4, none⟩) (by first | (simp; done) | (simp; omega) | omega)).trans (show _ = some (.slice C nc cc) by simp [go_sem]); have l5 := (hb1.cell (p := ⟨w.heap.size, 5, none⟩) (by first | (simp; done) | (simp; omega) | omega)).trans (show _ = some (.int .i64 dc) by simp [go_sem]); clear hb1)
    | fail)
  go_cut [7, 8, 9] from 32 to 39 (fun s7 s8 s9 wx => ∃ pa pb pc : Nat, s7 = .pointer (some ⟨pa, 0, none⟩) ∧ s8 = .pointer (some ⟨pb, 0, none⟩) ∧ s9 = .pointer (some ⟨pc, 0, none⟩) ∧ PE0 w A B C na nb nc ca cb cc da db dc pa pb pc wx)
  case first =>
    go_region_held3 (fun w' => w'.cell? ⟨w.heap.size, 0, none⟩ = some (.slice A na ca) ∧ w'.cell? ⟨w.heap.size, 1, none⟩ = some (.int .i64 da) ∧ w'.cell? ⟨w.heap.size, 2, none⟩ = some (.slice B nb cb) ∧ w'.cell? ⟨w.heap.size, 3, none⟩ = some (.int .i64 db) ∧ w'.cell? ⟨w.heap.size, 4, none⟩ = some (.slice C nc cc) ∧ w'.cell? ⟨w.heap.size, 5, none⟩ = some (.int .i64 dc)) (simp [go_sem, *]) (first | fail)
    all_goals
      go_wp2_with fail
      go_meet
      first
        | (obtain ⟨e, x0, x1, y0, y1, z0, z1⟩ := three_new B1.out (.slice A na ca) (.int .i64 da) (.slice B nb cb) (.int .i64 db) (.slice C nc cc) (.int .i64 dc) 24; refine ⟨_, _, _, rfl, rfl, rfl, ?_⟩; unfold PE0; with_reducible exact ⟨e, x0, x1, y0, y1, z0, z1⟩)
        | (obtain ⟨e, x0, x1, y0, y1, z0, z1⟩ := three_new B1.out (.slice A na ca) (.int .i64 da) (.slice C nc cc) (.int .i64 dc) (.slice B nb cb) (.int .i64 db) 24; refine ⟨_, _, _, rfl, rfl, rfl, ?_⟩; unfold PE0; with_reducible exact ⟨e, x0, x1, z0, z1, y0, y1⟩)
        | (obtain ⟨e, x0, x1, y0, y1, z0, z1⟩ := three_new B1.out (.slice B nb cb) (.int .i64 db) (.slice A na ca) (.int .i64 da) (.slice C nc cc) (.int .i64 dc) 24; refine ⟨_, _, _, rfl, rfl, rfl, ?_⟩; unfold PE0; with_reducible exact ⟨e, y0, y1, x0, x1, z0, z1⟩)
        | (obtain ⟨e, x0, x1, y0, y1, z0, z1⟩ := three_new B1.out (.slice B nb cb) (.int .i64 db) (.slice C nc cc) (.int .i64 dc) (.slice A na ca) (.int .i64 da) 24; refine ⟨_, _, _, rfl, rfl, rfl, ?_⟩; unfold PE0; with_reducible exact ⟨e, z0, z1, x0, x1, y0, y1⟩)
        | (obtain ⟨e, x0, x1, y0, y1, z0, z1⟩ := three_new B1.out (.slice C nc cc) (.int .i64 dc) (.slice A na ca) (.int .i64 da) (.slice B nb cb) (.int .i64 db) 24; refine ⟨_, _, _, rfl, rfl, rfl, ?_⟩; unfold PE0; with_reducible exact ⟨e, y0, y1, z0, z1, x0, x1⟩)
        | (obtain ⟨e, x0, x1, y0, y1, z0, z1⟩ := three_new B1.out (.slice C nc cc) (.int .i64 dc) (.slice B nb cb) (.int .i64 db) (.slice A na ca) (.int .i64 da) 24; refine ⟨_, _, _, rfl, rfl, rfl, ?_⟩; unfold PE0; with_reducible exact ⟨e, z0, z1, y0, y1, x0, x1⟩)
  case rest =>
    obtain ⟨pa, pb, pc, rfl, rfl, rfl, hP⟩ := hcut
    have B0_ := Lib.hid hP.1
    obtain ⟨_, p0_0, p1_0, p2_0, p3_0, p4_0, p5_0⟩ := hP
    go_wp2_with (first
      | (go_at_call 7; (with_reducible refine Calls.mono (HF2.out _) ?_); rintro e w2 ⟨rfl, hb2⟩; have B2 := Lib.hid (thenB B0_.out hb2); have p0_2 := keep hb2 p0_0; have p1_2 := keep hb2 p1_0; have p2_2 := keep hb2 p2_0; have p3_2 := keep hb2 p3_0; have p4_2 := keep hb2 p4_0; have p5_2 := keep hb2 p5_0; clear hb2)
      | (go_at_call 8; (with_reducible refine Calls.mono (HF1.out _) ?_); rintro e w3 ⟨rfl, hb3⟩; have B3 := Lib.hid (thenB B2.out hb3); have p0_3 := keep hb3 p0_2; have p1_3 := keep hb3 p1_2; have p2_3 := keep hb3 p2_2; have p3_3 := keep hb3 p3_2; have p4_3 := keep hb3 p4_2; have p5_3 := keep hb3 p5_2; clear hb3)
      | (go_at_call 9; (with_reducible refine Calls.mono (HBE.out _ (HA.out.bel B3.out) (HB.out.bel B3.out)) ?_); rintro e w4 ⟨rfl, hb4⟩; have B4 := Lib.hid (thenB B3.out hb4); have p0_4 := keep hb4 p0_3; have p1_4 := keep hb4 p1_3; have p2_4 := keep hb4 p2_3; have p3_4 := keep hb4 p3_3; have p4_4 := keep hb4 p4_3; have p5_4 := keep hb4 p5_3; clear hb4)
      | (go_at_call 10; (with_reducible refine Calls.mono (HTR.out _ (HC.out.bel B4.out)) ?_); rintro e w5 ⟨rfl, hb5⟩; have B5 := Lib.hid (thenB B4.out hb5); have p0_5 := keep hb5 p0_4; have p1_5 := keep hb5 p1_4; have p2_5 := keep hb5 p2_4; have p3_5 := keep hb5 p3_4; have p4_5 := keep hb5 p4_4; have p5_5 := keep hb5 p5_4; clear hb5)
      | fail)
    go_ret
    exact ⟨rfl, B5.out⟩
set_option maxRecDepth 100000 in
set_option maxHeartbeats 4000000 in
theorem pe_e4 (A B C : Option Addr) (na nb nc ca cb cc : Nat) (da db dc time more : Int) (ka kb kc : Nat → Knot) (w : World) {D : Int} (hA : KA w A na ka) (hB : KA w B nb kb) (hC : KA w C nc kc) (hF2 : ∀ W, Calls Try.prog 7 #[.agg #[.slice A na ca, .int .i64 da], .agg #[.slice B nb cb, .int .i64 db]] W fun e w' => e = .returned (.bool true) ∧ Below W.heap.size W w') (hF1 : ∀ W, Calls Try.prog 8 #[.agg #[.slice C nc cc, .int .i64 dc]] W fun e w' => e = .returned (.bool true) ∧ Below W.heap.size W w') (hBE : ∀ W, KA W A na ka → KA W B nb kb → Calls Try.prog 9 #[.agg #[.slice A na ca, .int .i64 da], .agg #[.slice B nb cb, .int .i64 db]] W fun e w' => e = .returned (.int .i64 0) ∧ Below W.heap.size W w') (hTR : ∀ W, KA W C nc kc → Calls Try.prog 10 #[.agg #[.slice C nc cc, .int .i64 dc]] W fun e w' => e = .returned (.int .i64 0) ∧ Below W.heap.size W w') (hTS : ∀ W, KA W A na ka → KA W B nb kb → Calls Try.prog 11 #[.agg #[.slice A na ca, .int .i64 da], .agg #[.slice B nb cb, .int .i64 db], .int .i64 time] W fun e w' => e = .returned (.int .i64 D) ∧ Below W.heap.size W w') (hD : D ≠ 0) :
    Calls Try.prog 3 #[.agg #[.slice A na ca, .int .i64 da, .slice B nb cb, .int .i64 db, .slice C nc cc, .int .i64 dc], .int .i64 time, .int .i64 more] w fun e w' => e = .returned (.bool true) ∧ Below w.heap.size w w' := by
  have HA := Lib.hid hA
  have HB := Lib.hid hB
  have HC := Lib.hid hC
  have HF2 := Lib.hid hF2
  have HF1 := Lib.hid hF1
  have HBE := Lib.hid hBE
  have HTR := Lib.hid hTR
  have HTS := Lib.hid hTS
  have g0 : (D == 0) = false := by simp [hD]
  have g1 : (D != 0) = true := by simp [hD]
  clear hD
  clear hA hB hC hF2 hF1 hBE hTR hTS
  go_enter Try.func3, Try.ntmps3
  go_wp2_with (first
    | (go_at_call 6; (with_reducible refine Calls.mono (awake_any _) ?_); rintro e w1 ⟨rfl, hb1⟩; have B1 := Lib.hid (thenB (show Below w.heap.size w _ by (repeat (first | with_reducible exact Below.refl _ _ | with_reducible assumption | with_reducible refine Below.alloc ?_ (by first | (simp; done) | (simp; omega) | omega) _ | with_reducible refine Below.setCell ?_ (by first | (simp; done) | (simp; omega) | omega) _ | with_reducible refine Below.drew ?_ | with_reducible refine below_drewN ?_ _))) hb1); have l0 := (hb1.cell (p := ⟨w.heap.size, 0, none⟩) (by first | (simp; done) | (simp; omega) | omega)).trans (show _ = some (.slice A na ca) by simp [go_sem]); have l1 := (hb1.cell (p := ⟨w.heap.size, 1, none⟩) (by first | (simp; done) | (simp; omega) | omega)).trans (show _ = some (.int .i64 da) by simp [go_sem]); have l2 := (hb1.cell (p := ⟨w.heap.size, 2, none⟩) (by first | (simp; done) | (simp; omega) | omega)).trans (show _ = some (.slice B nb cb) by simp [go_sem]); have l3 := (hb1.cell (p := ⟨w.heap.size, 3, none⟩) (by first | (simp; done) | (simp; omega) | omega)).trans (show _ = some (.int .i64 db) by simp [go_sem]); have l4 := (hb1.cell (p := ⟨w.heap.size, 4, none⟩) (by first | (simp; done) | (simp; omega) | omega)).trans (show _ = some (.slice C nc cc) by simp [go_sem]); have l5 := (hb1.cell (p := ⟨w.heap.size, 5, none⟩) (by first | (simp; done) | (simp; omega) | omega)).trans (show _ = some (.int .i64 dc) by simp [go_sem]); clear hb1)
    | fail)
  go_cut [7, 8, 9] from 32 to 39 (fun s7 s8 s9 wx => ∃ pa pb pc : Nat, s7 = .pointer (some ⟨pa, 0, none⟩) ∧ s8 = .pointer (some ⟨pb, 0, none⟩) ∧ s9 = .pointer (some ⟨pc, 0, none⟩) ∧ PE0 w A B C na nb nc ca cb cc da db dc pa pb pc wx)
  case first =>
    go_region_held3 (fun w' => w'.cell? ⟨w.heap.size, 0, none⟩ = some (.slice A na ca) ∧ w'.cell? ⟨w.heap.size, 1, none⟩ = some (.int .i64 da) ∧ w'.cell? ⟨w.heap.size, 2, none⟩ = some (.slice B nb cb) ∧ w'.cell? ⟨w.heap.size, 3, none⟩ = some (.int .i64 db) ∧ w'.cell? ⟨w.heap.size, 4, none⟩ = some (.slice C nc cc) ∧ w'.cell? ⟨w.heap.size, 5, none⟩ = some (.int .i64 dc)) (simp [go_sem, *]) (first | fail)
    all_goals
      go_wp2_with fail
      go_meet
      first
        | (obtain ⟨e, x0, x1, y0, y1, z0, z1⟩ := three_new B1.out (.slice A na ca) (.int .i64 da) (.slice B nb cb) (.int .i64 db) (.slice C nc cc) (.int .i64 dc) 24; refine ⟨_, _, _, rfl, rfl, rfl, ?_⟩; unfold PE0; with_reducible exact ⟨e, x0, x1, y0, y1, z0, z1⟩)
        | (obtain ⟨e, x0, x1, y0, y1, z0, z1⟩ := three_new B1.out (.slice A na ca) (.int .i64 da) (.slice C nc cc) (.int .i64 dc) (.slice B nb cb) (.int .i64 db) 24; refine ⟨_, _, _, rfl, rfl, rfl, ?_⟩; unfold PE0; with_reducible exact ⟨e, x0, x1, z0, z1, y0, y1⟩)
        | (obtain ⟨e, x0, x1, y0, y1, z0, z1⟩ := three_new B1.out (.slice B nb cb) (.int .i64 db) (.slice A na ca) (.int .i64 da) (.slice C nc cc) (.int .i64 dc) 24; refine ⟨_, _, _, rfl, rfl, rfl, ?_⟩; unfold PE0; with_reducible exact ⟨e, y0, y1, x0, x1, z0, z1⟩)
        | (obtain ⟨e, x0, x1, y0, y1, z0, z1⟩ := three_new B1.out (.slice B nb cb) (.int .i64 db) (.slice C nc cc) (.int .i64 dc) (.slice A na ca) (.int .i64 da) 24; refine ⟨_, _, _, rfl, rfl, rfl, ?_⟩; unfold PE0; with_reducible exact ⟨e, z0, z1, x0, x1, y0, y1⟩)
        | (obtain ⟨e, x0, x1, y0, y1, z0, z1⟩ := three_new B1.out (.slice C nc cc) (.int .i64 dc) (.slice A na ca) (.int .i64 da) (.slice B nb cb) (.int .i64 db) 24; refine ⟨_, _, _, rfl, rfl, rfl, ?_⟩; unfold PE0; with_reducible exact ⟨e, y0, y1, z0, z1, x0, x1⟩)
        | (obtain ⟨e, x0, x1, y0, y1, z0, z1⟩ := three_new B1.out (.slice C nc cc) (.int .i64 dc) (.slice B nb cb) (.int .i64 db) (.slice A na ca) (.int .i64 da) 24; refine ⟨_, _, _, rfl, rfl, rfl, ?_⟩; unfold PE0; with_reducible exact ⟨e, z0, z1, y0, y1, x0, x1⟩)
  case rest =>
    obtain ⟨pa, pb, pc, rfl, rfl, rfl, hP⟩ := hcut
    have B0_ := Lib.hid hP.1
    obtain ⟨_, p0_0, p1_0, p2_0, p3_0, p4_0, p5_0⟩ := hP
    go_wp2_with (first
      | (go_at_call 7; (with_reducible refine Calls.mono (HF2.out _) ?_); rintro e w2 ⟨rfl, hb2⟩; have B2 := Lib.hid (thenB B0_.out hb2); have p0_2 := keep hb2 p0_0; have p1_2 := keep hb2 p1_0; have p2_2 := keep hb2 p2_0; have p3_2 := keep hb2 p3_0; have p4_2 := keep hb2 p4_0; have p5_2 := keep hb2 p5_0; clear hb2)
      | (go_at_call 8; (with_reducible refine Calls.mono (HF1.out _) ?_); rintro e w3 ⟨rfl, hb3⟩; have B3 := Lib.hid (thenB B2.out hb3); have p0_3 := keep hb3 p0_2; have p1_3 := keep hb3 p1_2; have p2_3 := keep hb3 p2_2; have p3_3 := keep hb3 p3_2; have p4_3 := keep hb3 p4_2; have p5_3 := keep hb3 p5_2; clear hb3)
      | (go_at_call 9; (with_reducible refine Calls.mono (HBE.out _ (HA.out.bel B3.out) (HB.out.bel B3.out)) ?_); rintro e w4 ⟨rfl, hb4⟩; have B4 := Lib.hid (thenB B3.out hb4); have p0_4 := keep hb4 p0_3; have p1_4 := keep hb4 p1_3; have p2_4 := keep hb4 p2_3; have p3_4 := keep hb4 p3_3; have p4_4 := keep hb4 p4_3; have p5_4 := keep hb4 p5_3; clear hb4)
      | (go_at_call 10; (with_reducible refine Calls.mono (HTR.out _ (HC.out.bel B4.out)) ?_); rintro e w5 ⟨rfl, hb5⟩; have B5 := Lib.hid (thenB B4.out hb5); have p0_5 := keep hb5 p0_4; have p1_5 := keep hb5 p1_4; have p2_5 := keep hb5 p2_4; have p3_5 := keep hb5 p3_4; have p4_5 := keep hb5 p4_4; have p5_5 := keep hb5 p5_4; clear hb5)
      | (go_at_call 11; (with_reducible refine Calls.mono (HTS.out _ (HA.out.bel B5.out) (HB.out.bel B5.out)) ?_); rintro e w6 ⟨rfl, hb6⟩; have B6 := Lib.hid (thenB B5.out hb6); have p0_6 := keep hb6 p0_5; have p1_6 := keep hb6 p1_5; have p2_6 := keep hb6 p2_5; have p3_6 := keep hb6 p3_5; have p4_6 := keep hb6 p4_5; have p5_6 := keep hb6 p5_5; clear hb6)
      | fail)
    go_ret
    exact ⟨rfl, B6.out⟩
set_option maxRecDepth 100000 in
set_option maxHeartbeats 4000000 in
theorem pe_e5 (A B C : Option Addr) (na nb nc ca cb cc : Nat) (da db dc time more : Int) (ka kb kc : Nat → Knot) (w : World) {D : Int} (hA : KA w A na ka) (hB : KA w B nb kb) (hC : KA w C nc kc) (hF2 : ∀ W, Calls Try.prog 7 #[.agg #[.slice A na ca, .int .i64 da], .agg #[.slice B nb cb, .int .i64 db]] W fun e w' => e = .returned (.bool true) ∧ Below W.heap.size W w') (hF1 : ∀ W, Calls Try.prog 8 #[.agg #[.slice C nc cc, .int .i64 dc]] W fun e w' => e = .returned (.bool true) ∧ Below W.heap.size W w') (hBE : ∀ W, KA W A na ka → KA W B nb kb → Calls Try.prog 9 #[.agg #[.slice A na ca, .int .i64 da], .agg #[.slice B nb cb, .int .i64 db]] W fun e w' => e = .returned (.int .i64 0) ∧ Below W.heap.size W w') (hTR : ∀ W, KA W C nc kc → Calls Try.prog 10 #[.agg #[.slice C nc cc, .int .i64 dc]] W fun e w' => e = .returned (.int .i64 0) ∧ Below W.heap.size W w') (hTS : ∀ W, KA W A na ka → KA W B nb kb → Calls Try.prog 11 #[.agg #[.slice A na ca, .int .i64 da], .agg #[.slice B nb cb, .int .i64 db], .int .i64 time] W fun e w' => e = .returned (.int .i64 0) ∧ Below W.heap.size W w') (hTC : ∀ W, KA W C nc kc → Calls Try.prog 12 #[.agg #[.slice C nc cc, .int .i64 dc], .int .i64 time] W fun e w' => e = .returned (.int .i64 D) ∧ Below W.heap.size W w') (hD : D ≠ 0) :
    Calls Try.prog 3 #[.agg #[.slice A na ca, .int .i64 da, .slice B nb cb, .int .i64 db, .slice C nc cc, .int .i64 dc], .int .i64 time, .int .i64 more] w fun e w' => e = .returned (.bool true) ∧ Below w.heap.size w w' := by
  have HA := Lib.hid hA
  have HB := Lib.hid hB
  have HC := Lib.hid hC
  have HF2 := Lib.hid hF2
  have HF1 := Lib.hid hF1
  have HBE := Lib.hid hBE
  have HTR := Lib.hid hTR
  have HTS := Lib.hid hTS
  have HTC := Lib.hid hTC
  have g0 : (D == 0) = false := by simp [hD]
  have g1 : (D != 0) = true := by simp [hD]
  clear hD
  clear hA hB hC hF2 hF1 hBE hTR hTS hTC
  go_enter Try.func3, Try.ntmps3
  go_wp2_with (first
    | (go_at_call 6; (with_reducible refine Calls.mono (awake_any _) ?_); rintro e w1 ⟨rfl, hb1⟩; have B1 := Lib.hid (thenB (show Below w.heap.size w _ by (repeat (first | with_reducible exact Below.refl _ _ | with_reducible assumption | with_reducible refine Below.alloc ?_ (by first | (simp; done) | (simp; omega) | omega) _ | with_reducible refine Below.setCell ?_ (by first | (simp; done) | (simp; omega) | omega) _ | with_reducible refine Below.drew ?_ | with_reducible refine below_drewN ?_ _))) hb1); have l0 := (hb1.cell (p := ⟨w.heap.size, 0, none⟩) (by first | (simp; done) | (simp; omega) | omega)).trans (show _ = some (.slice A na ca) by simp [go_sem]); have l1 := (hb1.cell (p := ⟨w.heap.size, 1, none⟩) (by first | (simp; done) | (simp; omega) | omega)).trans (show _ = some (.int .i64 da) by simp [go_sem]); have l2 := (hb1.cell (p := ⟨w.heap.size, 2, none⟩) (by first | (simp; done) | (simp; omega) | omega)).trans (show _ = some (.slice B nb cb) by simp [go_sem]); have l3 := (hb1.cell (p := ⟨w.heap.size, 3, none⟩) (by first | (simp; done) | (simp; omega) | omega)).trans (show _ = some (.int .i64 db) by simp [go_sem]); have l4 := (hb1.cell (p := ⟨w.heap.size, 4, none⟩) (by first | (simp; done) | (simp; omega) | omega)).trans (show _ = some (.slice C nc cc) by simp [go_sem]); have l5 := (hb1.cell (p := ⟨w.heap.size, 5, none⟩) (by first | (simp; done) | (simp; omega) | omega)).trans (show _ = some (.int .i64 dc) by simp [go_sem]); clear hb1)
    | fail)
  go_cut [7, 8, 9] from 32 to 39 (fun s7 s8 s9 wx => ∃ pa pb pc : Nat, s7 = .pointer (some ⟨pa, 0, none⟩) ∧ s8 = .pointer (some ⟨pb, 0, none⟩) ∧ s9 = .pointer (some ⟨pc, 0, none⟩) ∧ PE0 w A B C na nb nc ca cb cc da db dc pa pb pc wx)
  case first =>
    go_region_held3 (fun w' => w'.cell? ⟨w.heap.size, 0, none⟩ = some (.slice A na ca) ∧ w'.cell? ⟨w.heap.size, 1, none⟩ = some (.int .i64 da) ∧ w'.cell? ⟨w.heap.size, 2, none⟩ = some (.slice B nb cb) ∧ w'.cell? ⟨w.heap.size, 3, none⟩ = some (.int .i64 db) ∧ w'.cell? ⟨w.heap.size, 4, none⟩ = some (.slice C nc cc) ∧ w'.cell? ⟨w.heap.size, 5, none⟩ = some (.int .i64 dc)) (simp [go_sem, *]) (first | fail)
    all_goals
      go_wp2_with fail
      go_meet
      first
        | (obtain ⟨e, x0, x1, y0, y1, z0, z1⟩ := three_new B1.out (.slice A na ca) (.int .i64 da) (.slice B nb cb) (.int .i64 db) (.slice C nc cc) (.int .i64 dc) 24; refine ⟨_, _, _, rfl, rfl, rfl, ?_⟩; unfold PE0; with_reducible exact ⟨e, x0, x1, y0, y1, z0, z1⟩)
        | (obtain ⟨e, x0, x1, y0, y1, z0, z1⟩ := three_new B1.out (.slice A na ca) (.int .i64 da) (.slice C nc cc) (.int .i64 dc) (.slice B nb cb) (.int .i64 db) 24; refine ⟨_, _, _, rfl, rfl, rfl, ?_⟩; unfold PE0; with_reducible exact ⟨e, x0, x1, z0, z1, y0, y1⟩)
        | (obtain ⟨e, x0, x1, y0, y1, z0, z1⟩ := three_new B1.out (.slice B nb cb) (.int .i64 db) (.slice A na ca) (.int .i64 da) (.slice C nc cc) (.int .i64 dc) 24; refine ⟨_, _, _, rfl, rfl, rfl, ?_⟩; unfold PE0; with_reducible exact ⟨e, y0, y1, x0, x1, z0, z1⟩)
        | (obtain ⟨e, x0, x1, y0, y1, z0, z1⟩ := three_new B1.out (.slice B nb cb) (.int .i64 db) (.slice C nc cc) (.int .i64 dc) (.slice A na ca) (.int .i64 da) 24; refine ⟨_, _, _, rfl, rfl, rfl, ?_⟩; unfold PE0; with_reducible exact ⟨e, z0, z1, x0, x1, y0, y1⟩)
        | (obtain ⟨e, x0, x1, y0, y1, z0, z1⟩ := three_new B1.out (.slice C nc cc) (.int .i64 dc) (.slice A na ca) (.int .i64 da) (.slice B nb cb) (.int .i64 db) 24; refine ⟨_, _, _, rfl, rfl, rfl, ?_⟩; unfold PE0; with_reducible exact ⟨e, y0, y1, z0, z1, x0, x1⟩)
        | (obtain ⟨e, x0, x1, y0, y1, z0, z1⟩ := three_new B1.out (.slice C nc cc) (.int .i64 dc) (.slice B nb cb) (.int .i64 db) (.slice A na ca) (.int .i64 da) 24; refine ⟨_, _, _, rfl, rfl, rfl, ?_⟩; unfold PE0; with_reducible exact ⟨e, z0, z1, y0, y1, x0, x1⟩)
  case rest =>
    obtain ⟨pa, pb, pc, rfl, rfl, rfl, hP⟩ := hcut
    have B0_ := Lib.hid hP.1
    obtain ⟨_, p0_0, p1_0, p2_0, p3_0, p4_0, p5_0⟩ := hP
    go_wp2_with (first
      | (go_at_call 7; (with_reducible refine Calls.mono (HF2.out _) ?_); rintro e w2 ⟨rfl, hb2⟩; have B2 := Lib.hid (thenB B0_.out hb2); have p0_2 := keep hb2 p0_0; have p1_2 := keep hb2 p1_0; have p2_2 := keep hb2 p2_0; have p3_2 := keep hb2 p3_0; have p4_2 := keep hb2 p4_0; have p5_2 := keep hb2 p5_0; clear hb2)
      | (go_at_call 8; (with_reducible refine Calls.mono (HF1.out _) ?_); rintro e w3 ⟨rfl, hb3⟩; have B3 := Lib.hid (thenB B2.out hb3); have p0_3 := keep hb3 p0_2; have p1_3 := keep hb3 p1_2; have p2_3 := keep hb3 p2_2; have p3_3 := keep hb3 p3_2; have p4_3 := keep hb3 p4_2; have p5_3 := keep hb3 p5_2; clear hb3)
      | (go_at_call 9; (with_reducible refine Calls.mono (HBE.out _ (HA.out.bel B3.out) (HB.out.bel B3.out)) ?_); rintro e w4 ⟨rfl, hb4⟩; have B4 := Lib.hid (thenB B3.out hb4); have p0_4 := keep hb4 p0_3; have p1_4 := keep hb4 p1_3; have p2_4 := keep hb4 p2_3; have p3_4 := keep hb4 p3_3; have p4_4 := keep hb4 p4_3; have p5_4 := keep hb4 p5_3; clear hb4)
      | (go_at_call 10; (with_reducible refine Calls.mono (HTR.out _ (HC.out.bel B4.out)) ?_); rintro e w5 ⟨rfl, hb5⟩; have B5 := Lib.hid (thenB B4.out hb5); have p0_5 := keep hb5 p0_4; have p1_5 := keep hb5 p1_4; have p2_5 := keep hb5 p2_4; have p3_5 := keep hb5 p3_4; have p4_5 := keep hb5 p4_4; have p5_5 := keep hb5 p5_4; clear hb5)
      | (go_at_call 11; (with_reducible refine Calls.mono (HTS.out _ (HA.out.bel B5.out) (HB.out.bel B5.out)) ?_); rintro e w6 ⟨rfl, hb6⟩; have B6 := Lib.hid (thenB B5.out hb6); have p0_6 := keep hb6 p0_5; have p1_6 := keep hb6 p1_5; have p2_6 := keep hb6 p2_5; have p3_6 := keep hb6 p3_5; have p4_6 := keep hb6 p4_5; have p5_6 := keep hb6 p5_5; clear hb6)
      | (go_at_call 12; (with_reducible refine Calls.mono (HTC.out _ (HC.out.bel B6.out)) ?_); rintro e w7 ⟨rfl, hb7⟩; have B7 := Lib.hid (thenB B6.out hb7); have p0_7 := keep hb7 p0_6; have p1_7 := keep hb7 p1_6; have p2_7 := keep hb7 p2_6; have p3_7 := keep hb7 p3_6; have p4_7 := keep hb7 p4_6; have p5_7 := keep hb7 p5_6; clear hb7)
      | fail)
    go_ret
    exact ⟨rfl, B7.out⟩
set_option maxRecDepth 100000 in
set_option maxHeartbeats 4000000 in
theorem pe_e6 (A B C : Option Addr) (na nb nc ca cb cc : Nat) (da db dc time more : Int) (ka kb kc : Nat → Knot) (w : World) (hA : KA w A na ka) (hB : KA w B nb kb) (hC : KA w C nc kc) (hF2 : ∀ W, Calls Try.prog 7 #[.agg #[.slice A na ca, .int .i64 da], .agg #[.slice B nb cb, .int .i64 db]] W fun e w' => e = .returned (.bool true) ∧ Below W.heap.size W w') (hF1 : ∀ W, Calls Try.prog 8 #[.agg #[.slice C nc cc, .int .i64 dc]] W fun e w' => e = .returned (.bool true) ∧ Below W.heap.size W w') (hBE : ∀ W, KA W A na ka → KA W B nb kb → Calls Try.prog 9 #[.agg #[.slice A na ca, .int .i64 da], .agg #[.slice B nb cb, .int .i64 db]] W fun e w' => e = .returned (.int .i64 0) ∧ Below W.heap.size W w') (hTR : ∀ W, KA W C nc kc → Calls Try.prog 10 #[.agg #[.slice C nc cc, .int .i64 dc]] W fun e w' => e = .returned (.int .i64 0) ∧ Below W.heap.size W w') (hTS : ∀ W, KA W A na ka → KA W B nb kb → Calls Try.prog 11 #[.agg #[.slice A na ca, .int .i64 da], .agg #[.slice B nb cb, .int .i64 db], .int .i64 time] W fun e w' => e = .returned (.int .i64 0) ∧ Below W.heap.size W w') (hTC : ∀ W, KA W C nc kc → Calls Try.prog 12 #[.agg #[.slice C nc cc, .int .i64 dc], .int .i64 time] W fun e w' => e = .returned (.int .i64 0) ∧ Below W.heap.size W w') (d0 : 0 ≤ da) (d1 : da ≤ 1000) (hm : wi more 0 (1000 - da) = false) :
    Calls Try.prog 3 #[.agg #[.slice A na ca, .int .i64 da, .slice B nb cb, .int .i64 db, .slice C nc cc, .int .i64 dc], .int .i64 time, .int .i64 more] w fun e w' => e = .returned (.bool true) ∧ Below w.heap.size w w' := by
  have HA := Lib.hid hA
  have HB := Lib.hid hB
  have HC := Lib.hid hC
  have HF2 := Lib.hid hF2
  have HF1 := Lib.hid hF1
  have HBE := Lib.hid hBE
  have HTR := Lib.hid hTR
  have HTS := Lib.hid hTS
  have HTC := Lib.hid hTC
  have vv1 : IntKind.i64.wrap (1000 - da) = 1000 - da := IntWalk.i64_in _ (by omega)
  clear hA hB hC hF2 hF1 hBE hTR hTS hTC
  go_enter Try.func3, Try.ntmps3
  go_wp2_with (first
    | (go_at_call 6; (with_reducible refine Calls.mono (awake_any _) ?_); rintro e w1 ⟨rfl, hb1⟩; have B1 := Lib.hid (thenB (show Below w.heap.size w _ by (repeat (first | with_reducible exact Below.refl _ _ | with_reducible assumption | with_reducible refine Below.alloc ?_ (by first | (simp; done) | (simp; omega) | omega) _ | with_reducible refine Below.setCell ?_ (by first | (simp; done) | (simp; omega) | omega) _ | with_reducible refine Below.drew ?_ | with_reducible refine below_drewN ?_ _))) hb1); have l0 := (hb1.cell (p := ⟨w.heap.size, 0, none⟩) (by first | (simp; done) | (simp; omega) | omega)).trans (show _ = some (.slice A na ca) by simp [go_sem]); have l1 := (hb1.cell (p := ⟨w.heap.size, 1, none⟩) (by first | (simp; done) | (simp; omega) | omega)).trans (show _ = some (.int .i64 da) by simp [go_sem]); have l2 := (hb1.cell (p := ⟨w.heap.size, 2, none⟩) (by first | (simp; done) | (simp; omega) | omega)).trans (show _ = some (.slice B nb cb) by simp [go_sem]); have l3 := (hb1.cell (p := ⟨w.heap.size, 3, none⟩) (by first | (simp; done) | (simp; omega) | omega)).trans (show _ = some (.int .i64 db) by simp [go_sem]); have l4 := (hb1.cell (p := ⟨w.heap.size, 4, none⟩) (by first | (simp; done) | (simp; omega) | omega)).trans (show _ = some (.slice C nc cc) by simp [go_sem]); have l5 := (hb1.cell (p := ⟨w.heap.size, 5, none⟩) (by first | (simp; done) | (simp; omega) | omega)).trans (show _ = some (.int .i64 dc) by simp [go_sem]); clear hb1)
    | fail)
  go_cut [7, 8, 9] from 32 to 39 (fun s7 s8 s9 wx => ∃ pa pb pc : Nat, s7 = .pointer (some ⟨pa, 0, none⟩) ∧ s8 = .pointer (some ⟨pb, 0, none⟩) ∧ s9 = .pointer (some ⟨pc, 0, none⟩) ∧ PE0 w A B C na nb nc ca cb cc da db dc pa pb pc wx)
  case first =>
    go_region_held3 (fun w' => w'.cell? ⟨w.heap.size, 0, none⟩ = some (.slice A na ca) ∧ w'.cell? ⟨w.heap.size, 1, none⟩ = some (.int .i64 da) ∧ w'.cell? ⟨w.heap.size, 2, none⟩ = some (.slice B nb cb) ∧ w'.cell? ⟨w.heap.size, 3, none⟩ = some (.int .i64 db) ∧ w'.cell? ⟨w.heap.size, 4, none⟩ = some (.slice C nc cc) ∧ w'.cell? ⟨w.heap.size, 5, none⟩ = some (.int .i64 dc)) (simp [go_sem, *]) (first | fail)
    all_goals
      go_wp2_with fail
      go_meet
      first
        | (obtain ⟨e, x0, x1, y0, y1, z0, z1⟩ := three_new B1.out (.slice A na ca) (.int .i64 da) (.slice B nb cb) (.int .i64 db) (.slice C nc cc) (.int .i64 dc) 24; refine ⟨_, _, _, rfl, rfl, rfl, ?_⟩; unfold PE0; with_reducible exact ⟨e, x0, x1, y0, y1, z0, z1⟩)
        | (obtain ⟨e, x0, x1, y0, y1, z0, z1⟩ := three_new B1.out (.slice A na ca) (.int .i64 da) (.slice C nc cc) (.int .i64 dc) (.slice B nb cb) (.int .i64 db) 24; refine ⟨_, _, _, rfl, rfl, rfl, ?_⟩; unfold PE0; with_reducible exact ⟨e, x0, x1, z0, z1, y0, y1⟩)
        | (obtain ⟨e, x0, x1, y0, y1, z0, z1⟩ := three_new B1.out (.slice B nb cb) (.int .i64 db) (.slice A na ca) (.int .i64 da) (.slice C nc cc) (.int .i64 dc) 24; refine ⟨_, _, _, rfl, rfl, rfl, ?_⟩; unfold PE0; with_reducible exact ⟨e, y0, y1, x0, x1, z0, z1⟩)
        | (obtain ⟨e, x0, x1, y0, y1, z0, z1⟩ := three_new B1.out (.slice B nb cb) (.int .i64 db) (.slice C nc cc) (.int .i64 dc) (.slice A na ca) (.int .i64 da) 24; refine ⟨_, _, _, rfl, rfl, rfl, ?_⟩; unfold PE0; with_reducible exact ⟨e, z0, z1, x0, x1, y0, y1⟩)
        | (obtain ⟨e, x0, x1, y0, y1, z0, z1⟩ := three_new B1.out (.slice C nc cc) (.int .i64 dc) (.slice A na ca) (.int .i64 da) (.slice B nb cb) (.int .i64 db) 24; refine ⟨_, _, _, rfl, rfl, rfl, ?_⟩; unfold PE0; with_reducible exact ⟨e, y0, y1, z0, z1, x0, x1⟩)
        | (obtain ⟨e, x0, x1, y0, y1, z0, z1⟩ := three_new B1.out (.slice C nc cc) (.int .i64 dc) (.slice B nb cb) (.int .i64 db) (.slice A na ca) (.int .i64 da) 24; refine ⟨_, _, _, rfl, rfl, rfl, ?_⟩; unfold PE0; with_reducible exact ⟨e, z0, z1, y0, y1, x0, x1⟩)
  case rest =>
    obtain ⟨pa, pb, pc, rfl, rfl, rfl, hP⟩ := hcut
    have B0_ := Lib.hid hP.1
    obtain ⟨_, p0_0, p1_0, p2_0, p3_0, p4_0, p5_0⟩ := hP
    go_wp2_with (first
      | (go_at_call 7; (with_reducible refine Calls.mono (HF2.out _) ?_); rintro e w2 ⟨rfl, hb2⟩; have B2 := Lib.hid (thenB B0_.out hb2); have p0_2 := keep hb2 p0_0; have p1_2 := keep hb2 p1_0; have p2_2 := keep hb2 p2_0; have p3_2 := keep hb2 p3_0; have p4_2 := keep hb2 p4_0; have p5_2 := keep hb2 p5_0; clear hb2)
      | (go_at_call 8; (with_reducible refine Calls.mono (HF1.out _) ?_); rintro e w3 ⟨rfl, hb3⟩; have B3 := Lib.hid (thenB B2.out hb3); have p0_3 := keep hb3 p0_2; have p1_3 := keep hb3 p1_2; have p2_3 := keep hb3 p2_2; have p3_3 := keep hb3 p3_2; have p4_3 := keep hb3 p4_2; have p5_3 := keep hb3 p5_2; clear hb3)
      | (go_at_call 9; (with_reducible refine Calls.mono (HBE.out _ (HA.out.bel B3.out) (HB.out.bel B3.out)) ?_); rintro e w4 ⟨rfl, hb4⟩; have B4 := Lib.hid (thenB B3.out hb4); have p0_4 := keep hb4 p0_3; have p1_4 := keep hb4 p1_3; have p2_4 := keep hb4 p2_3; have p3_4 := keep hb4 p3_3; have p4_4 := keep hb4 p4_3; have p5_4 := keep hb4 p5_3; clear hb4)
      | (go_at_call 10; (with_reducible refine Calls.mono (HTR.out _ (HC.out.bel B4.out)) ?_); rintro e w5 ⟨rfl, hb5⟩; have B5 := Lib.hid (thenB B4.out hb5); have p0_5 := keep hb5 p0_4; have p1_5 := keep hb5 p1_4; have p2_5 := keep hb5 p2_4; have p3_5 := keep hb5 p3_4; have p4_5 := keep hb5 p4_4; have p5_5 := keep hb5 p5_4; clear hb5)
      | (go_at_call 11; (with_reducible refine Calls.mono (HTS.out _ (HA.out.bel B5.out) (HB.out.bel B5.out)) ?_); rintro e w6 ⟨rfl, hb6⟩; have B6 := Lib.hid (thenB B5.out hb6); have p0_6 := keep hb6 p0_5; have p1_6 := keep hb6 p1_5; have p2_6 := keep hb6 p2_5; have p3_6 := keep hb6 p3_5; have p4_6 := keep hb6 p4_5; have p5_6 := keep hb6 p5_5; clear hb6)
      | (go_at_call 12; (with_reducible refine Calls.mono (HTC.out _ (HC.out.bel B6.out)) ?_); rintro e w7 ⟨rfl, hb7⟩; have B7 := Lib.hid (thenB B6.out hb7); have p0_7 := keep hb7 p0_6; have p1_7 := keep hb7 p1_6; have p2_7 := keep hb7 p2_6; have p3_7 := keep hb7 p3_6; have p4_7 := keep hb7 p4_6; have p5_7 := keep hb7 p5_6; clear hb7)
      | (go_at_call 13; (with_reducible refine (bwithin_any _ _ _ _).mono ?_); rintro e w' ⟨rfl, rfl⟩)
      | fail)
    go_ret
    exact ⟨rfl, B7.out⟩
end Go.Proofs.Ytmhcmiajikffpaa
