/- The statement PathSeenSaid: whatever the view, the time and the lesser doubt, the law PathSeen returns true, and its arguments read afterwards as before. -/
import Derived.Test.YtnfoagcpgegldaaGreatB29
import Derived.Test.YtnfoagcpgegldaaGreatB30
import Derived.Test.YtnfoagcpgegldaaGreatB31
import Derived.Test.YtnfoagcpgegldaaGreatB21
import Derived.ProofKit
import Derived.OpenShut
import Derived.ShutString
import Derived.ChangeOld
import Derived.Below
import Derived.Lib.SmallJoins
import Derived.Deep.Slices
import Derived.Test.YtnfoagcpgegldaaGreatB27
namespace Go.Proofs.YtnfoagcpgegldaaGreat
open Go.RowKit Go.Shelf Go.Sort
attribute [local go_sem] idx3_0 idx3_1 idx3_2 old1 fro1 old2 fro2 old3 fro3 old4 fro4 old5 fro5 old6 fro6 old7 fro7 old8 fro8 old9 fro9 old10 fro10 old11 fro11 old12 fro12
theorem ct_d {k : Nat → Knot} {n : Nat} {d d' : Int} (h : ctErr k n d = 0) (h0 : 0 ≤ d') (h1 : d' ≤ 1000) : ctErr k n d' = 0 := by
  obtain ⟨q0, q1, _, _⟩ := valid_of h
  unfold ctErr ctRes at h ⊢
  rw [if_neg (by omega), if_neg (by omega)] at h ⊢
  revert h
  split
  · exact fun h => h
  · intro _
    rw [if_pos (wi_t.2 ⟨h0, h1⟩)]
theorem coFrom_all {k : Nat → Cone} : ∀ {n i : Nat}, (∀ j, i ≤ j → j < i + n → coneErr (k j) = 0) → coFrom k i n = none
  | 0, i, _ => rfl
  | n + 1, i, h => by
    show (if coneErr (k i) = 0 then coFrom k (i + 1) n else some (i, coneErr (k i))) = none
    rw [if_pos (h i (Nat.le_refl i) (by omega))]
    exact coFrom_all fun j h1 h2 => h j (by omega) (by omega)
theorem site_ok {x y z : Int} {n : Nat} {k : Nat → Cone} (ha : axErr x y z = 0) (h4 : n ≤ 4) (hc : ∀ i, i < n → coneErr (k i) = 0) : (siteRes x y z n k).2 = 0 := by
  unfold siteRes
  rw [if_pos ha, if_neg (by omega), coFrom_all fun j _ h => hc j (by omega)]
  rfl
theorem axErr_neg {x y z : Int} (h : axErr x y z = 0) : axErr (-x) (-y) (-z) = 0 := by
  obtain ⟨h1, h2, h3⟩ := axis_bd h
  have he : exc (-x) (-y) (-z) 100 = false := exc_f.2 ⟨⟨by omega, by omega⟩, ⟨by omega, by omega⟩, by omega, by omega⟩
  refine axErr_0 he ?_
  rintro ⟨a, b, c⟩
  have e0 : exc x y z 100 = false := exc_f.2 ⟨h1, h2, h3⟩
  rw [axErr_z e0 ⟨by omega, by omega, by omega⟩] at h
  cases h
theorem ka_some0 {W : World} {X : Option Addr} {n : Nat} {k : Nat → Knot} (h : KA W X n k) (h0 : 0 < n) (c : Nat) : X = none → n = 0 ∧ c = 0 := by
  rintro rfl
  obtain ⟨b, off, e, _⟩ := h h0
  cases e
theorem vis_call (ux uy uz : Int) (n : Nat) (k : Nat → Cone) (na nb : Nat) (ka kb : Nat → Knot) (da db time : Int) (hs : (siteRes ux uy uz n k).2 = 0) (eA : ctErr ka na da = 0) (eB : ctErr kb nb db = 0) (oA : outside time ka na = false) (oB : outside time kb nb = false)
    (W : World) (X : Option Addr) (cX : Nat) (hx : KC W X n k) (Y : Option Addr) (cY : Nat) (Z : Option Addr) (cZ : Nat) (hy : KA W Y na ka) (hz : KA W Z nb kb) :
    Calls Tryz.prog 36 #[.agg #[.int .i64 ux, .int .i64 uy, .int .i64 uz, .slice X n cX, .slice Y na cY, .int .i64 da, .slice Z nb cZ, .int .i64 db], .int .i64 time] W fun e w' => e = .returned (.tuple #[.int .i64 (ansAt ux uy uz n k ⟨0, 0, na, 0, ka, da⟩ ⟨0, 0, nb, 0, kb, db⟩ time), .int .i64 0]) ∧ Below W.heap.size W w' := by
  have h4 := (site_0 hs).2.1
  have nA := (valid_of eA).2.1
  have nB := (valid_of eB).2.1
  refine (visibleAt_x ux uy uz X Y Z n cX na cY nb cZ k ka kb da db time W (by omega) hx ⟨hy, by show na ≤ _; omega⟩ ⟨hz, by show nb ≤ _; omega⟩).mono ?_
  rintro e w' ⟨rfl, hb⟩
  have h1 : vwErr (siteRes ux uy uz n k).2 (⟨Y, na, cY, ka, da⟩ : TV) (⟨Z, nb, cZ, kb, db⟩ : TV) = 0 := by
    unfold vwErr
    rw [if_pos hs]
    unfold bothErr
    rw [if_pos (show TV.err (⟨Y, na, cY, ka, da⟩ : TV) = 0 from eA)]
    exact eB
  have h2 : timesErr (⟨Y, na, cY, ka, da⟩ : TV) (⟨Z, nb, cZ, kb, db⟩ : TV) time = 0 := by
    unfold timesErr
    simp only [oA, oB]
    rfl
  have h3 : visErr (siteRes ux uy uz n k).2 (⟨Y, na, cY, ka, da⟩ : TV) (⟨Z, nb, cZ, kb, db⟩ : TV) time = 0 := by
    unfold visErr
    rw [if_pos h1]
    exact h2
  refine ⟨?_, hb⟩
  unfold visV
  rw [h3, if_pos rfl]
  rfl
theorem pathSeen_any (ux uy uz : Int) (C SA SB : Option Addr) (n c na ca nb cb : Nat) (da db time less : Int) (k : Nat → Cone) (ka kb : Nat → Knot) (w : World) (hn : n ≤ 9223372036854775807) (hna : na ≤ 9223372036854775807) (hnb : nb ≤ 9223372036854775807)
    (hC0 : C = none → n = 0 ∧ c = 0) (hA0 : SA = none → na = 0 ∧ ca = 0) (hB0 : SB = none → nb = 0 ∧ cb = 0) (hC : KC w C n k) (hA : KA w SA na ka) (hB : KA w SB nb kb) :
    Calls Tryz.prog 9 #[.agg #[.int .i64 ux, .int .i64 uy, .int .i64 uz, .slice C n c, .slice SA na ca, .int .i64 da, .slice SB nb cb, .int .i64 db], .int .i64 time, .int .i64 less] w fun e w' => e = .returned (.bool true) ∧ Below w.heap.size w w' := by
  have VW := fun W => view_any ux uy uz C SA SB n c na ca nb cb da db W hn hna hnb
  by_cases hf : na ≤ 14 ∧ nb ≤ 14 ∧ n ≤ 6
  case neg =>
    rw [show ((decide ((na : Int) ≤ 14) && decide ((nb : Int) ≤ 14)) && decide ((n : Int) ≤ 6)) = false by
      rw [Bool.and_eq_false_iff, Bool.and_eq_false_iff, decide_eq_false_iff_not, decide_eq_false_iff_not, decide_eq_false_iff_not]; omega] at VW
    exact ps_e0 ux uy uz C SA SB n c na ca nb cb da db time less k ka kb w hC hA hB VW
  rw [show ((decide ((na : Int) ≤ 14) && decide ((nb : Int) ≤ 14)) && decide ((n : Int) ≤ 6)) = true by
      rw [Bool.and_eq_true, Bool.and_eq_true, decide_eq_true_eq, decide_eq_true_eq, decide_eq_true_eq]; omega] at VW
  have VE := fun W a b d => rviewErr_any ux uy uz C SA SB n c na ca nb cb k ka kb da db W hn hna hnb a b d
  by_cases hv : vwErr (siteRes ux uy uz n k).2 (⟨SA, na, ca, ka, da⟩ : TV) (⟨SB, nb, cb, kb, db⟩ : TV) = 0
  case neg => exact ps_e1 ux uy uz C SA SB n c na ca nb cb da db time less k ka kb w hC hA hB VW VE hv
  rw [hv] at VE
  obtain ⟨hs, eA, eB⟩ := vw_0 hv
  replace eA : ctErr ka na da = 0 := eA
  replace eB : ctErr kb nb db = 0 := eB
  obtain ⟨hu, h4, hc⟩ := site_0 hs
  obtain ⟨a0, a12, _, _⟩ := valid_of eA
  obtain ⟨b0, b12, _, d0, d1⟩ := valid_of eB
  have TE : ∀ W, KA W SA na ka → KA W SB nb kb → Calls Tryz.prog 17 #[.agg #[.slice SA na ca, .int .i64 da], .agg #[.slice SB nb cb, .int .i64 db], .int .i64 time] W fun e w' => e = .returned (.int .i64 (if outside time ka na || outside time kb nb then 2 else 0)) ∧ Below W.heap.size W w' := by
    intro W a b
    obtain ⟨p, o, rfl, k1⟩ := a a0
    obtain ⟨p', o', rfl, k2⟩ := b b0
    exact timesErr_any p o p' o' na ca nb cb da db time ka kb W a0 (by omega) b0 (by omega) k1 k2
  by_cases h5 : (if outside time ka na || outside time kb nb then (2 : Int) else 0) = 0
  case neg => exact ps_e2 ux uy uz C SA SB n c na ca nb cb da db time less k ka kb w hC hA hB VW VE TE h5
  rw [h5] at TE
  obtain ⟨oA, oB⟩ : outside time ka na = false ∧ outside time kb nb = false := by
    revert h5
    cases outside time ka na <;> cases outside time kb nb <;> simp
  clear h5
  rcases Bool.eq_false_or_eq_true (wi less 0 db) with WI | WI
  case inr => exact ps_e3 ux uy uz C SA SB n c na ca nb cb da db time less k ka kb w hC hA hB VW VE TE WI
  obtain ⟨l0, l1⟩ := wi_t.1 WI
  have q := axis_bd hu
  have eB' : ctErr kb nb (db - less) = 0 := ct_d eB (by omega) (by omega)
  have CX := fun W a b d => copyView_any ux uy uz C SA SB n c na ca nb cb da db k ka kb W (by omega) (by omega) (by omega) hC0 hA0 hB0 a b d
  have CO := fun W Y1 c1 Z1 d1 (a : KA W Y1 na ka) (b : KA W Z1 nb kb) => copyView_any ux uy uz none Y1 Z1 0 0 na c1 nb d1 da db k ka kb W (by omega) (by omega) (by omega) (fun _ => ⟨rfl, rfl⟩) (ka_some0 a a0 c1) (ka_some0 b b0 d1) (fun h => absurd h (Nat.lt_irrefl 0)) a b
  have s0 : ∀ (n' : Nat) (k' : Nat → Cone), n' ≤ 4 → (∀ i, i < n' → coneErr (k' i) = 0) → (siteRes ux uy uz n' k').2 = 0 := fun n' k' h1 h2 => site_ok hu h1 h2
  have hc' : ∀ i, i < n - 1 → coneErr (k (i + 1)) = 0 := fun i hi => hc (i + 1) (by omega)
  have V1 := vis_call ux uy uz n k na nb ka kb da db time hs eA eB oA oB
  have V2 := vis_call ux uy uz n k na nb ka kb da (db - less) time hs eA eB' oA oB
  have V3 := vis_call ux uy uz 0 k na nb ka kb da db time (s0 0 k (by omega) (fun i hi => absurd hi (Nat.not_lt_zero i))) eA eB oA oB
  have V4 := vis_call (-ux) (-uy) (-uz) 0 k na nb ka kb da db time (site_ok (axErr_neg hu) (by omega) (fun i hi => absurd hi (Nat.not_lt_zero i))) eA eB oA oB
  have V5 := vis_call ux uy uz (n - 1) (fun i => k (i + 1)) na nb ka kb da db time (s0 (n - 1) _ (by omega) hc') eA eB oA oB
  have tA : TIn (⟨0, 0, na, 0, ka, da⟩ : Trk) time := ⟨eA, oA⟩
  have tB : TIn (⟨0, 0, nb, 0, kb, db⟩ : Trk) time := ⟨eB, oB⟩
  have tB' : TIn (⟨0, 0, nb, 0, kb, db - less⟩ : Trk) time := ⟨eB', oB⟩
  have sharp := sharp_sure (ux := ux) (uy := uy) (uz := uz) (n := n) (k := k) tA tB tB' rfl rfl (by show db - less ≤ db; omega) hc
  rcases ans_012 (A := (⟨0, 0, na, 0, ka, da⟩ : Trk)) (B := (⟨0, 0, nb, 0, kb, db⟩ : Trk)) (t := time) (ux := ux) (uy := uy) (uz := uz) (n := n) (k := k) with e | e | e
  · have y0 := (sharp (by rw [e]; decide)).trans e
    rw [e] at V1
    rw [y0] at V2
    refine ps_main0 ux uy uz C SA SB n c na ca nb cb da db time less k ka kb w _ _ _ hC hA hB VW VE TE WI CX CO V1 V2 V3 V4 V5 l0 l1 d1 q.1 q.2.1 q.2.2 h4 (fun h => open_under tA tB h) (fun h => ?_)
    subst h
    exact e
  · rw [e] at V1
    refine ps_main1 ux uy uz C SA SB n c na ca nb cb da db time less k ka kb w _ _ _ _ hC hA hB VW VE TE WI CX CO V1 V2 V3 V4 V5 l0 l1 d1 q.1 q.2.1 q.2.2 h4 (fun h => ?_) (fun h => ?_) (fun h hz => ?_)
    · rw [open_no (n := n) (k := k) h] at e
      cases e
    · subst h
      exact e
    · obtain ⟨m, rfl⟩ : ∃ m, n = m + 1 := ⟨n - 1, by omega⟩
      rw [fewer_no (n := m) (k := k) hz] at e
      cases e
  · have y0 := (sharp (by rw [e]; decide)).trans e
    have u0 := open_yes (k' := k) tA tB hc e
    have z0 : ansAt ux uy uz (n - 1) (fun i => k (i + 1)) (⟨0, 0, na, 0, ka, da⟩ : Trk) (⟨0, 0, nb, 0, kb, db⟩ : Trk) time = 2 := by
      rcases Nat.eq_zero_or_pos n with h | h
      · subst h
        exact open_yes tA tB hc e
      · obtain ⟨m, rfl⟩ : ∃ m, n = m + 1 := ⟨n - 1, by omega⟩
        exact fewer_yes tA tB hc e
    rw [e] at V1
    rw [y0] at V2
    rw [u0] at V3
    rw [z0] at V5
    exact ps_main2 ux uy uz C SA SB n c na ca nb cb da db time less k ka kb w _ hC hA hB VW VE TE WI CX CO V1 V2 V3 V4 V5 l0 l1 d1 q.1 q.2.1 q.2.2 h4
end Go.Proofs.YtnfoagcpgegldaaGreat
namespace Go.Proofs.YtnfoagcpgegldaaGreat
open Go.ChangeShapes Go.WideShapes Go.ChangeAt Go.RowKit Go.Joins Go.Deep
theorem owned : ownKnob Tryz.prog.godebug = none := by kernel_rfl
theorem laidAll : laidOutB Tryz.prog = true := by kernel_rfl
theorem cells1 : Tryz.prog.cellsOf 3 = 1 := by kernel_rfl
theorem cells3 : Tryz.prog.cellsOf 114 = 3 := by kernel_rfl
theorem cells4 : Tryz.prog.cellsOf 116 = 4 := by kernel_rfl
theorem cells2 : Tryz.prog.cellsOf 24 = 2 := by kernel_rfl
instance : Inhabited Knot := ⟨⟨0, 0, 0, 0⟩⟩
set_option maxRecDepth 100000 in
theorem read_point {H : Type} {enc : TypeId × Value → H} {w : World} {base : Nat} {sp : Nat → Bool} {held : Bool} {n : Nat} {c0 c1 c2 : Value} {x : DataW H × List MemPlace} (h : DataW.trod enc Tryz.prog w base sp held n 114 [c0, c1, c2] = some x) : ∃ a b c : Int, c0 = .int .i64 a ∧ c1 = .int .i64 b ∧ c2 = .int .i64 c := by
  obtain ⟨xs, m, _, _, hl, hlen, hg⟩ := DataW.trod_struct Tryz.underlying114 h
  match xs, hlen with
  | [y0, y1, y2], _ =>
    have h0 := hg 0 _ rfl
    have h1 := hg 1 _ rfl
    have h2 := hg 2 _ rfl
    simp [cells1] at h0 h1 h2
    obtain ⟨a, e0, _, _⟩ := DataW.trod_int Tryz.underlying3 h0
    obtain ⟨b, e1, _, _⟩ := DataW.trod_int Tryz.underlying3 h1
    obtain ⟨c, e2, _, _⟩ := DataW.trod_int Tryz.underlying3 h2
    simp at e0 e1 e2
    exact ⟨a, b, c, e0, e1, e2⟩
set_option maxRecDepth 100000 in
theorem read_knot {H : Type} {enc : TypeId × Value → H} {w : World} {base : Nat} {sp : Nat → Bool} {held : Bool} {n : Nat} {c0 c1 c2 c3 : Value} {x : DataW H × List MemPlace} (h : DataW.trod enc Tryz.prog w base sp held n 116 [c0, c1, c2, c3] = some x) : ∃ q : Knot, c0 = .int .i64 q.t ∧ c1 = .int .i64 q.x ∧ c2 = .int .i64 q.y ∧ c3 = .int .i64 q.z := by
  obtain ⟨xs, m, _, _, hl, hlen, hg⟩ := DataW.trod_struct Tryz.underlying116 h
  match xs, hlen with
  | [y0, y1], _ =>
    have h0 := hg 0 _ rfl
    have h1 := hg 1 _ rfl
    simp [cells1, cells3] at h0 h1
    obtain ⟨a, e0, _, _⟩ := DataW.trod_int Tryz.underlying3 h0
    obtain ⟨b, c, d, e1, e2, e3⟩ := read_point h1
    simp at e0
    exact ⟨⟨a, b, c, d⟩, e0, e1, e2, e3⟩
set_option maxRecDepth 100000 in
theorem open_track {H : Type} {enc : TypeId × Value → H} {w : World} {base : Nat} {sp : Nat → Bool} {held : Bool} {r : Reach} {b0 : Nat} {v : Value} {d : DataW H} {p : List MemPlace} (hv : Value.okWide Tryz.prog w r b0 24 v) (h : DataW.Trod enc Tryz.prog w base sp held 24 v d p) :
    ∃ (A : Option Addr) (n c : Nat) (k : Nat → Knot) (db : Int), v = .agg #[.slice A n c, .int .i64 db] ∧ n ≤ 9223372036854775807 ∧ (A = none → n = 0 ∧ c = 0) ∧ KA w A n k := by
  obtain ⟨c0, c1, y0, y1, m, rfl, _, _, hy0, hy1⟩ := open_agg2 Tryz.underlying24 (by kernel_rfl) cells2 hv h
  obtain ⟨db, e1, _, _⟩ := DataW.trod_int Tryz.underlying3 hy1
  simp at e1
  subst e1
  rcases open_slice Tryz.underlying22 hy0 with ⟨hcs, _⟩ | ⟨a, len, cap, m', n', D, Pl, hcs, _, hl, hm, hmm, _, hx⟩
  · simp at hcs
    subst hcs
    exact ⟨none, 0, 0, fun _ => default, db, rfl, by omega, fun _ => ⟨rfl, rfl⟩, fun h => absurd h (Nat.lt_irrefl 0)⟩
  · simp at hcs
    subst hcs
    rw [cells4] at hx
    have hlm : len ≤ m' := by rw [hmm]; split <;> omega
    have hq : ∀ i, i < len → ∃ q : Knot, w.cell? (a.add (i * 4)) = some (.int .i64 q.t) ∧ w.cell? ((a.add (i * 4)).add 1) = some (.int .i64 q.x) ∧ w.cell? ((a.add (i * 4)).add 2) = some (.int .i64 q.y) ∧ w.cell? ((a.add (i * 4)).add 3) = some (.int .i64 q.z) := by
      intro i hi
      obtain ⟨cs', g1, g2⟩ := hx i (by omega)
      obtain ⟨_, hlen, hc⟩ := World.cells?_some g1
      match cs', hlen with
      | [v0, v1, v2, v3], _ =>
        obtain ⟨q, rfl, rfl, rfl, rfl⟩ := read_knot g2
        have z0 := hc 0 (by omega)
        have z1 := hc 1 (by omega)
        have z2 := hc 2 (by omega)
        have z3 := hc 3 (by omega)
        refine ⟨q, ?_, z1, z2, z3⟩
        simpa [Addr.add] using z0
    obtain ⟨k, hk⟩ := choose_lt hq
    refine ⟨some a, len, cap, k, db, rfl, by unfold maxLen at hm; omega, fun h => (by cases h), fun h0 => ?_⟩
    obtain ⟨b, off, spot⟩ := a
    have hc := (hk 0 h0).1
    have hspot : spot = none := by simpa [Addr.add] using World.cell?_spot hc
    subst hspot
    have hc2 : w.cell? ⟨b, off, none⟩ = some (.int .i64 (k 0).t) := by simpa [Addr.add] using hc
    refine ⟨b, off, rfl, lt_of hc2, fun i hi => ?_⟩
    obtain ⟨z0, z1, z2, z3⟩ := hk i hi
    rw [addr_add] at z0 z1 z2 z3
    rw [addr_add] at z1 z2 z3
    exact ⟨z0, z1, z2, z3⟩
end Go.Proofs.YtnfoagcpgegldaaGreat
namespace Go.Proofs.YtnfoagcpgegldaaGreat
open Go.ChangeShapes Go.WideShapes Go.ChangeAt Go.RowKit Go.Joins Go.Deep
theorem cellsSl : Tryz.prog.cellsOf 22 = 1 := by kernel_rfl
set_option maxRecDepth 100000 in
theorem open_trackCells {H : Type} {enc : TypeId × Value → H} {w : World} {base : Nat} {sp : Nat → Bool} {held : Bool} {fuel : Nat} {c0 c1 : Value} {x : DataW H × List MemPlace} (h : DataW.trod enc Tryz.prog w base sp held fuel 24 [c0, c1] = some x) :
    ∃ (A : Option Addr) (n c : Nat) (k : Nat → Knot) (db : Int), c0 = .slice A n c ∧ c1 = .int .i64 db ∧ n ≤ 9223372036854775807 ∧ (A = none → n = 0 ∧ c = 0) ∧ KA w A n k := by
  obtain ⟨xs, m, _, _, hl, hlen, hg⟩ := DataW.trod_struct Tryz.underlying24 h
  match xs, hlen with
  | [y0, y1], _ =>
    have hy0 := hg 0 _ rfl
    have hy1 := hg 1 _ rfl
    simp [cells1, cellsSl] at hy0 hy1
    obtain ⟨db, e1, _, _⟩ := DataW.trod_int Tryz.underlying3 hy1
    simp at e1
    subst e1
    rcases open_slice Tryz.underlying22 hy0 with ⟨hcs, _⟩ | ⟨a, len, cap, m', n', D, Pl, hcs, _, hl, hm, hmm, _, hx⟩
    · simp at hcs
      subst hcs
      exact ⟨none, 0, 0, fun _ => default, db, rfl, rfl, by omega, fun _ => ⟨rfl, rfl⟩, fun h => absurd h (Nat.lt_irrefl 0)⟩
    · simp at hcs
      subst hcs
      rw [cells4] at hx
      have hlm : len ≤ m' := by rw [hmm]; split <;> omega
      have hq : ∀ i, i < len → ∃ q : Knot, w.cell? (a.add (i * 4)) = some (.int .i64 q.t) ∧ w.cell? ((a.add (i * 4)).add 1) = some (.int .i64 q.x) ∧ w.cell? ((a.add (i * 4)).add 2) = some (.int .i64 q.y) ∧ w.cell? ((a.add (i * 4)).add 3) = some (.int .i64 q.z) := by
        intro i hi
        obtain ⟨cs', g1, g2⟩ := hx i (by omega)
        obtain ⟨_, hlen, hc⟩ := World.cells?_some g1
        match cs', hlen with
        | [v0, v1, v2, v3], _ =>
          obtain ⟨q, rfl, rfl, rfl, rfl⟩ := read_knot g2
          have z0 := hc 0 (by omega)
          have z1 := hc 1 (by omega)
          have z2 := hc 2 (by omega)
          have z3 := hc 3 (by omega)
          refine ⟨q, ?_, z1, z2, z3⟩
          simpa [Addr.add] using z0
      obtain ⟨k, hk⟩ := choose_lt hq
      refine ⟨some a, len, cap, k, db, rfl, rfl, by unfold maxLen at hm; omega, fun h => (by cases h), fun h0 => ?_⟩
      obtain ⟨b, off, spot⟩ := a
      have hc := (hk 0 h0).1
      have hspot : spot = none := by simpa [Addr.add] using World.cell?_spot hc
      subst hspot
      have hc2 : w.cell? ⟨b, off, none⟩ = some (.int .i64 (k 0).t) := by simpa [Addr.add] using hc
      refine ⟨b, off, rfl, lt_of hc2, fun i hi => ?_⟩
      obtain ⟨z0, z1, z2, z3⟩ := hk i hi
      rw [addr_add] at z0 z1 z2 z3
      rw [addr_add] at z1 z2 z3
      exact ⟨z0, z1, z2, z3⟩
end Go.Proofs.YtnfoagcpgegldaaGreat
namespace Go.Proofs.YtnfoagcpgegldaaGreat
open Go.ChangeShapes Go.WideShapes Go.ChangeAt Go.RowKit Go.Joins Go.Deep
theorem cells8 : Tryz.prog.cellsOf 59 = 8 := by kernel_rfl
theorem cellsSite : Tryz.prog.cellsOf 57 = 4 := by kernel_rfl
theorem cellsCone : Tryz.prog.cellsOf 122 = 5 := by kernel_rfl
theorem cellsVe : Tryz.prog.cellsOf 54 = 3 := by kernel_rfl
theorem cellsCs : Tryz.prog.cellsOf 55 = 1 := by kernel_rfl
instance : Inhabited Cone := ⟨⟨0, 0, 0, 0, 0⟩⟩
set_option maxRecDepth 100000 in
theorem read_vec {H : Type} {enc : TypeId × Value → H} {w : World} {base : Nat} {sp : Nat → Bool} {held : Bool} {n : Nat} {c0 c1 c2 : Value} {x : DataW H × List MemPlace} (h : DataW.trod enc Tryz.prog w base sp held n 54 [c0, c1, c2] = some x) : ∃ a b c : Int, c0 = .int .i64 a ∧ c1 = .int .i64 b ∧ c2 = .int .i64 c := by
  obtain ⟨xs, m, _, _, hl, hlen, hg⟩ := DataW.trod_struct Tryz.underlying54 h
  match xs, hlen with
  | [y0, y1, y2], _ =>
    have h0 := hg 0 _ rfl
    have h1 := hg 1 _ rfl
    have h2 := hg 2 _ rfl
    simp [cells1] at h0 h1 h2
    obtain ⟨a, e0, _, _⟩ := DataW.trod_int Tryz.underlying3 h0
    obtain ⟨b, e1, _, _⟩ := DataW.trod_int Tryz.underlying3 h1
    obtain ⟨c, e2, _, _⟩ := DataW.trod_int Tryz.underlying3 h2
    simp at e0 e1 e2
    exact ⟨a, b, c, e0, e1, e2⟩
set_option maxRecDepth 100000 in
theorem read_cone {H : Type} {enc : TypeId × Value → H} {w : World} {base : Nat} {sp : Nat → Bool} {held : Bool} {n : Nat} {c0 c1 c2 c3 c4 : Value} {x : DataW H × List MemPlace} (h : DataW.trod enc Tryz.prog w base sp held n 122 [c0, c1, c2, c3, c4] = some x) : ∃ q : Cone, c0 = .int .i64 q.x ∧ c1 = .int .i64 q.y ∧ c2 = .int .i64 q.z ∧ c3 = .int .i64 q.u ∧ c4 = .int .i64 q.d := by
  obtain ⟨xs, m, _, _, hl, hlen, hg⟩ := DataW.trod_struct Tryz.underlying122 h
  match xs, hlen with
  | [y0, y1, y2], _ =>
    have h0 := hg 0 _ rfl
    have h1 := hg 1 _ rfl
    have h2 := hg 2 _ rfl
    simp [cells1, cellsVe] at h0 h1 h2
    obtain ⟨a, b, c, e0, e1, e2⟩ := read_vec h0
    obtain ⟨u, e3, _, _⟩ := DataW.trod_int Tryz.underlying3 h1
    obtain ⟨d, e4, _, _⟩ := DataW.trod_int Tryz.underlying3 h2
    simp at e3 e4
    exact ⟨⟨a, b, c, u, d⟩, e0, e1, e2, e3, e4⟩
set_option maxRecDepth 100000 in
theorem open_siteCells {H : Type} {enc : TypeId × Value → H} {w : World} {base : Nat} {sp : Nat → Bool} {held : Bool} {fuel : Nat} {c0 c1 c2 c3 : Value} {x : DataW H × List MemPlace} (h : DataW.trod enc Tryz.prog w base sp held fuel 57 [c0, c1, c2, c3] = some x) :
    ∃ (ux uy uz : Int) (C : Option Addr) (n c : Nat) (k : Nat → Cone), c0 = .int .i64 ux ∧ c1 = .int .i64 uy ∧ c2 = .int .i64 uz ∧ c3 = .slice C n c ∧ n ≤ 9223372036854775807 ∧ (C = none → n = 0 ∧ c = 0) ∧ KC w C n k := by
  obtain ⟨xs, m, _, _, hl, hlen, hg⟩ := DataW.trod_struct Tryz.underlying57 h
  match xs, hlen with
  | [y0, y1], _ =>
    have hy0 := hg 0 _ rfl
    have hy1 := hg 1 _ rfl
    simp [cellsVe, cellsCs] at hy0 hy1
    obtain ⟨ux, uy, uz, rfl, rfl, rfl⟩ := read_vec hy0
    rcases open_slice Tryz.underlying55 hy1 with ⟨hcs, _⟩ | ⟨a, len, cap, m', n', D, Pl, hcs, _, hl, hm, hmm, _, hx⟩
    · simp at hcs
      subst hcs
      exact ⟨ux, uy, uz, none, 0, 0, fun _ => default, rfl, rfl, rfl, rfl, by omega, fun _ => ⟨rfl, rfl⟩, fun h => absurd h (Nat.lt_irrefl 0)⟩
    · simp at hcs
      subst hcs
      rw [cellsCone] at hx
      have hlm : len ≤ m' := by rw [hmm]; split <;> omega
      have hq : ∀ i, i < len → ∃ q : Cone, w.cell? (a.add (i * 5)) = some (.int .i64 q.x) ∧ w.cell? ((a.add (i * 5)).add 1) = some (.int .i64 q.y) ∧ w.cell? ((a.add (i * 5)).add 2) = some (.int .i64 q.z) ∧ w.cell? ((a.add (i * 5)).add 3) = some (.int .i64 q.u) ∧ w.cell? ((a.add (i * 5)).add 4) = some (.int .i64 q.d) := by
        intro i hi
        obtain ⟨cs', g1, g2⟩ := hx i (by omega)
        obtain ⟨_, hlen, hc⟩ := World.cells?_some g1
        match cs', hlen with
        | [v0, v1, v2, v3, v4], _ =>
          obtain ⟨q, rfl, rfl, rfl, rfl, rfl⟩ := read_cone g2
          have z0 := hc 0 (by omega)
          have z1 := hc 1 (by omega)
          have z2 := hc 2 (by omega)
          have z3 := hc 3 (by omega)
          have z4 := hc 4 (by omega)
          refine ⟨q, ?_, z1, z2, z3, z4⟩
          simpa [Addr.add] using z0
      obtain ⟨k, hk⟩ := choose_lt hq
      refine ⟨ux, uy, uz, some a, len, cap, k, rfl, rfl, rfl, rfl, by unfold maxLen at hm; omega, fun h => (by cases h), fun h0 => ?_⟩
      obtain ⟨b, off, spot⟩ := a
      have hc := (hk 0 h0).1
      have hspot : spot = none := by simpa [Addr.add] using World.cell?_spot hc
      subst hspot
      have hc2 : w.cell? ⟨b, off, none⟩ = some (.int .i64 (k 0).x) := by simpa [Addr.add] using hc
      refine ⟨b, off, rfl, lt_of hc2, fun i hi => ?_⟩
      obtain ⟨z0, z1, z2, z3, z4⟩ := hk i hi
      rw [addr_add] at z0 z1 z2 z3 z4
      rw [addr_add] at z1 z2 z3 z4
      exact ⟨z0, z1, z2, z3, z4⟩
set_option maxRecDepth 100000 in
theorem open_view {H : Type} {enc : TypeId × Value → H} {w : World} {base : Nat} {sp : Nat → Bool} {held : Bool} {r : Reach} {b0 : Nat} {v : Value} {d : DataW H} {p : List MemPlace} (hv : Value.okWide Tryz.prog w r b0 59 v) (h : DataW.Trod enc Tryz.prog w base sp held 59 v d p) :
    ∃ (ux uy uz : Int) (C SA SB : Option Addr) (n c na ca nb cb : Nat) (k : Nat → Cone) (ka kb : Nat → Knot) (da db : Int), v = .agg #[.int .i64 ux, .int .i64 uy, .int .i64 uz, .slice C n c, .slice SA na ca, .int .i64 da, .slice SB nb cb, .int .i64 db] ∧
      (n ≤ 9223372036854775807 ∧ na ≤ 9223372036854775807 ∧ nb ≤ 9223372036854775807) ∧ ((C = none → n = 0 ∧ c = 0) ∧ (SA = none → na = 0 ∧ ca = 0) ∧ (SB = none → nb = 0 ∧ cb = 0)) ∧ KC w C n k ∧ KA w SA na ka ∧ KA w SB nb kb := by
  obtain ⟨cs, rfl, hsz⟩ : ∃ cs, v = .agg cs ∧ cs.size = Tryz.prog.cellsOf 59 := by
    simp only [Value.okWide, Tryz.underlying59] at hv
    obtain ⟨cs, h1, h2, _⟩ := hv
    exact ⟨cs, h1, h2⟩
  rw [cells8] at hsz
  obtain ⟨c0, c1, c2, c3, c4, c5, c6, c7, rfl⟩ : ∃ c0 c1 c2 c3 c4 c5 c6 c7, cs = #[c0, c1, c2, c3, c4, c5, c6, c7] := by
    obtain ⟨l⟩ := cs
    match l, hsz with
    | [c0, c1, c2, c3, c4, c5, c6, c7], _ => exact ⟨c0, c1, c2, c3, c4, c5, c6, c7, rfl⟩
  obtain ⟨fuel, hf⟩ := h
  obtain ⟨xs, m, _, _, hl, hlen, hg⟩ := DataW.trod_struct Tryz.underlying59 hf
  match xs, hlen with
  | [y0, y1, y2], _ =>
    have h0 := hg 0 _ rfl
    have h1 := hg 1 _ rfl
    have h2 := hg 2 _ rfl
    simp [cellsSite, cells2, Value.cells] at h0 h1 h2
    obtain ⟨ux, uy, uz, C, n, c, k, rfl, rfl, rfl, rfl, n1, n2, n3⟩ := open_siteCells h0
    obtain ⟨A, na, ca, ka, da, rfl, rfl, m1, m2, m3⟩ := open_trackCells h1
    obtain ⟨B, nb, cb, kb, db, rfl, rfl, o1, o2, o3⟩ := open_trackCells h2
    exact ⟨ux, uy, uz, C, A, B, n, c, na, ca, nb, cb, k, ka, kb, da, db, rfl, ⟨n1, m1, o1⟩, ⟨n2, m2, o2⟩, n3, m3, o3⟩
end Go.Proofs.YtnfoagcpgegldaaGreat
namespace Go.Proofs.YtnfoagcpgegldaaGreat
open Go.ChangeShapes Go.WideShapes Go.ChangeAt Go.RowKit Go.Joins Go.Deep
set_option maxRecDepth 100000 in
theorem pathSeen_lifted (os : Os) (started : os.Started) (H : Type) (enc : TypeId × Value → H) :
    ReturnsInHanded {} Tryz.checked os 9 .any (Rows.pathSeenSpec.pre6 enc Tryz.prog Tryz.f9 Rows.pathSeenRow.domain false) (Rows.pathSeenSpec.post enc Tryz.prog Tryz.f9 false true false false) := by
  refine returnsInHanded_of_change (C := Tryz.checked) owned started (by kernel_rfl) Tryz.func9
    (ChangeSpec.witness6 (enc := enc) (C := Tryz.checked) false ⟨#[], #[.agg #[.int .i64 0, .int .i64 0, .int .i64 0, .slice none 0 0, .slice none 0 0, .int .i64 0, .slice none 0 0, .int .i64 0], .int .i64 0, .int .i64 0], []⟩ 8 (by kernel_rfl) (by kernel_rfl) (by kernel_rfl) (by kernel_rfl)) ?_
  intro W base args ds gs before hval0 hW hcnd _
  have hval : ∀ (j : Nat) t v, Tryz.f9.params[j]? = some t → args[j]? = some v → Value.okWide Tryz.prog W .any base t v := hval0
  have hW' := hW
  obtain ⟨p, q, hA0, hV, rfl, hfz, hnd⟩ := hW
  have hA : DataW.TrodAll enc Tryz.prog W 0 (fun _ => true) true Tryz.f9.params.toList args.toList ds p := hA0
  rw [Tryz.params9] at hA hval
  obtain ⟨v0, vs0, d0, ds0, p0, q0, hargs, rfl, rfl, h0, r0⟩ := trodAll_cons hA
  obtain ⟨v1, vs1, d1, ds1, p1, q1, rfl, rfl, rfl, h1, r1⟩ := trodAll_cons r0
  obtain ⟨v2, vs2, d2, ds2, p2, q2, rfl, rfl, rfl, h2, r2⟩ := trodAll_cons r1
  obtain ⟨rfl, rfl, rfl⟩ := trodAll_nil r2
  obtain rfl : args = #[v0, v1, v2] := by cases args; simp_all
  obtain ⟨rfl, rfl⟩ := trodVars_none hV
  have k0 := h0
  have lt0 : ∀ x ∈ p0, x.block < W.heap.size := by obtain ⟨m, hm⟩ := k0; exact DataW.trod_lt m _ _ _ hm
  obtain ⟨ux, uy, uz, C, SA, SB, n, c, na, ca, nb, cb, k, ka, kb, da, db, rfl, ⟨n1, n2, n3⟩, ⟨z1, z2, z3⟩, k1, k2, k3⟩ := open_view (hval 0 59 v0 rfl rfl) h0
  obtain ⟨a1, rfl, rfl, rfl, w1⟩ := open_int Tryz.underlying3 (hval 1 3 v1 rfl rfl) h1
  obtain ⟨a2, rfl, rfl, rfl, w2⟩ := open_int Tryz.underlying3 (hval 2 3 v2 rfl rfl) h2
  clear hA0 hval0
  refine (pathSeen_any ux uy uz C SA SB n c na ca nb cb da db a1 a2 k ka kb W n1 n2 n3 z1 z2 z3 k1 k2 k3).mono fun e W' ⟨he, bel⟩ => ?_
  subst he
  exact ⟨_, rfl, _, _, _, [], _, [], hW', trodAll_mk1 (shut_bool Tryz.underlying4 _), (trodAll_cons_mk (Below.trod laidAll (by kernel_rfl) (of_decide_eq_true (by kernel_rfl)) k0 bel lt0) (trodAll_cons_mk (shut_int Tryz.underlying3 w1) (trodAll_cons_mk (shut_int Tryz.underlying3 w2) trodAll_mk0))), rfl, bel.frame _, fun h => by cases h⟩
theorem pathSeen_over : Rows.pathSeenRow.holds Tryz.pinned (OpenSpec.ofChange Rows.pathSeenSpec) :=
  OpenClaim.holds_of_wide 9 Tryz.f9 rfl rfl rfl rfl rfl rfl rfl ⟨by kernel_rfl, by kernel_rfl, by kernel_rfl, by kernel_rfl, by kernel_rfl⟩ rfl rfl rfl rfl rfl (by kernel_rfl) Tryz.func9 (by kernel_rfl)
    (of_decide_eq_true (by kernel_rfl)) (by unfold Func.isWrapper; first | (rw [if_pos (by decide +kernel)]; kernel_rfl) | (rw [if_neg (by decide +kernel)]; exact ⟨rfl, rfl⟩))
    (fun os started H enc _ => pathSeen_lifted os started H enc)
/-- THE STATEMENT. -/
theorem pathSeen_holds : Rows.PathSeenSaid := pathSeen_over
end Go.Proofs.YtnfoagcpgegldaaGreat
