/- The statement TopPathTrackedSaid: whatever the view, the drive and the times, the law TopPathTracked returns true, and its arguments read afterwards as before. -/
import Derived.Test.YtjncjoaohonmjaaGreatB34
import Derived.Test.YtjncjoaohonmjaaGreatB35
import Derived.Test.YtjncjoaohonmjaaGreatB30
import Derived.Test.YtjncjoaohonmjaaGreatB21
import Derived.ProofKit
import Derived.OpenShut
import Derived.ShutString
import Derived.ChangeOld
import Derived.Below
import Derived.Lib.SmallJoins
import Derived.Deep.Slices
import Derived.Test.YtjncjoaohonmjaaGreatB25
import Derived.Test.YtjncjoaohonmjaaGreatB10
namespace Go.Proofs.YtjncjoaohonmjaaGreat
open Go.RowKit Go.Shelf Go.Sort
attribute [local go_sem] idx3_0 idx3_1 idx3_2 old1 fro1 old2 fro2 old3 fro3 old4 fro4 old5 fro5 old6 fro6 old7 fro7 old8 fro8 old9 fro9 old10 fro10 old11 fro11 old12 fro12
theorem ediv_bd {x n : Int} (B : Int) (b0 : 0 ≤ B) (h1 : -B ≤ x) (h2 : x ≤ B) (n1 : 1 ≤ n) : -B ≤ x / n ∧ x / n ≤ B := by
  have h := Int.mul_le_mul_of_nonneg_left n1 b0
  rw [Int.mul_one] at h
  refine ⟨Int.le_ediv_of_mul_le (by omega) ?_, Int.ediv_le_of_le_mul (by omega) (by omega)⟩
  rw [Int.neg_mul]
  omega
/-- the six numbers of a box -/
def bx (p : Plc) (d : Int) (i : Nat) : Int := match i with
  | 0 => p.x / p.n - d
  | 1 => -(-p.x / p.n) + d
  | 2 => p.y / p.n - d
  | 3 => -(-p.y / p.n) + d
  | 4 => p.z / p.n - d
  | _ => -(-p.z / p.n) + d
theorem bx_bd {p : Plc} {d : Int} (h : p.ok) (d0 : 0 ≤ d) (d1 : d ≤ 1000) (i : Nat) : -20000000000 ≤ bx p d i ∧ bx p d i ≤ 20000000000 := by
  obtain ⟨⟨n1, _⟩, ⟨x1, x2⟩, ⟨y1, y2⟩, z1, z2⟩ := h
  have a := ediv_bd (x := p.x) 10000000000 (by omega) (by omega) x2 n1
  have b := ediv_bd (x := -p.x) 10000000000 (by omega) (by omega) (by omega) n1
  have a' := ediv_bd (x := p.y) 10000000000 (by omega) (by omega) y2 n1
  have b' := ediv_bd (x := -p.y) 10000000000 (by omega) (by omega) (by omega) n1
  have a'' := ediv_bd (x := p.z) 10000000000 (by omega) (by omega) z2 n1
  have b'' := ediv_bd (x := -p.z) 10000000000 (by omega) (by omega) (by omega) n1
  unfold bx
  split <;> omega
theorem tt_tms {A B : TV} {s : Int} (h : timesErr A B s = 0) : outside s A.k A.n = false ∧ outside s B.k B.n = false := by
  unfold timesErr at h
  cases h1 : outside s A.k A.n <;> cases h2 : outside s B.k B.n <;> simp [h1, h2] at h ⊢
theorem tt_tg {n : Nat} {xs : Nat → Int} (hn : n ≤ 12) (h : ∀ i, 0 ≤ xs i ∧ xs i ≤ 3) : tgErr n xs 4 = 0 := by
  unfold tgErr
  rw [if_pos (by simp; omega)]
  have : ((List.range n).any fun i => !wi (xs i) 0 (4 - 1)) = false := by
    rw [List.any_eq_false]
    intro i _
    have : wi (xs i) 0 (4 - 1) = true := wi_t.2 (by have := h i; omega)
    rw [this]
    decide
  rw [this]
  rfl
theorem topTracked_any (ux uy uz : Int) (C SA SB TA : Option Addr) (n c na ca nb cb tn tc : Nat) (da db t lo hi st ra : Int) (k : Nat → Cone) (ka kb : Nat → Knot) (ts : Nat → Int) (w : World) (hn : n ≤ 9223372036854775807) (hna : na ≤ 9223372036854775807) (hnb : nb ≤ 9223372036854775807)
    (hC0 : C = none → n = 0 ∧ c = 0) (hA0 : SA = none → na = 0 ∧ ca = 0) (hB0 : SB = none → nb = 0 ∧ cb = 0) (hC : KC w C n k) (hA : KA w SA na ka) (hB : KA w SB nb kb) (hT : IA w TA tn ts) :
    Calls Tryz.prog 3 #[.agg #[.int .i64 ux, .int .i64 uy, .int .i64 uz, .slice C n c, .slice SA na ca, .int .i64 da, .slice SB nb cb, .int .i64 db], .agg #[.int .i64 t, .int .i64 lo, .int .i64 hi, .int .i64 st, .int .i64 ra], .slice TA tn tc] w fun e w' => e = .returned (.bool true) ∧ Below w.heap.size w w' := by
  have F1 := fun W => few_any SA na ca da W hna
  have F2 := fun W => few_any SB nb cb db W hnb
  by_cases q1 : na ≤ 14
  case neg =>
    rw [show decide ((na : Int) ≤ 14) = false by rw [decide_eq_false_iff_not]; omega] at F1
    exact tt_e0 ux uy uz C SA SB TA n c na ca nb cb tn tc da db t lo hi st ra k ka kb ts w hC hA hB hT F1
  rw [show decide ((na : Int) ≤ 14) = true by rw [decide_eq_true_eq]; omega] at F1
  by_cases q2 : nb ≤ 14
  case neg =>
    rw [show decide ((nb : Int) ≤ 14) = false by rw [decide_eq_false_iff_not]; omega] at F2
    exact tt_e1 ux uy uz C SA SB TA n c na ca nb cb tn tc da db t lo hi st ra k ka kb ts w hC hA hB hT F1 F2
  rw [show decide ((nb : Int) ≤ 14) = true by rw [decide_eq_true_eq]; omega] at F2
  by_cases q4 : n ≤ 4
  case neg => exact tt_e2 ux uy uz C SA SB TA n c na ca nb cb tn tc da db t lo hi st ra k ka kb ts w hC hA hB hT F1 F2 (by rw [decide_eq_true_eq]; omega)
  have h4 : decide ((4 : Int) < (n : Int)) = false := by rw [decide_eq_false_iff_not]; omega
  have VE := fun W a b d => rviewErr_any ux uy uz C SA SB n c na ca nb cb k ka kb da db W hn hna hnb a b d
  by_cases hv : vwErr (siteRes ux uy uz n k).2 (⟨SA, na, ca, ka, da⟩ : TV) (⟨SB, nb, cb, kb, db⟩ : TV) = 0
  case neg => exact tt_e3 ux uy uz C SA SB TA n c na ca nb cb tn tc da db t lo hi st ra k ka kb ts w hC hA hB hT F1 F2 h4 VE hv
  rw [hv] at VE
  by_cases q12 : tn ≤ 12
  case neg => exact tt_e4 ux uy uz C SA SB TA n c na ca nb cb tn tc da db t lo hi st ra k ka kb ts w hC hA hB hT F1 F2 h4 VE (by rw [decide_eq_true_eq]; omega)
  have h12 : decide ((12 : Int) < (tn : Int)) = false := by rw [decide_eq_false_iff_not]; omega
  have DE := fun W => rdriveErr_any t lo hi st ra W
  by_cases hd : driveErr t lo hi st ra = 0
  case neg => exact tt_e5 ux uy uz C SA SB TA n c na ca nb cb tn tc da db t lo hi st ra k ka kb ts w hC hA hB hT F1 F2 h4 VE h12 DE hd
  rw [hd] at DE
  by_cases ht : t = 4
  case neg => exact tt_e6 ux uy uz C SA SB TA n c na ca nb cb tn tc da db t lo hi st ra k ka kb ts w hC hA hB hT F1 F2 h4 VE h12 DE (by simp [ht])
  obtain ⟨⟨t1, t2⟩, ⟨l1, l2⟩, ⟨h1, h2⟩, ⟨r0, r1⟩, f1, f2⟩ := drive_ok hd
  have hL : IntKind.i64.wrap (hi - lo) = hi - lo := IntWalk.i64_in _ (by omega)
  by_cases hq : hi - lo ≤ 40
  case neg => exact tt_e7 ux uy uz C SA SB TA n c na ca nb cb tn tc da db t lo hi st ra k ka kb ts w hC hA hB hT F1 F2 h4 VE h12 DE (by simp [ht]) hL (by rw [decide_eq_true_eq]; omega)
  subst ht
  obtain ⟨hs, eA, eB⟩ := vw_0 hv
  replace eA : ctErr ka na da = 0 := eA
  replace eB : ctErr kb nb db = 0 := eB
  obtain ⟨hu, _, hc⟩ := site_0 hs
  obtain ⟨⟨ux1, ux2⟩, ⟨uy1, uy2⟩, uz1, uz2⟩ := axis_bd hu
  obtain ⟨a0, a12, _, da0, da1⟩ := valid_of eA
  obtain ⟨b0, b12, _, db0, db1⟩ := valid_of eB
  obtain ⟨E, hE⟩ : ∃ E : Nat → Int, E = fun j => timesErr (⟨SA, na, ca, ka, da⟩ : TV) (⟨SB, nb, cb, kb, db⟩ : TV) (ts j) := ⟨_, rfl⟩
  have hin : ∀ j, E j = 0 → outside (ts j) ka na = false ∧ outside (ts j) kb nb = false := fun j h => by
    rw [hE] at h
    exact tt_tms h
  have hok : ∀ j, E j = 0 → (plc ka na (ts j)).ok ∧ (plc kb nb (ts j)).ok := fun j h => ⟨plc_ok eA (hin j h).1, plc_ok eB (hin j h).2⟩
  obtain ⟨P, hP⟩ : ∃ P : Nat → Nat → Int, P = fun j => bx (plc ka na (ts j)) da := ⟨_, rfl⟩
  obtain ⟨Q, hQ⟩ : ∃ Q : Nat → Nat → Int, Q = fun j => bx (plc kb nb (ts j)) db := ⟨_, rfl⟩
  have bP : ∀ j, E j = 0 → ∀ i, -20000000000 ≤ P j i ∧ P j i ≤ 20000000000 := fun j h i => by rw [hP]; exact bx_bd (hok j h).1 da0 da1 i
  have bQ : ∀ j, E j = 0 → ∀ i, -20000000000 ≤ Q j i ∧ Q j i ≤ 20000000000 := fun j h i => by rw [hQ]; exact bx_bd (hok j h).2 db0 db1 i
  obtain ⟨f, hf⟩ : ∃ f : Nat → Int, f = fun j => quad (Q j 0 - P j 0) (Q j 2 - P j 2) := ⟨_, rfl⟩
  have fb : ∀ j, 0 ≤ f j ∧ f j ≤ 3 := fun j => by rw [hf]; exact quad_bd _ _
  have hpt : ptErr 4 lo hi st ra tn f = 0 := (pe_0 hd).trans (tt_tg q12 fb)
  obtain ⟨rr, G, hG, MR⟩ := rate_fix 4 lo hi st ra tn f hpt
  have main := fun m ys T F => tt_main ux uy uz C SA SB TA n c na ca nb cb tn tc da db 4 lo hi st ra k ka kb ts w hC hA hB hT F1 F2 h4 VE h12 DE rfl hL (by rw [decide_eq_false_iff_not]; omega) hA0 hB0 q1 q2 (E := E) (f := f) (P := P) (Q_ := Q) (fun _ => 0)
    (by
      intro j _ W a b
      rw [hE]
      obtain ⟨p, o, rfl, k1⟩ := a a0
      obtain ⟨p', o', rfl, k2⟩ := b b0
      exact timesErr_any p o p' o' na ca nb cb da db (ts j) ka kb W a0 (by omega) b0 (by omega) k1 k2)
    (by
      intro j _ h W Y cY a
      refine (boxAt_x Y na cY ka da (ts j) W ⟨a, by show na ≤ _; omega⟩).mono ?_
      rintro e w' ⟨hb, rfl⟩
      have hz : boxErr (⟨Y, na, cY, ka, da⟩ : TV) (ts j) = 0 := by
        unfold boxErr
        rw [if_pos (show TV.err (⟨Y, na, cY, ka, da⟩ : TV) = 0 from eA)]
        show (if outside (ts j) ka na then (2 : Int) else 0) = 0
        rw [(hin j h).1]
        rfl
      rw [hz, if_pos rfl, hP]
      exact ⟨rfl, hb⟩)
    (by
      intro j _ h W Y cY a
      refine (boxAt_x Y nb cY kb db (ts j) W ⟨a, by show nb ≤ _; omega⟩).mono ?_
      rintro e w' ⟨hb, rfl⟩
      have hz : boxErr (⟨Y, nb, cY, kb, db⟩ : TV) (ts j) = 0 := by
        unfold boxErr
        rw [if_pos (show TV.err (⟨Y, nb, cY, kb, db⟩ : TV) = 0 from eB)]
        show (if outside (ts j) kb nb then (2 : Int) else 0) = 0
        rw [(hin j h).2]
        rfl
      rw [hz, if_pos rfl, hQ]
      exact ⟨rfl, hb⟩)
    (by
      intro j _ h W a
      obtain ⟨p, o, rfl, k1⟩ := a a0
      rw [hP]
      exact rboxAt_any p o na ca da (ts j) W ka k1 eA (hin j h).1)
    (by
      intro j _ h W a
      obtain ⟨p, o, rfl, k1⟩ := a b0
      rw [hQ]
      exact rboxAt_any p o nb cb db (ts j) W kb k1 eB (hin j h).2)
    (fun j _ h => IntWalk.i64_in _ (by have := bP j h 0; have := bQ j h 0; omega))
    (fun j _ h => IntWalk.i64_in _ (by have := bP j h 2; have := bQ j h 2; omega))
    (by
      intro j _ h W
      have x1 := bP j h 0
      have x2 := bQ j h 0
      have y1 := bP j h 2
      have y2 := bQ j h 2
      rw [hf]
      exact quarter_any _ _ (by omega) (by omega) (by omega) (by omega) W)
    (yy := fun j => ansAt ux uy uz n k ⟨0, 0, na, 0, ka, da⟩ ⟨0, 0, nb, 0, kb, db⟩ (ts j))
    (fun j _ h W X cX Y cY Z cZ a b d => vis_call2 ux uy uz n k na nb ka kb da db _ hs eA eB (hin j h).1 (hin j h).2 W X cX a Y cY Z cZ b d)
    (fun j _ _ => ans_012)
    (by
      intro j _ h hyes
      refine ⟨pn_ ux (Q j 0 - P j 1) (Q j 1 - P j 0) + pn_ uy (Q j 2 - P j 3) (Q j 3 - P j 2) + pn_ uz (Q j 4 - P j 5) (Q j 5 - P j 4), pm ux (Q j 0 - P j 1) (Q j 1 - P j 0) + pm uy (Q j 2 - P j 3) (Q j 3 - P j 2) + pm uz (Q j 4 - P j 5) (Q j 5 - P j 4), ?_, fun W => product_any ux uy uz (P j 0) (P j 1) (P j 2) (P j 3) (P j 4) (P j 5) (Q j 0) (Q j 1) (Q j 2) (Q j 3) (Q j 4) (Q j 5) ux1 ux2 uy1 uy2 uz1 uz2 (bP j h 0).1 (bP j h 0).2 (bP j h 1).1 (bP j h 1).2 (bP j h 2).1 (bP j h 2).2 (bP j h 3).1 (bP j h 3).2 (bP j h 4).1 (bP j h 4).2 (bP j h 5).1 (bP j h 5).2 (bQ j h 0).1 (bQ j h 0).2 (bQ j h 1).1 (bQ j h 1).2 (bQ j h 2).1 (bQ j h 2).2 (bQ j h 3).1 (bQ j h 3).2 (bQ j h 4).1 (bQ j h 4).2 (bQ j h 5).1 (bQ j h 5).2 W⟩
      have := seen_nn (A := (⟨0, 0, na, 0, ka, da⟩ : Trk)) (B := (⟨0, 0, nb, 0, kb, db⟩ : Trk)) (time := ts j) ⟨eA, (hin j h).1⟩ ⟨eB, (hin j h).2⟩ hyes
      rw [hP, hQ]
      exact this)
    (m := m) (ys := ys) (T := T) (F := F) (rr := rr) (G := G)
  have CX := fun W a b d => copyView_any ux uy uz C SA SB n c na ca nb cb da db k ka kb W (by omega) (by omega) (by omega) hC0 hA0 hB0 a b d
  cases hokB : okB 4 lo hi st tn f ra with
  | false =>
    refine main 0 (fun _ => 0) 0 12 (.inl ⟨rfl, ?_⟩) (fun h => absurd h (by decide)) ?_ (fun _ => MR) CX
    · rcases hG with ⟨rfl, _⟩ | ⟨rfl, g1, g2, g3, _⟩
      · exact .inl rfl
      · refine .inr ⟨rfl, ?_⟩
        rcases Int.lt_or_le ra rr with q | q
        · exact q
        · rw [ok_mono hpt g3 q] at hokB; cases hokB
    · intro _ W A' c' a
      refine (point_no 4 lo hi st ra tn f hpt hokB W A' c' a).mono ?_
      rintro e w' ⟨rfl, hb⟩
      exact ⟨none, 0, rfl, fun h => absurd h (Nat.lt_irrefl 0), fun _ => ⟨rfl, rfl⟩, hb⟩
  | true =>
    have hall := okB_iff.1 hokB
    have hown : Mot 4 lo hi st ra tn f (pL 4 lo hi st ra tn f) := pL_mot (pt_in hpt).2.2.2 hall
    have e1 : cpF 4 lo hi st ra tn tn f (pL 4 lo hi st ra tn f) = 0 := by unfold cpF; rw [if_pos hpt, if_pos rfl]; exact mot_iff.2 hown
    have e2 : cpV 4 lo hi st ra tn tn f (pL 4 lo hi st ra tn f) = pTrv 4 lo hi st ra tn f tn := by rw [(cpF_0 hpt e1).2.2, ctv_pL]
    refine main tn (pL 4 lo hi st ra tn f) (pTrv 4 lo hi st ra tn f tn) 0 (.inr ⟨rfl, ?_⟩) ?_ ?_ (fun _ => MR) CX
    · rcases hG with ⟨rfl, g1⟩ | ⟨rfl, g1, g2, g3, g4⟩
      · rw [ok_mono hpt hokB r1] at g1; cases g1
      · refine ⟨rfl, ?_, rfl, fun i hi' => ?_, fun i hi' => ?_⟩
        · rcases Int.lt_or_le ra rr with q | q
          · rcases g4 with z | z
            · omega
            · rw [ok_mono hpt hokB (show ra ≤ rr - 1 by omega)] at z; cases z
          · exact q
        · obtain ⟨_, m2, _⟩ := hown i hi'
          have := fb i
          omega
        · obtain ⟨m1, _, _⟩ := hown i hi'
          omega
    · intro _ W A1 c1 A2 c2 a b
      have := checkPointing_all 4 lo hi st ra A1 A2 tn c1 tn c2 f (pL 4 lo hi st ra tn f) W (by omega) a b
      rw [e1, e2] at this
      exact this
    · intro _ W A' c' a
      exact point_yes 4 lo hi st ra tn f hpt hokB W A' c' a
end Go.Proofs.YtjncjoaohonmjaaGreat
namespace Go.Proofs.YtjncjoaohonmjaaGreat
open Go.ChangeShapes Go.WideShapes Go.ChangeAt Go.RowKit Go.Joins Go.Deep
theorem owned : ownKnob Tryz.prog.godebug = none := by kernel_rfl
theorem laidAll : laidOutB Tryz.prog = true := by kernel_rfl
theorem cells1 : Tryz.prog.cellsOf 3 = 1 := by kernel_rfl
theorem cells3 : Tryz.prog.cellsOf 98 = 3 := by kernel_rfl
theorem cells4 : Tryz.prog.cellsOf 100 = 4 := by kernel_rfl
theorem cells2 : Tryz.prog.cellsOf 29 = 2 := by kernel_rfl
instance : Inhabited Knot := ⟨⟨0, 0, 0, 0⟩⟩
set_option maxRecDepth 100000 in
theorem read_point {H : Type} {enc : TypeId × Value → H} {w : World} {base : Nat} {sp : Nat → Bool} {held : Bool} {n : Nat} {c0 c1 c2 : Value} {x : DataW H × List MemPlace} (h : DataW.trod enc Tryz.prog w base sp held n 98 [c0, c1, c2] = some x) : ∃ a b c : Int, c0 = .int .i64 a ∧ c1 = .int .i64 b ∧ c2 = .int .i64 c := by
  obtain ⟨xs, m, _, _, hl, hlen, hg⟩ := DataW.trod_struct Tryz.underlying98 h
  match xs, hlen with
  | [y0, y1, y2], _ =>
    have h0 := hg 0 _ rfl
    have h1 := hg 1 _ rfl
    have h2 := hg 2 _ rfl
    simp [cells1] at h0 h1 h2
    obtain ⟨a, e0, _, _⟩ := DataW.trod_int Tryz.underlying3 h0
    obtain ⟨b, e1, _, _⟩ := DataW.trod_int Tryz.underlying3 h1
    obtain ⟨c, e2, _, _⟩ := DataW.trod_int Tryz.underlying3 h2
    simp at e0 e1 e2
    exact ⟨a, b, c, e0, e1, e2⟩
set_option maxRecDepth 100000 in
theorem read_knot {H : Type} {enc : TypeId × Value → H} {w : World} {base : Nat} {sp : Nat → Bool} {held : Bool} {n : Nat} {c0 c1 c2 c3 : Value} {x : DataW H × List MemPlace} (h : DataW.trod enc Tryz.prog w base sp held n 100 [c0, c1, c2, c3] = some x) : ∃ q : Knot, c0 = .int .i64 q.t ∧ c1 = .int .i64 q.x ∧ c2 = .int .i64 q.y ∧ c3 = .int .i64 q.z := by
  obtain ⟨xs, m, _, _, hl, hlen, hg⟩ := DataW.trod_struct Tryz.underlying100 h
  match xs, hlen with
  | [y0, y1], _ =>
    have h0 := hg 0 _ rfl
    have h1 := hg 1 _ rfl
    simp [cells1, cells3] at h0 h1
    obtain ⟨a, e0, _, _⟩ := DataW.trod_int Tryz.underlying3 h0
    obtain ⟨b, c, d, e1, e2, e3⟩ := read_point h1
    simp at e0
    exact ⟨⟨a, b, c, d⟩, e0, e1, e2, e3⟩
set_option maxRecDepth 100000 in
theorem open_track {H : Type} {enc : TypeId × Value → H} {w : World} {base : Nat} {sp : Nat → Bool} {held : Bool} {r : Reach} {b0 : Nat} {v : Value} {d : DataW H} {p : List MemPlace} (hv : Value.okWide Tryz.prog w r b0 29 v) (h : DataW.Trod enc Tryz.prog w base sp held 29 v d p) :
    ∃ (A : Option Addr) (n c : Nat) (k : Nat → Knot) (db : Int), v = .agg #[.slice A n c, .int .i64 db] ∧ n ≤ 9223372036854775807 ∧ (A = none → n = 0 ∧ c = 0) ∧ KA w A n k := by
  obtain ⟨c0, c1, y0, y1, m, rfl, _, _, hy0, hy1⟩ := open_agg2 Tryz.underlying29 (by kernel_rfl) cells2 hv h
  obtain ⟨db, e1, _, _⟩ := DataW.trod_int Tryz.underlying3 hy1
  simp at e1
  subst e1
  rcases open_slice Tryz.underlying27 hy0 with ⟨hcs, _⟩ | ⟨a, len, cap, m', n', D, Pl, hcs, _, hl, hm, hmm, _, hx⟩
  · simp at hcs
    subst hcs
    exact ⟨none, 0, 0, fun _ => default, db, rfl, by omega, fun _ => ⟨rfl, rfl⟩, fun h => absurd h (Nat.lt_irrefl 0)⟩
  · simp at hcs
    subst hcs
    rw [cells4] at hx
    have hlm : len ≤ m' := by rw [hmm]; split <;> omega
    have hq : ∀ i, i < len → ∃ q : Knot, w.cell? (a.add (i * 4)) = some (.int .i64 q.t) ∧ w.cell? ((a.add (i * 4)).add 1) = some (.int .i64 q.x) ∧ w.cell? ((a.add (i * 4)).add 2) = some (.int .i64 q.y) ∧ w.cell? ((a.add (i * 4)).add 3) = some (.int .i64 q.z) := by
      intro i hi
      obtain ⟨cs', g1, g2⟩ := hx i (by omega)
      obtain ⟨_, hlen, hc⟩ := World.cells?_some g1
      match cs', hlen with
      | [v0, v1, v2, v3], _ =>
        obtain ⟨q, rfl, rfl, rfl, rfl⟩ := read_knot g2
        have z0 := hc 0 (by omega)
        have z1 := hc 1 (by omega)
        have z2 := hc 2 (by omega)
        have z3 := hc 3 (by omega)
        refine ⟨q, ?_, z1, z2, z3⟩
        simpa [Addr.add] using z0
    obtain ⟨k, hk⟩ := choose_lt hq
    refine ⟨some a, len, cap, k, db, rfl, by unfold maxLen at hm; omega, fun h => (by cases h), fun h0 => ?_⟩
    obtain ⟨b, off, spot⟩ := a
    have hc := (hk 0 h0).1
    have hspot : spot = none := by simpa [Addr.add] using World.cell?_spot hc
    subst hspot
    have hc2 : w.cell? ⟨b, off, none⟩ = some (.int .i64 (k 0).t) := by simpa [Addr.add] using hc
    refine ⟨b, off, rfl, lt_of hc2, fun i hi => ?_⟩
    obtain ⟨z0, z1, z2, z3⟩ := hk i hi
    rw [addr_add] at z0 z1 z2 z3
    rw [addr_add] at z1 z2 z3
    exact ⟨z0, z1, z2, z3⟩
end Go.Proofs.YtjncjoaohonmjaaGreat
namespace Go.Proofs.YtjncjoaohonmjaaGreat
open Go.ChangeShapes Go.WideShapes Go.ChangeAt Go.RowKit Go.Joins Go.Deep
theorem cellsSl : Tryz.prog.cellsOf 27 = 1 := by kernel_rfl
set_option maxRecDepth 100000 in
theorem open_trackCells {H : Type} {enc : TypeId × Value → H} {w : World} {base : Nat} {sp : Nat → Bool} {held : Bool} {fuel : Nat} {c0 c1 : Value} {x : DataW H × List MemPlace} (h : DataW.trod enc Tryz.prog w base sp held fuel 29 [c0, c1] = some x) :
    ∃ (A : Option Addr) (n c : Nat) (k : Nat → Knot) (db : Int), c0 = .slice A n c ∧ c1 = .int .i64 db ∧ n ≤ 9223372036854775807 ∧ (A = none → n = 0 ∧ c = 0) ∧ KA w A n k := by
  obtain ⟨xs, m, _, _, hl, hlen, hg⟩ := DataW.trod_struct Tryz.underlying29 h
  match xs, hlen with
  | [y0, y1], _ =>
    have hy0 := hg 0 _ rfl
    have hy1 := hg 1 _ rfl
    simp [cells1, cellsSl] at hy0 hy1
    obtain ⟨db, e1, _, _⟩ := DataW.trod_int Tryz.underlying3 hy1
    simp at e1
    subst e1
    rcases open_slice Tryz.underlying27 hy0 with ⟨hcs, _⟩ | ⟨a, len, cap, m', n', D, Pl, hcs, _, hl, hm, hmm, _, hx⟩
    · simp at hcs
      subst hcs
      exact ⟨none, 0, 0, fun _ => default, db, rfl, rfl, by omega, fun _ => ⟨rfl, rfl⟩, fun h => absurd h (Nat.lt_irrefl 0)⟩
    · simp at hcs
      subst hcs
      rw [cells4] at hx
      have hlm : len ≤ m' := by rw [hmm]; split <;> omega
      have hq : ∀ i, i < len → ∃ q : Knot, w.cell? (a.add (i * 4)) = some (.int .i64 q.t) ∧ w.cell? ((a.add (i * 4)).add 1) = some (.int .i64 q.x) ∧ w.cell? ((a.add (i * 4)).add 2) = some (.int .i64 q.y) ∧ w.cell? ((a.add (i * 4)).add 3) = some (.int .i64 q.z) := by
        intro i hi
        obtain ⟨cs', g1, g2⟩ := hx i (by omega)
        obtain ⟨_, hlen, hc⟩ := World.cells?_some g1
        match cs', hlen with
        | [v0, v1, v2, v3], _ =>
          obtain ⟨q, rfl, rfl, rfl, rfl⟩ := read_knot g2
          have z0 := hc 0 (by omega)
          have z1 := hc 1 (by omega)
          have z2 := hc 2 (by omega)
          have z3 := hc 3 (by omega)
          refine ⟨q, ?_, z1, z2, z3⟩
          simpa [Addr.add] using z0
      obtain ⟨k, hk⟩ := choose_lt hq
      refine ⟨some a, len, cap, k, db, rfl, rfl, by unfold maxLen at hm; omega, fun h => (by cases h), fun h0 => ?_⟩
      obtain ⟨b, off, spot⟩ := a
      have hc := (hk 0 h0).1
      have hspot : spot = none := by simpa [Addr.add] using World.cell?_spot hc
      subst hspot
      have hc2 : w.cell? ⟨b, off, none⟩ = some (.int .i64 (k 0).t) := by simpa [Addr.add] using hc
      refine ⟨b, off, rfl, lt_of hc2, fun i hi => ?_⟩
      obtain ⟨z0, z1, z2, z3⟩ := hk i hi
      rw [addr_add] at z0 z1 z2 z3
      rw [addr_add] at z1 z2 z3
      exact ⟨z0, z1, z2, z3⟩
end Go.Proofs.YtjncjoaohonmjaaGreat
namespace Go.Proofs.YtjncjoaohonmjaaGreat
open Go.ChangeShapes Go.WideShapes Go.ChangeAt Go.RowKit Go.Joins Go.Deep
theorem cells8 : Tryz.prog.cellsOf 31 = 8 := by kernel_rfl
theorem cellsSite : Tryz.prog.cellsOf 26 = 4 := by kernel_rfl
theorem cellsCone : Tryz.prog.cellsOf 105 = 5 := by kernel_rfl
theorem cellsVe : Tryz.prog.cellsOf 23 = 3 := by kernel_rfl
theorem cellsCs : Tryz.prog.cellsOf 24 = 1 := by kernel_rfl
instance : Inhabited Cone := ⟨⟨0, 0, 0, 0, 0⟩⟩
set_option maxRecDepth 100000 in
theorem read_vec {H : Type} {enc : TypeId × Value → H} {w : World} {base : Nat} {sp : Nat → Bool} {held : Bool} {n : Nat} {c0 c1 c2 : Value} {x : DataW H × List MemPlace} (h : DataW.trod enc Tryz.prog w base sp held n 23 [c0, c1, c2] = some x) : ∃ a b c : Int, c0 = .int .i64 a ∧ c1 = .int .i64 b ∧ c2 = .int .i64 c := by
  obtain ⟨xs, m, _, _, hl, hlen, hg⟩ := DataW.trod_struct Tryz.underlying23 h
  match xs, hlen with
  | [y0, y1, y2], _ =>
    have h0 := hg 0 _ rfl
    have h1 := hg 1 _ rfl
    have h2 := hg 2 _ rfl
    simp [cells1] at h0 h1 h2
    obtain ⟨a, e0, _, _⟩ := DataW.trod_int Tryz.underlying3 h0
    obtain ⟨b, e1, _, _⟩ := DataW.trod_int Tryz.underlying3 h1
    obtain ⟨c, e2, _, _⟩ := DataW.trod_int Tryz.underlying3 h2
    simp at e0 e1 e2
    exact ⟨a, b, c, e0, e1, e2⟩
set_option maxRecDepth 100000 in
theorem read_cone {H : Type} {enc : TypeId × Value → H} {w : World} {base : Nat} {sp : Nat → Bool} {held : Bool} {n : Nat} {c0 c1 c2 c3 c4 : Value} {x : DataW H × List MemPlace} (h : DataW.trod enc Tryz.prog w base sp held n 105 [c0, c1, c2, c3, c4] = some x) : ∃ q : Cone, c0 = .int .i64 q.x ∧ c1 = .int .i64 q.y ∧ c2 = .int .i64 q.z ∧ c3 = .int .i64 q.u ∧ c4 = .int .i64 q.d := by
  obtain ⟨xs, m, _, _, hl, hlen, hg⟩ := DataW.trod_struct Tryz.underlying105 h
  match xs, hlen with
  | [y0, y1, y2], _ =>
    have h0 := hg 0 _ rfl
    have h1 := hg 1 _ rfl
    have h2 := hg 2 _ rfl
    simp [cells1, cellsVe] at h0 h1 h2
    obtain ⟨a, b, c, e0, e1, e2⟩ := read_vec h0
    obtain ⟨u, e3, _, _⟩ := DataW.trod_int Tryz.underlying3 h1
    obtain ⟨d, e4, _, _⟩ := DataW.trod_int Tryz.underlying3 h2
    simp at e3 e4
    exact ⟨⟨a, b, c, u, d⟩, e0, e1, e2, e3, e4⟩
set_option maxRecDepth 100000 in
theorem open_siteCells {H : Type} {enc : TypeId × Value → H} {w : World} {base : Nat} {sp : Nat → Bool} {held : Bool} {fuel : Nat} {c0 c1 c2 c3 : Value} {x : DataW H × List MemPlace} (h : DataW.trod enc Tryz.prog w base sp held fuel 26 [c0, c1, c2, c3] = some x) :
    ∃ (ux uy uz : Int) (C : Option Addr) (n c : Nat) (k : Nat → Cone), c0 = .int .i64 ux ∧ c1 = .int .i64 uy ∧ c2 = .int .i64 uz ∧ c3 = .slice C n c ∧ n ≤ 9223372036854775807 ∧ (C = none → n = 0 ∧ c = 0) ∧ KC w C n k := by
  obtain ⟨xs, m, _, _, hl, hlen, hg⟩ := DataW.trod_struct Tryz.underlying26 h
  match xs, hlen with
  | [y0, y1], _ =>
    have hy0 := hg 0 _ rfl
    have hy1 := hg 1 _ rfl
    simp [cellsVe, cellsCs] at hy0 hy1
    obtain ⟨ux, uy, uz, rfl, rfl, rfl⟩ := read_vec hy0
    rcases open_slice Tryz.underlying24 hy1 with ⟨hcs, _⟩ | ⟨a, len, cap, m', n', D, Pl, hcs, _, hl, hm, hmm, _, hx⟩
    · simp at hcs
      subst hcs
      exact ⟨ux, uy, uz, none, 0, 0, fun _ => default, rfl, rfl, rfl, rfl, by omega, fun _ => ⟨rfl, rfl⟩, fun h => absurd h (Nat.lt_irrefl 0)⟩
    · simp at hcs
      subst hcs
      rw [cellsCone] at hx
      have hlm : len ≤ m' := by rw [hmm]; split <;> omega
      have hq : ∀ i, i < len → ∃ q : Cone, w.cell? (a.add (i * 5)) = some (.int .i64 q.x) ∧ w.cell? ((a.add (i * 5)).add 1) = some (.int .i64 q.y) ∧ w.cell? ((a.add (i * 5)).add 2) = some (.int .i64 q.z) ∧ w.cell? ((a.add (i * 5)).add 3) = some (.int .i64 q.u) ∧ w.cell? ((a.add (i * 5)).add 4) = some (.int .i64 q.d) := by
        intro i hi
        obtain ⟨cs', g1, g2⟩ := hx i (by omega)
        obtain ⟨_, hlen, hc⟩ := World.cells?_some g1
        match cs', hlen with
        | [v0, v1, v2, v3, v4], _ =>
          obtain ⟨q, rfl, rfl, rfl, rfl, rfl⟩ := read_cone g2
          have z0 := hc 0 (by omega)
          have z1 := hc 1 (by omega)
          have z2 := hc 2 (by omega)
          have z3 := hc 3 (by omega)
          have z4 := hc 4 (by omega)
          refine ⟨q, ?_, z1, z2, z3, z4⟩
          simpa [Addr.add] using z0
      obtain ⟨k, hk⟩ := choose_lt hq
      refine ⟨ux, uy, uz, some a, len, cap, k, rfl, rfl, rfl, rfl, by unfold maxLen at hm; omega, fun h => (by cases h), fun h0 => ?_⟩
      obtain ⟨b, off, spot⟩ := a
      have hc := (hk 0 h0).1
      have hspot : spot = none := by simpa [Addr.add] using World.cell?_spot hc
      subst hspot
      have hc2 : w.cell? ⟨b, off, none⟩ = some (.int .i64 (k 0).x) := by simpa [Addr.add] using hc
      refine ⟨b, off, rfl, lt_of hc2, fun i hi => ?_⟩
      obtain ⟨z0, z1, z2, z3, z4⟩ := hk i hi
      rw [addr_add] at z0 z1 z2 z3 z4
      rw [addr_add] at z1 z2 z3 z4
      exact ⟨z0, z1, z2, z3, z4⟩
set_option maxRecDepth 100000 in
theorem open_view {H : Type} {enc : TypeId × Value → H} {w : World} {base : Nat} {sp : Nat → Bool} {held : Bool} {r : Reach} {b0 : Nat} {v : Value} {d : DataW H} {p : List MemPlace} (hv : Value.okWide Tryz.prog w r b0 31 v) (h : DataW.Trod enc Tryz.prog w base sp held 31 v d p) :
    ∃ (ux uy uz : Int) (C SA SB : Option Addr) (n c na ca nb cb : Nat) (k : Nat → Cone) (ka kb : Nat → Knot) (da db : Int), v = .agg #[.int .i64 ux, .int .i64 uy, .int .i64 uz, .slice C n c, .slice SA na ca, .int .i64 da, .slice SB nb cb, .int .i64 db] ∧
      (n ≤ 9223372036854775807 ∧ na ≤ 9223372036854775807 ∧ nb ≤ 9223372036854775807) ∧ ((C = none → n = 0 ∧ c = 0) ∧ (SA = none → na = 0 ∧ ca = 0) ∧ (SB = none → nb = 0 ∧ cb = 0)) ∧ KC w C n k ∧ KA w SA na ka ∧ KA w SB nb kb := by
  obtain ⟨cs, rfl, hsz⟩ : ∃ cs, v = .agg cs ∧ cs.size = Tryz.prog.cellsOf 31 := by
    simp only [Value.okWide, Tryz.underlying31] at hv
    obtain ⟨cs, h1, h2, _⟩ := hv
    exact ⟨cs, h1, h2⟩
  rw [cells8] at hsz
  obtain ⟨c0, c1, c2, c3, c4, c5, c6, c7, rfl⟩ : ∃ c0 c1 c2 c3 c4 c5 c6 c7, cs = #[c0, c1, c2, c3, c4, c5, c6, c7] := by
    obtain ⟨l⟩ := cs
    match l, hsz with
    | [c0, c1, c2, c3, c4, c5, c6, c7], _ => exact ⟨c0, c1, c2, c3, c4, c5, c6, c7, rfl⟩
  obtain ⟨fuel, hf⟩ := h
  obtain ⟨xs, m, _, _, hl, hlen, hg⟩ := DataW.trod_struct Tryz.underlying31 hf
  match xs, hlen with
  | [y0, y1, y2], _ =>
    have h0 := hg 0 _ rfl
    have h1 := hg 1 _ rfl
    have h2 := hg 2 _ rfl
    simp [cellsSite, cells2, Value.cells] at h0 h1 h2
    obtain ⟨ux, uy, uz, C, n, c, k, rfl, rfl, rfl, rfl, n1, n2, n3⟩ := open_siteCells h0
    obtain ⟨A, na, ca, ka, da, rfl, rfl, m1, m2, m3⟩ := open_trackCells h1
    obtain ⟨B, nb, cb, kb, db, rfl, rfl, o1, o2, o3⟩ := open_trackCells h2
    exact ⟨ux, uy, uz, C, A, B, n, c, na, ca, nb, cb, k, ka, kb, da, db, rfl, ⟨n1, m1, o1⟩, ⟨n2, m2, o2⟩, n3, m3, o3⟩
end Go.Proofs.YtjncjoaohonmjaaGreat
namespace Go.Proofs.YtjncjoaohonmjaaGreat
open Go.ChangeShapes Go.WideShapes Go.ChangeAt Go.RowKit
theorem own : ownKnob Tryz.prog.godebug = none := by kernel_rfl
theorem laidOut : laidOutB Tryz.prog = true := by kernel_rfl
theorem array5 {α : Type} {cs : Array α} (h : cs.size = 5) : ∃ c0 c1 c2 c3 c4, cs = #[c0, c1, c2, c3, c4] := by
  obtain ⟨l⟩ := cs
  match l, h with
  | [c0, c1, c2, c3, c4], _ => exact ⟨c0, c1, c2, c3, c4, rfl⟩
theorem cellsInt : Tryz.prog.cellsOf 3 = 1 := by kernel_rfl
theorem cellsRange : Tryz.prog.cellsOf 33 = 2 := by kernel_rfl
theorem cellsDrive : Tryz.prog.cellsOf 35 = 5 := by kernel_rfl
set_option maxRecDepth 100000 in
theorem open_drive {H : Type} {enc : TypeId × Value → H} {w : World} {base : Nat} {sp : Nat → Bool} {held : Bool} {r : Reach} {b0 : Nat} {v : Value} {d : DataW H} {p : List MemPlace} (hv : Value.okWide Tryz.prog w r b0 35 v) (h : DataW.Trod enc Tryz.prog w base sp held 35 v d p) :
    ∃ t lo hi st ra : Int, v = .agg #[.int .i64 t, .int .i64 lo, .int .i64 hi, .int .i64 st, .int .i64 ra] := by
  obtain ⟨cs, rfl, hsz⟩ := okWide_struct Tryz.underlying35 hv
  obtain ⟨c0, c1, c2, c3, c4, rfl⟩ := array5 (hsz.trans cellsDrive)
  obtain ⟨fuel, hf⟩ := h
  obtain ⟨xs, n, _, hx, hl, hlen, hg⟩ := DataW.trod_struct Tryz.underlying35 hf
  match xs, hlen with
  | [y0, y1, y2, y3], _ =>
    have h0 := hg 0 _ rfl
    have h1 := hg 1 _ rfl
    have h2 := hg 2 _ rfl
    have h3 := hg 3 _ rfl
    simp [cellsInt, cellsRange, Value.cells] at h0 h1 h2 h3
    obtain ⟨t, e0, _, _⟩ := DataW.trod_int Tryz.underlying3 h0
    obtain ⟨st, e3, _, _⟩ := DataW.trod_int Tryz.underlying3 h2
    obtain ⟨ra, e4, _, _⟩ := DataW.trod_int Tryz.underlying3 h3
    obtain ⟨zs, n2, _, hz, _, hzl, hzg⟩ := DataW.trod_struct Tryz.underlying33 h1
    match zs, hzl with
    | [z0, z1], _ =>
      have g0 := hzg 0 _ rfl
      have g1 := hzg 1 _ rfl
      simp [cellsInt] at g0 g1
      obtain ⟨lo, e1, _, _⟩ := DataW.trod_int Tryz.underlying3 g0
      obtain ⟨hi, e2, _, _⟩ := DataW.trod_int Tryz.underlying3 g1
      simp at e0 e1 e2 e3 e4
      subst e0 e1 e2 e3 e4
      exact ⟨t, lo, hi, st, ra, rfl⟩
set_option maxRecDepth 100000 in
theorem open_list {H : Type} {enc : TypeId × Value → H} {w : World} {base : Nat} {sp : Nat → Bool} {held : Bool} {r : Reach} {b0 : Nat} {v : Value} {d : DataW H} {p : List MemPlace} (hv : Value.okWide Tryz.prog w r b0 36 v) (h : DataW.Trod enc Tryz.prog w base sp held 36 v d p) :
    ∃ (A : Option Addr) (n c : Nat) (xs : Nat → Int), v = .slice A n c ∧ n ≤ 9223372036854775807 ∧ (A = none → n = 0 ∧ c = 0) ∧ IA w A n xs := by
  obtain ⟨A, n, c, rfl⟩ := okWide_slice Tryz.underlying36 hv
  obtain ⟨fuel, hf⟩ := h
  rcases open_ints Tryz.underlying36 Tryz.underlying3 (by kernel_rfl) hf with ⟨hcs, _⟩ | ⟨x, l, c', zs, hcs, _, hl, hm, hz, _, hcell, hwz⟩
  · simp [Value.cells] at hcs
    obtain ⟨rfl, rfl, rfl⟩ := hcs
    exact ⟨none, 0, 0, fun _ => 0, rfl, by omega, fun _ => ⟨rfl, rfl⟩, fun h => absurd h (Nat.lt_irrefl 0)⟩
  · simp [Value.cells] at hcs
    obtain ⟨rfl, rfl, rfl⟩ := hcs
    have hzl : n ≤ zs.length := by
      rw [hz]
      split <;> omega
    refine ⟨_, n, c, fun i => zs.getD i 0, rfl, (by unfold maxLen at hm; omega), fun h => (by cases h), fun h0 => ?_⟩
    obtain ⟨b, off, rfl, hc⟩ := ints_at hcell (by omega)
    exact ⟨b, off, rfl, fun i hi => hc i (by omega)⟩
end Go.Proofs.YtjncjoaohonmjaaGreat
namespace Go.Proofs.YtjncjoaohonmjaaGreat
open Go.ChangeShapes Go.WideShapes Go.ChangeAt Go.RowKit Go.Joins Go.Deep
set_option maxRecDepth 100000 in
theorem topTracked_lifted (os : Os) (started : os.Started) (H : Type) (enc : TypeId × Value → H) :
    ReturnsInHanded {} Tryz.checked os 3 .any (Rows.topPathTrackedSpec.pre6 enc Tryz.prog Tryz.f3 Rows.topPathTrackedRow.domain false) (Rows.topPathTrackedSpec.post enc Tryz.prog Tryz.f3 false true false false) := by
  refine returnsInHanded_of_change (C := Tryz.checked) own started (by kernel_rfl) Tryz.func3
    (ChangeSpec.witness6 (enc := enc) (C := Tryz.checked) false ⟨#[], #[.agg #[.int .i64 0, .int .i64 0, .int .i64 0, .slice none 0 0, .slice none 0 0, .int .i64 0, .slice none 0 0, .int .i64 0], .agg #[.int .i64 0, .int .i64 0, .int .i64 0, .int .i64 0, .int .i64 0], .slice none 0 0], []⟩ 14 (by kernel_rfl) (by kernel_rfl) (by kernel_rfl) (by kernel_rfl)) ?_
  intro W base args ds gs before hval0 hW hcnd _
  have hval : ∀ (j : Nat) t v, Tryz.f3.params[j]? = some t → args[j]? = some v → Value.okWide Tryz.prog W .any base t v := hval0
  have hW' := hW
  obtain ⟨p, q, hA0, hV, rfl, hfz, hnd⟩ := hW
  have hA : DataW.TrodAll enc Tryz.prog W 0 (fun _ => true) true Tryz.f3.params.toList args.toList ds p := hA0
  rw [Tryz.params3] at hA hval
  obtain ⟨v0, vs0, d0, ds0, p0, q0, hargs, rfl, rfl, h0, r0⟩ := trodAll_cons hA
  obtain ⟨v1, vs1, d1, ds1, p1, q1, rfl, rfl, rfl, h1, r1⟩ := trodAll_cons r0
  obtain ⟨v2, vs2, d2, ds2, p2, q2, rfl, rfl, rfl, h2, r2⟩ := trodAll_cons r1
  obtain ⟨rfl, rfl, rfl⟩ := trodAll_nil r2
  obtain rfl : args = #[v0, v1, v2] := by cases args; simp_all
  obtain ⟨rfl, rfl⟩ := trodVars_none hV
  have k0 := h0
  have k1 := h1
  have k2 := h2
  have lt0 : ∀ x ∈ p0, x.block < W.heap.size := by obtain ⟨m, hm⟩ := k0; exact DataW.trod_lt m _ _ _ hm
  have lt1 : ∀ x ∈ p1, x.block < W.heap.size := by obtain ⟨m, hm⟩ := k1; exact DataW.trod_lt m _ _ _ hm
  have lt2 : ∀ x ∈ p2, x.block < W.heap.size := by obtain ⟨m, hm⟩ := k2; exact DataW.trod_lt m _ _ _ hm
  obtain ⟨ux, uy, uz, C, SA, SB, n, c, na, ca, nb, cb, k, ka, kb, da, db, rfl, ⟨n1, n2, n3⟩, ⟨z1, z2, z3⟩, m1, m2, m3⟩ := open_view (hval 0 31 v0 rfl rfl) h0
  obtain ⟨t, lo, hi, st, ra, rfl⟩ := open_drive (hval 1 35 v1 rfl rfl) h1
  obtain ⟨A, tn, tc, ts, rfl, hn, hA1, hA2⟩ := open_list (hval 2 36 v2 rfl rfl) h2
  clear hA0 hval0
  refine (topTracked_any ux uy uz C SA SB A n c na ca nb cb tn tc da db t lo hi st ra k ka kb ts W n1 n2 n3 z1 z2 z3 m1 m2 m3 hA2).mono fun e W' ⟨he, bel⟩ => ?_
  subst he
  exact ⟨_, rfl, _, _, _, [], _, [], hW', trodAll_mk1 (shut_bool Tryz.underlying4 _), (trodAll_cons_mk (Below.trod laidOut (by kernel_rfl) (of_decide_eq_true (by kernel_rfl)) k0 bel lt0) (trodAll_cons_mk (Below.trod laidOut (by kernel_rfl) (of_decide_eq_true (by kernel_rfl)) k1 bel lt1) (trodAll_cons_mk (Below.trod laidOut (by kernel_rfl) (of_decide_eq_true (by kernel_rfl)) k2 bel lt2) trodAll_mk0))), rfl, bel.frame _, fun h => by cases h⟩
theorem topTracked_over : Rows.topPathTrackedRow.holds Tryz.pinned (OpenSpec.ofChange Rows.topPathTrackedSpec) :=
  OpenClaim.holds_of_wide 3 Tryz.f3 rfl rfl rfl rfl rfl rfl rfl ⟨by kernel_rfl, by kernel_rfl, by kernel_rfl, by kernel_rfl, by kernel_rfl⟩ rfl rfl rfl rfl rfl (by kernel_rfl) Tryz.func3 (by kernel_rfl)
    (of_decide_eq_true (by kernel_rfl)) (by unfold Func.isWrapper; first | (rw [if_pos (by decide +kernel)]; kernel_rfl) | (rw [if_neg (by decide +kernel)]; exact ⟨rfl, rfl⟩))
    (fun os started H enc _ => topTracked_lifted os started H enc)
/-- THE STATEMENT. -/
theorem topTracked_holds : Rows.TopPathTrackedSaid := topTracked_over
end Go.Proofs.YtjncjoaohonmjaaGreat
