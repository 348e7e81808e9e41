/- Helpers: the answer of a view at a time, by what its vector, its axes and its cones give. No condition but the hypotheses. -/
import Derived.Test.YtjncjoaohonmjaaGreatB04
import Derived.Test.YtjncjoaohonmjaaGreatB21
namespace Go.Proofs.YtjncjoaohonmjaaGreat
open Go.RowKit Go.Shelf Go.Sort
attribute [local go_sem] idx3_0 idx3_1 idx3_2 old1 fro1 old2 fro2 old3 fro3 old4 fro4 old5 fro5 old6 fro6 old7 fro7 old8 fro8 old9 fro9 old10 fro10 old11 fro11 old12 fro12
def mv0 : List Bool := [false, false, false, false, false, false, true, false, false, false, false, false, false, false, false, false, false, false, false, false, true, true, true, true, true, true, false, false, false, false, false, false, false, false, false, false, false, false, false, false, false, false, false, false, false, false, false, false, false, false, false, false, false, false, false, false, false, false, false, false, false, false, false, false, false, false, false]
def mv1 : List Bool := [false, false, false, false, false, false, false, false, false, false, false, true, false, false, false, false, false, false, false, false, false, false, false, false, false, false, false, false, false, false, false, false, false, false, false, false, false, false, false, false, true, true, true, true, true, false, false, false, false, false, false, false, false, false, false, false, false, false, false, false, false, false, false, false, false, false, false]
def mv2 : List Bool := [false, false, false, false, false, false, false, true, false, false, false, false, false, false, false, false, false, false, false, false, false, false, false, false, false, false, false, false, false, false, false, false, false, false, false, false, false, false, false, false, false, false, false, false, false, true, true, true, true, true, true, true, true, true, false, false, false, false, false, false, false, false, false, false, false, false, false]
def mv3 : List Bool := [false, false, false, false, false, false, false, false, true, false, false, false, false, false, false, false, false, false, false, false, false, false, false, false, false, false, false, false, false, false, false, false, false, false, false, false, false, false, false, false, false, false, false, false, false, false, false, false, false, false, false, false, false, false, true, true, true, true, true, true, true, true, true, true, false, false, false]
def orB (B : Nat → Bool) (h : Bool) : Nat → Bool
  | 0 => h
  | j + 1 => orB B h j || B j
def andB (B : Nat → Bool) (h : Bool) : Nat → Bool
  | 0 => h
  | j + 1 => andB B h j && !B j
def ansOf (no yes : Bool) : Int := if no = true then 0 else if yes = true then 2 else 1
theorem compB (x y z : Int) (w : World) :
    Calls Tryz.prog 71 #[.agg #[.int .i64 x, .int .i64 y, .int .i64 z]] w fun e w' => e = .returned (.agg #[.int .i64 x, .int .i64 y, .int .i64 z]) ∧ Below w.heap.size w w' :=
  (components_any x y z w).mono (by rintro e w' ⟨rfl, o1, o2, rfl⟩; exact ⟨rfl, by (repeat (first | with_reducible exact Below.refl _ _ | with_reducible assumption | with_reducible refine Below.alloc ?_ (by first | (simp; done) | (simp; omega) | omega) _ | with_reducible refine Below.setCell ?_ (by first | (simp; done) | (simp; omega) | omega) _ | with_reducible refine Below.drew ?_ | with_reducible refine below_drewN ?_ _))⟩)
set_option maxRecDepth 100000 in
set_option maxHeartbeats 8000000 in
theorem answerAt_x (ux uy uz : Int) (C SA SB : Option Addr) (n c na ca nb cb : Nat) (k : Nat → Cone) (da db time x y z m d F N lo hi : Int) (L H : Nat → Int) (BF BN : Nat → Bool) (w : World) (hn : n ≤ 4) (hk : KC w C n k)
    (hV : ∀ W, Below w.heap.size w W → Calls Tryz.prog 52 #[.agg #[.slice SA na ca, .int .i64 da], .agg #[.slice SB nb cb, .int .i64 db], .agg #[.int .i64 time, .int .i64 time]] W fun e w' => e = .returned (.agg #[.int .i64 x, .int .i64 y, .int .i64 z, .int .i64 m, .int .i64 d]) ∧ Below W.heap.size W w')
    (hU : ∀ W, Calls Tryz.prog 80 #[.agg #[.int .i64 x, .int .i64 y, .int .i64 z, .int .i64 m, .int .i64 d], .agg #[.int .i64 ux, .int .i64 uy, .int .i64 uz]] W fun e w' => e = .returned (.agg #[.int .i64 lo, .int .i64 hi]) ∧ Below W.heap.size W w')
    (hC : ∀ j, j < n → ∀ W, Calls Tryz.prog 80 #[.agg #[.int .i64 x, .int .i64 y, .int .i64 z, .int .i64 m, .int .i64 d], .agg #[.int .i64 (k j).x, .int .i64 (k j).y, .int .i64 (k j).z]] W fun e w' => e = .returned (.agg #[.int .i64 (L j), .int .i64 (H j)]) ∧ Below W.heap.size W w')
    (hF : ∀ W, Calls Tryz.prog 82 #[.agg #[.int .i64 x, .int .i64 y, .int .i64 z, .int .i64 m, .int .i64 d]] W fun e w' => e = .returned (.agg #[.int .u64 (sqh F), .int .u64 (sql F)]) ∧ Below W.heap.size W w')
    (hN : ∀ W, Calls Tryz.prog 83 #[.agg #[.int .i64 x, .int .i64 y, .int .i64 z, .int .i64 m, .int .i64 d]] W fun e w' => e = .returned (.agg #[.int .u64 (sqh N), .int .u64 (sql N)]) ∧ Below W.heap.size W w')
    (hB1 : ∀ j, j < n → ∀ W, Calls Tryz.prog 81 #[.agg #[.int .i64 (k j).x, .int .i64 (k j).y, .int .i64 (k j).z, .int .i64 (k j).u, .int .i64 (k j).d], .int .i64 (L j), .agg #[.int .u64 (sqh F), .int .u64 (sql F)]] W fun e w' => e = .returned (.bool (BF j)) ∧ Below W.heap.size W w')
    (hB2 : ∀ j, j < n → ∀ W, Calls Tryz.prog 81 #[.agg #[.int .i64 (k j).x, .int .i64 (k j).y, .int .i64 (k j).z, .int .i64 (k j).u, .int .i64 (k j).d], .int .i64 (H j), .agg #[.int .u64 (sqh N), .int .u64 (sql N)]] W fun e w' => e = .returned (.bool (BN j)) ∧ Below W.heap.size W w') :
    Calls Tryz.prog 40 #[.agg #[.int .i64 ux, .int .i64 uy, .int .i64 uz, .slice C n c, .slice SA na ca, .int .i64 da, .slice SB nb cb, .int .i64 db], .int .i64 time] w fun e w' => e = .returned (.int .i64 (ansOf (orB BF (decide (hi < 0)) n) (andB BN (decide (0 ≤ lo)) n))) ∧ Below w.heap.size w w' := by
  have HK := Lib.hid hk
  have HV := Lib.hid hV
  have HU := Lib.hid hU
  have HF := Lib.hid hF
  have HN := Lib.hid hN
  have HC0 := Lib.hid hC
  have HB10 := Lib.hid hB1
  have HB20 := Lib.hid hB2
  clear hk hV hU hF hN hC hB1 hB2
  go_enter Tryz.func40, Tryz.ntmps40
  go_wp2_with (go_at_call 52; (with_reducible refine Calls.mono (HV.out _ (by (repeat (first | with_reducible exact Below.refl _ _ | with_reducible assumption | with_reducible refine Below.alloc ?_ (by first | (simp; done) | (simp; omega) | omega) _ | with_reducible refine Below.setCell ?_ (by first | (simp; done) | (simp; omega) | omega) _ | with_reducible refine Below.drew ?_ | with_reducible refine below_drewN ?_ _)))) ?_); rintro e w1 ⟨rfl, hb1⟩)
  have Bz := Lib.hid (belowT (show Below w.heap.size w _ by (repeat (first | with_reducible exact Below.refl _ _ | with_reducible assumption | with_reducible refine Below.alloc ?_ (by first | (simp; done) | (simp; omega) | omega) _ | with_reducible refine Below.setCell ?_ (by first | (simp; done) | (simp; omega) | omega) _ | with_reducible refine Below.drew ?_ | with_reducible refine below_drewN ?_ _))) hb1)
  have u0 := keep hb1 (b := w.heap.size) (o := 0) (v := .int .i64 ux) (by simp [go_sem])
  have u1 := keep hb1 (b := w.heap.size) (o := 1) (v := .int .i64 uy) (by simp [go_sem])
  have u2 := keep hb1 (b := w.heap.size) (o := 2) (v := .int .i64 uz) (by simp [go_sem])
  have u3 := keep hb1 (b := w.heap.size) (o := 3) (v := .slice C n c) (by simp [go_sem])
  clear hb1
  have hbd : Below w1.heap.size w1 (w1.alloc (.cells #[.int .i64 x, .int .i64 y, .int .i64 z, .int .i64 m, .int .i64 d] 94)) := by (repeat (first | with_reducible exact Below.refl _ _ | with_reducible assumption | with_reducible refine Below.alloc ?_ (by first | (simp; done) | (simp; omega) | omega) _ | with_reducible refine Below.setCell ?_ (by first | (simp; done) | (simp; omega) | omega) _ | with_reducible refine Below.drew ?_ | with_reducible refine below_drewN ?_ _))
  have v0 := (show (w1.alloc (.cells #[.int .i64 x, .int .i64 y, .int .i64 z, .int .i64 m, .int .i64 d] 94)).cell? ⟨w1.heap.size, 0, none⟩ = some (.int .i64 x) by simp [go_sem])
  have v1 := (show (w1.alloc (.cells #[.int .i64 x, .int .i64 y, .int .i64 z, .int .i64 m, .int .i64 d] 94)).cell? ⟨w1.heap.size, 1, none⟩ = some (.int .i64 y) by simp [go_sem])
  have v2 := (show (w1.alloc (.cells #[.int .i64 x, .int .i64 y, .int .i64 z, .int .i64 m, .int .i64 d] 94)).cell? ⟨w1.heap.size, 2, none⟩ = some (.int .i64 z) by simp [go_sem])
  have v3 := (show (w1.alloc (.cells #[.int .i64 x, .int .i64 y, .int .i64 z, .int .i64 m, .int .i64 d] 94)).cell? ⟨w1.heap.size, 3, none⟩ = some (.int .i64 m) by simp [go_sem])
  have v4 := (show (w1.alloc (.cells #[.int .i64 x, .int .i64 y, .int .i64 z, .int .i64 m, .int .i64 d] 94)).cell? ⟨w1.heap.size, 4, none⟩ = some (.int .i64 d) by simp [go_sem])
  replace u0 := keep hbd u0
  replace u1 := keep hbd u1
  replace u2 := keep hbd u2
  replace u3 := keep hbd u3
  have BV := Lib.hid (belowT Bz.out hbd)
  clear hbd Bz
  generalize (w1.alloc (.cells #[.int .i64 x, .int .i64 y, .int .i64 z, .int .i64 m, .int .i64 d] 94)) = V at *
  generalize w1.heap.size = q5 at *
  refine wp_region_st mv0 (by kernel_rfl) [mpEq (.agg #[.int .i64 x, .int .i64 y, .int .i64 z, .int .i64 m, .int .i64 d]), mpEq (.pointer (some ⟨w.heap.size, 0, none⟩)), mpEq (.pointer (some ⟨w.heap.size, 0, none⟩)), mpEq (.agg #[.int .i64 ux, .int .i64 uy, .int .i64 uz]), mpEq (.agg #[.int .i64 ux, .int .i64 uy, .int .i64 uz]), mpEq (.agg #[.int .i64 lo, .int .i64 hi]), mpNew (V).heap.size, mpTop] [(fun _ => True), (fun _ => True), (fun _ => True), (fun _ => True), (fun _ => True), (fun _ => True), (fun _ => True), (fun _ => True)] (mpVar (V).heap.size (lo) (hi)) 7 6 6 (by kernel_rfl) (by kernel_rfl) (by kernel_rfl) (by kernel_rfl) rfl (
      allOps_cons (rs_not (by kernel_rfl) (fun a' w' hb hs hd hp => rs_op fun K hK => by
    have e1 := (hs.get 5 (by kernel_rfl)).trans (show _ = Value.pointer (some ⟨q5, 0, none⟩) from rfl)
    have c0 := keep hb v0
    have c1 := keep hb v1
    have c2 := keep hb v2
    have c3 := keep hb v3
    have c4 := keep hb v4
    clear hs hd hp
    unfold Oper.wp
    generalize a'.eval = ρ at e1 ⊢
    simp [go_sem, e1, c0, c1, c2, c3, c4]
    exact hK _ _ (Below.refl _ _) rfl trivial)) <|
      allOps_cons (rs_not (by kernel_rfl) (fun a' w' hb hs hd hp => rs_op fun K hK => by
    have e1 := (hs.get 2 (by kernel_rfl)).trans (show _ = Value.pointer (some ⟨w.heap.size, 0, none⟩) from rfl)
    clear hs hd hp
    unfold Oper.wp
    generalize a'.eval = ρ at e1 ⊢
    simp [go_sem, e1]
    exact hK _ _ (Below.refl _ _) rfl trivial)) <|
      allOps_cons (rs_not (by kernel_rfl) (fun a' w' hb hs hd hp => rs_op fun K hK => by
    have e1 := (show a'.eval (.tmp 21) = .pointer (some ⟨w.heap.size, 0, none⟩) from RDeps.get (hd (by kernel_rfl)) 1 21 (by kernel_rfl) (by kernel_rfl))
    clear hs hd hp
    unfold Oper.wp
    generalize a'.eval = ρ at e1 ⊢
    simp [go_sem, e1]
    exact hK _ _ (Below.refl _ _) rfl trivial)) <|
      allOps_cons (rs_not (by kernel_rfl) (fun a' w' hb hs hd hp => rs_op fun K hK => by
    have e1 := (show a'.eval (.tmp 22) = .pointer (some ⟨w.heap.size, 0, none⟩) from RDeps.get (hd (by kernel_rfl)) 2 22 (by kernel_rfl) (by kernel_rfl))
    have c0 := keep hb u0
    have c1 := keep hb u1
    have c2 := keep hb u2
    clear hs hd hp
    unfold Oper.wp
    generalize a'.eval = ρ at e1 ⊢
    simp [go_sem, e1, c0, c1, c2]
    exact hK _ _ (Below.refl _ _) rfl trivial)) <|
      allOps_cons (rs_not (by kernel_rfl) (fun a' w' hb hs hd hp => by
    exact rs_fn (φ := (mpEq (.agg #[.int .i64 ux, .int .i64 uy, .int .i64 uz])).p) (ψ := (fun _ => True)) (vs := #[.agg #[.int .i64 ux, .int .i64 uy, .int .i64 uz]]) rfl (enters_of Tryz.func71 (by kernel_rfl) rfl) (by simp [(show a'.eval (.tmp 23) = .agg #[.int .i64 ux, .int .i64 uy, .int .i64 uz] from RDeps.get (hd (by kernel_rfl)) 3 23 (by kernel_rfl) (by kernel_rfl))]) ((compB ux uy uz w').mono (by rintro e w1 ⟨rfl, h1⟩; exact ⟨_, rfl, h1, rfl, trivial⟩)))) <|
      allOps_cons (rs_not (by kernel_rfl) (fun a' w' hb hs hd hp => by
    exact rs_fn (φ := (mpEq (.agg #[.int .i64 lo, .int .i64 hi])).p) (ψ := (fun _ => True)) (vs := #[.agg #[.int .i64 x, .int .i64 y, .int .i64 z, .int .i64 m, .int .i64 d], .agg #[.int .i64 ux, .int .i64 uy, .int .i64 uz]]) rfl (enters_of Tryz.func80 (by kernel_rfl) rfl) (by simp [(show a'.eval (.tmp 20) = .agg #[.int .i64 x, .int .i64 y, .int .i64 z, .int .i64 m, .int .i64 d] from RDeps.get (hd (by kernel_rfl)) 0 20 (by kernel_rfl) (by kernel_rfl)), (show a'.eval (.tmp 24) = .agg #[.int .i64 ux, .int .i64 uy, .int .i64 uz] from RDeps.get (hd (by kernel_rfl)) 4 24 (by kernel_rfl) (by kernel_rfl))]) ((HU.out w').mono (by rintro e w1 ⟨rfl, h1⟩; exact ⟨_, rfl, h1, rfl, trivial⟩)))) <|
      allOps_cons (rs_not (by kernel_rfl) (fun a' w' hb hs hd hp => rs_op fun K hK => by
    have hz := hb.size
    clear hs hd hp
    unfold Oper.wp
    generalize a'.eval = ρ
    simp [go_sem]
    exact hK _ _ ((Below.refl _ _).alloc (Nat.le_refl _) _) ⟨_, rfl, hz, by simp [go_sem], by simp [go_sem], by simp [go_sem], by simp [go_sem]⟩ trivial)) <|
      allOps_cons (rs_is (by kernel_rfl) (fun a' w' hb hs hd => rs_st rfl fun K hK => by
    obtain ⟨q, e1, zq, c0, c1, f0, f1⟩ := (show (mpNew (V).heap.size).p (a'.eval (.tmp 6)) w' from hd.get 6 6 (by kernel_rfl) (by kernel_rfl))
    have e2 := (show a'.eval (.tmp 25) = .agg #[.int .i64 lo, .int .i64 hi] from hd.get 5 25 (by kernel_rfl) (by kernel_rfl))
    have hz := lt_of c0
    clear hs hd
    unfold Oper.wp
    generalize a'.eval = ρ at e1 e2 hK ⊢
    simp [go_sem, e1, e2, c0, c1, f0, f1]
    exact hK _ (Below.setCell (Below.setCell hb zq _) zq _) ⟨q, e1, zq, by simp [go_sem, c0], by simp [go_sem, c1], by simp [go_sem, f0], by simp [go_sem, f1]⟩)) <| allOps_nil) (fun Q V1 hb hall hv => ?_)
  obtain ⟨q6, h7, -, g0, g1, -, -⟩ := hv
  clear hall
  simp only [mv0, maskPut, Nat.reduceAdd]
  rw [h7]
  clear h7
  replace v0 := keep hb v0
  replace v1 := keep hb v1
  replace v2 := keep hb v2
  replace v3 := keep hb v3
  replace v4 := keep hb v4
  replace u3 := keep hb u3
  replace BV := Lib.hid (belowT BV.out hb)
  clear hb u0 u1 u2
  clear V
  go_wp2_with fail
  go_quiet (fail)
  go_wp2_with fail
  go_loopw [7, 8, 36] (fun s7 s8 i wr => ∃ j : Nat, j ≤ n ∧ i = .int .i64 j ∧ s7 = .bool (orB BF (decide (hi < 0)) j) ∧ s8 = .bool (andB BN (decide (0 ≤ lo)) j) ∧ Below w.heap.size w wr ∧ wr.cell? ⟨q5, 0, none⟩ = some (.int .i64 x) ∧ wr.cell? ⟨q5, 1, none⟩ = some (.int .i64 y) ∧ wr.cell? ⟨q5, 2, none⟩ = some (.int .i64 z) ∧ wr.cell? ⟨q5, 3, none⟩ = some (.int .i64 m) ∧ wr.cell? ⟨q5, 4, none⟩ = some (.int .i64 d)) (fun _ _ i _ => n - (intOf i).toNat)
  case atStart => exact ⟨0, Nat.zero_le _, rfl, rfl, rfl, by have Bq := BV.out; (repeat (first | with_reducible exact Below.refl _ _ | with_reducible assumption | with_reducible refine Below.alloc ?_ (by first | (simp; done) | (simp; omega) | omega) _ | with_reducible refine Below.setCell ?_ (by first | (simp; done) | (simp; omega) | omega) _ | with_reducible refine Below.drew ?_ | with_reducible refine below_drewN ?_ _)), by simpa [go_sem] using v0, by simpa [go_sem] using v1, by simpa [go_sem] using v2, by simpa [go_sem] using v3, by simpa [go_sem] using v4⟩
  case round =>
    obtain ⟨j, hj, rfl, rfl, rfl, hbel, v0, v1, v2, v3, v4⟩ := hrel
    clear BV u3 g0 g1
    have BV := Lib.hid hbel
    clear hbel
    by_cases hlt : j < n
    · have HC := Lib.hid (HC0.out j hlt)
      have HB1 := Lib.hid (HB10.out j hlt)
      have HB2 := Lib.hid (HB20.out j hlt)
      obtain ⟨b, off, rfl, hkt⟩ := (HK.out.bel BV.out) (by omega)
      obtain ⟨k0, k1, k2, k3, k4⟩ := hkt.2 j hlt
      have hbl := hkt.1
      clear hkt
      go_wp2_with fail
      clear k0 k1 k2 k3 k4 hbl
      have hb : Below wr.heap.size wr (wr.alloc (.cells #[.int .i64 (k j).x, .int .i64 (k j).y, .int .i64 (k j).z, .int .i64 (k j).u, .int .i64 (k j).d] 105)) := by (repeat (first | with_reducible exact Below.refl _ _ | with_reducible assumption | with_reducible refine Below.alloc ?_ (by first | (simp; done) | (simp; omega) | omega) _ | with_reducible refine Below.setCell ?_ (by first | (simp; done) | (simp; omega) | omega) _ | with_reducible refine Below.drew ?_ | with_reducible refine below_drewN ?_ _))
      have k0 := (show (wr.alloc (.cells #[.int .i64 (k j).x, .int .i64 (k j).y, .int .i64 (k j).z, .int .i64 (k j).u, .int .i64 (k j).d] 105)).cell? ⟨wr.heap.size, 0, none⟩ = some (.int .i64 (k j).x) by simp [go_sem])
      have k1 := (show (wr.alloc (.cells #[.int .i64 (k j).x, .int .i64 (k j).y, .int .i64 (k j).z, .int .i64 (k j).u, .int .i64 (k j).d] 105)).cell? ⟨wr.heap.size, 1, none⟩ = some (.int .i64 (k j).y) by simp [go_sem])
      have k2 := (show (wr.alloc (.cells #[.int .i64 (k j).x, .int .i64 (k j).y, .int .i64 (k j).z, .int .i64 (k j).u, .int .i64 (k j).d] 105)).cell? ⟨wr.heap.size, 2, none⟩ = some (.int .i64 (k j).z) by simp [go_sem])
      have k3 := (show (wr.alloc (.cells #[.int .i64 (k j).x, .int .i64 (k j).y, .int .i64 (k j).z, .int .i64 (k j).u, .int .i64 (k j).d] 105)).cell? ⟨wr.heap.size, 3, none⟩ = some (.int .i64 (k j).u) by simp [go_sem])
      have k4 := (show (wr.alloc (.cells #[.int .i64 (k j).x, .int .i64 (k j).y, .int .i64 (k j).z, .int .i64 (k j).u, .int .i64 (k j).d] 105)).cell? ⟨wr.heap.size, 4, none⟩ = some (.int .i64 (k j).d) by simp [go_sem])
      replace v0 := keep hb v0
      replace v1 := keep hb v1
      replace v2 := keep hb v2
      replace v3 := keep hb v3
      replace v4 := keep hb v4
      replace BV := Lib.hid (belowT BV.out hb)
      clear hb
      generalize (wr.alloc (.cells #[.int .i64 (k j).x, .int .i64 (k j).y, .int .i64 (k j).z, .int .i64 (k j).u, .int .i64 (k j).d] 105)) = V at *
      generalize wr.heap.size = q10 at *
      refine wp_region_st mv1 (by kernel_rfl) [mpEq (.agg #[.int .i64 x, .int .i64 y, .int .i64 z, .int .i64 m, .int .i64 d]), mpEq (.pointer (some ⟨q10, 0, none⟩)), mpEq (.agg #[.int .i64 (k j).x, .int .i64 (k j).y, .int .i64 (k j).z]), mpEq (.agg #[.int .i64 (k j).x, .int .i64 (k j).y, .int .i64 (k j).z]), mpEq (.agg #[.int .i64 (L j), .int .i64 (H j)]), mpNew (V).heap.size, mpTop] [(fun _ => True), (fun _ => True), (fun _ => True), (fun _ => True), (fun _ => True), (fun _ => True), (fun _ => True)] (mpVar (V).heap.size (L j) (H j)) 6 5 11 (by kernel_rfl) (by kernel_rfl) (by kernel_rfl) (by kernel_rfl) rfl (
          allOps_cons (rs_not (by kernel_rfl) (fun a' w' hb hs hd hp => rs_op fun K hK => by
        have e1 := (hs.get 5 (by kernel_rfl)).trans (show _ = Value.pointer (some ⟨q5, 0, none⟩) from rfl)
        have c0 := keep hb v0
        have c1 := keep hb v1
        have c2 := keep hb v2
        have c3 := keep hb v3
        have c4 := keep hb v4
        clear hs hd hp
        unfold Oper.wp
        generalize a'.eval = ρ at e1 ⊢
        simp [go_sem, e1, c0, c1, c2, c3, c4]
        exact hK _ _ (Below.refl _ _) rfl trivial)) <|
          allOps_cons (rs_not (by kernel_rfl) (fun a' w' hb hs hd hp => rs_op fun K hK => by
        have e1 := (hs.get 10 (by kernel_rfl)).trans (show _ = Value.pointer (some ⟨q10, 0, none⟩) from rfl)
        clear hs hd hp
        unfold Oper.wp
        generalize a'.eval = ρ at e1 ⊢
        simp [go_sem, e1]
        exact hK _ _ (Below.refl _ _) rfl trivial)) <|
          allOps_cons (rs_not (by kernel_rfl) (fun a' w' hb hs hd hp => rs_op fun K hK => by
        have e1 := (show a'.eval (.tmp 41) = .pointer (some ⟨q10, 0, none⟩) from RDeps.get (hd (by kernel_rfl)) 1 41 (by kernel_rfl) (by kernel_rfl))
        have c0 := keep hb k0
        have c1 := keep hb k1
        have c2 := keep hb k2
        clear hs hd hp
        unfold Oper.wp
        generalize a'.eval = ρ at e1 ⊢
        simp [go_sem, e1, c0, c1, c2]
        exact hK _ _ (Below.refl _ _) rfl trivial)) <|
          allOps_cons (rs_not (by kernel_rfl) (fun a' w' hb hs hd hp => by
        exact rs_fn (φ := (mpEq (.agg #[.int .i64 (k j).x, .int .i64 (k j).y, .int .i64 (k j).z])).p) (ψ := (fun _ => True)) (vs := #[.agg #[.int .i64 (k j).x, .int .i64 (k j).y, .int .i64 (k j).z]]) rfl (enters_of Tryz.func71 (by kernel_rfl) rfl) (by simp [(show a'.eval (.tmp 42) = .agg #[.int .i64 (k j).x, .int .i64 (k j).y, .int .i64 (k j).z] from RDeps.get (hd (by kernel_rfl)) 2 42 (by kernel_rfl) (by kernel_rfl))]) ((compB (k j).x (k j).y (k j).z w').mono (by rintro e w1 ⟨rfl, h1⟩; exact ⟨_, rfl, h1, rfl, trivial⟩)))) <|
          allOps_cons (rs_not (by kernel_rfl) (fun a' w' hb hs hd hp => by
        exact rs_fn (φ := (mpEq (.agg #[.int .i64 (L j), .int .i64 (H j)])).p) (ψ := (fun _ => True)) (vs := #[.agg #[.int .i64 x, .int .i64 y, .int .i64 z, .int .i64 m, .int .i64 d], .agg #[.int .i64 (k j).x, .int .i64 (k j).y, .int .i64 (k j).z]]) rfl (enters_of Tryz.func80 (by kernel_rfl) rfl) (by simp [(show a'.eval (.tmp 40) = .agg #[.int .i64 x, .int .i64 y, .int .i64 z, .int .i64 m, .int .i64 d] from RDeps.get (hd (by kernel_rfl)) 0 40 (by kernel_rfl) (by kernel_rfl)), (show a'.eval (.tmp 43) = .agg #[.int .i64 (k j).x, .int .i64 (k j).y, .int .i64 (k j).z] from RDeps.get (hd (by kernel_rfl)) 3 43 (by kernel_rfl) (by kernel_rfl))]) ((HC.out w').mono (by rintro e w1 ⟨rfl, h1⟩; exact ⟨_, rfl, h1, rfl, trivial⟩)))) <|
          allOps_cons (rs_not (by kernel_rfl) (fun a' w' hb hs hd hp => rs_op fun K hK => by
        have hz := hb.size
        clear hs hd hp
        unfold Oper.wp
        generalize a'.eval = ρ
        simp [go_sem]
        exact hK _ _ ((Below.refl _ _).alloc (Nat.le_refl _) _) ⟨_, rfl, hz, by simp [go_sem], by simp [go_sem], by simp [go_sem], by simp [go_sem]⟩ trivial)) <|
          allOps_cons (rs_is (by kernel_rfl) (fun a' w' hb hs hd => rs_st rfl fun K hK => by
        obtain ⟨q, e1, zq, c0, c1, f0, f1⟩ := (show (mpNew (V).heap.size).p (a'.eval (.tmp 11)) w' from hd.get 5 11 (by kernel_rfl) (by kernel_rfl))
        have e2 := (show a'.eval (.tmp 44) = .agg #[.int .i64 (L j), .int .i64 (H j)] from hd.get 4 44 (by kernel_rfl) (by kernel_rfl))
        have hz := lt_of c0
        clear hs hd
        unfold Oper.wp
        generalize a'.eval = ρ at e1 e2 hK ⊢
        simp [go_sem, e1, e2, c0, c1, f0, f1]
        exact hK _ (Below.setCell (Below.setCell hb zq _) zq _) ⟨q, e1, zq, by simp [go_sem, c0], by simp [go_sem, c1], by simp [go_sem, f0], by simp [go_sem, f1]⟩)) <| allOps_nil) (fun Q V1 hb hall hv => ?_)
      obtain ⟨q11, h7, -, g0, g1, -, -⟩ := hv
      clear hall
      simp only [mv1, maskPut, Nat.reduceAdd]
      rw [h7]
      clear h7
      replace v0 := keep hb v0
      replace v1 := keep hb v1
      replace v2 := keep hb v2
      replace v3 := keep hb v3
      replace v4 := keep hb v4
      replace k0 := keep hb k0
      replace k1 := keep hb k1
      replace k2 := keep hb k2
      replace k3 := keep hb k3
      replace k4 := keep hb k4
      replace BV := Lib.hid (belowT BV.out hb)
      clear hb
      clear V
      go_wp2_with fail
      rcases Bool.eq_false_or_eq_true (orB BF (decide (hi < 0)) j) with hno | hno
      · rw [hno]
        refine wp_region_go [mpEq (.bool true), mpEq (.bool true), mpTop, mpTop, mpTop, mpTop, mpTop, mpTop, mpEq (.bool true), mpEq (.bool true)] mv2 (by kernel_rfl) (by kernel_rfl) (by kernel_rfl) (
              allOps_cons (fun a' w' hb hs hd hO => Or.inl ⟨wanted_n rfl, by
            exact op1 (φ := (mpEq (.bool true)).p) ((hO.get 7 (by kernel_rfl)).trans (show _ = Value.bool true from rfl)) (fun ρ e c => by simp [go_sem, e]) rfl⟩) <|
              allOps_cons (fun a' w' hb hs hd hO => Or.inl ⟨wanted_n rfl, by
            exact op1 (φ := (mpEq (.bool true)).p) ((show a'.eval (.tmp 45) = .bool true from hd.get 0 45 (by kernel_rfl) (by kernel_rfl))) (fun ρ e c => by simp [go_sem, e]) rfl⟩) <|
              allOps_cons (fun a' w' hb hs hd hO => Or.inr ⟨wanted_f (j := 1) (d := 46) (b' := true) rfl (by kernel_rfl) (show a'.eval (.tmp 46) = .bool true from hd.get 1 46 (by kernel_rfl) (by kernel_rfl)) rfl, trivial⟩) <|
              allOps_cons (fun a' w' hb hs hd hO => Or.inr ⟨wanted_f (j := 1) (d := 46) (b' := true) rfl (by kernel_rfl) (show a'.eval (.tmp 46) = .bool true from hd.get 1 46 (by kernel_rfl) (by kernel_rfl)) rfl, trivial⟩) <|
              allOps_cons (fun a' w' hb hs hd hO => Or.inr ⟨wanted_f (j := 1) (d := 46) (b' := true) rfl (by kernel_rfl) (show a'.eval (.tmp 46) = .bool true from hd.get 1 46 (by kernel_rfl) (by kernel_rfl)) rfl, trivial⟩) <|
              allOps_cons (fun a' w' hb hs hd hO => Or.inr ⟨wanted_f (j := 1) (d := 46) (b' := true) rfl (by kernel_rfl) (show a'.eval (.tmp 46) = .bool true from hd.get 1 46 (by kernel_rfl) (by kernel_rfl)) rfl, trivial⟩) <|
              allOps_cons (fun a' w' hb hs hd hO => Or.inr ⟨wanted_f (j := 1) (d := 46) (b' := true) rfl (by kernel_rfl) (show a'.eval (.tmp 46) = .bool true from hd.get 1 46 (by kernel_rfl) (by kernel_rfl)) rfl, trivial⟩) <|
              allOps_cons (fun a' w' hb hs hd hO => Or.inr ⟨wanted_f (j := 1) (d := 46) (b' := true) rfl (by kernel_rfl) (show a'.eval (.tmp 46) = .bool true from hd.get 1 46 (by kernel_rfl) (by kernel_rfl)) rfl, trivial⟩) <|
              allOps_cons (fun a' w' hb hs hd hO => Or.inl ⟨wanted_n rfl, by
            exact op1 (φ := (mpEq (.bool true)).p) ((show a'.eval (.tmp 46) = .bool true from hd.get 1 46 (by kernel_rfl) (by kernel_rfl))) (fun ρ e c => by simp [go_sem, e, c]) rfl⟩) <|
              allOps_cons (fun a' w' hb hs hd hO => Or.inl ⟨wanted_n rfl, by
            exact op1 (φ := (mpEq (.bool true)).p) ((show a'.eval (.tmp 53) = .bool true from hd.get 8 53 (by kernel_rfl) (by kernel_rfl))) (fun ρ e c => by simp [go_sem, e]) rfl⟩) <| allOps_nil) (fun Q V2 hb hall => ?_)
        have h8 : Q 7 = .bool (true) := hall.get 9 rfl
        clear hall
        simp only [mv2, maskPut, Nat.reduceAdd]
        rw [h8]
        clear h8
        replace v0 := keep hb v0
        replace v1 := keep hb v1
        replace v2 := keep hb v2
        replace v3 := keep hb v3
        replace v4 := keep hb v4
        replace k0 := keep hb k0
        replace k1 := keep hb k1
        replace k2 := keep hb k2
        replace k3 := keep hb k3
        replace k4 := keep hb k4
        replace g0 := keep hb g0
        replace g1 := keep hb g1
        replace BV := Lib.hid (belowT BV.out hb)
        clear hb
        go_wp2_with fail
        rcases Bool.eq_false_or_eq_true (andB BN (decide (0 ≤ lo)) j) with hys | hys
        · rw [hys]
          refine wp_region_go [mpEq (.bool true), mpEq (.bool true), mpEq (.agg #[.int .i64 (k j).x, .int .i64 (k j).y, .int .i64 (k j).z, .int .i64 (k j).u, .int .i64 (k j).d]), mpEq (.pointer (some ⟨q11, 1, none⟩)), mpEq (.int .i64 (H j)), mpEq (.agg #[.int .i64 x, .int .i64 y, .int .i64 z, .int .i64 m, .int .i64 d]), mpEq (.agg #[.int .u64 (sqh N), .int .u64 (sql N)]), mpEq (.bool (BN j)), mpEq (.bool (!BN j)), mpEq (.bool (!BN j)), mpEq (.bool (!BN j))] mv3 (by kernel_rfl) (by kernel_rfl) (by kernel_rfl) (
                allOps_cons (fun a' w' hb hs hd hO => Or.inl ⟨wanted_n rfl, by
              exact op1 (φ := (mpEq (.bool true)).p) ((hO.get 8 (by kernel_rfl)).trans (show _ = Value.bool true from rfl)) (fun ρ e c => by simp [go_sem, e]) rfl⟩) <|
                allOps_cons (fun a' w' hb hs hd hO => Or.inl ⟨wanted_n rfl, by
              exact op1 (φ := (mpEq (.bool true)).p) ((show a'.eval (.tmp 54) = .bool true from hd.get 0 54 (by kernel_rfl) (by kernel_rfl))) (fun ρ e c => by simp [go_sem, e]) rfl⟩) <|
                allOps_cons (fun a' w' hb hs hd hO => Or.inl ⟨wanted_t (j := 1) (d := 55) rfl (by kernel_rfl) (show a'.eval (.tmp 55) = .bool true from hd.get 1 55 (by kernel_rfl) (by kernel_rfl)), by
              exact op1 (φ := (mpEq (.agg #[.int .i64 (k j).x, .int .i64 (k j).y, .int .i64 (k j).z, .int .i64 (k j).u, .int .i64 (k j).d])).p) ((hs.get 10 (by kernel_rfl)).trans (show _ = Value.pointer (some ⟨q10, 0, none⟩) from rfl)) (fun ρ e c => by simp [go_sem, e, keep hb k0, keep hb k1, keep hb k2, keep hb k3, keep hb k4]) rfl⟩) <|
                allOps_cons (fun a' w' hb hs hd hO => Or.inl ⟨wanted_t (j := 1) (d := 55) rfl (by kernel_rfl) (show a'.eval (.tmp 55) = .bool true from hd.get 1 55 (by kernel_rfl) (by kernel_rfl)), by
              exact op1 (φ := (mpEq (.pointer (some ⟨q11, 1, none⟩))).p) ((hs.get 11 (by kernel_rfl)).trans (show _ = Value.pointer (some ⟨q11, 0, none⟩) from rfl)) (fun ρ e c => by simp [go_sem, e]) rfl⟩) <|
                allOps_cons (fun a' w' hb hs hd hO => Or.inl ⟨wanted_t (j := 1) (d := 55) rfl (by kernel_rfl) (show a'.eval (.tmp 55) = .bool true from hd.get 1 55 (by kernel_rfl) (by kernel_rfl)), by
              exact op1 (φ := (mpEq (.int .i64 (H j))).p) ((show a'.eval (.tmp 57) = .pointer (some ⟨q11, 1, none⟩) from hd.get 3 57 (by kernel_rfl) (by kernel_rfl))) (fun ρ e c => by simp [go_sem, e, keep hb g1]) rfl⟩) <|
                allOps_cons (fun a' w' hb hs hd hO => Or.inl ⟨wanted_t (j := 1) (d := 55) rfl (by kernel_rfl) (show a'.eval (.tmp 55) = .bool true from hd.get 1 55 (by kernel_rfl) (by kernel_rfl)), by
              exact op1 (φ := (mpEq (.agg #[.int .i64 x, .int .i64 y, .int .i64 z, .int .i64 m, .int .i64 d])).p) ((hs.get 5 (by kernel_rfl)).trans (show _ = Value.pointer (some ⟨q5, 0, none⟩) from rfl)) (fun ρ e c => by simp [go_sem, e, keep hb v0, keep hb v1, keep hb v2, keep hb v3, keep hb v4]) rfl⟩) <|
                allOps_cons (fun a' w' hb hs hd hO => Or.inl ⟨wanted_t (j := 1) (d := 55) rfl (by kernel_rfl) (show a'.eval (.tmp 55) = .bool true from hd.get 1 55 (by kernel_rfl) (by kernel_rfl)), by
              have e0 := (show a'.eval (.tmp 59) = .agg #[.int .i64 x, .int .i64 y, .int .i64 z, .int .i64 m, .int .i64 d] from hd.get 5 59 (by kernel_rfl) (by kernel_rfl))
              exact rg_fn (φ := (mpEq (.agg #[.int .u64 (sqh N), .int .u64 (sql N)])).p) (vs := #[.agg #[.int .i64 x, .int .i64 y, .int .i64 z, .int .i64 m, .int .i64 d]]) rfl (enters_of Tryz.func83 (by kernel_rfl) rfl) (by simp [e0]) ((HN.out w').mono (by rintro e w1 ⟨rfl, h1⟩; exact ⟨_, rfl, h1, rfl⟩))⟩) <|
                allOps_cons (fun a' w' hb hs hd hO => Or.inl ⟨wanted_t (j := 1) (d := 55) rfl (by kernel_rfl) (show a'.eval (.tmp 55) = .bool true from hd.get 1 55 (by kernel_rfl) (by kernel_rfl)), by
              have e0 := (show a'.eval (.tmp 56) = .agg #[.int .i64 (k j).x, .int .i64 (k j).y, .int .i64 (k j).z, .int .i64 (k j).u, .int .i64 (k j).d] from hd.get 2 56 (by kernel_rfl) (by kernel_rfl))
              have e1 := (show a'.eval (.tmp 58) = .int .i64 (H j) from hd.get 4 58 (by kernel_rfl) (by kernel_rfl))
              have e2 := (show a'.eval (.tmp 60) = .agg #[.int .u64 (sqh N), .int .u64 (sql N)] from hd.get 6 60 (by kernel_rfl) (by kernel_rfl))
              exact rg_fn (φ := (mpEq (.bool (BN j))).p) (vs := #[.agg #[.int .i64 (k j).x, .int .i64 (k j).y, .int .i64 (k j).z, .int .i64 (k j).u, .int .i64 (k j).d], .int .i64 (H j), .agg #[.int .u64 (sqh N), .int .u64 (sql N)]]) rfl (enters_of Tryz.func81 (by kernel_rfl) rfl) (by simp [e0, e1, e2]) ((HB2.out w').mono (by rintro e w1 ⟨rfl, h1⟩; exact ⟨_, rfl, h1, rfl⟩))⟩) <|
                allOps_cons (fun a' w' hb hs hd hO => Or.inl ⟨wanted_t (j := 1) (d := 55) rfl (by kernel_rfl) (show a'.eval (.tmp 55) = .bool true from hd.get 1 55 (by kernel_rfl) (by kernel_rfl)), by
              exact op1 (φ := (mpEq (.bool (!BN j))).p) ((show a'.eval (.tmp 61) = .bool (BN j) from hd.get 7 61 (by kernel_rfl) (by kernel_rfl))) (fun ρ e c => by simp [go_sem, e]) rfl⟩) <|
                allOps_cons (fun a' w' hb hs hd hO => Or.inl ⟨wanted_n rfl, by
              exact op2 (φ := (mpEq (.bool (!BN j))).p) ((show a'.eval (.tmp 55) = .bool true from hd.get 1 55 (by kernel_rfl) (by kernel_rfl))) ((show a'.eval (.tmp 62) = .bool (!BN j) from hd.get 8 62 (by kernel_rfl) (by kernel_rfl))) (fun ρ e e' c => by simp [go_sem, e, e', c]) rfl⟩) <|
                allOps_cons (fun a' w' hb hs hd hO => Or.inl ⟨wanted_n rfl, by
              exact op1 (φ := (mpEq (.bool (!BN j))).p) ((show a'.eval (.tmp 63) = .bool (!BN j) from hd.get 9 63 (by kernel_rfl) (by kernel_rfl))) (fun ρ e c => by simp [go_sem, e]) rfl⟩) <| allOps_nil) (fun Q V3 hb hall => ?_)
          have h8 : Q 8 = .bool (!BN j) := hall.get 10 rfl
          clear hall
          simp only [mv3, maskPut, Nat.reduceAdd]
          rw [h8]
          clear h8
          replace v0 := keep hb v0
          replace v1 := keep hb v1
          replace v2 := keep hb v2
          replace v3 := keep hb v3
          replace v4 := keep hb v4
          replace BV := Lib.hid (belowT BV.out hb)
          clear hb
          go_wp2_with fail
          go_roundw
          case rel => exact ⟨j + 1, by omega, by go_num, (by show Value.bool (true) = Value.bool (orB BF (decide (hi < 0)) j || BF j); rw [hno, Bool.true_or]), (by show Value.bool (!BN j) = Value.bool (andB BN (decide (0 ≤ lo)) j && !BN j); rw [hys, Bool.true_and]), BV.out, v0, v1, v2, v3, v4⟩
          case measure => simp [intOf]; omega
        · rw [hys]
          refine wp_region_go [mpEq (.bool false), mpEq (.bool false), mpTop, mpTop, mpTop, mpTop, mpTop, mpTop, mpTop, mpEq (.bool false), mpEq (.bool false)] mv3 (by kernel_rfl) (by kernel_rfl) (by kernel_rfl) (
                allOps_cons (fun a' w' hb hs hd hO => Or.inl ⟨wanted_n rfl, by
              exact op1 (φ := (mpEq (.bool false)).p) ((hO.get 8 (by kernel_rfl)).trans (show _ = Value.bool false from rfl)) (fun ρ e c => by simp [go_sem, e]) rfl⟩) <|
                allOps_cons (fun a' w' hb hs hd hO => Or.inl ⟨wanted_n rfl, by
              exact op1 (φ := (mpEq (.bool false)).p) ((show a'.eval (.tmp 54) = .bool false from hd.get 0 54 (by kernel_rfl) (by kernel_rfl))) (fun ρ e c => by simp [go_sem, e]) rfl⟩) <|
                allOps_cons (fun a' w' hb hs hd hO => Or.inr ⟨wanted_f (j := 1) (d := 55) (b' := false) rfl (by kernel_rfl) (show a'.eval (.tmp 55) = .bool false from hd.get 1 55 (by kernel_rfl) (by kernel_rfl)) rfl, trivial⟩) <|
                allOps_cons (fun a' w' hb hs hd hO => Or.inr ⟨wanted_f (j := 1) (d := 55) (b' := false) rfl (by kernel_rfl) (show a'.eval (.tmp 55) = .bool false from hd.get 1 55 (by kernel_rfl) (by kernel_rfl)) rfl, trivial⟩) <|
                allOps_cons (fun a' w' hb hs hd hO => Or.inr ⟨wanted_f (j := 1) (d := 55) (b' := false) rfl (by kernel_rfl) (show a'.eval (.tmp 55) = .bool false from hd.get 1 55 (by kernel_rfl) (by kernel_rfl)) rfl, trivial⟩) <|
                allOps_cons (fun a' w' hb hs hd hO => Or.inr ⟨wanted_f (j := 1) (d := 55) (b' := false) rfl (by kernel_rfl) (show a'.eval (.tmp 55) = .bool false from hd.get 1 55 (by kernel_rfl) (by kernel_rfl)) rfl, trivial⟩) <|
                allOps_cons (fun a' w' hb hs hd hO => Or.inr ⟨wanted_f (j := 1) (d := 55) (b' := false) rfl (by kernel_rfl) (show a'.eval (.tmp 55) = .bool false from hd.get 1 55 (by kernel_rfl) (by kernel_rfl)) rfl, trivial⟩) <|
                allOps_cons (fun a' w' hb hs hd hO => Or.inr ⟨wanted_f (j := 1) (d := 55) (b' := false) rfl (by kernel_rfl) (show a'.eval (.tmp 55) = .bool false from hd.get 1 55 (by kernel_rfl) (by kernel_rfl)) rfl, trivial⟩) <|
                allOps_cons (fun a' w' hb hs hd hO => Or.inr ⟨wanted_f (j := 1) (d := 55) (b' := false) rfl (by kernel_rfl) (show a'.eval (.tmp 55) = .bool false from hd.get 1 55 (by kernel_rfl) (by kernel_rfl)) rfl, trivial⟩) <|
                allOps_cons (fun a' w' hb hs hd hO => Or.inl ⟨wanted_n rfl, by
              exact op1 (φ := (mpEq (.bool false)).p) ((show a'.eval (.tmp 55) = .bool false from hd.get 1 55 (by kernel_rfl) (by kernel_rfl))) (fun ρ e c => by simp [go_sem, e, c]) rfl⟩) <|
                allOps_cons (fun a' w' hb hs hd hO => Or.inl ⟨wanted_n rfl, by
              exact op1 (φ := (mpEq (.bool false)).p) ((show a'.eval (.tmp 63) = .bool false from hd.get 9 63 (by kernel_rfl) (by kernel_rfl))) (fun ρ e c => by simp [go_sem, e]) rfl⟩) <| allOps_nil) (fun Q V3 hb hall => ?_)
          have h8 : Q 8 = .bool (false) := hall.get 10 rfl
          clear hall
          simp only [mv3, maskPut, Nat.reduceAdd]
          rw [h8]
          clear h8
          replace v0 := keep hb v0
          replace v1 := keep hb v1
          replace v2 := keep hb v2
          replace v3 := keep hb v3
          replace v4 := keep hb v4
          replace BV := Lib.hid (belowT BV.out hb)
          clear hb
          go_wp2_with fail
          go_roundw
          case rel => exact ⟨j + 1, by omega, by go_num, (by show Value.bool (true) = Value.bool (orB BF (decide (hi < 0)) j || BF j); rw [hno, Bool.true_or]), (by show Value.bool (false) = Value.bool (andB BN (decide (0 ≤ lo)) j && !BN j); rw [hys, Bool.false_and]), BV.out, v0, v1, v2, v3, v4⟩
          case measure => simp [intOf]; omega
      · rw [hno]
        refine wp_region_go [mpEq (.bool false), mpEq (.bool false), mpEq (.agg #[.int .i64 (k j).x, .int .i64 (k j).y, .int .i64 (k j).z, .int .i64 (k j).u, .int .i64 (k j).d]), mpEq (.pointer (some ⟨q11, 0, none⟩)), mpEq (.int .i64 (L j)), mpEq (.agg #[.int .i64 x, .int .i64 y, .int .i64 z, .int .i64 m, .int .i64 d]), mpEq (.agg #[.int .u64 (sqh F), .int .u64 (sql F)]), mpEq (.bool (BF j)), mpEq (.bool (BF j)), mpEq (.bool (BF j))] mv2 (by kernel_rfl) (by kernel_rfl) (by kernel_rfl) (
              allOps_cons (fun a' w' hb hs hd hO => Or.inl ⟨wanted_n rfl, by
            exact op1 (φ := (mpEq (.bool false)).p) ((hO.get 7 (by kernel_rfl)).trans (show _ = Value.bool false from rfl)) (fun ρ e c => by simp [go_sem, e]) rfl⟩) <|
              allOps_cons (fun a' w' hb hs hd hO => Or.inl ⟨wanted_n rfl, by
            exact op1 (φ := (mpEq (.bool false)).p) ((show a'.eval (.tmp 45) = .bool false from hd.get 0 45 (by kernel_rfl) (by kernel_rfl))) (fun ρ e c => by simp [go_sem, e]) rfl⟩) <|
              allOps_cons (fun a' w' hb hs hd hO => Or.inl ⟨wanted_t (j := 1) (d := 46) rfl (by kernel_rfl) (show a'.eval (.tmp 46) = .bool false from hd.get 1 46 (by kernel_rfl) (by kernel_rfl)), by
            exact op1 (φ := (mpEq (.agg #[.int .i64 (k j).x, .int .i64 (k j).y, .int .i64 (k j).z, .int .i64 (k j).u, .int .i64 (k j).d])).p) ((hs.get 10 (by kernel_rfl)).trans (show _ = Value.pointer (some ⟨q10, 0, none⟩) from rfl)) (fun ρ e c => by simp [go_sem, e, keep hb k0, keep hb k1, keep hb k2, keep hb k3, keep hb k4]) rfl⟩) <|
              allOps_cons (fun a' w' hb hs hd hO => Or.inl ⟨wanted_t (j := 1) (d := 46) rfl (by kernel_rfl) (show a'.eval (.tmp 46) = .bool false from hd.get 1 46 (by kernel_rfl) (by kernel_rfl)), by
            exact op1 (φ := (mpEq (.pointer (some ⟨q11, 0, none⟩))).p) ((hs.get 11 (by kernel_rfl)).trans (show _ = Value.pointer (some ⟨q11, 0, none⟩) from rfl)) (fun ρ e c => by simp [go_sem, e]) rfl⟩) <|
              allOps_cons (fun a' w' hb hs hd hO => Or.inl ⟨wanted_t (j := 1) (d := 46) rfl (by kernel_rfl) (show a'.eval (.tmp 46) = .bool false from hd.get 1 46 (by kernel_rfl) (by kernel_rfl)), by
            exact op1 (φ := (mpEq (.int .i64 (L j))).p) ((show a'.eval (.tmp 48) = .pointer (some ⟨q11, 0, none⟩) from hd.get 3 48 (by kernel_rfl) (by kernel_rfl))) (fun ρ e c => by simp [go_sem, e, keep hb g0]) rfl⟩) <|
              allOps_cons (fun a' w' hb hs hd hO => Or.inl ⟨wanted_t (j := 1) (d := 46) rfl (by kernel_rfl) (show a'.eval (.tmp 46) = .bool false from hd.get 1 46 (by kernel_rfl) (by kernel_rfl)), by
            exact op1 (φ := (mpEq (.agg #[.int .i64 x, .int .i64 y, .int .i64 z, .int .i64 m, .int .i64 d])).p) ((hs.get 5 (by kernel_rfl)).trans (show _ = Value.pointer (some ⟨q5, 0, none⟩) from rfl)) (fun ρ e c => by simp [go_sem, e, keep hb v0, keep hb v1, keep hb v2, keep hb v3, keep hb v4]) rfl⟩) <|
              allOps_cons (fun a' w' hb hs hd hO => Or.inl ⟨wanted_t (j := 1) (d := 46) rfl (by kernel_rfl) (show a'.eval (.tmp 46) = .bool false from hd.get 1 46 (by kernel_rfl) (by kernel_rfl)), by
            have e0 := (show a'.eval (.tmp 50) = .agg #[.int .i64 x, .int .i64 y, .int .i64 z, .int .i64 m, .int .i64 d] from hd.get 5 50 (by kernel_rfl) (by kernel_rfl))
            exact rg_fn (φ := (mpEq (.agg #[.int .u64 (sqh F), .int .u64 (sql F)])).p) (vs := #[.agg #[.int .i64 x, .int .i64 y, .int .i64 z, .int .i64 m, .int .i64 d]]) rfl (enters_of Tryz.func82 (by kernel_rfl) rfl) (by simp [e0]) ((HF.out w').mono (by rintro e w1 ⟨rfl, h1⟩; exact ⟨_, rfl, h1, rfl⟩))⟩) <|
              allOps_cons (fun a' w' hb hs hd hO => Or.inl ⟨wanted_t (j := 1) (d := 46) rfl (by kernel_rfl) (show a'.eval (.tmp 46) = .bool false from hd.get 1 46 (by kernel_rfl) (by kernel_rfl)), by
            have e0 := (show a'.eval (.tmp 47) = .agg #[.int .i64 (k j).x, .int .i64 (k j).y, .int .i64 (k j).z, .int .i64 (k j).u, .int .i64 (k j).d] from hd.get 2 47 (by kernel_rfl) (by kernel_rfl))
            have e1 := (show a'.eval (.tmp 49) = .int .i64 (L j) from hd.get 4 49 (by kernel_rfl) (by kernel_rfl))
            have e2 := (show a'.eval (.tmp 51) = .agg #[.int .u64 (sqh F), .int .u64 (sql F)] from hd.get 6 51 (by kernel_rfl) (by kernel_rfl))
            exact rg_fn (φ := (mpEq (.bool (BF j))).p) (vs := #[.agg #[.int .i64 (k j).x, .int .i64 (k j).y, .int .i64 (k j).z, .int .i64 (k j).u, .int .i64 (k j).d], .int .i64 (L j), .agg #[.int .u64 (sqh F), .int .u64 (sql F)]]) rfl (enters_of Tryz.func81 (by kernel_rfl) rfl) (by simp [e0, e1, e2]) ((HB1.out w').mono (by rintro e w1 ⟨rfl, h1⟩; exact ⟨_, rfl, h1, rfl⟩))⟩) <|
              allOps_cons (fun a' w' hb hs hd hO => Or.inl ⟨wanted_n rfl, by
            exact op2 (φ := (mpEq (.bool (BF j))).p) ((show a'.eval (.tmp 46) = .bool false from hd.get 1 46 (by kernel_rfl) (by kernel_rfl))) ((show a'.eval (.tmp 52) = .bool (BF j) from hd.get 7 52 (by kernel_rfl) (by kernel_rfl))) (fun ρ e e' c => by simp [go_sem, e, e', c]) rfl⟩) <|
              allOps_cons (fun a' w' hb hs hd hO => Or.inl ⟨wanted_n rfl, by
            exact op1 (φ := (mpEq (.bool (BF j))).p) ((show a'.eval (.tmp 53) = .bool (BF j) from hd.get 8 53 (by kernel_rfl) (by kernel_rfl))) (fun ρ e c => by simp [go_sem, e]) rfl⟩) <| allOps_nil) (fun Q V2 hb hall => ?_)
        have h8 : Q 7 = .bool (BF j) := hall.get 9 rfl
        clear hall
        simp only [mv2, maskPut, Nat.reduceAdd]
        rw [h8]
        clear h8
        replace v0 := keep hb v0
        replace v1 := keep hb v1
        replace v2 := keep hb v2
        replace v3 := keep hb v3
        replace v4 := keep hb v4
        replace k0 := keep hb k0
        replace k1 := keep hb k1
        replace k2 := keep hb k2
        replace k3 := keep hb k3
        replace k4 := keep hb k4
        replace g0 := keep hb g0
        replace g1 := keep hb g1
        replace BV := Lib.hid (belowT BV.out hb)
        clear hb
        go_wp2_with fail
        rcases Bool.eq_false_or_eq_true (andB BN (decide (0 ≤ lo)) j) with hys | hys
        · rw [hys]
          refine wp_region_go [mpEq (.bool true), mpEq (.bool true), mpEq (.agg #[.int .i64 (k j).x, .int .i64 (k j).y, .int .i64 (k j).z, .int .i64 (k j).u, .int .i64 (k j).d]), mpEq (.pointer (some ⟨q11, 1, none⟩)), mpEq (.int .i64 (H j)), mpEq (.agg #[.int .i64 x, .int .i64 y, .int .i64 z, .int .i64 m, .int .i64 d]), mpEq (.agg #[.int .u64 (sqh N), .int .u64 (sql N)]), mpEq (.bool (BN j)), mpEq (.bool (!BN j)), mpEq (.bool (!BN j)), mpEq (.bool (!BN j))] mv3 (by kernel_rfl) (by kernel_rfl) (by kernel_rfl) (
                allOps_cons (fun a' w' hb hs hd hO => Or.inl ⟨wanted_n rfl, by
              exact op1 (φ := (mpEq (.bool true)).p) ((hO.get 8 (by kernel_rfl)).trans (show _ = Value.bool true from rfl)) (fun ρ e c => by simp [go_sem, e]) rfl⟩) <|
                allOps_cons (fun a' w' hb hs hd hO => Or.inl ⟨wanted_n rfl, by
              exact op1 (φ := (mpEq (.bool true)).p) ((show a'.eval (.tmp 54) = .bool true from hd.get 0 54 (by kernel_rfl) (by kernel_rfl))) (fun ρ e c => by simp [go_sem, e]) rfl⟩) <|
                allOps_cons (fun a' w' hb hs hd hO => Or.inl ⟨wanted_t (j := 1) (d := 55) rfl (by kernel_rfl) (show a'.eval (.tmp 55) = .bool true from hd.get 1 55 (by kernel_rfl) (by kernel_rfl)), by
              exact op1 (φ := (mpEq (.agg #[.int .i64 (k j).x, .int .i64 (k j).y, .int .i64 (k j).z, .int .i64 (k j).u, .int .i64 (k j).d])).p) ((hs.get 10 (by kernel_rfl)).trans (show _ = Value.pointer (some ⟨q10, 0, none⟩) from rfl)) (fun ρ e c => by simp [go_sem, e, keep hb k0, keep hb k1, keep hb k2, keep hb k3, keep hb k4]) rfl⟩) <|
                allOps_cons (fun a' w' hb hs hd hO => Or.inl ⟨wanted_t (j := 1) (d := 55) rfl (by kernel_rfl) (show a'.eval (.tmp 55) = .bool true from hd.get 1 55 (by kernel_rfl) (by kernel_rfl)), by
              exact op1 (φ := (mpEq (.pointer (some ⟨q11, 1, none⟩))).p) ((hs.get 11 (by kernel_rfl)).trans (show _ = Value.pointer (some ⟨q11, 0, none⟩) from rfl)) (fun ρ e c => by simp [go_sem, e]) rfl⟩) <|
                allOps_cons (fun a' w' hb hs hd hO => Or.inl ⟨wanted_t (j := 1) (d := 55) rfl (by kernel_rfl) (show a'.eval (.tmp 55) = .bool true from hd.get 1 55 (by kernel_rfl) (by kernel_rfl)), by
              exact op1 (φ := (mpEq (.int .i64 (H j))).p) ((show a'.eval (.tmp 57) = .pointer (some ⟨q11, 1, none⟩) from hd.get 3 57 (by kernel_rfl) (by kernel_rfl))) (fun ρ e c => by simp [go_sem, e, keep hb g1]) rfl⟩) <|
                allOps_cons (fun a' w' hb hs hd hO => Or.inl ⟨wanted_t (j := 1) (d := 55) rfl (by kernel_rfl) (show a'.eval (.tmp 55) = .bool true from hd.get 1 55 (by kernel_rfl) (by kernel_rfl)), by
              exact op1 (φ := (mpEq (.agg #[.int .i64 x, .int .i64 y, .int .i64 z, .int .i64 m, .int .i64 d])).p) ((hs.get 5 (by kernel_rfl)).trans (show _ = Value.pointer (some ⟨q5, 0, none⟩) from rfl)) (fun ρ e c => by simp [go_sem, e, keep hb v0, keep hb v1, keep hb v2, keep hb v3, keep hb v4]) rfl⟩) <|
                allOps_cons (fun a' w' hb hs hd hO => Or.inl ⟨wanted_t (j := 1) (d := 55) rfl (by kernel_rfl) (show a'.eval (.tmp 55) = .bool true from hd.get 1 55 (by kernel_rfl) (by kernel_rfl)), by
              have e0 := (show a'.eval (.tmp 59) = .agg #[.int .i64 x, .int .i64 y, .int .i64 z, .int .i64 m, .int .i64 d] from hd.get 5 59 (by kernel_rfl) (by kernel_rfl))
              exact rg_fn (φ := (mpEq (.agg #[.int .u64 (sqh N), .int .u64 (sql N)])).p) (vs := #[.agg #[.int .i64 x, .int .i64 y, .int .i64 z, .int .i64 m, .int .i64 d]]) rfl (enters_of Tryz.func83 (by kernel_rfl) rfl) (by simp [e0]) ((HN.out w').mono (by rintro e w1 ⟨rfl, h1⟩; exact ⟨_, rfl, h1, rfl⟩))⟩) <|
                allOps_cons (fun a' w' hb hs hd hO => Or.inl ⟨wanted_t (j := 1) (d := 55) rfl (by kernel_rfl) (show a'.eval (.tmp 55) = .bool true from hd.get 1 55 (by kernel_rfl) (by kernel_rfl)), by
              have e0 := (show a'.eval (.tmp 56) = .agg #[.int .i64 (k j).x, .int .i64 (k j).y, .int .i64 (k j).z, .int .i64 (k j).u, .int .i64 (k j).d] from hd.get 2 56 (by kernel_rfl) (by kernel_rfl))
              have e1 := (show a'.eval (.tmp 58) = .int .i64 (H j) from hd.get 4 58 (by kernel_rfl) (by kernel_rfl))
              have e2 := (show a'.eval (.tmp 60) = .agg #[.int .u64 (sqh N), .int .u64 (sql N)] from hd.get 6 60 (by kernel_rfl) (by kernel_rfl))
              exact rg_fn (φ := (mpEq (.bool (BN j))).p) (vs := #[.agg #[.int .i64 (k j).x, .int .i64 (k j).y, .int .i64 (k j).z, .int .i64 (k j).u, .int .i64 (k j).d], .int .i64 (H j), .agg #[.int .u64 (sqh N), .int .u64 (sql N)]]) rfl (enters_of Tryz.func81 (by kernel_rfl) rfl) (by simp [e0, e1, e2]) ((HB2.out w').mono (by rintro e w1 ⟨rfl, h1⟩; exact ⟨_, rfl, h1, rfl⟩))⟩) <|
                allOps_cons (fun a' w' hb hs hd hO => Or.inl ⟨wanted_t (j := 1) (d := 55) rfl (by kernel_rfl) (show a'.eval (.tmp 55) = .bool true from hd.get 1 55 (by kernel_rfl) (by kernel_rfl)), by
              exact op1 (φ := (mpEq (.bool (!BN j))).p) ((show a'.eval (.tmp 61) = .bool (BN j) from hd.get 7 61 (by kernel_rfl) (by kernel_rfl))) (fun ρ e c => by simp [go_sem, e]) rfl⟩) <|
                allOps_cons (fun a' w' hb hs hd hO => Or.inl ⟨wanted_n rfl, by
              exact op2 (φ := (mpEq (.bool (!BN j))).p) ((show a'.eval (.tmp 55) = .bool true from hd.get 1 55 (by kernel_rfl) (by kernel_rfl))) ((show a'.eval (.tmp 62) = .bool (!BN j) from hd.get 8 62 (by kernel_rfl) (by kernel_rfl))) (fun ρ e e' c => by simp [go_sem, e, e', c]) rfl⟩) <|
                allOps_cons (fun a' w' hb hs hd hO => Or.inl ⟨wanted_n rfl, by
              exact op1 (φ := (mpEq (.bool (!BN j))).p) ((show a'.eval (.tmp 63) = .bool (!BN j) from hd.get 9 63 (by kernel_rfl) (by kernel_rfl))) (fun ρ e c => by simp [go_sem, e]) rfl⟩) <| allOps_nil) (fun Q V3 hb hall => ?_)
          have h8 : Q 8 = .bool (!BN j) := hall.get 10 rfl
          clear hall
          simp only [mv3, maskPut, Nat.reduceAdd]
          rw [h8]
          clear h8
          replace v0 := keep hb v0
          replace v1 := keep hb v1
          replace v2 := keep hb v2
          replace v3 := keep hb v3
          replace v4 := keep hb v4
          replace BV := Lib.hid (belowT BV.out hb)
          clear hb
          go_wp2_with fail
          go_roundw
          case rel => exact ⟨j + 1, by omega, by go_num, (by show Value.bool (BF j) = Value.bool (orB BF (decide (hi < 0)) j || BF j); rw [hno, Bool.false_or]), (by show Value.bool (!BN j) = Value.bool (andB BN (decide (0 ≤ lo)) j && !BN j); rw [hys, Bool.true_and]), BV.out, v0, v1, v2, v3, v4⟩
          case measure => simp [intOf]; omega
        · rw [hys]
          refine wp_region_go [mpEq (.bool false), mpEq (.bool false), mpTop, mpTop, mpTop, mpTop, mpTop, mpTop, mpTop, mpEq (.bool false), mpEq (.bool false)] mv3 (by kernel_rfl) (by kernel_rfl) (by kernel_rfl) (
                allOps_cons (fun a' w' hb hs hd hO => Or.inl ⟨wanted_n rfl, by
              exact op1 (φ := (mpEq (.bool false)).p) ((hO.get 8 (by kernel_rfl)).trans (show _ = Value.bool false from rfl)) (fun ρ e c => by simp [go_sem, e]) rfl⟩) <|
                allOps_cons (fun a' w' hb hs hd hO => Or.inl ⟨wanted_n rfl, by
              exact op1 (φ := (mpEq (.bool false)).p) ((show a'.eval (.tmp 54) = .bool false from hd.get 0 54 (by kernel_rfl) (by kernel_rfl))) (fun ρ e c => by simp [go_sem, e]) rfl⟩) <|
                allOps_cons (fun a' w' hb hs hd hO => Or.inr ⟨wanted_f (j := 1) (d := 55) (b' := false) rfl (by kernel_rfl) (show a'.eval (.tmp 55) = .bool false from hd.get 1 55 (by kernel_rfl) (by kernel_rfl)) rfl, trivial⟩) <|
                allOps_cons (fun a' w' hb hs hd hO => Or.inr ⟨wanted_f (j := 1) (d := 55) (b' := false) rfl (by kernel_rfl) (show a'.eval (.tmp 55) = .bool false from hd.get 1 55 (by kernel_rfl) (by kernel_rfl)) rfl, trivial⟩) <|
                allOps_cons (fun a' w' hb hs hd hO => Or.inr ⟨wanted_f (j := 1) (d := 55) (b' := false) rfl (by kernel_rfl) (show a'.eval (.tmp 55) = .bool false from hd.get 1 55 (by kernel_rfl) (by kernel_rfl)) rfl, trivial⟩) <|
                allOps_cons (fun a' w' hb hs hd hO => Or.inr ⟨wanted_f (j := 1) (d := 55) (b' := false) rfl (by kernel_rfl) (show a'.eval (.tmp 55) = .bool false from hd.get 1 55 (by kernel_rfl) (by kernel_rfl)) rfl, trivial⟩) <|
                allOps_cons (fun a' w' hb hs hd hO => Or.inr ⟨wanted_f (j := 1) (d := 55) (b' := false) rfl (by kernel_rfl) (show a'.eval (.tmp 55) = .bool false from hd.get 1 55 (by kernel_rfl) (by kernel_rfl)) rfl, trivial⟩) <|
                allOps_cons (fun a' w' hb hs hd hO => Or.inr ⟨wanted_f (j := 1) (d := 55) (b' := false) rfl (by kernel_rfl) (show a'.eval (.tmp 55) = .bool false from hd.get 1 55 (by kernel_rfl) (by kernel_rfl)) rfl, trivial⟩) <|
                allOps_cons (fun a' w' hb hs hd hO => Or.inr ⟨wanted_f (j := 1) (d := 55) (b' := false) rfl (by kernel_rfl) (show a'.eval (.tmp 55) = .bool false from hd.get 1 55 (by kernel_rfl) (by kernel_rfl)) rfl, trivial⟩) <|
                allOps_cons (fun a' w' hb hs hd hO => Or.inl ⟨wanted_n rfl, by
              exact op1 (φ := (mpEq (.bool false)).p) ((show a'.eval (.tmp 55) = .bool false from hd.get 1 55 (by kernel_rfl) (by kernel_rfl))) (fun ρ e c => by simp [go_sem, e, c]) rfl⟩) <|
                allOps_cons (fun a' w' hb hs hd hO => Or.inl ⟨wanted_n rfl, by
              exact op1 (φ := (mpEq (.bool false)).p) ((show a'.eval (.tmp 63) = .bool false from hd.get 9 63 (by kernel_rfl) (by kernel_rfl))) (fun ρ e c => by simp [go_sem, e]) rfl⟩) <| allOps_nil) (fun Q V3 hb hall => ?_)
          have h8 : Q 8 = .bool (false) := hall.get 10 rfl
          clear hall
          simp only [mv3, maskPut, Nat.reduceAdd]
          rw [h8]
          clear h8
          replace v0 := keep hb v0
          replace v1 := keep hb v1
          replace v2 := keep hb v2
          replace v3 := keep hb v3
          replace v4 := keep hb v4
          replace BV := Lib.hid (belowT BV.out hb)
          clear hb
          go_wp2_with fail
          go_roundw
          case rel => exact ⟨j + 1, by omega, by go_num, (by show Value.bool (BF j) = Value.bool (orB BF (decide (hi < 0)) j || BF j); rw [hno, Bool.false_or]), (by show Value.bool (false) = Value.bool (andB BN (decide (0 ≤ lo)) j && !BN j); rw [hys, Bool.false_and]), BV.out, v0, v1, v2, v3, v4⟩
          case measure => simp [intOf]; omega
    · obtain rfl : j = n := by omega
      rcases Bool.eq_false_or_eq_true (orB BF (decide (hi < 0)) j) with hno | hno
      · rw [hno]
        go_wp2_with fail
        go_ret
        exact ⟨(show Ending.returned (.int .i64 0) = _ by rw [hno]; rfl), BV.out⟩
      · rw [hno]
        rcases Bool.eq_false_or_eq_true (andB BN (decide (0 ≤ lo)) j) with hys | hys
        · rw [hys]
          go_wp2_with fail
          go_ret
          exact ⟨(show Ending.returned (.int .i64 2) = _ by rw [hno, hys]; rfl), BV.out⟩
        · rw [hys]
          go_wp2_with fail
          go_ret
          exact ⟨(show Ending.returned (.int .i64 1) = _ by rw [hno, hys]; rfl), BV.out⟩
end Go.Proofs.YtjncjoaohonmjaaGreat
