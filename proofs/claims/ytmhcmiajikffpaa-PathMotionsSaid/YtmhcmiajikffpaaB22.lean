/- Helpers: the reference's motion with the least travel: its walk. No condition but the hypotheses that each theorem names. -/
import Derived.Test.YtmhcmiajikffpaaB21
namespace Go.Proofs.Ytmhcmiajikffpaa
open Go.RowKit Go.Shelf Go.Sort
attribute [local go_sem] idx3_0 idx3_1 idx3_2 old1 fro1 old2 fro2 old3 fro3 old4 fro4 old5 fro5 old6 fro6 old7 fro7 old8 fro8 old9 fro9 old10 fro10 old11 fro11 old12 fro12
def nxR (R : Nat → List St) (k0 : Nat) : Nat → Nat
  | 0 => k0
  | i + 1 => ((R i).getD (nxR R k0 i) St0).nx
def outR (R : Nat → List St) (k0 i : Nat) : Int := ((R i).getD (nxR R k0 i) St0).a
def SomeRP (w : World) (n : Nat) (R : Nat → List St) (o : Option St) (e : Ending) (w' : World) : Prop :=
  Below w.heap.size w w' ∧ ((o = none ∧ e = .returned (.tuple #[.slice none 0 0, .int .i64 0, .bool false])) ∨
    ∃ s v, o = some s ∧ e = .returned (.tuple #[v, .int .i64 s.tr, .bool true]) ∧ w'.ownsRow w.heap.size 3 1 v n (intsV n (outR R s.nx)))
theorem be_int {i n : Nat} : (((i : Int) + 1) == (n : Int)) = decide (i + 1 = n) := by
  rw [Bool.eq_iff_iff, beq_iff_eq, decide_eq_true_eq]
  omega
theorem nxR_lt {t lo hi st ra : Int} {n : Nat} {xs : Nat → Int} (t1 : 1 ≤ t) {s : St} (h : bst ra st (rwR t lo hi ra n xs 0) (decide (n = 0)) = some s) : ∀ i, i < n → nxR (rwR t lo hi ra n xs) s.nx i < (rwR t lo hi ra n xs i).length
  | 0, h0 => by
    rw [show decide (n = 0) = false by simp; omega] at h
    obtain ⟨k, hk, rfl, _⟩ := bstF_some (show bstF ra st (fun k => (rwR t lo hi ra n xs 0).getD k St0) (rwR t lo hi ra n xs 0).length = some s from h)
    exact hk
  | i + 1, h0 => by
    have ih := nxR_lt t1 h i (by omega)
    show ((rwR t lo hi ra n xs i).getD (nxR (rwR t lo hi ra n xs) s.nx i) St0).nx < _
    generalize nxR (rwR t lo hi ra n xs) s.nx i = q at ih
    have hm : (rwR t lo hi ra n xs i).getD q St0 ∈ rwR t lo hi ra n xs i := by rw [getD_of ih]; exact List.getElem_mem ih
    have e : rwR t lo hi ra n xs i = (psL t lo hi (xs i)).filterMap fun p => bst ra p (rwR t lo hi ra n xs (i + 1)) (tlR n xs (i + 1)).isEmpty := by
      show rowR t lo hi ra (tlR n xs i) = _
      rw [tlR_s (show i < n by omega)]
      rfl
    rw [e] at hm
    obtain ⟨p, _, q2⟩ := List.mem_filterMap.1 hm
    rw [← e, tlR_e (show i < n by omega), show decide (i + 1 = n) = false by simp; omega] at q2
    obtain ⟨k, hk, e2, _⟩ := bstF_some (show bstF ra p (fun k => (rwR t lo hi ra n xs (i + 1)).getD k St0) (rwR t lo hi ra n xs (i + 1)).length = some _ from q2)
    rw [e2]
    exact hk
theorem rbest_all {t lo hi st ra : Int} {n i : Nat} {xs : Nat → Int} (t1 : 1 ≤ t) (l1 : -20000 ≤ lo) (h2 : hi ≤ 20000) (r0 : 0 ≤ ra) (r1 : ra ≤ 40000) (hn : n ≤ 42) (p : Int) (p1 : -20000 ≤ p) (p2 : p ≤ 20000) (be : Bool) (A : Option Addr) (c : Nat) (hlen : (rwR t lo hi ra n xs i).length ≤ 1000000) (W : World) (hA : SA W A (rwR t lo hi ra n xs i)) :
    Calls Try.prog 57 #[.agg #[.int .i64 t, .int .i64 lo, .int .i64 hi, .int .i64 st, .int .i64 ra], .slice A (rwR t lo hi ra n xs i).length c, .int .i64 p, .bool be] W fun e w' => e = .returned (.tuple #[stV (outS p (bst ra p (rwR t lo hi ra n xs i) be)), .bool (bst ra p (rwR t lo hi ra n xs i) be).isSome]) ∧ Below W.heap.size W w' := by
  cases be with
  | true => exact rbest_end t lo hi st ra p A _ c W
  | false => exact rbest_row t lo hi st ra p A c _ W hlen hA p1 p2 r0 r1 (rwR_bd t1 l1 h2 r0 r1 hn)
theorem rw_len {t lo hi ra : Int} {n i : Nat} {xs : Nat → Int} (t1 : 1 ≤ t) (l1 : -20000 ≤ lo) (h2 : hi ≤ 20000) : (rwR t lo hi ra n xs i).length ≤ 1000000 := by
  rcases Nat.lt_or_ge i n with q | q
  · rw [rwR_eq q]
    have := paR_len t lo hi ra n xs i (posN t lo hi (xs i))
    have := posN_le (x := xs i) t1 l1 h2
    omega
  · have e : rwR t lo hi ra n xs i = [] := by unfold rwR tlR; rw [show n - i = 0 by omega]; rfl
    rw [e]
    simp
set_option maxRecDepth 100000 in
set_option maxHeartbeats 8000000 in
theorem rpointing_x (t lo hi st ra : Int) (A : Option Addr) (n c : Nat) (xs : Nat → Int) (w : World) (hn : n ≤ 42) (hA : IA w A n xs) (hx : ∀ i, i < n → 0 ≤ xs i ∧ xs i ≤ 3600) (t1 : 1 ≤ t) (t2 : t ≤ 3600) (l1 : -20000 ≤ lo) (l2 : lo ≤ 20000) (h1 : -20000 ≤ hi) (h2 : hi ≤ 20000) (f1 : lo ≤ st) (f2 : st ≤ hi) (r0 : 0 ≤ ra) (r1 : ra ≤ 40000)
    (R : Nat → List St) (hR : R = rwR t lo hi ra n xs) :
    Calls Try.prog 24 #[.agg #[.int .i64 t, .int .i64 lo, .int .i64 hi, .int .i64 st, .int .i64 ra], .slice A n c] w (SomeRP w n R (bst ra st (R 0) (decide (n = 0)))) := by
  obtain ⟨i0, hi0, hz0, hz1, hz2⟩ := info_parts infoStep
  obtain ⟨j0, gi0, gz0, gz1, gz2⟩ := info_parts infoSteps
  obtain ⟨NN, HNN⟩ : ∃ NN : Nat, Hid (NN = n + 1) := ⟨_, rfl⟩
  have wn : IntKind.i64.wrap ((n : Int) + 1) = (NN : Int) := (IntWalk.i64_in _ (by omega)).trans (by rw [HNN.out]; rfl)
  have hNN : NN ≤ 43 := by rw [HNN.out]; omega
  have hNn : n < NN := by rw [HNN.out]; omega
  have HA := Lib.hid hA
  have HX := Lib.hid hx
  have HR := Lib.hid hR
  have HRL : Hid (∀ j, (R j).length ≤ 1000000) := fun j => by rw [hR]; exact rw_len t1 l1 h2
  have HBA : Hid (∀ (j : Nat) (p : Int), -20000 ≤ p → p ≤ 20000 → ∀ (be : Bool) (A' : Option Addr) (c' : Nat) (W : World), SA W A' (R j) → Calls Try.prog 57 #[.agg #[.int .i64 t, .int .i64 lo, .int .i64 hi, .int .i64 st, .int .i64 ra], .slice A' (R j).length c', .int .i64 p, .bool be] W fun e w' => e = .returned (.tuple #[stV (outS p (bst ra p (R j) be)), .bool (bst ra p (R j) be).isSome]) ∧ Below W.heap.size W w') := fun j p p1 p2 be A' c' W hs => by
    rw [hR] at hs ⊢
    exact rbest_all t1 l1 h2 r0 r1 hn p p1 p2 be A' c' (rw_len t1 l1 h2) W hs
  have HPO0 : Hid (∀ i, i < n → ∀ W, Calls Try.prog 56 #[.agg #[.int .i64 t, .int .i64 lo, .int .i64 hi, .int .i64 st, .int .i64 ra], .int .i64 (xs i)] W fun e w' => ∃ v, e = .returned v ∧ w'.ownsRow (W.heap.size + 1) 3 1 v (posN t lo hi (xs i)) (intsV (posN t lo hi (xs i)) (posF t lo (xs i))) ∧ Below W.heap.size W w') := fun i hi' W => rpositions_any t lo hi st ra (xs i) W t1 t2 l1 l2 h2 (hx i hi').1 (hx i hi').2
  clear hA hx hR
  go_enter Try.func24, Try.ntmps24
  go_wp2_with (first | (at_make; go_loud (refine wpList_make_full _ rfl _ _ 98 rfl (w.heap.size + 1) 104 j0 _ 1 undStepss gi0 gz0 gz1 .i64 .i64 NN NN NN rfl rfl rfl rfl (by rw [gz2]; omega) (by unfold maxLen; omega) (by simp) ?_; intro w1 hown1 hgrow1; have hb1 := below_none hgrow1; have HM : Hid (∀ i, i < NN → w1.cell? ⟨w.heap.size + 1, i, none⟩ = some (.slice none 0 0)) := (fun i hi => by simpa using made_nil hown1 i hi); have HZ : Hid (∀ i, w1.frozen? ⟨w.heap.size + 1, i, none⟩ = false) := (fun i => by simpa using frozen_own hown1 i); have d0 := (hb1.cell (p := ⟨w.heap.size, 0, none⟩) (by simp)).trans (show _ = some (.int .i64 t) by simp [go_sem]); have d1 := (hb1.cell (p := ⟨w.heap.size, 1, none⟩) (by simp)).trans (show _ = some (.int .i64 lo) by simp [go_sem]); have d2 := (hb1.cell (p := ⟨w.heap.size, 2, none⟩) (by simp)).trans (show _ = some (.int .i64 hi) by simp [go_sem]); have d3 := (hb1.cell (p := ⟨w.heap.size, 3, none⟩) (by simp)).trans (show _ = some (.int .i64 st) by simp [go_sem]); have d4 := (hb1.cell (p := ⟨w.heap.size, 4, none⟩) (by simp)).trans (show _ = some (.int .i64 ra) by simp [go_sem]); have HB := Lib.hid (show Below w.heap.size w w1 from belowT (show Below w.heap.size w _ by (repeat (first | with_reducible exact Below.refl _ _ | with_reducible assumption | with_reducible refine Below.alloc ?_ (by first | (simp; done) | (simp; omega) | omega) _ | with_reducible refine Below.setCell ?_ (by first | (simp; done) | (simp; omega) | omega) _ | with_reducible refine Below.drew ?_ | with_reducible refine below_drewN ?_ _))) hb1); have hs2 : w.heap.size + 1 < w1.heap.size := (by simpa using lt_of_own hown1); clear hb1 hown1 hgrow1)) | fail)
  have HO0 : Hid (OJ w t lo hi st ra n R n w1) := ⟨HB.out, hs2, ⟨d0, d1, d2, d3, d4⟩, HZ.out, fun j q1 q2 => ⟨none, 0, by
    have e : R j = [] := by rw [HR.out, show j = n by omega]; exact rwR_n t lo hi ra n xs
    rw [e]
    exact HM.out j (by omega), fun h0 => by
    have e : R j = [] := by rw [HR.out, show j = n by omega]; exact rwR_n t lo hi ra n xs
    rw [e] at h0
    exact absurd h0 (Nat.lt_irrefl 0), fun a ha => by cases ha⟩, fun j hj => HM.out j (by omega)⟩
  clear d0 d1 d2 d3 d4 HM HZ HB
  go_loopw [8] (fun s8 wr => ∃ u : Nat, u ≤ n ∧ s8 = .int .i64 ((u : Int) - 1) ∧ OJ w t lo hi st ra n R u wr) (fun i _ => (intOf i + 1).toNat)
  case atStart => exact ⟨n, Nat.le_refl n, rfl, HO0.out⟩
  case round =>
    clear HO0 hs2
    obtain ⟨u, hu, rfl, hOJ⟩ := hrel
    have HOJ := Lib.hid hOJ
    cases u with
    | zero =>
      rw [show ((0 : Nat) : Int) - 1 = -1 from rfl]
      obtain ⟨hbw, hRb, ⟨d0, d1, d2, d3, d4⟩, hfz, hro, _⟩ := hOJ
      have n1 : 0 < NN := by omega
      obtain ⟨Ar, cr, rc, hsa, _⟩ := hro 0 (Nat.le_refl _) (Nat.zero_le _)
      have HSA := Lib.hid hsa
      have HRO := Lib.hid hro
      obtain ⟨be, hbe0⟩ : ∃ be, decide (n = 0) = be := ⟨_, rfl⟩
      have hbe : ((n : Int) == 0) = be := by
        rw [← hbe0, Bool.eq_iff_iff, beq_iff_eq, decide_eq_true_eq]
        omega
      have HBE := Lib.hid hbe0
      have HBS0 := Lib.hid (fun W hs => HBA.out 0 st (by omega) (by omega) be Ar cr W hs)
      obtain ⟨oo, hoo⟩ : ∃ oo, bst ra st (R 0) be = oo := ⟨_, rfl⟩
      have HOO := Lib.hid hoo
      rw [hoo] at HBS0
      obtain ⟨Rr, hRr⟩ : ∃ Rr, R 0 = Rr := ⟨_, rfl⟩
      have HRr := Lib.hid hRr
      rw [hRr] at HBS0 HSA rc
      obtain ⟨⟨sa, str, snx⟩, hss⟩ : ∃ s : St, outS st oo = s := ⟨_, rfl⟩
      obtain ⟨bk, hbk⟩ : ∃ bk, oo.isSome = bk := ⟨_, rfl⟩
      have HBS : Hid (∀ W, SA W Ar Rr → Calls Try.prog 57 #[.agg #[.int .i64 t, .int .i64 lo, .int .i64 hi, .int .i64 st, .int .i64 ra], .slice Ar Rr.length cr, .int .i64 st, .bool be] W fun e w' => e = .returned (.tuple #[.agg #[.int .i64 sa, .int .i64 str, .int .i64 snx], .bool bk]) ∧ Below W.heap.size W w') := fun W hs => by
        have := HBS0.out W hs
        rw [hss, hbk] at this
        exact this
      have HSS := Lib.hid hss
      have HBK := Lib.hid hbk
      have HBW := Lib.hid hbw
      clear hsa hro HBS0 hbe0 hRr hoo hss hbk hbw
      go_wp2_with fail
      refine wp_region_st mk2 (by kernel_rfl) [mpEq (.agg #[.int .i64 t, .int .i64 lo, .int .i64 hi, .int .i64 st, .int .i64 ra]), mpEq (.slice (some ⟨w.heap.size + 1, 0, none⟩) NN NN), mpEq (.pointer (some ⟨w.heap.size + 1, 0, none⟩)), mpEq (.slice Ar (Rr).length cr), mpEq (.pointer (some ⟨w.heap.size, 3, none⟩)), mpEq (.int .i64 st), mpEq (.slice A n c), mpEq (.int .i64 ↑n), mpEq (.bool be), mpEq (.tuple #[.agg #[.int .i64 sa, .int .i64 str, .int .i64 snx], .bool bk]), mpEq (.tuple #[.agg #[.int .i64 sa, .int .i64 str, .int .i64 snx], .bool bk]), mpEq (.agg #[.int .i64 sa, .int .i64 str, .int .i64 snx]), mpTop, mpNew3 (wr).heap.size, mpTop, mpTop] [(fun _ => True), (fun _ => True), (fun _ => True), (fun _ => True), (fun _ => True), (fun _ => True), (fun _ => True), (fun _ => True), (fun _ => True), (fun _ => True), (· = .tuple #[.agg #[.int .i64 sa, .int .i64 str, .int .i64 snx], .bool bk]), (fun _ => True), (· = .bool bk), (fun _ => True), (fun _ => True), (· = .bool bk)] (mpVar3 (wr).heap.size sa str snx) 14 13 13 (by kernel_rfl) (by kernel_rfl) (by kernel_rfl) (by kernel_rfl) rfl (
          allOps_cons (rs_not (by kernel_rfl) (fun a' w' hb hs hd hp => rs_op fun K hK => by
        have e1 := (hs.get 2 (by kernel_rfl)).trans (show _ = Value.pointer (some ⟨w.heap.size, 0, none⟩) from rfl)
        have c0 := keep hb d0
        have c1 := keep hb d1
        have c2 := keep hb d2
        have c3 := keep hb d3
        have c4 := keep hb d4
        clear hs hd hp
        unfold Oper.wp
        generalize a'.eval = ρ at e1 ⊢
        simp [go_sem, e1, c0, c1, c2, c3, c4]
        exact hK _ _ (Below.refl _ _) rfl trivial)) <|
          allOps_cons (rs_not (by kernel_rfl) (fun a' w' hb hs hd hp => rs_op fun K hK => by
        have e1 := (hs.get 7 (by kernel_rfl)).trans (show _ = .slice (some ⟨w.heap.size + 1, 0, none⟩) NN NN from rfl)
        clear hs hd hp
        unfold Oper.wp
        generalize a'.eval = ρ at e1 ⊢
        simp [go_sem, e1]
        exact hK _ _ (Below.refl _ _) rfl trivial)) <|
          allOps_cons (rs_not (by kernel_rfl) (fun a' w' hb hs hd hp => rs_op fun K hK => by
        have e1 := (show a'.eval (.tmp 73) = .slice (some ⟨w.heap.size + 1, 0, none⟩) NN NN from RDeps.get (hd (by kernel_rfl)) 1 73 (by kernel_rfl) (by kernel_rfl))
        have ec : ∀ v, a'.eval (.const v) = v := fun _ => rfl
        clear hs hd hp
        unfold Oper.wp
        generalize a'.eval = ρ at e1 ec ⊢
        simp [go_sem, e1, ec, n1]
        exact hK _ _ (Below.refl _ _) rfl trivial)) <|
          allOps_cons (rs_not (by kernel_rfl) (fun a' w' hb hs hd hp => rs_op fun K hK => by
        have e1 := (show a'.eval (.tmp 74) = .pointer (some ⟨w.heap.size + 1, 0, none⟩) from RDeps.get (hd (by kernel_rfl)) 2 74 (by kernel_rfl) (by kernel_rfl))
        have c0 := keep hb rc
        clear hs hd hp
        unfold Oper.wp
        generalize a'.eval = ρ at e1 ⊢
        simp [go_sem, e1, c0]
        exact hK _ _ (Below.refl _ _) rfl trivial)) <|
          allOps_cons (rs_not (by kernel_rfl) (fun a' w' hb hs hd hp => rs_op fun K hK => by
        have e1 := (hs.get 2 (by kernel_rfl)).trans (show _ = Value.pointer (some ⟨w.heap.size, 0, none⟩) from rfl)
        clear hs hd hp
        unfold Oper.wp
        generalize a'.eval = ρ at e1 ⊢
        simp [go_sem, e1]
        exact hK _ _ (Below.refl _ _) rfl trivial)) <|
          allOps_cons (rs_not (by kernel_rfl) (fun a' w' hb hs hd hp => rs_op fun K hK => by
        have e1 := (show a'.eval (.tmp 76) = .pointer (some ⟨w.heap.size, 3, none⟩) from RDeps.get (hd (by kernel_rfl)) 4 76 (by kernel_rfl) (by kernel_rfl))
        have c0 := keep hb d3
        clear hs hd hp
        unfold Oper.wp
        generalize a'.eval = ρ at e1 ⊢
        simp [go_sem, e1, c0]
        exact hK _ _ (Below.refl _ _) rfl trivial)) <|
          allOps_cons (rs_not (by kernel_rfl) (fun a' w' hb hs hd hp => rs_op fun K hK => by
        have e1 := (hs.get 1 (by kernel_rfl)).trans (show _ = .slice A n c from rfl)
        clear hs hd hp
        unfold Oper.wp
        generalize a'.eval = ρ at e1 ⊢
        simp [go_sem, e1]
        exact hK _ _ (Below.refl _ _) rfl trivial)) <|
          allOps_cons (rs_not (by kernel_rfl) (fun a' w' hb hs hd hp => rs_op fun K hK => by
        have e1 := (show a'.eval (.tmp 78) = .slice A n c from RDeps.get (hd (by kernel_rfl)) 6 78 (by kernel_rfl) (by kernel_rfl))
        clear hs hd hp
        unfold Oper.wp
        generalize a'.eval = ρ at e1 ⊢
        simp [go_sem, e1]
        exact hK _ _ (Below.refl _ _) rfl trivial)) <|
          allOps_cons (rs_not (by kernel_rfl) (fun a' w' hb hs hd hp => rs_op fun K hK => by
        have e1 := (show a'.eval (.tmp 79) = .int .i64 ↑n from RDeps.get (hd (by kernel_rfl)) 7 79 (by kernel_rfl) (by kernel_rfl))
        have ec : ∀ v, a'.eval (.const v) = v := fun _ => rfl
        clear hs hd hp
        unfold Oper.wp
        generalize a'.eval = ρ at e1 ec ⊢
        simp [go_sem, e1, ec, hbe]
        exact hK _ _ (Below.refl _ _) rfl trivial)) <|
          allOps_cons (rs_not (by kernel_rfl) (fun a' w' hb hs hd hp => by
        exact rs_fn (φ := (mpEq (.tuple #[.agg #[.int .i64 sa, .int .i64 str, .int .i64 snx], .bool bk])).p) (ψ := (fun _ => True)) (vs := #[.agg #[.int .i64 t, .int .i64 lo, .int .i64 hi, .int .i64 st, .int .i64 ra], .slice Ar (Rr).length cr, .int .i64 st, .bool be]) rfl (enters_of Try.func57 (by kernel_rfl) rfl) (by simp [(show a'.eval (.tmp 72) = .agg #[.int .i64 t, .int .i64 lo, .int .i64 hi, .int .i64 st, .int .i64 ra] from RDeps.get (hd (by kernel_rfl)) 0 72 (by kernel_rfl) (by kernel_rfl)), (show a'.eval (.tmp 75) = .slice Ar (Rr).length cr from RDeps.get (hd (by kernel_rfl)) 3 75 (by kernel_rfl) (by kernel_rfl)), (show a'.eval (.tmp 77) = .int .i64 st from RDeps.get (hd (by kernel_rfl)) 5 77 (by kernel_rfl) (by kernel_rfl)), (show a'.eval (.tmp 80) = .bool be from RDeps.get (hd (by kernel_rfl)) 8 80 (by kernel_rfl) (by kernel_rfl))]) ((HBS.out _ (HSA.out.below hb)).mono (by rintro e w1 ⟨rfl, h1⟩; exact ⟨_, rfl, h1, rfl, trivial⟩)))) <|
          allOps_cons (rs_not (by kernel_rfl) (fun a' w' hb hs hd hp => rs_op fun K hK => by
        have e1 := (show a'.eval (.tmp 81) = .tuple #[.agg #[.int .i64 sa, .int .i64 str, .int .i64 snx], .bool bk] from RDeps.get (hd (by kernel_rfl)) 9 81 (by kernel_rfl) (by kernel_rfl))
        clear hs hd hp
        unfold Oper.wp
        generalize a'.eval = ρ at e1 ⊢
        simp [go_sem, e1]
        exact hK _ _ (Below.refl _ _) rfl rfl)) <|
          allOps_cons (rs_not (by kernel_rfl) (fun a' w' hb hs hd hp => rs_op fun K hK => by
        have e1 := (show a'.eval (.tmp 71) = .tuple #[.agg #[.int .i64 sa, .int .i64 str, .int .i64 snx], .bool bk] from RDeps.get (hd (by kernel_rfl)) 10 71 (by kernel_rfl) (by kernel_rfl))
        clear hs hd hp
        unfold Oper.wp
        generalize a'.eval = ρ at e1 ⊢
        simp [go_sem, e1]
        exact hK _ _ (Below.refl _ _) rfl trivial)) <|
          allOps_cons (rs_not (by kernel_rfl) (fun a' w' hb hs hd hp => rs_op fun K hK => by
        have e1 := (show a'.eval (.tmp 71) = .tuple #[.agg #[.int .i64 sa, .int .i64 str, .int .i64 snx], .bool bk] from hp.get 10 71 (by kernel_rfl) (by kernel_rfl))
        clear hs hd hp
        unfold Oper.wp
        generalize a'.eval = ρ at e1 ⊢
        simp [go_sem, e1]
        exact hK _ _ (Below.refl _ _) trivial rfl)) <|
          allOps_cons (rs_not (by kernel_rfl) (fun a' w' hb hs hd hp => rs_op fun K hK => by
        have hz := hb.size
        clear hs hd hp
        unfold Oper.wp
        generalize a'.eval = ρ
        simp [go_sem]
        exact hK _ _ ((Below.refl _ _).alloc (Nat.le_refl _) _) ⟨_, rfl, hz, by simp [go_sem], by simp [go_sem], by simp [go_sem], by simp [go_sem], by simp [go_sem], by simp [go_sem]⟩ trivial)) <|
          allOps_cons (rs_is (by kernel_rfl) (fun a' w' hb hs hd => rs_st rfl fun K hK => by
        obtain ⟨q, e1, zq, c0, c1, c2, f0, f1, f2⟩ := (show (mpNew3 (wr).heap.size).p (a'.eval (.tmp 13)) w' from hd.get 13 13 (by kernel_rfl) (by kernel_rfl))
        have e2 := (show a'.eval (.tmp 82) = .agg #[.int .i64 sa, .int .i64 str, .int .i64 snx] from hd.get 11 82 (by kernel_rfl) (by kernel_rfl))
        have hz := lt_of c0
        clear hs hd
        unfold Oper.wp
        generalize a'.eval = ρ at e1 e2 hK ⊢
        simp [go_sem, e1, e2, c0, c1, c2, f0, f1, f2]
        exact hK _ (Below.setCell (Below.setCell (Below.setCell hb zq _) zq _) zq _) ⟨q, e1, zq, by simp [go_sem, c0], by simp [go_sem, c1], by simp [go_sem, c2], by simp [go_sem, f0], by simp [go_sem, f1], by simp [go_sem, f2]⟩)) <|
          allOps_cons (rs_not (by kernel_rfl) (fun a' w' hb hs hd hp => rs_op fun K hK => by
        have e1 := (show a'.eval (.tmp 83) = .bool bk from hp.get 12 83 (by kernel_rfl) (by kernel_rfl))
        clear hs hd hp
        unfold Oper.wp
        generalize a'.eval = ρ at e1 ⊢
        simp [go_sem, e1]
        exact hK _ _ (Below.refl _ _) trivial rfl)) <| allOps_nil) (fun Q w3 hb hall hv => ?_)
      obtain ⟨qv, h13, -, x0, x1, x2, -, -, -⟩ := hv
      have h14 : Q 14 = .bool bk := hall.get 15 rfl (by decide)
      clear hall
      simp only [mk2, maskPut, Nat.reduceAdd]
      rw [h13, h14]
      replace HBW := Lib.hid (belowT HBW.out hb)
      replace HRO := Lib.hid (fun j h1 h2 => (HRO.out j h1 h2).to hb)
      have hRb3 : w.heap.size + 1 < w3.heap.size := Nat.lt_of_lt_of_le hRb hb.size
      clear h13 h14 hb d0 d1 d2 d3 d4 rc HSA HBS hfz hRb HOJ
      have HPO : Hid (bst ra st (R 0) (decide (n = 0)) = oo) := by rw [HBE.out]; exact HOO
      cases oo with
      | none =>
        obtain rfl : false = bk := HBK.out
        go_wp2_with fail
        go_ret3
        exact ⟨HBW.out, .inl ⟨HPO.out, rfl⟩⟩
      | some s =>
        obtain rfl : true = bk := HBK.out
        obtain rfl : s = ⟨sa, str, snx⟩ := HSS.out
        have HNX : Hid (∀ i, i < n → nxR R snx i < (R i).length) := fun i hi' => by
          have hp := HPO.out
          rw [HR.out] at hp ⊢
          exact nxR_lt t1 hp i hi'
        obtain ⟨k0, kk0, kz0, kz1, kz2⟩ := info_parts infoInt
        clear HSS HBK HBE HOO HRr
        go_wp2_with fail
        go_loopw [15, 16, 17] (fun s15 s16 s17 wr => ∃ i : Nat, i ≤ n ∧ s17 = .int .i64 i ∧ s16 = .int .i64 (nxR R snx i) ∧ Hid (wr.ownsRow w3.heap.size 3 1 s15 i (intsV i (outR R snx))) ∧ Below w3.heap.size w3 wr) (fun _ _ i _ => n - (intOf i).toNat)
        case atStart => exact ⟨0, Nat.zero_le _, rfl, rfl, World.ownsRow_nil _ _ _ _, Below.refl _ _⟩
        case round =>
          obtain ⟨i, hi', rfl, rfl, HO, hbx⟩ := hrel
          replace x1 := keep hbx x1
          have hsz := hbx.size
          by_cases hlt : i < n
          · obtain ⟨Ai, ci, rci, hsi, _⟩ := HRO.out i (Nat.zero_le _) hi'
            obtain ⟨g, rfl, hcs⟩ := hsi (by have := HNX.out i hlt; omega)
            obtain ⟨y0, _, y2⟩ := hcs (nxR R snx i) (HNX.out i hlt)
            have HO1 : Hid (intsV (i + 1) (outR R snx) = intsV i (outR R snx) ++ [.int .i64 (outR R snx i)]) := intsV_s _ _
            have HNs : Hid (nxR R snx (i + 1) = ((R i).getD (nxR R snx i) St0).nx) := rfl
            have HOs : outR R snx i = ((R i).getD (nxR R snx i) St0).a := rfl
            have hnx := HNX.out i hlt
            rw [← HOs] at y0
            clear HOs hcs hsi
            generalize outR R snx i = oi at *
            generalize ((R i).getD (nxR R snx i) St0).nx = nx2 at *
            generalize nxR R snx i = nx1 at *
            generalize (R i).length = rl at *
            have c0 := keep hbx rci
            have c1 := keep hbx y0
            have j1 : (0 : Int) ≤ (i : Int) := by omega
            have j2 : (i : Int) < (NN : Int) := by omega
            have j3 : (0 : Int) ≤ (nx1 : Int) := by omega
            have j4 : (nx1 : Int) < (rl : Int) := by omega
            go_wp2_with (first
              | (at_builtin; go_loud (refine wpList_append_own_at _ rfl _ _ 48 rfl w3.heap.size 3 k0 _ 1 8 undInts kk0 kz0 kz1 kz2 rfl (by decide) u15 _ _ rfl (HO.out.alloc _) ⟨wr.heap.size, 0, none⟩ 1 1 [.int .i64 oi] rfl rfl (by simpa using news1 wr _ _) (by simp [Value.oneCell']) (by unfold maxLen; omega) (by omega) (by simp; omega) ?_; intro v' w5 hown' hgrow hnil hloc; rw [← HO1.out] at hown'; have HO5 := Lib.hid hown'; have hb5 : Below w3.heap.size w3 w5 := (hbx.alloc hsz _).grown hgrow (by simp; omega) (fun q hq => (HO.out.lt q hq).1); have r2 := keep hb5 rci; have r3 := keep hb5 y2; have HB5 := Lib.hid hb5; clear hown' hgrow hnil hloc hb5))
              | fail)
            go_roundw
            case rel => exact ⟨i + 1, by omega, by go_num, by rw [HNs.out], HO5.out, HB5.out⟩
            case measure => simp [intOf]; omega
          · obtain rfl : i = n := by omega
            go_wp2_with fail
            go_quiet (fail)
            go_wp2_with fail
            go_ret3
            exact ⟨below_drewN (belowT HBW.out hbx) _, .inr ⟨_, _, HPO.out, rfl, own_base (own_below HO.out (below_drewN (Below.refl _ _) _)) (by have := HBW.out.size; omega)⟩⟩
    | succ i =>
      rw [show ((i + 1 : Nat) : Int) - 1 = (i : Int) by omega]
      obtain ⟨hbw, hRb, ⟨d0, d1, d2, d3, d4⟩, hfz, hro, hnil⟩ := hOJ
      have hin : i < n := hu
      obtain ⟨bt, ot, rfl, htc⟩ := HA.out (by omega)
      have tc := keep hbw (htc i hin)
      have HPO := Lib.hid (HPO0.out i hin)
      have hpN := posN_le (x := xs i) t1 l1 h2
      have HPF := Lib.hid (fun k (hk : k < posN t lo hi (xs i)) => ((psL_mem t1).1 (show posF t lo (xs i) k ∈ psL t lo hi (xs i) from List.mem_map.2 ⟨k, List.mem_range.2 hk, rfl⟩)).1)
      have HPA : Hid (R i = paR t lo hi ra n xs i (posN t lo hi (xs i))) := by rw [HR.out]; exact rwR_eq hin
      have HPS : Hid (∀ k, paR t lo hi ra n xs i (k + 1) = paR t lo hi ra n xs i k ++ (bst ra (posF t lo (xs i) k) (R (i + 1)) (decide (i + 1 = n))).toList) := fun k => by
        rw [paR_s]
        unfold gR
        rw [HR.out, tlR_e hin]
      have HPL : Hid (∀ k, (paR t lo hi ra n xs i k).length ≤ k) := fun k => paR_len t lo hi ra n xs i k
      have hP0 : paR t lo hi ra n xs i 0 = [] := rfl
      generalize paR t lo hi ra n xs i = PP at *
      generalize posN t lo hi (xs i) = mp at *
      generalize posF t lo (xs i) = pf at *
      have HP0 := Lib.hid hP0
      have HNL := Lib.hid hnil
      have HRO := Lib.hid hro
      clear htc hnil hro hP0 hfz hbw
      have j1 : (0 : Int) ≤ (i : Int) := by omega
      have j2 : (i : Int) < (n : Int) := by omega
      go_wp2_with fail
      refine wp_region_mp [mpEq (.agg #[.int .i64 t, .int .i64 lo, .int .i64 hi, .int .i64 st, .int .i64 ra]), mpEq (.slice (some ⟨bt, ot, none⟩) n c), mpEq (.int .i64 ↑i), mpEq (.pointer (some ⟨bt, ot + i, none⟩)), mpEq (.int .i64 (xs i)), mpPos (w.heap.size + 1) mp pf, mpPos (w.heap.size + 1) mp pf] mk0 (by kernel_rfl) (by kernel_rfl) (by kernel_rfl) (
          allOps_cons (fun a' w' hb hs hd => rg_op fun K hK => by
        have e1 := (hs.get 2 (by kernel_rfl)).trans (show _ = Value.pointer (some ⟨w.heap.size, 0, none⟩) from rfl)
        have c0 := keep hb d0
        have c1 := keep hb d1
        have c2 := keep hb d2
        have c3 := keep hb d3
        have c4 := keep hb d4
        clear hs hd
        unfold Oper.wp
        generalize a'.eval = ρ at e1 ⊢
        simp [go_sem, e1, c0, c1, c2, c3, c4]
        exact hK _ _ (Below.refl _ _) rfl) <|
          allOps_cons (fun a' w' hb hs hd => rg_op fun K hK => by
        have e1 := (hs.get 1 (by kernel_rfl)).trans (show _ = .slice (some ⟨bt, ot, none⟩) n c from rfl)
        clear hs hd
        unfold Oper.wp
        generalize a'.eval = ρ at e1 ⊢
        simp [go_sem, e1]
        exact hK _ _ (Below.refl _ _) rfl) <|
          allOps_cons (fun a' w' hb hs hd => rg_op fun K hK => by
        have e1 := (hs.get 8 (by kernel_rfl)).trans (show _ = .int .i64 ↑i from rfl)
        clear hs hd
        unfold Oper.wp
        generalize a'.eval = ρ at e1 ⊢
        simp [go_sem, e1]
        exact hK _ _ (Below.refl _ _) rfl) <|
          allOps_cons (fun a' w' hb hs hd => rg_op fun K hK => by
        have e1 := (show a'.eval (.tmp 30) = .slice (some ⟨bt, ot, none⟩) n c from hd.get 1 30 (by kernel_rfl) (by kernel_rfl))
        have e2 := (show a'.eval (.tmp 31) = .int .i64 ↑i from hd.get 2 31 (by kernel_rfl) (by kernel_rfl))
        clear hs hd
        unfold Oper.wp
        generalize a'.eval = ρ at e1 e2 ⊢
        simp [go_sem, e1, e2, j1, j2]
        exact hK _ _ (Below.refl _ _) rfl) <|
          allOps_cons (fun a' w' hb hs hd => rg_op fun K hK => by
        have e1 := (show a'.eval (.tmp 32) = .pointer (some ⟨bt, ot + i, none⟩) from hd.get 3 32 (by kernel_rfl) (by kernel_rfl))
        have c0 := keep hb tc
        clear hs hd
        unfold Oper.wp
        generalize a'.eval = ρ at e1 ⊢
        simp [go_sem, e1, c0]
        exact hK _ _ (Below.refl _ _) rfl) <|
          allOps_cons (fun a' w' hb hs hd => by
        exact rg_fn (φ := (mpPos (w.heap.size + 1) mp pf).p) (vs := #[.agg #[.int .i64 t, .int .i64 lo, .int .i64 hi, .int .i64 st, .int .i64 ra], .int .i64 (xs i)]) rfl (enters_of Try.func56 (by kernel_rfl) rfl) (by simp [(show a'.eval (.tmp 29) = .agg #[.int .i64 t, .int .i64 lo, .int .i64 hi, .int .i64 st, .int .i64 ra] from hd.get 0 29 (by kernel_rfl) (by kernel_rfl)), (show a'.eval (.tmp 33) = .int .i64 (xs i) from hd.get 4 33 (by kernel_rfl) (by kernel_rfl))]) ((HPO.out w').mono (by rintro e w1 ⟨v, rfl, hv, h1⟩; exact ⟨_, rfl, h1, pos_word (Nat.lt_of_lt_of_le hRb hb.size) hv⟩))) <|
          allOps_cons (fun a' w' hb hs hd => rg_op fun K hK => by
        have e1 := (show (mpPos (w.heap.size + 1) mp pf).p (a'.eval (.tmp 34)) w' from hd.get 5 34 (by kernel_rfl) (by kernel_rfl))
        clear hs hd
        unfold Oper.wp
        generalize a'.eval = ρ at e1 ⊢
        simp [go_sem]
        exact hK _ _ (Below.refl _ _) e1) <| allOps_nil) (fun Q w1 hb hall => ?_)
      obtain ⟨Ap, cp, h9, hia, hpb⟩ := (show (mpPos (w.heap.size + 1) mp pf).p (Q 9) w1 from hall.get 6 rfl)
      clear hall
      simp only [mk0, maskPut, Nat.reduceAdd]
      rw [h9]
      clear h9
      replace HOJ := Lib.hid (HOJ.out.to hb)
      have HIA := Lib.hid hia
      have HPB := Lib.hid hpb
      have hRb1 : w.heap.size + 1 < w1.heap.size := Nat.lt_of_lt_of_le hRb hb.size
      clear d0 d1 d2 d3 d4 hb tc hia hpb hRb HNL HRO HPO j2
      go_wp2_with fail
      obtain ⟨wo, rfl⟩ : ∃ wo : World, wo = w1 := ⟨_, rfl⟩
      go_loopw [10] (fun s10 wr => ∃ k : Nat, k ≤ mp ∧ s10 = .int .i64 k ∧ IJ w wo i wo.heap.size (PP k) wr) (fun i _ => mp - (intOf i).toNat)
      case atStart =>
        refine ⟨0, Nat.zero_le _, rfl, ?_⟩
        rw [HP0.out]
        obtain ⟨hbw, hRb, _, hfz, _, hnil⟩ := HOJ.out
        exact ⟨fun b o u _ _ h => h, hfz, hbw, Nat.le_refl _, none, 0, hnil i (Nat.lt_succ_self i), World.ownsRow_nil _ _ _ _⟩
      case round =>
        obtain ⟨k, hk, rfl, hIJ⟩ := hrel
        have HIJ := Lib.hid hIJ
        by_cases hlt : k < mp
        · obtain ⟨ga, oa, hga, hpc⟩ := HIA.out (by omega)
          have hgb : w.heap.size + 1 < ga := HPB.out ⟨ga, oa, none⟩ hga
          subst hga
          obtain ⟨ppb1, ppb2⟩ := HPF.out k hlt
          have pc := HIJ.out.1 _ _ _ (lt_of (hpc k hlt)) (fun e => by omega) (hpc k hlt)
          obtain ⟨d0, d1, d2, d3, d4⟩ := HIJ.out.dc hRb1 HOJ.out.2.2.1
          obtain ⟨Ar, cr, rc, hsa, _⟩ := HIJ.out.ro hRb1 (show i + 1 ≠ i by omega) (HOJ.out.2.2.2.2.1 (i + 1) (Nat.le_refl _) hu)
          have HSA := Lib.hid hsa
          have HBS0 := Lib.hid (fun W hs => HBA.out (i + 1) (pf k) (by omega) (by omega) (decide (i + 1 = n)) Ar cr W hs)
          have HPk := Lib.hid (HPS.out k)
          have HPlk := Lib.hid (HPL.out k)
          have wi1 : IntKind.i64.wrap ((i : Int) + 1) = (i : Int) + 1 := IntWalk.i64_in _ (by omega)
          have i1 : (0 : Int) ≤ (i : Int) + 1 := by omega
          have i2 : (i : Int) + 1 < (NN : Int) := by omega
          have i3 : ((i : Int) + 1).toNat = i + 1 := by omega
          have k1 : (0 : Int) ≤ (k : Int) := by omega
          have k2 : (k : Int) < (mp : Int) := by omega
          obtain ⟨be, hbe0⟩ : ∃ be, decide (i + 1 = n) = be := ⟨_, rfl⟩
          have hbe : (((i : Int) + 1) == (n : Int)) = be := be_int.trans hbe0
          rw [hbe0] at HBS0 HPk
          generalize hRr : R (i + 1) = Rr at HBS0 HPk HSA rc
          generalize pf k = pp at *
          generalize hoo : bst ra pp Rr be = oo at HBS0 HPk
          obtain ⟨⟨sa, str, snx⟩, hss⟩ : ∃ s : St, outS pp oo = s := ⟨_, rfl⟩
          obtain ⟨bk, hbk⟩ : ∃ bk, oo.isSome = bk := ⟨_, rfl⟩
          have HBS : Hid (∀ W, SA W Ar Rr → Calls Try.prog 57 #[.agg #[.int .i64 t, .int .i64 lo, .int .i64 hi, .int .i64 st, .int .i64 ra], .slice Ar Rr.length cr, .int .i64 pp, .bool be] W fun e w' => e = .returned (.tuple #[.agg #[.int .i64 sa, .int .i64 str, .int .i64 snx], .bool bk]) ∧ Below W.heap.size W w') := fun W hs => by
            have := HBS0.out W hs
            rw [hss, hbk] at this
            exact this
          have HSS := Lib.hid hss
          have HBK := Lib.hid hbk
          clear hpc hsa HBS0 hbe0 hRr hoo hss hbk
          go_wp2_with fail
          refine wp_region_st mk1 (by kernel_rfl) [mpEq (.agg #[.int .i64 t, .int .i64 lo, .int .i64 hi, .int .i64 st, .int .i64 ra]), mpEq (.slice (some ⟨w.heap.size + 1, 0, none⟩) NN NN), mpEq (.int .i64 ↑i), mpEq (.int .i64 ((i : Int) + 1)), mpEq (.pointer (some ⟨w.heap.size + 1, i + 1, none⟩)), mpEq (.slice Ar (Rr).length cr), mpEq (.slice (some ⟨ga, oa, none⟩) mp cp), mpEq (.int .i64 ↑k), mpEq (.pointer (some ⟨ga, oa + k, none⟩)), mpEq (.int .i64 pp), mpEq (.int .i64 ↑i), mpEq (.int .i64 ((i : Int) + 1)), mpEq (.slice (some ⟨bt, ot, none⟩) n c), mpEq (.int .i64 ↑n), mpEq (.bool be), mpEq (.tuple #[.agg #[.int .i64 sa, .int .i64 str, .int .i64 snx], .bool bk]), mpEq (.tuple #[.agg #[.int .i64 sa, .int .i64 str, .int .i64 snx], .bool bk]), mpEq (.agg #[.int .i64 sa, .int .i64 str, .int .i64 snx]), mpTop, mpNew3 (wr).heap.size, mpTop, mpTop] [(fun _ => True), (fun _ => True), (fun _ => True), (fun _ => True), (fun _ => True), (fun _ => True), (fun _ => True), (fun _ => True), (fun _ => True), (fun _ => True), (fun _ => True), (fun _ => True), (fun _ => True), (fun _ => True), (fun _ => True), (fun _ => True), (· = .tuple #[.agg #[.int .i64 sa, .int .i64 str, .int .i64 snx], .bool bk]), (fun _ => True), (· = .bool bk), (fun _ => True), (fun _ => True), (· = .bool bk)] (mpVar3 (wr).heap.size sa str snx) 20 19 11 (by kernel_rfl) (by kernel_rfl) (by kernel_rfl) (by kernel_rfl) rfl (
              allOps_cons (rs_not (by kernel_rfl) (fun a' w' hb hs hd hp => rs_op fun K hK => by
            have e1 := (hs.get 2 (by kernel_rfl)).trans (show _ = Value.pointer (some ⟨w.heap.size, 0, none⟩) from rfl)
            have c0 := keep hb d0
            have c1 := keep hb d1
            have c2 := keep hb d2
            have c3 := keep hb d3
            have c4 := keep hb d4
            clear hs hd hp
            unfold Oper.wp
            generalize a'.eval = ρ at e1 ⊢
            simp [go_sem, e1, c0, c1, c2, c3, c4]
            exact hK _ _ (Below.refl _ _) rfl trivial)) <|
              allOps_cons (rs_not (by kernel_rfl) (fun a' w' hb hs hd hp => rs_op fun K hK => by
            have e1 := (hs.get 7 (by kernel_rfl)).trans (show _ = .slice (some ⟨w.heap.size + 1, 0, none⟩) NN NN from rfl)
            clear hs hd hp
            unfold Oper.wp
            generalize a'.eval = ρ at e1 ⊢
            simp [go_sem, e1]
            exact hK _ _ (Below.refl _ _) rfl trivial)) <|
              allOps_cons (rs_not (by kernel_rfl) (fun a' w' hb hs hd hp => rs_op fun K hK => by
            have e1 := (hs.get 8 (by kernel_rfl)).trans (show _ = .int .i64 ↑i from rfl)
            clear hs hd hp
            unfold Oper.wp
            generalize a'.eval = ρ at e1 ⊢
            simp [go_sem, e1]
            exact hK _ _ (Below.refl _ _) rfl trivial)) <|
              allOps_cons (rs_not (by kernel_rfl) (fun a' w' hb hs hd hp => rs_op fun K hK => by
            have e1 := (show a'.eval (.tmp 44) = .int .i64 ↑i from RDeps.get (hd (by kernel_rfl)) 2 44 (by kernel_rfl) (by kernel_rfl))
            have ec : ∀ v, a'.eval (.const v) = v := fun _ => rfl
            clear hs hd hp
            unfold Oper.wp
            generalize a'.eval = ρ at e1 ec ⊢
            simp [go_sem, e1, ec, wi1]
            exact hK _ _ (Below.refl _ _) rfl trivial)) <|
              allOps_cons (rs_not (by kernel_rfl) (fun a' w' hb hs hd hp => rs_op fun K hK => by
            have e1 := (show a'.eval (.tmp 43) = .slice (some ⟨w.heap.size + 1, 0, none⟩) NN NN from RDeps.get (hd (by kernel_rfl)) 1 43 (by kernel_rfl) (by kernel_rfl))
            have e2 := (show a'.eval (.tmp 45) = .int .i64 ((i : Int) + 1) from RDeps.get (hd (by kernel_rfl)) 3 45 (by kernel_rfl) (by kernel_rfl))
            clear hs hd hp
            unfold Oper.wp
            generalize a'.eval = ρ at e1 e2 ⊢
            simp [go_sem, e1, e2, i1, i2, i3]
            exact hK _ _ (Below.refl _ _) rfl trivial)) <|
              allOps_cons (rs_not (by kernel_rfl) (fun a' w' hb hs hd hp => rs_op fun K hK => by
            have e1 := (show a'.eval (.tmp 46) = .pointer (some ⟨w.heap.size + 1, i + 1, none⟩) from RDeps.get (hd (by kernel_rfl)) 4 46 (by kernel_rfl) (by kernel_rfl))
            have c0 := keep hb rc
            clear hs hd hp
            unfold Oper.wp
            generalize a'.eval = ρ at e1 ⊢
            simp [go_sem, e1, c0]
            exact hK _ _ (Below.refl _ _) rfl trivial)) <|
              allOps_cons (rs_not (by kernel_rfl) (fun a' w' hb hs hd hp => rs_op fun K hK => by
            have e1 := (hs.get 9 (by kernel_rfl)).trans (show _ = .slice (some ⟨ga, oa, none⟩) mp cp from rfl)
            clear hs hd hp
            unfold Oper.wp
            generalize a'.eval = ρ at e1 ⊢
            simp [go_sem, e1]
            exact hK _ _ (Below.refl _ _) rfl trivial)) <|
              allOps_cons (rs_not (by kernel_rfl) (fun a' w' hb hs hd hp => rs_op fun K hK => by
            have e1 := (hs.get 10 (by kernel_rfl)).trans (show _ = .int .i64 ↑k from rfl)
            clear hs hd hp
            unfold Oper.wp
            generalize a'.eval = ρ at e1 ⊢
            simp [go_sem, e1]
            exact hK _ _ (Below.refl _ _) rfl trivial)) <|
              allOps_cons (rs_not (by kernel_rfl) (fun a' w' hb hs hd hp => rs_op fun K hK => by
            have e1 := (show a'.eval (.tmp 48) = .slice (some ⟨ga, oa, none⟩) mp cp from RDeps.get (hd (by kernel_rfl)) 6 48 (by kernel_rfl) (by kernel_rfl))
            have e2 := (show a'.eval (.tmp 49) = .int .i64 ↑k from RDeps.get (hd (by kernel_rfl)) 7 49 (by kernel_rfl) (by kernel_rfl))
            clear hs hd hp
            unfold Oper.wp
            generalize a'.eval = ρ at e1 e2 ⊢
            simp [go_sem, e1, e2, k1, k2]
            exact hK _ _ (Below.refl _ _) rfl trivial)) <|
              allOps_cons (rs_not (by kernel_rfl) (fun a' w' hb hs hd hp => rs_op fun K hK => by
            have e1 := (show a'.eval (.tmp 50) = .pointer (some ⟨ga, oa + k, none⟩) from RDeps.get (hd (by kernel_rfl)) 8 50 (by kernel_rfl) (by kernel_rfl))
            have c0 := keep hb pc
            clear hs hd hp
            unfold Oper.wp
            generalize a'.eval = ρ at e1 ⊢
            simp [go_sem, e1, c0]
            exact hK _ _ (Below.refl _ _) rfl trivial)) <|
              allOps_cons (rs_not (by kernel_rfl) (fun a' w' hb hs hd hp => rs_op fun K hK => by
            have e1 := (hs.get 8 (by kernel_rfl)).trans (show _ = .int .i64 ↑i from rfl)
            clear hs hd hp
            unfold Oper.wp
            generalize a'.eval = ρ at e1 ⊢
            simp [go_sem, e1]
            exact hK _ _ (Below.refl _ _) rfl trivial)) <|
              allOps_cons (rs_not (by kernel_rfl) (fun a' w' hb hs hd hp => rs_op fun K hK => by
            have e1 := (show a'.eval (.tmp 52) = .int .i64 ↑i from RDeps.get (hd (by kernel_rfl)) 10 52 (by kernel_rfl) (by kernel_rfl))
            have ec : ∀ v, a'.eval (.const v) = v := fun _ => rfl
            clear hs hd hp
            unfold Oper.wp
            generalize a'.eval = ρ at e1 ec ⊢
            simp [go_sem, e1, ec, wi1]
            exact hK _ _ (Below.refl _ _) rfl trivial)) <|
              allOps_cons (rs_not (by kernel_rfl) (fun a' w' hb hs hd hp => rs_op fun K hK => by
            have e1 := (hs.get 1 (by kernel_rfl)).trans (show _ = .slice (some ⟨bt, ot, none⟩) n c from rfl)
            clear hs hd hp
            unfold Oper.wp
            generalize a'.eval = ρ at e1 ⊢
            simp [go_sem, e1]
            exact hK _ _ (Below.refl _ _) rfl trivial)) <|
              allOps_cons (rs_not (by kernel_rfl) (fun a' w' hb hs hd hp => rs_op fun K hK => by
            have e1 := (show a'.eval (.tmp 54) = .slice (some ⟨bt, ot, none⟩) n c from RDeps.get (hd (by kernel_rfl)) 12 54 (by kernel_rfl) (by kernel_rfl))
            clear hs hd hp
            unfold Oper.wp
            generalize a'.eval = ρ at e1 ⊢
            simp [go_sem, e1]
            exact hK _ _ (Below.refl _ _) rfl trivial)) <|
              allOps_cons (rs_not (by kernel_rfl) (fun a' w' hb hs hd hp => rs_op fun K hK => by
            have e1 := (show a'.eval (.tmp 53) = .int .i64 ((i : Int) + 1) from RDeps.get (hd (by kernel_rfl)) 11 53 (by kernel_rfl) (by kernel_rfl))
            have e2 := (show a'.eval (.tmp 55) = .int .i64 ↑n from RDeps.get (hd (by kernel_rfl)) 13 55 (by kernel_rfl) (by kernel_rfl))
            clear hs hd hp
            unfold Oper.wp
            generalize a'.eval = ρ at e1 e2 ⊢
            simp [go_sem, e1, e2, hbe]
            exact hK _ _ (Below.refl _ _) rfl trivial)) <|
              allOps_cons (rs_not (by kernel_rfl) (fun a' w' hb hs hd hp => by
            exact rs_fn (φ := (mpEq (.tuple #[.agg #[.int .i64 sa, .int .i64 str, .int .i64 snx], .bool bk])).p) (ψ := (fun _ => True)) (vs := #[.agg #[.int .i64 t, .int .i64 lo, .int .i64 hi, .int .i64 st, .int .i64 ra], .slice Ar (Rr).length cr, .int .i64 pp, .bool be]) rfl (enters_of Try.func57 (by kernel_rfl) rfl) (by simp [(show a'.eval (.tmp 42) = .agg #[.int .i64 t, .int .i64 lo, .int .i64 hi, .int .i64 st, .int .i64 ra] from RDeps.get (hd (by kernel_rfl)) 0 42 (by kernel_rfl) (by kernel_rfl)), (show a'.eval (.tmp 47) = .slice Ar (Rr).length cr from RDeps.get (hd (by kernel_rfl)) 5 47 (by kernel_rfl) (by kernel_rfl)), (show a'.eval (.tmp 51) = .int .i64 pp from RDeps.get (hd (by kernel_rfl)) 9 51 (by kernel_rfl) (by kernel_rfl)), (show a'.eval (.tmp 56) = .bool be from RDeps.get (hd (by kernel_rfl)) 14 56 (by kernel_rfl) (by kernel_rfl))]) ((HBS.out _ (HSA.out.below hb)).mono (by rintro e w1 ⟨rfl, h1⟩; exact ⟨_, rfl, h1, rfl, trivial⟩)))) <|
              allOps_cons (rs_not (by kernel_rfl) (fun a' w' hb hs hd hp => rs_op fun K hK => by
            have e1 := (show a'.eval (.tmp 57) = .tuple #[.agg #[.int .i64 sa, .int .i64 str, .int .i64 snx], .bool bk] from RDeps.get (hd (by kernel_rfl)) 15 57 (by kernel_rfl) (by kernel_rfl))
            clear hs hd hp
            unfold Oper.wp
            generalize a'.eval = ρ at e1 ⊢
            simp [go_sem, e1]
            exact hK _ _ (Below.refl _ _) rfl rfl)) <|
              allOps_cons (rs_not (by kernel_rfl) (fun a' w' hb hs hd hp => rs_op fun K hK => by
            have e1 := (show a'.eval (.tmp 41) = .tuple #[.agg #[.int .i64 sa, .int .i64 str, .int .i64 snx], .bool bk] from RDeps.get (hd (by kernel_rfl)) 16 41 (by kernel_rfl) (by kernel_rfl))
            clear hs hd hp
            unfold Oper.wp
            generalize a'.eval = ρ at e1 ⊢
            simp [go_sem, e1]
            exact hK _ _ (Below.refl _ _) rfl trivial)) <|
              allOps_cons (rs_not (by kernel_rfl) (fun a' w' hb hs hd hp => rs_op fun K hK => by
            have e1 := (show a'.eval (.tmp 41) = .tuple #[.agg #[.int .i64 sa, .int .i64 str, .int .i64 snx], .bool bk] from hp.get 16 41 (by kernel_rfl) (by kernel_rfl))
            clear hs hd hp
            unfold Oper.wp
            generalize a'.eval = ρ at e1 ⊢
            simp [go_sem, e1]
            exact hK _ _ (Below.refl _ _) trivial rfl)) <|
              allOps_cons (rs_not (by kernel_rfl) (fun a' w' hb hs hd hp => rs_op fun K hK => by
            have hz := hb.size
            clear hs hd hp
            unfold Oper.wp
            generalize a'.eval = ρ
            simp [go_sem]
            exact hK _ _ ((Below.refl _ _).alloc (Nat.le_refl _) _) ⟨_, rfl, hz, by simp [go_sem], by simp [go_sem], by simp [go_sem], by simp [go_sem], by simp [go_sem], by simp [go_sem]⟩ trivial)) <|
              allOps_cons (rs_is (by kernel_rfl) (fun a' w' hb hs hd => rs_st rfl fun K hK => by
            obtain ⟨q, e1, zq, c0, c1, c2, f0, f1, f2⟩ := (show (mpNew3 (wr).heap.size).p (a'.eval (.tmp 11)) w' from hd.get 19 11 (by kernel_rfl) (by kernel_rfl))
            have e2 := (show a'.eval (.tmp 58) = .agg #[.int .i64 sa, .int .i64 str, .int .i64 snx] from hd.get 17 58 (by kernel_rfl) (by kernel_rfl))
            have hz := lt_of c0
            clear hs hd
            unfold Oper.wp
            generalize a'.eval = ρ at e1 e2 hK ⊢
            simp [go_sem, e1, e2, c0, c1, c2, f0, f1, f2]
            exact hK _ (Below.setCell (Below.setCell (Below.setCell hb zq _) zq _) zq _) ⟨q, e1, zq, by simp [go_sem, c0], by simp [go_sem, c1], by simp [go_sem, c2], by simp [go_sem, f0], by simp [go_sem, f1], by simp [go_sem, f2]⟩)) <|
              allOps_cons (rs_not (by kernel_rfl) (fun a' w' hb hs hd hp => rs_op fun K hK => by
            have e1 := (show a'.eval (.tmp 59) = .bool bk from hp.get 18 59 (by kernel_rfl) (by kernel_rfl))
            clear hs hd hp
            unfold Oper.wp
            generalize a'.eval = ρ at e1 ⊢
            simp [go_sem, e1]
            exact hK _ _ (Below.refl _ _) trivial rfl)) <| allOps_nil) (fun Q w3 hb hall hv => ?_)
          obtain ⟨qv, h11, -, x0, x1, x2, -, -, -⟩ := hv
          have h12 : Q 12 = .bool bk := hall.get 21 rfl (by decide)
          clear hall
          simp only [mk1, maskPut, Nat.reduceAdd]
          rw [h11, h12]
          replace HIJ := Lib.hid (HIJ.out.to hRb1 hb)
          clear h11 h12 hb d0 d1 d2 d3 d4 rc pc HSA HBS
          cases oo with
          | none =>
            obtain rfl : false = bk := HBK.out
            have HPn : Hid (PP (k + 1) = PP k) := by rw [HPk.out]; exact Lib.hid (List.append_nil _)
            go_wp2_with fail
            go_roundw
            case rel => exact ⟨k + 1, by omega, by go_num, by rw [HPn.out]; exact HIJ.out⟩
            case measure => simp [intOf]; omega
          | some s =>
            obtain rfl : true = bk := HBK.out
            obtain rfl : s = ⟨sa, str, snx⟩ := HSS.out
            have HPn : Hid (PP (k + 1) = PP k ++ [⟨sa, str, snx⟩]) := HPk
            obtain ⟨hK1x, hfz, hBx, hB0x, Av, cv, cv0, how⟩ := HIJ.out
            have HOW := Lib.hid how
            have HK1 := Lib.hid hK1x
            have hRB := hRb1
            have j2 : (i : Int) < (NN : Int) := by omega
            generalize PP k = l at *
            have hll : l.length ≤ 40001 := by have := HPlk.out; omega
            clear hK1x how HIJ
            go_wp2_with fail
            refine wp_region_inv mk11 (by kernel_rfl) (AJ w w3 NN i wo.heap.size 101 sa str snx Av cv l) (by kernel_rfl) (by kernel_rfl) ?h11 (
                allOps_cons (fun L a' w' hL hDe hs hJ K hK => by
              obtain ⟨h0, h1, h2, h3, h4, h5, h6, h9, hK1, hK2, hK3, hK4, hB, hN, hW, hD10, hD8, hD7⟩ := hJ
              have e1 := (hs.get 7 (by kernel_rfl)).trans (show _ = Value.slice (some ⟨w.heap.size + 1, 0, none⟩) NN NN from rfl)
              unfold Oper.wp
              generalize a'.eval = ρ at e1 ⊢
              simp [go_sem, e1]
              exact hK _ _ ⟨fun _ => rfl, h1, h2, h3, h4, h5, h6, h9, hK1, hK2, hK3, hK4, hB, hN, hW, hD10, hD8, hD7⟩) <|
                allOps_cons (fun L a' w' hL hDe hs hJ K hK => by
              obtain ⟨h0, h1, h2, h3, h4, h5, h6, h9, hK1, hK2, hK3, hK4, hB, hN, hW, hD10, hD8, hD7⟩ := hJ
              have e1 := (hs.get 8 (by kernel_rfl)).trans (show _ = Value.int .i64 ↑i from rfl)
              unfold Oper.wp
              generalize a'.eval = ρ at e1 ⊢
              simp [go_sem, e1]
              exact hK _ _ ⟨h0, fun _ => rfl, h2, h3, h4, h5, h6, h9, hK1, hK2, hK3, hK4, hB, hN, hW, hD10, hD8, hD7⟩) <|
                allOps_cons (fun L a' w' hL hDe hs hJ K hK => by
              obtain ⟨h0, h1, h2, h3, h4, h5, h6, h9, hK1, hK2, hK3, hK4, hB, hN, hW, hD10, hD8, hD7⟩ := hJ
              have e1 := (hs.get 7 (by kernel_rfl)).trans (show _ = Value.slice (some ⟨w.heap.size + 1, 0, none⟩) NN NN from rfl)
              unfold Oper.wp
              generalize a'.eval = ρ at e1 ⊢
              simp [go_sem, e1]
              exact hK _ _ ⟨h0, h1, fun _ => rfl, h3, h4, h5, h6, h9, hK1, hK2, hK3, hK4, hB, hN, hW, hD10, hD8, hD7⟩) <|
                allOps_cons (fun L a' w' hL hDe hs hJ K hK => by
              obtain ⟨h0, h1, h2, h3, h4, h5, h6, h9, hK1, hK2, hK3, hK4, hB, hN, hW, hD10, hD8, hD7⟩ := hJ
              have e1 := (hs.get 8 (by kernel_rfl)).trans (show _ = Value.int .i64 ↑i from rfl)
              unfold Oper.wp
              generalize a'.eval = ρ at e1 ⊢
              simp [go_sem, e1]
              exact hK _ _ ⟨h0, h1, h2, fun _ => rfl, h4, h5, h6, h9, hK1, hK2, hK3, hK4, hB, hN, hW, hD10, hD8, hD7⟩) <|
                allOps_cons (fun L a' w' hL hDe hs hJ K hK => by
              obtain ⟨h0, h1, h2, h3, h4, h5, h6, h9, hK1, hK2, hK3, hK4, hB, hN, hW, hD10, hD8, hD7⟩ := hJ
              have e1 : a'.eval (.tmp 63) = .slice (some ⟨w.heap.size + 1, 0, none⟩) NN NN := h2 (dep_of2 hDe 2 (by kernel_rfl))
              have e2 : a'.eval (.tmp 64) = .int .i64 ↑i := h3 (dep_of2 hDe 3 (by kernel_rfl))
              unfold Oper.wp
              generalize a'.eval = ρ at e1 e2 ⊢
              simp [go_sem, e1, e2, j1, j2]
              exact hK _ _ ⟨h0, h1, h2, h3, fun _ => rfl, h5, h6, h9, hK1, hK2, hK3, hK4, hB, hN, hW, hD10, hD8, hD7⟩) <|
                allOps_cons (fun L a' w' hL hDe hs hJ K hK => by
              obtain ⟨h0, h1, h2, h3, h4, h5, h6, h9, hK1, hK2, hK3, hK4, hB, hN, hW, hD10, hD8, hD7⟩ := hJ
              have l8 : L 8 = false := by cases h : L 8 with
                | false => rfl
                | true => exact absurd (hD8 h).1 (by rw [hL]; simp)
              have hbw := hB l8
              have e1 : a'.eval (.tmp 65) = .pointer (some ⟨w.heap.size + 1, i, none⟩) := h4 (dep_of2 hDe 4 (by kernel_rfl))
              have c0 := keep hbw cv0
              unfold Oper.wp
              generalize a'.eval = ρ at e1 ⊢
              simp [go_sem, e1, c0]
              exact hK _ _ ⟨h0, h1, h2, h3, h4, fun _ => rfl, h6, h9, hK1, hK2, hK3, hK4, hB, hN, hW, hD10, fun h => ⟨rfl, (hD8 h).2⟩, hD7⟩) <|
                allOps_cons (fun L a' w' hL hDe hs hJ K hK => by
              obtain ⟨h0, h1, h2, h3, h4, h5, h6, h9, hK1, hK2, hK3, hK4, hB, hN, hW, hD10, hD8, hD7⟩ := hJ
              have l8 : L 8 = false := by cases h : L 8 with
                | false => rfl
                | true => exact absurd (hD7 (hD8 h).2) (by rw [hL]; simp)
              have hbw := hB l8
              have e1 := (hs.get 11 (by kernel_rfl)).trans (show _ = Value.pointer (some ⟨qv, 0, none⟩) from rfl)
              have c0 := keep hbw x0
              have c1 := keep hbw x1
              have c2 := keep hbw x2
              unfold Oper.wp
              generalize a'.eval = ρ at e1 ⊢
              simp [go_sem, e1, c0, c1, c2]
              exact hK _ _ ⟨h0, h1, h2, h3, h4, h5, fun _ => rfl, h9, hK1, hK2, hK3, hK4, hB, hN, hW, hD10, hD8, fun _ => rfl⟩) <|
                allOps_cons (fun L a' w' hL hDe hs hJ K hK => by
              obtain ⟨h0, h1, h2, h3, h4, h5, h6, h9, hK1, hK2, hK3, hK4, hB, hN, hW, hD10, hD8, hD7⟩ := hJ
              have l8 : L 8 = false := by cases h : L 8 with
                | false => rfl
                | true => exact absurd (hD8 h).2 (by rw [hL]; simp)
              have hbw := hB l8
              have l10 : L 10 = false := by cases h : L 10 with
                | false => rfl
                | true => exact absurd (hD10 h).1 (by rw [l8]; simp)
              have e1 : a'.eval (.tmp 67) = .agg #[.int .i64 sa, .int .i64 str, .int .i64 snx] := h6 (dep_of2 hDe 6 (by kernel_rfl))
              have hx : Below w'.heap.size w' (w'.alloc (.cells #[.int .i64 sa, .int .i64 str, .int .i64 snx] 101)) := (Below.refl _ _).alloc (Nat.le_refl _) _
              have hz : w.heap.size + 1 < w'.heap.size := Nat.lt_of_lt_of_le hRB hK4
              have hg := fun j => (hx.frozen (p := ⟨w.heap.size + 1, j, none⟩) hz).trans (hK2 j)
              unfold Oper.wp
              generalize a'.eval = ρ at e1 ⊢
              simp [go_sem, e1]
              exact hK _ _ ⟨h0, h1, h2, h3, h4, h5, h6, h9, fun b o u h1 h2 h3 => keep hx (hK1 b o u h1 h2 h3), hg, belowT hK3 hx, Nat.le_trans hK4 hx.size, fun _ => belowT hbw hx, fun _ _ => ⟨w'.heap.size, rfl, by simp [go_sem], by simp [go_sem], by simp [go_sem]⟩, fun h => absurd (show L 8 = true from h) (by rw [l8]; simp), fun h => absurd (show L 10 = true from h) (by rw [l10]; simp), fun h => absurd (show L 8 = true from h) (by rw [l8]; simp), fun _ => dep_of2 hDe 6 (by kernel_rfl)⟩) <|
                allOps_cons (fun L a' w' hL hDe hs hJ K hK => by
              obtain ⟨h0, h1, h2, h3, h4, h5, h6, h9, hK1, hK2, hK3, hK4, hB, hN, hW, hD10, hD8, hD7⟩ := hJ
              have l5 : L 5 = true := dep_of2 hDe 5 (by kernel_rfl)
              have l7 : L 7 = true := dep_of2 hDe 7 (by kernel_rfl)
              have hbw := hB hL
              have l10 : L 10 = false := by cases h : L 10 with
                | false => rfl
                | true => exact absurd (hD10 h).1 (by rw [hL]; simp)
              obtain ⟨hn, e2, y0, y1, y2⟩ := hN l7 hL
              have e1 : a'.eval (.tmp 66) = .slice Av l.length cv := h5 l5
              replace e2 : a'.eval (.tmp 68) = .slice (some ⟨hn, 0, none⟩) 1 1 := e2
              have how := own_below HOW.out hbw
              have cvW := keep hbw cv0
              have hlt : ∀ q, (.slice Av l.length cv : Value).ownBlock = some q → wo.heap.size ≤ q := fun q hq => (how.lt q hq).1
              refine wp_append_lies (P := Try.prog) w' (.tmp 66) (.tmp 68) 104 rfl wo.heap.size 101 i0 (.agg #[.int .i64 0, .int .i64 0, .int .i64 0]) 3 24 undSteps hi0 hz0 hz1 hz2 rfl (by decide) (.slice Av l.length cv) l.length (stL l) e1 how ⟨hn, 0, none⟩ 1 1 [.int .i64 sa, .int .i64 str, .int .i64 snx] e2 rfl (news_at y0 y1 y2) (by simp [Value.oneCell']) (by decide) (by unfold maxLen; omega) (by omega) hK4 w'.heap.size rfl ?_
              intro g cap w1 hown hgrow hat hgl
              have hx : ∀ b o, b < wo.heap.size → w1.cell? ⟨b, o, none⟩ = w'.cell? ⟨b, o, none⟩ := fun b o hb => World.cell?_of_block (hgrow.block b (Nat.lt_of_lt_of_le hb hK4) (fun e => by have := hlt b e.symm; omega))
              have hy : ∀ j, w1.frozen? ⟨w.heap.size + 1, j, none⟩ = w'.frozen? ⟨w.heap.size + 1, j, none⟩ := fun j => World.frozen?_of_block (hgrow.block (w.heap.size + 1) (Nat.lt_of_lt_of_le hRB hK4) (fun e => by have := hlt _ e.symm; omega))
              exact hK _ _ ⟨h0, h1, h2, h3, h4, h5, h6, h9, fun b o u h1 h2 h3 => (hx b o h1).trans (hK1 b o u h1 h2 h3), fun j => (hy j).trans (hK2 j), hK3.grown hgrow (by omega) (fun q hq => by have := hlt q hq; omega), Nat.le_trans hK4 hgrow.size, fun h => absurd (show true = false from h) (by simp), fun _ h => absurd (show true = false from h) (by simp), fun _ => ⟨g, cap, rfl, (hown.lt g rfl).1, hown, fun _ => ⟨_, (hx _ _ hRB).trans cvW⟩, fun h => absurd (show L 10 = true from h) (by rw [l10]; simp)⟩, fun h => absurd (show L 10 = true from h) (by rw [l10]; simp), fun _ => ⟨l5, l7⟩, hD7⟩) <|
                allOps_cons (fun L a' w' hL hDe hs hJ K hK => by
              obtain ⟨h0, h1, h2, h3, h4, h5, h6, h9, hK1, hK2, hK3, hK4, hB, hN, hW, hD10, hD8, hD7⟩ := hJ
              have e1 : a'.eval (.tmp 61) = .slice (some ⟨w.heap.size + 1, 0, none⟩) NN NN := h0 (dep_of2 hDe 0 (by kernel_rfl))
              have e2 : a'.eval (.tmp 62) = .int .i64 ↑i := h1 (dep_of2 hDe 1 (by kernel_rfl))
              unfold Oper.wp
              generalize a'.eval = ρ at e1 e2 ⊢
              simp [go_sem, e1, e2, j1, j2]
              exact hK _ _ ⟨h0, h1, h2, h3, h4, h5, h6, fun _ => rfl, hK1, hK2, hK3, hK4, hB, hN, hW, fun h => ⟨(hD10 h).1, rfl⟩, hD8, hD7⟩) <|
                allOps_cons (fun L a' w' hL hDe hs hJ K hK => by
              obtain ⟨h0, h1, h2, h3, h4, h5, h6, h9, hK1, hK2, hK3, hK4, hB, hN, hW, hD10, hD8, hD7⟩ := hJ
              have l8 : L 8 = true := dep_of2 hDe 8 (by kernel_rfl)
              have l9 : L 9 = true := dep_of2 hDe 9 (by kernel_rfl)
              obtain ⟨g, cap, e2, hBg, hown, hcv, _⟩ := hW l8
              have e2' := e2
              replace e2 : a'.eval (.tmp 69) = .slice (some ⟨g, 0, none⟩) (l.length + 1) cap := e2
              have e1 : a'.eval (.tmp 70) = .pointer (some ⟨w.heap.size + 1, i, none⟩) := h9 l9
              obtain ⟨cv', c0⟩ := hcv hL
              have fz := hK2 i
              unfold Oper.wp
              generalize a'.eval = ρ at e1 e2 ⊢
              simp [go_sem, e1, e2, c0, fz]
              exact hK undef _ ⟨h0, h1, h2, h3, h4, h5, h6, h9, fun b o u h1 h2 h3 => cell_ne (hK1 b o u h1 h2 h3) (fun e1 e2 => h2 ⟨e1.symm, e2.symm⟩), fun j => (World.frozen?_setCell _ _ _ _).trans (hK2 j), hK3.setCell (by show w.heap.size ≤ w.heap.size + 1; omega) _, by simpa [World.setCell] using hK4, fun h => absurd (show L 8 = false from h) (by rw [l8]; simp), fun _ h => absurd (show L 8 = false from h) (by rw [l8]; simp), fun _ => ⟨g, cap, e2', hBg, own_set hown hRB _, fun h => absurd (show true = false from h) (by simp), fun _ => World.cell?_setCell_same _ _ _ c0⟩, fun _ => ⟨l8, l9⟩, hD8, hD7⟩) <| allOps_nil) (fun L V w5 hall hJ => ?_)
            case h11 => exact ⟨fun h => (by cases h), fun h => (by cases h), fun h => (by cases h), fun h => (by cases h), fun h => (by cases h), fun h => (by cases h), fun h => (by cases h), fun h => (by cases h), fun b o u _ _ h => h, hfz, hBx.drew, hB0x, fun _ => (Below.refl _ _).drew, fun h => (by cases h), fun h => (by cases h), fun h => (by cases h), fun h => (by cases h), fun h => (by cases h)⟩
            obtain ⟨_, _, _, _, _, _, _, _, q1, q2, q3, q4, _, _, q5, _, _, _⟩ := hJ
            obtain ⟨g, cg, _, hBg, hown, _, hcv⟩ := q5 (hall 8 (by decide))
            have hcv2 := hcv (hall 10 (by decide))
            simp only [mk11, maskPut, Nat.reduceAdd]
            have HIN : Hid (IJ w wo i wo.heap.size (PP (k + 1)) w5) := by
              rw [HPn.out]
              exact ⟨fun b o u h1 h2 h3 => q1 b o u h1 h2 (HK1.out b o u h1 h2 h3), q2, q3, q4, some ⟨g, 0, none⟩, cg, by simpa using hcv2, by simpa [stL_add] using hown⟩
            clear q1 q2 q3 q4 q5 hall hcv hcv2 hown
            go_wp2_with fail
            go_roundw
            case rel => exact ⟨k + 1, by omega, by go_num, HIN.out⟩
            case measure => simp [intOf]; omega
        · obtain rfl : k = mp := by omega
          have HON : Hid (OJ w t lo hi st ra n R i wr) := by
            obtain ⟨hbw, _, hdc, hfz, hro, hnil⟩ := HOJ.out
            have hIJ := HIJ.out
            obtain ⟨g1, g2, g3, g4, _⟩ := HIJ.out
            refine ⟨g3, Nat.lt_of_lt_of_le hRb1 g4, hIJ.dc hRb1 hdc, g2, fun j q1 q2 => ?_, fun j hj => g1 _ _ _ hRb1 (fun e => by omega) (hnil j (by omega))⟩
            by_cases e : j = i
            · subst e
              rw [← HPA.out] at hIJ
              exact IJ.own hRb1 hIJ
            · exact hIJ.ro hRb1 e (hro j (by omega) q2)
          go_wp2_with fail
          go_roundw
          case rel => exact ⟨i, by omega, by go_num, HON.out⟩
          case measure => simp [intOf]
end Go.Proofs.Ytmhcmiajikffpaa
