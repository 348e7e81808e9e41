/- Helpers: the motion with the least travel, with its errors. -/
import Derived.Test.YtolondcbllkimaaU
namespace Go.Proofs.Ytolondcbllkimaa
open Go.RowKit Go.Shelf Go.Sort
attribute [local go_sem] idx3_0 idx3_1 idx3_2 old1 fro1 old2 fro2 old3 fro3 old4 fro4 old5 fro5 old6 fro6 old7 fro7 old8 fro8 old9 fro9 old10 fro10 old11 fro11 old12 fro12
/-- The position before step i, the travel up to it, and whether a motion can go on there, of the motion with the least travel. -/
def pkk (t lo hi st : Int) (xs : Nat → Int) : Nat → Nat := kkF t lo hi st xs
def pR (t lo hi st ra : Int) (n : Nat) (xs : Nat → Int) : Nat → Nat → Int := RE ra n (kkF t lo hi st xs) (aF t lo hi st xs)
def pPos (t lo hi st ra : Int) (n : Nat) (xs : Nat → Int) : Nat → Int := mpos ra st (kkF t lo hi st xs) (aF t lo hi st xs) (pR t lo hi st ra n xs)
def pTrv (t lo hi st ra : Int) (n : Nat) (xs : Nat → Int) : Nat → Int := mtrv ra st (kkF t lo hi st xs) (aF t lo hi st xs) (pR t lo hi st ra n xs)
def pOk (t lo hi st ra : Int) (n : Nat) (xs : Nat → Int) : Nat → Prop := mok ra st (kkF t lo hi st xs) (aF t lo hi st xs) (pR t lo hi st ra n xs)
def SomePt (t lo hi st ra : Int) (n : Nat) (xs : Nat → Int) (w : World) (e : Ending) (w' : World) : Prop :=
  Below w.heap.size w w' ∧ (ptErr t lo hi st ra n xs ≠ 0 → e = .returned (.tuple #[.slice none 0 0, .int .i64 0, .int .i64 (ptErr t lo hi st ra n xs)])) ∧
  (ptErr t lo hi st ra n xs = 0 → ((∀ i, i < n → pOk t lo hi st ra n xs i) ∧ 0 ≤ pTrv t lo hi st ra n xs n ∧ ∃ v, e = .returned (.tuple #[v, .int .i64 (pTrv t lo hi st ra n xs n), .int .i64 0]) ∧ w'.ownsRow w.heap.size 3 1 v n (posL (pPos t lo hi st ra n xs) n)) ∨
    ((∃ i, i < n ∧ ¬ pOk t lo hi st ra n xs i) ∧ e = .returned (.tuple #[.slice none 0 0, .int .i64 0, .int .i64 12])))
theorem pt_ok {t lo hi st ra : Int} {n : Nat} {xs : Nat → Int} (h : ptErr t lo hi st ra n xs = 0) : driveErr t lo hi st ra = 0 ∧ n ≤ 40 ∧ ∀ i, i < n → 0 ≤ xs i ∧ xs i ≤ t - 1 := by
  unfold ptErr at h
  by_cases hd : driveErr t lo hi st ra = 0
  · rw [if_pos hd] at h
    unfold tgErr at h
    by_cases hn : (n : Int) ≤ 40
    · rw [if_pos (by simpa using hn)] at h
      refine ⟨hd, by omega, fun i hi => ?_⟩
      cases hb : (List.range n).any fun i => !wi (xs i) 0 (t - 1)
      · have := List.any_eq_false.1 hb i (List.mem_range.2 hi)
        simp at this
        exact wi_t.1 this
      · rw [hb] at h; simp at h
    · rw [if_neg (by simpa using hn)] at h
      omega
  · rw [if_neg hd] at h
    exact absurd h hd
theorem row_in_all {t lo hi st : Int} {xs : Nat → Int} (t1 : 1 ≤ t) (_ : t ≤ 3600) (l1 : -20000 ≤ lo) (h2 : hi ≤ 20000) (f1 : lo ≤ st) (f2 : st ≤ hi) (i : Nat) : RowIn t lo hi (rowBefore t lo hi st xs i) := by
  induction i with
  | zero => exact ⟨by show 1 ≤ 50000; omega, fun _ => ⟨f1, by show st + t * ((1 - 1 : Nat) : Int) ≤ hi; simp; exact f2⟩⟩
  | succ i ih =>
    refine nextRow_in t1 ih ?_
    show (nextRow t lo hi (xs i) (rowBefore t lo hi st xs i)).2 ≤ 50000
    unfold nextRow
    split
    · simp
    · simp only
      unfold cnt
      split
      · omega
      · rename_i hF
        have hM : max lo ((rowBefore t lo hi st xs i).1 - t) ≤ firstAt t (max lo ((rowBefore t lo hi st xs i).1 - t)) (xs i) := by
          obtain ⟨n1, _⟩ := next_on t (max lo ((rowBefore t lo hi st xs i).1 - t) - xs i) t1
          unfold firstAt; omega
        generalize firstAt t (max lo ((rowBefore t lo hi st xs i).1 - t)) (xs i) = F at *
        have hH : min hi ((rowBefore t lo hi st xs i).1 + t * (((rowBefore t lo hi st xs i).2 - 1 : Nat) : Int) + t) ≤ hi := by omega
        generalize min hi ((rowBefore t lo hi st xs i).1 + t * (((rowBefore t lo hi st xs i).2 - 1 : Nat) : Int) + t) = H at *
        have : (H - F) / t ≤ H - F := by
          have := Int.ediv_le_self (a := H - F) t (by omega)
          exact this
        omega
theorem rows_in {t lo hi st : Int} {xs : Nat → Int} (t1 : 1 ≤ t) (t2 : t ≤ 3600) (l1 : -20000 ≤ lo) (h2 : hi ≤ 20000) (f1 : lo ≤ st) (f2 : st ≤ hi) (i : Nat) : kkF t lo hi st xs i ≤ 50000 ∧ ∀ j, j < kkF t lo hi st xs i → lo ≤ aF t lo hi st xs i j ∧ aF t lo hi st xs i j ≤ hi :=
  ⟨(row_in_all t1 t2 l1 h2 f1 f2 (i + 1)).1, fun j hj => RowIn.bd t1 (row_in_all t1 t2 l1 h2 f1 f2 (i + 1)) j hj⟩
set_option maxRecDepth 100000 in
set_option maxHeartbeats 2000000 in
theorem pointing_any (t lo hi st ra : Int) (A : Option Addr) (n c : Nat) (xs : Nat → Int) (w : World) (hn : n ≤ 9223372036854775807) (hA : IA w A n xs) :
    Calls Try.prog 29 #[.agg #[.int .i64 t, .int .i64 lo, .int .i64 hi, .int .i64 st, .int .i64 ra], .slice A n c] w (SomePt t lo hi st ra n xs w) := by
  have HC := fun W hW => Lib.hid (checkTargets_any t lo hi st ra A n c xs W hn hW)
  by_cases h0 : ptErr t lo hi st ra n xs = 0
  · obtain ⟨hd, hn40, hx⟩ := pt_ok h0
    obtain ⟨⟨t1, t2⟩, ⟨l1, l2⟩, ⟨h1, h2⟩, ⟨r0, r1⟩, f1, f2⟩ := drive_ok hd
    have HM := fun W hW => Lib.hid (minimumMotion_o t lo hi st ra A n c xs W (by omega) hW (fun i hi => ⟨(hx i hi).1, by have := (hx i hi).2; omega⟩) t1 t2 l1 l2 h1 h2 f1 f2 r0 r1 _ _ _ rfl rfl rfl (fun i _ => rows_in t1 t2 l1 h2 f1 f2 i))
    have HT := fun ho => Lib.hid (mtrv_in (ra := ra) (R := pR t lo hi st ra n xs) l1 h2 f1 f2 (fun i (_ : i < n) => (rows_in (xs := xs) t1 t2 l1 h2 f1 f2 i).2) n (Nat.le_refl n) ho)
    rw [h0] at HC
    by_cases ho : ∀ i, i < n → pOk t lo hi st ra n xs i
    · have hT := (HT ho).out
      have HM' : ∀ W, IA W A n xs → Hid (Calls Try.prog 68 #[.agg #[.int .i64 t, .int .i64 lo, .int .i64 hi, .int .i64 st, .int .i64 ra], .slice A n c] W fun e w' => ∃ v, e = .returned (.tuple #[v, .int .i64 (pTrv t lo hi st ra n xs n)]) ∧ w'.ownsRow W.heap.size 3 1 v n (posL (pPos t lo hi st ra n xs) n) ∧ Below W.heap.size W w') := fun W hW => (HM W hW).out.mono (by
        rintro e w' ⟨hb, ⟨_, v, rfl, hv⟩ | ⟨⟨i, hi, hni⟩, _⟩⟩
        · exact ⟨v, rfl, hv, hb⟩
        · exact absurd (ho i hi) hni)
      have hT0 : 0 ≤ pTrv t lo hi st ra n xs n := hT.1
      have g1 : (pTrv t lo hi st ra n xs n == -1) = false := by simp; omega
      have HO := Lib.hid ho
      clear HM HT hT ho
      go_enter Try.func29, Try.ntmps29
      go_wp2_with (first
        | (go_at_call 58; (with_reducible refine Calls.mono (HC _ (hA.below (by (repeat (first | with_reducible exact Below.refl _ _ | with_reducible assumption | with_reducible refine Below.alloc ?_ (by first | (simp; done) | (simp; omega) | omega) _ | with_reducible refine Below.setCell ?_ (by first | (simp; done) | (simp; omega) | omega) _ | with_reducible refine Below.drew ?_ | with_reducible refine below_drewN ?_ _))))).out ?_); rintro e w1 ⟨rfl, hb1⟩; have e0 := (hb1.cell (p := ⟨w.heap.size, 0, none⟩) (by simp)).trans (show _ = some (.int .i64 t) by simp [go_sem]); have e1 := (hb1.cell (p := ⟨w.heap.size, 1, none⟩) (by simp)).trans (show _ = some (.int .i64 lo) by simp [go_sem]); have e2 := (hb1.cell (p := ⟨w.heap.size, 2, none⟩) (by simp)).trans (show _ = some (.int .i64 hi) by simp [go_sem]); have e3 := (hb1.cell (p := ⟨w.heap.size, 3, none⟩) (by simp)).trans (show _ = some (.int .i64 st) by simp [go_sem]); have e4 := (hb1.cell (p := ⟨w.heap.size, 4, none⟩) (by simp)).trans (show _ = some (.int .i64 ra) by simp [go_sem]); have HB1 : Hid (Below w.heap.size w w1) := (show Below w.heap.size w _ by (repeat (first | with_reducible exact Below.refl _ _ | with_reducible assumption | with_reducible refine Below.alloc ?_ (by first | (simp; done) | (simp; omega) | omega) _ | with_reducible refine Below.setCell ?_ (by first | (simp; done) | (simp; omega) | omega) _ | with_reducible refine Below.drew ?_ | with_reducible refine below_drewN ?_ _))).trans (hb1.mono (by simp)); have hz1 := HB1.out.size; clear hb1)
        | (go_at_call 68; (with_reducible refine Calls.mono (HM' _ (hA.below (by have hb1 := HB1.out; (repeat (first | with_reducible exact Below.refl _ _ | with_reducible assumption | with_reducible refine Below.alloc ?_ (by first | (simp; done) | (simp; omega) | omega) _ | with_reducible refine Below.setCell ?_ (by first | (simp; done) | (simp; omega) | omega) _ | with_reducible refine Below.drew ?_ | with_reducible refine below_drewN ?_ _))))).out ?_); rintro e w2 ⟨v, rfl, hv, hb2⟩; have HV := Lib.hid hv; have HB2 := Lib.hid hb2; clear hb2 hv)
        | fail)
      refine bodyPost_ret (v := .tuple #[v, .int .i64 (pTrv t lo hi st ra n xs n), .int .i64 0]) (by simp [results, Try.results29, go_sem]) rfl ?_
      exact ⟨HB1.out.trans (HB2.out.mono hz1), fun h => absurd h0 h, fun _ => .inl ⟨HO.out, hT0, v, rfl, own_base HV.out hz1⟩⟩
    · have hex : ∃ i, i < n ∧ ¬ pOk t lo hi st ra n xs i := by
        simpa using ho
      have HM' : ∀ W, IA W A n xs → Hid (Calls Try.prog 68 #[.agg #[.int .i64 t, .int .i64 lo, .int .i64 hi, .int .i64 st, .int .i64 ra], .slice A n c] W fun e w' => e = .returned (.tuple #[.slice none 0 0, .int .i64 (-1)]) ∧ Below W.heap.size W w') := fun W hW => (HM W hW).out.mono (by
        rintro e w' ⟨hb, ⟨ho2, _⟩ | ⟨_, rfl⟩⟩
        · exact absurd ho2 ho
        · exact ⟨rfl, hb⟩)
      have HO := Lib.hid hex
      clear HM HT hex ho
      go_enter Try.func29, Try.ntmps29
      go_wp2_with (first
        | (go_at_call 58; (with_reducible refine Calls.mono (HC _ (hA.below (by (repeat (first | with_reducible exact Below.refl _ _ | with_reducible assumption | with_reducible refine Below.alloc ?_ (by first | (simp; done) | (simp; omega) | omega) _ | with_reducible refine Below.setCell ?_ (by first | (simp; done) | (simp; omega) | omega) _ | with_reducible refine Below.drew ?_ | with_reducible refine below_drewN ?_ _))))).out ?_); rintro e w1 ⟨rfl, hb1⟩; have e0 := (hb1.cell (p := ⟨w.heap.size, 0, none⟩) (by simp)).trans (show _ = some (.int .i64 t) by simp [go_sem]); have e1 := (hb1.cell (p := ⟨w.heap.size, 1, none⟩) (by simp)).trans (show _ = some (.int .i64 lo) by simp [go_sem]); have e2 := (hb1.cell (p := ⟨w.heap.size, 2, none⟩) (by simp)).trans (show _ = some (.int .i64 hi) by simp [go_sem]); have e3 := (hb1.cell (p := ⟨w.heap.size, 3, none⟩) (by simp)).trans (show _ = some (.int .i64 st) by simp [go_sem]); have e4 := (hb1.cell (p := ⟨w.heap.size, 4, none⟩) (by simp)).trans (show _ = some (.int .i64 ra) by simp [go_sem]); have HB1 : Hid (Below w.heap.size w w1) := (show Below w.heap.size w _ by (repeat (first | with_reducible exact Below.refl _ _ | with_reducible assumption | with_reducible refine Below.alloc ?_ (by first | (simp; done) | (simp; omega) | omega) _ | with_reducible refine Below.setCell ?_ (by first | (simp; done) | (simp; omega) | omega) _ | with_reducible refine Below.drew ?_ | with_reducible refine below_drewN ?_ _))).trans (hb1.mono (by simp)); have hz1 := HB1.out.size; clear hb1)
        | (go_at_call 68; (with_reducible refine Calls.mono (HM' _ (hA.below (by have hb1 := HB1.out; (repeat (first | with_reducible exact Below.refl _ _ | with_reducible assumption | with_reducible refine Below.alloc ?_ (by first | (simp; done) | (simp; omega) | omega) _ | with_reducible refine Below.setCell ?_ (by first | (simp; done) | (simp; omega) | omega) _ | with_reducible refine Below.drew ?_ | with_reducible refine below_drewN ?_ _))))).out ?_); rintro e w2 ⟨rfl, hb2⟩; have HB2 := Lib.hid hb2; clear hb2)
        | fail)
      refine bodyPost_ret (v := .tuple #[.slice none 0 0, .int .i64 0, .int .i64 12]) (by simp [results, Try.results29, go_sem]) rfl ?_
      exact ⟨HB1.out.trans (HB2.out.mono hz1), fun h => absurd h0 h, fun _ => .inr ⟨HO.out, rfl⟩⟩
  · have g0 : (ptErr t lo hi st ra n xs == 0) = false := by simp [h0]
    generalize hp : ptErr t lo hi st ra n xs = P at HC g0
    go_enter Try.func29, Try.ntmps29
    go_wp2_with (first
      | (go_at_call 58; (with_reducible refine Calls.mono (HC _ (hA.below (by (repeat (first | with_reducible exact Below.refl _ _ | with_reducible assumption | with_reducible refine Below.alloc ?_ (by first | (simp; done) | (simp; omega) | omega) _ | with_reducible refine Below.setCell ?_ (by first | (simp; done) | (simp; omega) | omega) _ | with_reducible refine Below.drew ?_ | with_reducible refine below_drewN ?_ _))))).out ?_); rintro e w1 ⟨rfl, hb1⟩; have e0 := (hb1.cell (p := ⟨w.heap.size, 0, none⟩) (by simp)).trans (show _ = some (.int .i64 t) by simp [go_sem]); have e1 := (hb1.cell (p := ⟨w.heap.size, 1, none⟩) (by simp)).trans (show _ = some (.int .i64 lo) by simp [go_sem]); have e2 := (hb1.cell (p := ⟨w.heap.size, 2, none⟩) (by simp)).trans (show _ = some (.int .i64 hi) by simp [go_sem]); have e3 := (hb1.cell (p := ⟨w.heap.size, 3, none⟩) (by simp)).trans (show _ = some (.int .i64 st) by simp [go_sem]); have e4 := (hb1.cell (p := ⟨w.heap.size, 4, none⟩) (by simp)).trans (show _ = some (.int .i64 ra) by simp [go_sem]); have HB1 : Hid (Below w.heap.size w w1) := (show Below w.heap.size w _ by (repeat (first | with_reducible exact Below.refl _ _ | with_reducible assumption | with_reducible refine Below.alloc ?_ (by first | (simp; done) | (simp; omega) | omega) _ | with_reducible refine Below.setCell ?_ (by first | (simp; done) | (simp; omega) | omega) _ | with_reducible refine Below.drew ?_ | with_reducible refine below_drewN ?_ _))).trans (hb1.mono (by simp)); have hz1 := HB1.out.size; clear hb1)
      | fail)
    refine bodyPost_ret (v := .tuple #[.slice none 0 0, .int .i64 0, .int .i64 P]) (by simp [results, Try.results29, go_sem]) rfl ?_
    exact ⟨HB1.out, fun _ => by rw [hp], fun h => absurd h h0⟩
end Go.Proofs.Ytolondcbllkimaa
