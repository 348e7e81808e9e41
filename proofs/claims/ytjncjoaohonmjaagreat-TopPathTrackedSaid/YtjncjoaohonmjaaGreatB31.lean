/- Helpers: the law PathLeast returns true for every input. -/
import Derived.Test.YtjncjoaohonmjaaGreatB30
namespace Go.Proofs.YtjncjoaohonmjaaGreat
open Go.RowKit Go.Shelf Go.Sort
attribute [local go_sem] idx3_0 idx3_1 idx3_2 old1 fro1 old2 fro2 old3 fro3 old4 fro4 old5 fro5 old6 fro6 old7 fro7 old8 fro8 old9 fro9 old10 fro10 old11 fro11 old12 fro12
theorem pt_rate {t lo hi st ra r : Int} {n : Nat} {xs : Nat → Int} (h : ptErr t lo hi st ra n xs = 0) (r0 : 0 ≤ r) (r1 : r ≤ 40000) : ptErr t lo hi st r n xs = 0 := by
  have hd := (pt_ok h).1
  rw [pe_0 hd] at h
  rw [pe_0 (drive_rate hd r0 r1)]
  exact h
theorem pt_in {t lo hi st ra : Int} {n : Nat} {xs : Nat → Int} (h : ptErr t lo hi st ra n xs = 0) : 1 ≤ t ∧ lo ≤ st ∧ st ≤ hi ∧ ∀ i, i < n → ∀ j, j < kkF t lo hi st xs i → lo ≤ aF t lo hi st xs i j ∧ aF t lo hi st xs i j ≤ hi := by
  obtain ⟨hd, _, _⟩ := pt_ok h
  obtain ⟨⟨t1, t2⟩, ⟨l1, l2⟩, ⟨h1, h2⟩, ⟨r0, r1⟩, f1, f2⟩ := drive_ok hd
  exact ⟨t1, f1, f2, fun i _ => (rows_in t1 t2 l1 h2 f1 f2 i).2⟩
theorem ok_can {t lo hi st ra : Int} {n : Nat} {xs : Nat → Int} (h : ptErr t lo hi st ra n xs = 0) (r : Int) : okB t lo hi st n xs r = true ↔ Can t lo hi st r n xs := by
  obtain ⟨t1, f1, f2, hin⟩ := pt_in h
  rw [okB_iff, can_iff t1 f1 f2 hin]
theorem ok_mono {t lo hi st ra : Int} {n : Nat} {xs : Nat → Int} (h : ptErr t lo hi st ra n xs = 0) {r r' : Int} (hr : okB t lo hi st n xs r = true) (hle : r ≤ r') : okB t lo hi st n xs r' = true := by
  obtain ⟨ys, hy⟩ := (ok_can h r).1 hr
  exact (ok_can h r').2 ⟨ys, hy.faster hle⟩
/-- The pointing where there is a motion, and where there is none. -/
theorem point_no (t lo hi st ra : Int) (n : Nat) (xs : Nat → Int) (h : ptErr t lo hi st ra n xs = 0) (hno : okB t lo hi st n xs ra = false) (W : World) (A2 : Option Addr) (c2 : Nat) (hA : IA W A2 n xs) :
    Calls Tryz.prog 16 #[.agg #[.int .i64 t, .int .i64 lo, .int .i64 hi, .int .i64 st, .int .i64 ra], .slice A2 n c2] W fun e w' => e = .returned (.tuple #[.slice none 0 0, .int .i64 0, .int .i64 12]) ∧ Below W.heap.size W w' :=
  (pointing_any t lo hi st ra A2 n c2 xs W (by have := (pt_ok h).2.1; omega) hA).mono (by
    rintro e w' ⟨hb, _, h2⟩
    rcases h2 h with ⟨ho, _⟩ | ⟨_, rfl⟩
    · rw [okB_iff.2 ho] at hno; cases hno
    · exact ⟨rfl, hb⟩)
theorem point_yes (t lo hi st ra : Int) (n : Nat) (xs : Nat → Int) (h : ptErr t lo hi st ra n xs = 0) (hyes : okB t lo hi st n xs ra = true) (W : World) (A2 : Option Addr) (c2 : Nat) (hA : IA W A2 n xs) :
    Calls Tryz.prog 16 #[.agg #[.int .i64 t, .int .i64 lo, .int .i64 hi, .int .i64 st, .int .i64 ra], .slice A2 n c2] W fun e w' => ∃ A3 c3, e = .returned (.tuple #[.slice A3 n c3, .int .i64 (pTrv t lo hi st ra n xs n), .int .i64 0]) ∧ IA w' A3 n (pL t lo hi st ra n xs) ∧ (A3 = none → n = 0 ∧ c3 = 0) ∧ Below W.heap.size W w' :=
  (pointing_any t lo hi st ra A2 n c2 xs W (by have := (pt_ok h).2.1; omega) hA).mono (by
    rintro e w' ⟨hb, _, h2⟩
    rcases h2 h with ⟨ho, _, v, rfl, hv⟩ | ⟨⟨i, hlt, hni⟩, _⟩
    · have hv2 : w'.ownsRow W.heap.size 3 1 v n (intsL n (pL t lo hi st ra n xs)) := hv
      obtain ⟨e1, e2⟩ := own_ints hv2
      refine ⟨sA v, sC v, congrArg (fun q => Ending.returned (.tuple #[q, .int .i64 (pTrv t lo hi st ra n xs n), .int .i64 0])) e1, e2, fun hz => ?_, hb⟩
      rcases hv2.2 with ⟨rfl, hn0⟩ | ⟨g, cap, cur, rfl, _⟩
      · exact ⟨hn0, rfl⟩
      · cases hz
    · exact absurd (okB_iff.1 hyes i hlt) hni)
theorem point_some (t lo hi st ra : Int) (n : Nat) (xs : Nat → Int) (h : ptErr t lo hi st ra n xs = 0) (hyes : okB t lo hi st n xs ra = true) (W : World) (A2 : Option Addr) (c2 : Nat) (hA : IA W A2 n xs) :
    Calls Tryz.prog 16 #[.agg #[.int .i64 t, .int .i64 lo, .int .i64 hi, .int .i64 st, .int .i64 ra], .slice A2 n c2] W fun e w' => ∃ A3 n3 c3 T3, e = .returned (.tuple #[.slice A3 n3 c3, .int .i64 T3, .int .i64 0]) ∧ Below W.heap.size W w' :=
  (point_yes t lo hi st ra n xs h hyes W A2 c2 hA).mono fun _ _ ⟨A3, c3, he, _, _, hb⟩ => ⟨A3, n, c3, _, he, hb⟩
theorem cpF_0 {t lo hi st ra : Int} {n m : Nat} {xs ys : Nat → Int} (h : ptErr t lo hi st ra n xs = 0) (hF : cpF t lo hi st ra n m xs ys = 0) : m = n ∧ Mot t lo hi st ra n xs ys ∧ cpV t lo hi st ra n m xs ys = ctv st ys n := by
  unfold cpF at hF
  rw [if_pos h] at hF
  by_cases e : m = n
  · rw [if_pos e] at hF
    refine ⟨e, mot_iff.1 hF, ?_⟩
    unfold cpV
    rw [if_pos h, if_pos e]
    unfold cpTr
    rw [if_pos hF]
  · rw [if_neg e] at hF; omega
/-- The minimum rate. -/
theorem rate_fix (t lo hi st ra : Int) (n : Nat) (xs : Nat → Int) (h : ptErr t lo hi st ra n xs = 0) :
    ∃ rr G : Int, ((G = 12 ∧ okB t lo hi st n xs 40000 = false) ∨ (G = 0 ∧ 0 ≤ rr ∧ rr ≤ 40000 ∧ okB t lo hi st n xs rr = true ∧ (rr = 0 ∨ okB t lo hi st n xs (rr - 1) = false))) ∧
      ∀ W A2 c2, IA W A2 n xs → Calls Tryz.prog 18 #[.agg #[.int .i64 t, .int .i64 lo, .int .i64 hi, .int .i64 st, .int .i64 ra], .slice A2 n c2] W fun e w' => e = .returned (.tuple #[.int .i64 rr, .int .i64 G]) ∧ Below W.heap.size W w' := by
  have hn := (pt_ok h).2.1
  cases h4 : okB t lo hi st n xs 40000
  · refine ⟨0, 12, .inl ⟨rfl, rfl⟩, fun W A2 c2 hA => (minimumRate_any t lo hi st ra A2 n c2 xs W (by omega) hA).mono ?_⟩
    rintro e w' ⟨hb, ⟨hne, _⟩ | ⟨_, r, hr, h2⟩⟩
    · exact absurd h hne
    · have : r = 40001 := RL_t hr (by omega) (by omega) (fun x q1 q2 => ⟨fun hx => (by rw [ok_mono h hx q2] at h4; cases h4), fun q => (by omega)⟩)
      rcases h2 with ⟨_, rfl⟩ | ⟨h3, _⟩
      · exact ⟨rfl, hb⟩
      · omega
  · have hleast : ∃ k : Nat, okB t lo hi st n xs k = true ∧ (k = 0 ∨ okB t lo hi st n xs ((k : Int) - 1) = false) ∧ (k : Int) ≤ 40000 := by
      have : ∀ d : Nat, d ≤ 40000 → okB t lo hi st n xs (d : Int) = true → ∃ k : Nat, okB t lo hi st n xs k = true ∧ (k = 0 ∨ okB t lo hi st n xs ((k : Int) - 1) = false) ∧ (k : Int) ≤ 40000 := by
        intro d
        induction d with
        | zero => intro _ hd; exact ⟨0, hd, .inl rfl, by omega⟩
        | succ d ih =>
          intro hd1 hd2
          cases hp : okB t lo hi st n xs (d : Int)
          · exact ⟨d + 1, hd2, .inr (by rw [show ((d + 1 : Nat) : Int) - 1 = (d : Int) by omega]; exact hp), by omega⟩
          · exact ih (by omega) hp
      exact this 40000 (Nat.le_refl _) h4
    obtain ⟨k, k1, k2, k3⟩ := hleast
    refine ⟨k, 0, .inr ⟨rfl, by omega, k3, k1, by rcases k2 with q | q; exact .inl (by omega); exact .inr q⟩, fun W A2 c2 hA => (minimumRate_any t lo hi st ra A2 n c2 xs W (by omega) hA).mono ?_⟩
    rintro e w' ⟨hb, ⟨hne, _⟩ | ⟨_, r, hr, h2⟩⟩
    · exact absurd h hne
    · have : r = (k : Int) := RL_t hr (by omega) (by omega) (fun x q1 q2 => ⟨fun hx => (by
          rcases Int.lt_or_le x k with q | q
          · rcases k2 with z | z
            · omega
            · rw [ok_mono h hx (show x ≤ (k : Int) - 1 by omega)] at z; cases z
          · exact q), fun q => ok_mono h k1 q⟩)
      subst this
      rcases h2 with ⟨h3, _⟩ | ⟨_, rfl⟩
      · omega
      · exact ⟨rfl, hb⟩
end Go.Proofs.YtjncjoaohonmjaaGreat
