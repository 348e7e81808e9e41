/- Helpers: the law PathLeast returns true for every input. -/
import Derived.Test.YtolondcbllkimaaLE
import Derived.Test.YtolondcbllkimaaLF
import Derived.Test.YtolondcbllkimaaLG
namespace Go.Proofs.Ytolondcbllkimaa
open Go.RowKit Go.Shelf Go.Sort
attribute [local go_sem] idx3_0 idx3_1 idx3_2 old1 fro1 old2 fro2 old3 fro3 old4 fro4 old5 fro5 old6 fro6 old7 fro7 old8 fro8 old9 fro9 old10 fro10 old11 fro11 old12 fro12
theorem pt_rate {t lo hi st ra r : Int} {n : Nat} {xs : Nat → Int} (h : ptErr t lo hi st ra n xs = 0) (r0 : 0 ≤ r) (r1 : r ≤ 40000) : ptErr t lo hi st r n xs = 0 := by
  have hd := (pt_ok h).1
  rw [pe_0 hd] at h
  rw [pe_0 (drive_rate hd r0 r1)]
  exact h
theorem pt_in {t lo hi st ra : Int} {n : Nat} {xs : Nat → Int} (h : ptErr t lo hi st ra n xs = 0) : 1 ≤ t ∧ lo ≤ st ∧ st ≤ hi ∧ ∀ i, i < n → ∀ j, j < kkF t lo hi st xs i → lo ≤ aF t lo hi st xs i j ∧ aF t lo hi st xs i j ≤ hi := by
  obtain ⟨hd, _, _⟩ := pt_ok h
  obtain ⟨⟨t1, t2⟩, ⟨l1, l2⟩, ⟨h1, h2⟩, ⟨r0, r1⟩, f1, f2⟩ := drive_ok hd
  exact ⟨t1, f1, f2, fun i _ => (rows_in t1 t2 l1 h2 f1 f2 i).2⟩
theorem ok_can {t lo hi st ra : Int} {n : Nat} {xs : Nat → Int} (h : ptErr t lo hi st ra n xs = 0) (r : Int) : okB t lo hi st n xs r = true ↔ Can t lo hi st r n xs := by
  obtain ⟨t1, f1, f2, hin⟩ := pt_in h
  rw [okB_iff, can_iff t1 f1 f2 hin]
theorem ok_mono {t lo hi st ra : Int} {n : Nat} {xs : Nat → Int} (h : ptErr t lo hi st ra n xs = 0) {r r' : Int} (hr : okB t lo hi st n xs r = true) (hle : r ≤ r') : okB t lo hi st n xs r' = true := by
  obtain ⟨ys, hy⟩ := (ok_can h r).1 hr
  exact (ok_can h r').2 ⟨ys, hy.faster hle⟩
/-- The pointing where there is a motion, and where there is none. -/
theorem point_no (t lo hi st ra : Int) (n : Nat) (xs : Nat → Int) (h : ptErr t lo hi st ra n xs = 0) (hno : okB t lo hi st n xs ra = false) (W : World) (A2 : Option Addr) (c2 : Nat) (hA : IA W A2 n xs) :
    Calls Try.prog 29 #[.agg #[.int .i64 t, .int .i64 lo, .int .i64 hi, .int .i64 st, .int .i64 ra], .slice A2 n c2] W fun e w' => e = .returned (.tuple #[.slice none 0 0, .int .i64 0, .int .i64 12]) ∧ Below W.heap.size W w' :=
  (pointing_any t lo hi st ra A2 n c2 xs W (by have := (pt_ok h).2.1; omega) hA).mono (by
    rintro e w' ⟨hb, _, h2⟩
    rcases h2 h with ⟨ho, _⟩ | ⟨_, rfl⟩
    · rw [okB_iff.2 ho] at hno; cases hno
    · exact ⟨rfl, hb⟩)
theorem point_yes (t lo hi st ra : Int) (n : Nat) (xs : Nat → Int) (h : ptErr t lo hi st ra n xs = 0) (hyes : okB t lo hi st n xs ra = true) (W : World) (A2 : Option Addr) (c2 : Nat) (hA : IA W A2 n xs) :
    Calls Try.prog 29 #[.agg #[.int .i64 t, .int .i64 lo, .int .i64 hi, .int .i64 st, .int .i64 ra], .slice A2 n c2] W fun e w' => ∃ A3 c3, e = .returned (.tuple #[.slice A3 n c3, .int .i64 (pTrv t lo hi st ra n xs n), .int .i64 0]) ∧ IA w' A3 n (pL t lo hi st ra n xs) ∧ (A3 = none → n = 0 ∧ c3 = 0) ∧ Below W.heap.size W w' :=
  (pointing_any t lo hi st ra A2 n c2 xs W (by have := (pt_ok h).2.1; omega) hA).mono (by
    rintro e w' ⟨hb, _, h2⟩
    rcases h2 h with ⟨ho, _, v, rfl, hv⟩ | ⟨⟨i, hlt, hni⟩, _⟩
    · have hv2 : w'.ownsRow W.heap.size 3 1 v n (intsL n (pL t lo hi st ra n xs)) := hv
      obtain ⟨e1, e2⟩ := own_ints hv2
      refine ⟨sA v, sC v, congrArg (fun q => Ending.returned (.tuple #[q, .int .i64 (pTrv t lo hi st ra n xs n), .int .i64 0])) e1, e2, fun hz => ?_, hb⟩
      rcases hv2.2 with ⟨rfl, hn0⟩ | ⟨g, cap, cur, rfl, _⟩
      · exact ⟨hn0, rfl⟩
      · cases hz
    · exact absurd (okB_iff.1 hyes i hlt) hni)
theorem point_some (t lo hi st ra : Int) (n : Nat) (xs : Nat → Int) (h : ptErr t lo hi st ra n xs = 0) (hyes : okB t lo hi st n xs ra = true) (W : World) (A2 : Option Addr) (c2 : Nat) (hA : IA W A2 n xs) :
    Calls Try.prog 29 #[.agg #[.int .i64 t, .int .i64 lo, .int .i64 hi, .int .i64 st, .int .i64 ra], .slice A2 n c2] W fun e w' => ∃ A3 n3 c3 T3, e = .returned (.tuple #[.slice A3 n3 c3, .int .i64 T3, .int .i64 0]) ∧ Below W.heap.size W w' :=
  (point_yes t lo hi st ra n xs h hyes W A2 c2 hA).mono fun _ _ ⟨A3, c3, he, _, _, hb⟩ => ⟨A3, n, c3, _, he, hb⟩
theorem cpF_0 {t lo hi st ra : Int} {n m : Nat} {xs ys : Nat → Int} (h : ptErr t lo hi st ra n xs = 0) (hF : cpF t lo hi st ra n m xs ys = 0) : m = n ∧ Mot t lo hi st ra n xs ys ∧ cpV t lo hi st ra n m xs ys = ctv st ys n := by
  unfold cpF at hF
  rw [if_pos h] at hF
  by_cases e : m = n
  · rw [if_pos e] at hF
    refine ⟨e, mot_iff.1 hF, ?_⟩
    unfold cpV
    rw [if_pos h, if_pos e]
    unfold cpTr
    rw [if_pos hF]
  · rw [if_neg e] at hF; omega
/-- The minimum rate. -/
theorem rate_fix (t lo hi st ra : Int) (n : Nat) (xs : Nat → Int) (h : ptErr t lo hi st ra n xs = 0) :
    ∃ rr G : Int, ((G = 12 ∧ okB t lo hi st n xs 40000 = false) ∨ (G = 0 ∧ 0 ≤ rr ∧ rr ≤ 40000 ∧ okB t lo hi st n xs rr = true ∧ (rr = 0 ∨ okB t lo hi st n xs (rr - 1) = false))) ∧
      ∀ W A2 c2, IA W A2 n xs → Calls Try.prog 31 #[.agg #[.int .i64 t, .int .i64 lo, .int .i64 hi, .int .i64 st, .int .i64 ra], .slice A2 n c2] W fun e w' => e = .returned (.tuple #[.int .i64 rr, .int .i64 G]) ∧ Below W.heap.size W w' := by
  have hn := (pt_ok h).2.1
  cases h4 : okB t lo hi st n xs 40000
  · refine ⟨0, 12, .inl ⟨rfl, rfl⟩, fun W A2 c2 hA => (minimumRate_any t lo hi st ra A2 n c2 xs W (by omega) hA).mono ?_⟩
    rintro e w' ⟨hb, ⟨hne, _⟩ | ⟨_, r, hr, h2⟩⟩
    · exact absurd h hne
    · have : r = 40001 := RL_t hr (by omega) (by omega) (fun x q1 q2 => ⟨fun hx => (by rw [ok_mono h hx q2] at h4; cases h4), fun q => (by omega)⟩)
      rcases h2 with ⟨_, rfl⟩ | ⟨h3, _⟩
      · exact ⟨rfl, hb⟩
      · omega
  · have hleast : ∃ k : Nat, okB t lo hi st n xs k = true ∧ (k = 0 ∨ okB t lo hi st n xs ((k : Int) - 1) = false) ∧ (k : Int) ≤ 40000 := by
      have : ∀ d : Nat, d ≤ 40000 → okB t lo hi st n xs (d : Int) = true → ∃ k : Nat, okB t lo hi st n xs k = true ∧ (k = 0 ∨ okB t lo hi st n xs ((k : Int) - 1) = false) ∧ (k : Int) ≤ 40000 := by
        intro d
        induction d with
        | zero => intro _ hd; exact ⟨0, hd, .inl rfl, by omega⟩
        | succ d ih =>
          intro hd1 hd2
          cases hp : okB t lo hi st n xs (d : Int)
          · exact ⟨d + 1, hd2, .inr (by rw [show ((d + 1 : Nat) : Int) - 1 = (d : Int) by omega]; exact hp), by omega⟩
          · exact ih (by omega) hp
      exact this 40000 (Nat.le_refl _) h4
    obtain ⟨k, k1, k2, k3⟩ := hleast
    refine ⟨k, 0, .inr ⟨rfl, by omega, k3, k1, by rcases k2 with q | q; exact .inl (by omega); exact .inr q⟩, fun W A2 c2 hA => (minimumRate_any t lo hi st ra A2 n c2 xs W (by omega) hA).mono ?_⟩
    rintro e w' ⟨hb, ⟨hne, _⟩ | ⟨_, r, hr, h2⟩⟩
    · exact absurd h hne
    · have : r = (k : Int) := RL_t hr (by omega) (by omega) (fun x q1 q2 => ⟨fun hx => (by
          rcases Int.lt_or_le x k with q | q
          · rcases k2 with z | z
            · omega
            · rw [ok_mono h hx (show x ≤ (k : Int) - 1 by omega)] at z; cases z
          · exact q), fun q => ok_mono h k1 q⟩)
      subst this
      rcases h2 with ⟨h3, _⟩ | ⟨_, rfl⟩
      · omega
      · exact ⟨rfl, hb⟩
theorem pathLeast_main (t lo hi st ra : Int) (A B : Option Addr) (n c m c' : Nat) (xs ys : Nat → Int) (w : World) (hA0 : A = none → n = 0 ∧ c = 0) (hB0 : B = none → m = 0 ∧ c' = 0) (hA : IA w A n xs) (hB : IA w B m ys) (hn : n ≤ 12) (hm : m ≤ 14) (h : ptErr t lo hi st ra n xs = 0) (hroom : (hi - lo).tdiv t ≤ 10) :
    Calls Try.prog 6 #[.agg #[.int .i64 t, .int .i64 lo, .int .i64 hi, .int .i64 st, .int .i64 ra], .slice A n c, .slice B m c'] w fun e w' => e = .returned (.bool true) ∧ Below w.heap.size w w' := by
  have hd := (pt_ok h).1
  obtain ⟨⟨t1, t2⟩, _, _, ⟨r0, r1⟩, f1, f2⟩ := drive_ok hd
  have hT : tgErr n xs t = 0 := by rw [← pe_0 hd]; exact h
  have hDE := fun W => rdriveErr_any t lo hi st ra W
  rw [hd] at hDE
  have hRM := fun W => roomy_any t lo hi st ra W hd
  rw [show decide ((hi - lo).tdiv t ≤ 10) = true by simpa using hroom] at hRM
  have hTE := fun W (hW : IA W A n xs) => rtargetsErr_any t lo hi st ra A n c xs W (by omega) t1 t2 hW
  rw [hT] at hTE
  have hC := fun W A2 c2 A3 c3 (h2 : IA W A2 n xs) (h3 : IA W A3 m ys) => checkPointing_all t lo hi st ra A2 A3 n c2 m c3 xs ys W (by omega) h2 h3
  obtain ⟨rr, G, hG, hM⟩ := rate_fix t lo hi st ra n xs h
  cases hok : okB t lo hi st n xs ra
  · have hF : cpF t lo hi st ra n m xs ys ≠ 0 := by
      intro hF
      obtain ⟨_, hmot, _⟩ := cpF_0 h hF
      rw [(ok_can h ra).2 ⟨ys, hmot⟩] at hok; cases hok
    refine pl_no t lo hi st ra A B n c m c' xs ys _ _ rr G w hA0 hB0 hA hB hn hm hDE hRM hTE hC (point_no t lo hi st ra n xs h hok) hM hF ?_
    rcases hG with ⟨rfl, _⟩ | ⟨rfl, g1, g2, g3, g4⟩
    · exact .inl rfl
    · have hlt : ra < rr := by
        rcases Int.lt_or_le ra rr with q | q
        · exact q
        · rw [ok_mono h g3 q] at hok; cases hok
      refine .inr ⟨rfl, hlt, r0, g2, point_some t lo hi st rr n xs (pt_rate h g1 g2) g3, ?_⟩
      rcases g4 with z | z
      · omega
      · exact point_no t lo hi st (rr - 1) n xs (pt_rate h (by omega) (by omega)) z
  · have hbest := fun {us : Nat → Int} (hu : Mot t lo hi st ra n xs us) => pt_best t1 f1 f2 (pt_in h).2.2.2 hu
    have hall := okB_iff.1 hok
    have hown : Mot t lo hi st ra n xs (pL t lo hi st ra n xs) := pL_mot (pt_in h).2.2.2 hall
    have hC2 := fun W A2 c2 A3 c3 (h2 : IA W A2 n xs) (h3 : IA W A3 n (pL t lo hi st ra n xs)) => checkPointing_all t lo hi st ra A2 A3 n c2 n c3 xs (pL t lo hi st ra n xs) W (by omega) h2 h3
    have e1 : cpF t lo hi st ra n n xs (pL t lo hi st ra n xs) = 0 := by unfold cpF; rw [if_pos h, if_pos rfl]; exact mot_iff.2 hown
    have e2 : cpV t lo hi st ra n n xs (pL t lo hi st ra n xs) = pTrv t lo hi st ra n xs n := by rw [(cpF_0 h e1).2.2, ctv_pL]
    rw [e1, e2] at hC2
    have hP1 := point_yes t lo hi st ra n xs h hok
    rcases hG with ⟨rfl, g1⟩ | ⟨rfl, g1, g2, g3, g4⟩
    · rw [ok_mono h hok r1] at g1; cases g1
    · have hle : rr ≤ ra := by
        rcases Int.lt_or_le ra rr with q | q
        · rcases g4 with z | z
          · omega
          · rw [ok_mono h hok (show ra ≤ rr - 1 by omega)] at z; cases z
        · exact q
      have hP2 := point_some t lo hi st rr n xs (pt_rate h g1 g2) g3
      have hP3 : rr ≠ 0 → _ := fun hz => point_no t lo hi st (rr - 1) n xs (pt_rate h (by omega) (by omega)) (by rcases g4 with z | z; exact absurd z hz; exact z)
      by_cases hF : cpF t lo hi st ra n m xs ys = 0
      · obtain ⟨hmn, hmot, hV⟩ := cpF_0 h hF
        obtain ⟨_, hb1, hb2⟩ := hbest hmot
        by_cases hTV : ctv st ys n = pTrv t lo hi st ra n xs n
        · have hBF : ∀ W A3 c3, IA W B m ys → IA W A3 n (pL t lo hi st ra n xs) → Calls Try.prog 30 #[.slice B m c', .slice A3 n c3] W fun e w' => e = .returned (.bool false) ∧ Below W.heap.size W w' := by
            intro W A3 c3 q1 q2
            subst hmn
            exact before_any B A3 m c' c3 ys (pL t lo hi st ra m xs) W (by omega) q1 q2 (fun i hi' hpre => hb2 hTV i hi' hpre)
          by_cases hz : rr = 0
          · exact pl_c0 t lo hi st ra A B n c m c' xs ys _ _ _ _ rr w hA0 hB0 hA hB hn hm hDE hRM hTE hC hP1 hC2 hM hP2 g1 hle r1 hF (hV.trans hTV) hBF hz
          · exact pl_c1 t lo hi st ra A B n c m c' xs ys _ _ _ _ rr w hA0 hB0 hA hB hn hm hDE hRM hTE hC hP1 hC2 hM hP2 g1 hle r1 hF (hV.trans hTV) hBF hz (hP3 hz)
        · by_cases hz : rr = 0
          · exact pl_b0 t lo hi st ra A B n c m c' xs ys _ _ _ _ rr w hA0 hB0 hA hB hn hm hDE hRM hTE hC hP1 hC2 hM hP2 g1 hle r1 hF (by omega) hz
          · exact pl_b1 t lo hi st ra A B n c m c' xs ys _ _ _ _ rr w hA0 hB0 hA hB hn hm hDE hRM hTE hC hP1 hC2 hM hP2 g1 hle r1 hF (by omega) hz (hP3 hz)
      · by_cases hz : rr = 0
        · exact pl_a0 t lo hi st ra A B n c m c' xs ys _ _ _ _ rr w hA0 hB0 hA hB hn hm hDE hRM hTE hC hP1 hC2 hM hP2 g1 hle r1 hF hz
        · exact pl_a1 t lo hi st ra A B n c m c' xs ys _ _ _ _ rr w hA0 hB0 hA hB hn hm hDE hRM hTE hC hP1 hC2 hM hP2 g1 hle r1 hF hz (hP3 hz)
end Go.Proofs.Ytolondcbllkimaa
