/- Helpers: checks. No condition but the hypotheses that each theorem names. -/
import Derived.Test.YtaemlmpcclfmdaaB09
import Derived.Test.YtaemlmpcclfmdaaB08
namespace Go.Proofs.Ytaemlmpcclfmdaa
open Go.RowKit
set_option maxRecDepth 100000 in
theorem first_pc (n : Nat) (hn : n ≤ 1000000000) (F : Nat → FuncId) (n1 n2 : Nat → Nat) (h1 h2 : Nat → Nat → AV) (e : Nat → Int) (hc : ∀ i, i < n → PC Try.prog (F i) (lst (n1 i) (h1 i) ++ ([] ++ lst (n2 i) (h2 i))) (iv (e i))) : PC Try.prog 54 [.sl 1 n (fun i _ => .clo (F i) (n1 i) (h1 i) (n2 i) (h2 i))] (iv (fe e n)) := by
  refine PC.intro Try.func54 (by kernel_rfl) rfl (by kernel_rfl) fun S0 w0 => ?_
  refine AW.seq ?_
  refine AW.region (noH) (RPre.of (X := True) (by kernel_rfl) trivial) ?_
  refine thenN ?_
  refine AW.seq ?_
  refine AW.seq ?_
  refine AW.region (noH) (RPre.of (X := True) (by kernel_rfl) trivial) ?_
  refine thenN ?_
  refine AW.block ?_
  refine AW.re [(0, .sl 1 n (fun i _ => .clo (F i) (n1 i) (h1 i) (n2 i) (h2 i))), (6, .sl 1 n (fun i _ => .clo (F i) (n1 i) (h1 i) (n2 i) (h2 i))), (7, iv (((n : Nat) : Int))), (8, iv (((0 : Nat) : Int)))] [] [] (by kernel_rfl) (SLe.all (by kernel_rfl)) trivial ?_
  refine AW.loop (fun m_ σ_ => ∃ (k : Nat), (k ≤ n ∧ ∀ i, i < k → e i = 0) ∧ m_ = n - k ∧ σ_ = ⟨mkS [(0, .sl 1 n (fun i _ => .clo (F i) (n1 i) (h1 i) (n2 i) (h2 i))), (6, .sl 1 n (fun i _ => .clo (F i) (n1 i) (h1 i) (n2 i) (h2 i))), (7, iv (((n : Nat) : Int))), (8, iv (((k : Nat) : Int)))], mkB []⟩) _ ⟨0, ⟨Nat.zero_le _, fun i hi => absurd hi (Nat.not_lt_zero _)⟩, rfl, rfl⟩ ?_
  rintro _ _ ⟨k, H0, rfl, rfl⟩
  obtain ⟨hk, H⟩ := H0
  refine AW.seq ?_
  refine AW.region (noH) (RPre.of (X := True) (by kernel_rfl) trivial) ?_
  refine thenN ?_
  refine AW.seq ?_
  refine AW.cond (decide (((k : Nat) : Int) < ((n : Nat) : Int))) (by kernel_rfl) (fun h9 => ?_) (fun h9 => ?_)
  · have ch9 : (((k : Nat) : Int) < ((n : Nat) : Int)) := of_decide_eq_true h9
    refine AW.skip ?_
    refine thenN ?_
    refine AW.seq ?_
    refine AW.block ?_
    refine AW.seq ?_
    refine AW.region (noH) (RPre.of (X := (0 ≤ ((k : Nat) : Int)) ∧ (((k : Nat) : Int) < (n : Nat))) (by kernel_rfl) (by omega)) ?_
    refine thenN ?_
    refine AW.seq ?_
    refine AW.region (vec [.dead, iv (e k)]) (RPre.of (X := (PC Try.prog (F k) (lst (n1 k) (h1 k) ++ ([] ++ lst (n2 k) (h2 k))) (iv (e k)))) (by kernel_rfl) (hc k (by omega))) ?_
    refine thenN ?_
    refine AW.seq ?_
    refine AW.region (noH) (RPre.of (X := True) (by kernel_rfl) trivial) ?_
    refine thenN ?_
    refine AW.cond ((e k) != 0) (by kernel_rfl) (fun h15 => ?_) (fun h15 => ?_)
    · have ch15 : (e k) ≠ 0 := by simpa using h15
      refine AW.seq ?_
      refine AW.region (noH) (RPre.of (X := True) (by kernel_rfl) trivial) ?_
      refine thenN ?_
      refine AW.ret ?_
      refine blockR ?_
      refine thenR ?_
      refine loopR ?_
      refine blockR ?_
      refine thenR ?_
      refine retN (iv (e k)) (by kernel_rfl) ?_
      exact le_iv (fe_hit H (by omega) ch15).symm
    · have ch15 : (e k) = 0 := by simpa using h15
      refine AW.skip ?_
      refine blockN ?_
      refine thenN ?_
      refine AW.region (noH) (RPre.of (X := (-9223372036854775808 ≤ (((k : Nat) : Int) + 1) ∧ (((k : Nat) : Int) + 1) ≤ 9223372036854775807)) (by kernel_rfl) (by omega)) ?_
      have hx : ∀ i, i < k + 1 → e i = 0 := by
        intro i hi
        by_cases q : i = k
        · subst q; exact ch15
        · exact H i (by omega)
      exact loopN' ⟨n - (k + 1), _, (by omega), ⟨(k + 1), ⟨by omega, hx⟩, rfl, rfl⟩, wk_re [(0, .sl 1 n (fun i _ => .clo (F i) (n1 i) (h1 i) (n2 i) (h2 i))), (6, .sl 1 n (fun i _ => .clo (F i) (n1 i) (h1 i) (n2 i) (h2 i))), (7, iv (((n : Nat) : Int))), (8, iv ((((k + 1) : Nat) : Int)))] [] [] (by kernel_rfl) (SLe.all (by kernel_rfl)) trivial⟩
  · have ch9 : ¬ (((k : Nat) : Int) < ((n : Nat) : Int)) := of_decide_eq_false h9
    refine AW.exit ?_
    refine thenE ?_
    refine loopE ?_
    refine blockH ?_
    refine thenN ?_
    refine AW.seq ?_
    refine AW.region (noH) (RPre.of (X := True) (by kernel_rfl) trivial) ?_
    refine thenN ?_
    refine AW.ret ?_
    refine retN (iv (0)) (by kernel_rfl) ?_
    exact le_iv (fe_none (fun i hi => H i (by omega))).symm
/-- the first error of a list -/
def feL : List Int → Int
  | [] => 0
  | x :: l => if x = 0 then feL l else x
def CLs (P : Program) : List AV → List Int → Prop
  | [], [] => True
  | .clo f n1 h1 n2 h2 :: l, e :: es => PC P f (lst n1 h1 ++ ([] ++ lst n2 h2)) (iv e) ∧ CLs P l es
  | _, _ => False
theorem fe_shift {e : Nat → Int} : ∀ n, fe e (n + 1) = if e 0 = 0 then fe (fun i => e (i + 1)) n else e 0
  | 0 => by simp [fe]
  | n + 1 => by
    rw [show fe e (n + 1 + 1) = (if fe e (n + 1) = 0 then e (n + 1) else fe e (n + 1)) from rfl, fe_shift n]
    by_cases h : e 0 = 0
    · rw [if_pos h, if_pos h]; rfl
    · rw [if_neg h, if_neg h, if_neg h]
theorem fe_list : ∀ (l : List Int), fe (fun i => l.getD i 0) l.length = feL l
  | [] => rfl
  | x :: l => by
    show fe _ (l.length + 1) = _
    rw [fe_shift]
    show (if x = 0 then fe (fun i => l.getD i 0) l.length else x) = if x = 0 then feL l else x
    rw [fe_list l]
def cF : AV → FuncId | .clo f _ _ _ _ => f | _ => 0
def cN1 : AV → Nat | .clo _ n _ _ _ => n | _ => 0
def cN2 : AV → Nat | .clo _ _ _ n _ => n | _ => 0
def cH1 : AV → Nat → AV | .clo _ _ h _ _ => h | _ => fun _ => .dead
def cH2 : AV → Nat → AV | .clo _ _ _ _ h => h | _ => fun _ => .dead
theorem CLs.at {P : Program} : ∀ {l : List AV} {es : List Int}, CLs P l es → l.length = es.length ∧ ∀ i, i < l.length → (l.getD i .dead = .clo (cF (l.getD i .dead)) (cN1 (l.getD i .dead)) (cH1 (l.getD i .dead)) (cN2 (l.getD i .dead)) (cH2 (l.getD i .dead))) ∧ PC P (cF (l.getD i .dead)) (lst (cN1 (l.getD i .dead)) (cH1 (l.getD i .dead)) ++ ([] ++ lst (cN2 (l.getD i .dead)) (cH2 (l.getD i .dead)))) (iv (es.getD i 0))
  | [], [], _ => ⟨rfl, fun i hi => absurd hi (Nat.not_lt_zero _)⟩
  | .clo f n1 h1 n2 h2 :: l, e :: es, h => by
    obtain ⟨g1, g2⟩ := CLs.at h.2
    refine ⟨by simp [g1], fun i hi => ?_⟩
    cases i with
    | zero => exact ⟨rfl, h.1⟩
    | succ i => exact g2 i (by simpa using hi)
  | [], _ :: _, h => h.elim
  | .v _ :: _, _, h => by cases ‹List Int› <;> exact h.elim
  | .agg _ _ :: _, _, h => by cases ‹List Int› <;> exact h.elim
  | .tup _ _ :: _, _, h => by cases ‹List Int› <;> exact h.elim
  | .sl _ _ _ :: _, _, h => by cases ‹List Int› <;> exact h.elim
  | .elp _ _ :: _, _, h => by cases ‹List Int› <;> exact h.elim
  | .own _ :: _, _, h => by cases ‹List Int› <;> exact h.elim
  | .cloM _ _ _ _ _ :: _, _, h => by cases ‹List Int› <;> exact h.elim
  | .pB _ _ :: _, _, h => by cases ‹List Int› <;> exact h.elim
  | .pX _ _ _ _ _ _ :: _, _, h => by cases ‹List Int› <;> exact h.elim
  | .pA _ _ _ _ :: _, _, h => by cases ‹List Int› <;> exact h.elim
  | .gd _ _ :: _, _, h => by cases ‹List Int› <;> exact h.elim
  | .dead :: _, _, h => by cases ‹List Int› <;> exact h.elim
  | .clo _ _ _ _ _ :: _, [], h => h.elim
theorem firstL_pc (cs : List AV) (es : List Int) (hn : cs.length ≤ 1000000000) (h : CLs Try.prog cs es) : PC Try.prog 54 [.sl 1 cs.length (fun k j => vec cs (k * 1 + j))] (iv (feL es)) := by
  obtain ⟨h1, h2⟩ := h.at
  rw [← fe_list, ← h1]
  refine PC.w (first_pc cs.length hn (fun i => cF (cs.getD i .dead)) (fun i => cN1 (cs.getD i .dead)) (fun i => cN2 (cs.getD i .dead)) (fun i => cH1 (cs.getD i .dead)) (fun i => cH2 (cs.getD i .dead)) (fun i => es.getD i 0) (fun i hi => (h2 i hi).2)) ⟨AV.le_sl fun i hi j hj => ?_, trivial⟩ (AV.le.refl _)
  obtain rfl : j = 0 := by omega
  have := (h2 i hi).1
  rw [Nat.mul_one, Nat.add_zero]
  exact le_eq this
set_option maxRecDepth 100000 in
theorem require_pc (e : Int) (f n1 n2 : Nat) (h1 h2 : Nat → AV) : PC Try.prog 76 [iv (e), .clo f n1 h1 n2 h2] (.clo 109 0 (vec []) 2 (vec [.elp 1 (vec [.clo f n1 h1 n2 h2]), .elp 1 (vec [iv (e)])])) := by
  refine PC.intro Try.func76 (by kernel_rfl) rfl (by kernel_rfl) fun S0 w0 => ?_
  refine AW.seq ?_
  refine AW.region (noH) (RPre.of (X := True) (by kernel_rfl) trivial) ?_
  refine thenN ?_
  refine AW.seq ?_
  refine AW.region (noH) (RPre.of (X := True) (by kernel_rfl) trivial) ?_
  refine thenN ?_
  refine AW.ret ?_
  refine retN (.clo 109 0 (vec []) 2 (vec [.elp 1 (vec [.clo f n1 h1 n2 h2]), .elp 1 (vec [iv (e)])])) (by kernel_rfl) ?_
  exact AV.le.refl _
set_option maxRecDepth 100000 in
theorem require1_pc (e : Int) (f n1 n2 : Nat) (h1 h2 : Nat → AV) (b : Bool) (hc : PC Try.prog f (lst n1 h1 ++ ([] ++ lst n2 h2)) (bv b)) : PC Try.prog 109 [.elp 1 (vec [.clo f n1 h1 n2 h2]), .elp 1 (vec [iv (e)])] (iv (bif b then 0 else e)) := by
  refine PC.intro Try.func109 (by kernel_rfl) rfl (by kernel_rfl) fun S0 w0 => ?_
  refine AW.seq ?_
  refine AW.region (noH) (RPre.of (X := True) (by kernel_rfl) trivial) ?_
  refine thenN ?_
  refine AW.seq ?_
  refine AW.seq ?_
  refine AW.region (vec [.dead, bv (b)]) (RPre.of (X := (PC Try.prog f (lst n1 h1 ++ ([] ++ lst n2 h2)) (bv (b)))) (by kernel_rfl) (hc)) ?_
  refine thenN ?_
  refine AW.cond (b) (by kernel_rfl) (fun h4 => ?_) (fun h4 => ?_)
  · refine AW.seq ?_
    refine AW.region (noH) (RPre.of (X := True) (by kernel_rfl) trivial) ?_
    refine thenN ?_
    refine AW.ret ?_
    refine thenR ?_
    refine retN (iv (0)) (by kernel_rfl) ?_
    exact le_iv (by rw [h4]; rfl)
  · refine AW.skip ?_
    refine thenN ?_
    refine AW.seq ?_
    refine AW.region (noH) (RPre.of (X := True) (by kernel_rfl) trivial) ?_
    refine thenN ?_
    refine AW.ret ?_
    refine retN (iv (e)) (by kernel_rfl) ?_
    exact le_iv (by rw [h4]; rfl)
set_option maxRecDepth 100000 in
theorem range1_pc (n lo hi : Int) : PC Try.prog 117 [.elp 1 (vec [iv (n)]), .elp 1 (vec [iv (lo)]), .elp 1 (vec [iv (hi)])] (bv (decide (lo ≤ n ∧ n ≤ hi))) := by
  refine PC.intro Try.func117 (by kernel_rfl) rfl (by kernel_rfl) fun S0 w0 => ?_
  refine AW.seq ?_
  refine AW.region (noH) (RPre.of (X := True) (by kernel_rfl) trivial) ?_
  refine thenN ?_
  refine AW.seq ?_
  refine AW.region (vec [.dead, .dead, .dead, bv (decide (lo ≤ n ∧ n ≤ hi))]) (RPre.of (X := (PC Try.prog 82 [iv (n), iv (lo), iv (hi)] (bv (decide (lo ≤ n ∧ n ≤ hi))))) (by kernel_rfl) (nwithin_pc _ _ _)) ?_
  refine thenN ?_
  refine AW.ret ?_
  refine retN (bv (decide (lo ≤ n ∧ n ≤ hi))) (by kernel_rfl) ?_
  exact AV.le.refl _
set_option maxRecDepth 100000 in
theorem range_pc (n lo hi : Int) : PC Try.prog 89 [iv (n), iv (lo), iv (hi)] (.clo 109 0 (vec []) 2 (vec [.elp 1 (vec [.clo 117 0 (vec []) 3 (vec [.elp 1 (vec [iv (n)]), .elp 1 (vec [iv (lo)]), .elp 1 (vec [iv (hi)])])]), .elp 1 (vec [iv (2)])])) := by
  refine PC.intro Try.func89 (by kernel_rfl) rfl (by kernel_rfl) fun S0 w0 => ?_
  refine AW.seq ?_
  refine AW.region (noH) (RPre.of (X := True) (by kernel_rfl) trivial) ?_
  refine thenN ?_
  refine AW.seq ?_
  refine AW.region (vec [.dead, .clo 109 0 (vec []) 2 (vec [.elp 1 (vec [.clo 117 0 (vec []) 3 (vec [.elp 1 (vec [iv (n)]), .elp 1 (vec [iv (lo)]), .elp 1 (vec [iv (hi)])])]), .elp 1 (vec [iv (2)])])]) (RPre.of (X := (PC Try.prog 76 [iv (2), .clo 117 0 (vec []) 3 (vec [.elp 1 (vec [iv (n)]), .elp 1 (vec [iv (lo)]), .elp 1 (vec [iv (hi)])])] (.clo 109 0 (vec []) 2 (vec [.elp 1 (vec [.clo 117 0 (vec []) 3 (vec [.elp 1 (vec [iv (n)]), .elp 1 (vec [iv (lo)]), .elp 1 (vec [iv (hi)])])]), .elp 1 (vec [iv (2)])])))) (by kernel_rfl) (require_pc _ _ _ _ _ _)) ?_
  refine thenN ?_
  refine AW.ret ?_
  refine retN (.clo 109 0 (vec []) 2 (vec [.elp 1 (vec [.clo 117 0 (vec []) 3 (vec [.elp 1 (vec [iv (n)]), .elp 1 (vec [iv (lo)]), .elp 1 (vec [iv (hi)])])]), .elp 1 (vec [iv (2)])])) (by kernel_rfl) ?_
  exact AV.le.refl _
set_option maxRecDepth 100000 in
theorem ends_pc (a b lo hi : Int) : PC Try.prog 74 [.agg 2 (vec [iv (a), iv (b)]), iv (lo), iv (hi)] (.clo 107 0 (vec []) 3 (vec [.elp 2 (vec [iv (a), iv (b)]), .elp 1 (vec [iv (lo)]), .elp 1 (vec [iv (hi)])])) := by
  refine PC.intro Try.func74 (by kernel_rfl) rfl (by kernel_rfl) fun S0 w0 => ?_
  refine AW.seq ?_
  refine AW.region (noH) (RPre.of (X := True) (by kernel_rfl) trivial) ?_
  refine thenN ?_
  refine AW.seq ?_
  refine AW.region (noH) (RPre.of (X := True) (by kernel_rfl) trivial) ?_
  refine thenN ?_
  refine AW.ret ?_
  refine retN (.clo 107 0 (vec []) 3 (vec [.elp 2 (vec [iv (a), iv (b)]), .elp 1 (vec [iv (lo)]), .elp 1 (vec [iv (hi)])])) (by kernel_rfl) ?_
  exact AV.le.refl _
set_option maxRecDepth 100000 in
theorem ends1_pc (a b lo hi : Int) : PC Try.prog 107 [.elp 2 (vec [iv (a), iv (b)]), .elp 1 (vec [iv (lo)]), .elp 1 (vec [iv (hi)])] (iv (feL [bif (decide (lo ≤ a ∧ a ≤ hi)) then 0 else 2, bif (decide (lo ≤ b ∧ b ≤ hi)) then 0 else 2])) := by
  refine PC.intro Try.func107 (by kernel_rfl) rfl (by kernel_rfl) fun S0 w0 => ?_
  refine AW.seq ?_
  refine AW.region (noH) (RPre.of (X := True) (by kernel_rfl) trivial) ?_
  refine thenN ?_
  refine AW.seq ?_
  refine AW.draw (by kernel_rfl) (vec [.dead, .dead, .dead, .dead, .clo 109 0 (vec []) 2 (vec [.elp 1 (vec [.clo 117 0 (vec []) 3 (vec [.elp 1 (vec [iv (a)]), .elp 1 (vec [iv (lo)]), .elp 1 (vec [iv (hi)])])]), .elp 1 (vec [iv (2)])]), .dead, .dead, .dead, .dead, .clo 109 0 (vec []) 2 (vec [.elp 1 (vec [.clo 117 0 (vec []) 3 (vec [.elp 1 (vec [iv (b)]), .elp 1 (vec [iv (lo)]), .elp 1 (vec [iv (hi)])])]), .elp 1 (vec [iv (2)])]), .dead, iv (feL [bif (decide (lo ≤ a ∧ a ≤ hi)) then 0 else 2, bif (decide (lo ≤ b ∧ b ≤ hi)) then 0 else 2])]) (by kernel_rfl) (RPre.of (X := (PC Try.prog 89 [iv (a), iv (lo), iv (hi)] (.clo 109 0 (vec []) 2 (vec [.elp 1 (vec [.clo 117 0 (vec []) 3 (vec [.elp 1 (vec [iv (a)]), .elp 1 (vec [iv (lo)]), .elp 1 (vec [iv (hi)])])]), .elp 1 (vec [iv (2)])]))) ∧ (PC Try.prog 89 [iv (b), iv (lo), iv (hi)] (.clo 109 0 (vec []) 2 (vec [.elp 1 (vec [.clo 117 0 (vec []) 3 (vec [.elp 1 (vec [iv (b)]), .elp 1 (vec [iv (lo)]), .elp 1 (vec [iv (hi)])])]), .elp 1 (vec [iv (2)])]))) ∧ (PC Try.prog 54 [.sl 1 (2) (fun k j => vec [.clo 109 0 (vec []) 2 (vec [.elp 1 (vec [.clo 117 0 (vec []) 3 (vec [.elp 1 (vec [iv (a)]), .elp 1 (vec [iv (lo)]), .elp 1 (vec [iv (hi)])])]), .elp 1 (vec [iv (2)])]), .clo 109 0 (vec []) 2 (vec [.elp 1 (vec [.clo 117 0 (vec []) 3 (vec [.elp 1 (vec [iv (b)]), .elp 1 (vec [iv (lo)]), .elp 1 (vec [iv (hi)])])]), .elp 1 (vec [iv (2)])])] (k * 1 + j))] (iv (feL [bif (decide (lo ≤ a ∧ a ≤ hi)) then 0 else 2, bif (decide (lo ≤ b ∧ b ≤ hi)) then 0 else 2])))) (by kernel_rfl) ⟨range_pc _ _ _, range_pc _ _ _, firstL_pc [.clo 109 0 (vec []) 2 (vec [.elp 1 (vec [.clo 117 0 (vec []) 3 (vec [.elp 1 (vec [iv (a)]), .elp 1 (vec [iv (lo)]), .elp 1 (vec [iv (hi)])])]), .elp 1 (vec [iv (2)])]), .clo 109 0 (vec []) 2 (vec [.elp 1 (vec [.clo 117 0 (vec []) 3 (vec [.elp 1 (vec [iv (b)]), .elp 1 (vec [iv (lo)]), .elp 1 (vec [iv (hi)])])]), .elp 1 (vec [iv (2)])])] [bif (decide (lo ≤ a ∧ a ≤ hi)) then 0 else 2, bif (decide (lo ≤ b ∧ b ≤ hi)) then 0 else 2] (by simp) ⟨require1_pc _ _ _ _ _ _ _ (range1_pc _ _ _), require1_pc _ _ _ _ _ _ _ (range1_pc _ _ _), trivial⟩⟩) ?_
  refine thenN ?_
  refine AW.ret ?_
  refine retN (iv (feL [bif (decide (lo ≤ a ∧ a ≤ hi)) then 0 else 2, bif (decide (lo ≤ b ∧ b ≤ hi)) then 0 else 2])) (by kernel_rfl) ?_
  exact AV.le.refl _
set_option maxRecDepth 100000 in
theorem ordered_pc (a b : Int) : PC Try.prog 75 [.agg 2 (vec [iv (a), iv (b)])] (.clo 109 0 (vec []) 2 (vec [.elp 1 (vec [.clo 108 0 (vec []) 1 (vec [.elp 2 (vec [iv (a), iv (b)])])]), .elp 1 (vec [iv (9)])])) := by
  refine PC.intro Try.func75 (by kernel_rfl) rfl (by kernel_rfl) fun S0 w0 => ?_
  refine AW.seq ?_
  refine AW.region (noH) (RPre.of (X := True) (by kernel_rfl) trivial) ?_
  refine thenN ?_
  refine AW.seq ?_
  refine AW.region (vec [.dead, .clo 109 0 (vec []) 2 (vec [.elp 1 (vec [.clo 108 0 (vec []) 1 (vec [.elp 2 (vec [iv (a), iv (b)])])]), .elp 1 (vec [iv (9)])])]) (RPre.of (X := (PC Try.prog 76 [iv (9), .clo 108 0 (vec []) 1 (vec [.elp 2 (vec [iv (a), iv (b)])])] (.clo 109 0 (vec []) 2 (vec [.elp 1 (vec [.clo 108 0 (vec []) 1 (vec [.elp 2 (vec [iv (a), iv (b)])])]), .elp 1 (vec [iv (9)])])))) (by kernel_rfl) (require_pc _ _ _ _ _ _)) ?_
  refine thenN ?_
  refine AW.ret ?_
  refine retN (.clo 109 0 (vec []) 2 (vec [.elp 1 (vec [.clo 108 0 (vec []) 1 (vec [.elp 2 (vec [iv (a), iv (b)])])]), .elp 1 (vec [iv (9)])])) (by kernel_rfl) ?_
  exact AV.le.refl _
set_option maxRecDepth 100000 in
theorem ordered1_pc (a b : Int) : PC Try.prog 108 [.elp 2 (vec [iv (a), iv (b)])] (bv (decide (a ≤ b))) := by
  refine PC.intro Try.func108 (by kernel_rfl) rfl (by kernel_rfl) fun S0 w0 => ?_
  refine AW.seq ?_
  refine AW.region (noH) (RPre.of (X := True) (by kernel_rfl) trivial) ?_
  refine thenN ?_
  refine AW.seq ?_
  refine AW.region (noH) (RPre.of (X := True) (by kernel_rfl) trivial) ?_
  refine thenN ?_
  refine AW.ret ?_
  refine retN (bv (decide (a ≤ b))) (by kernel_rfl) ?_
  exact AV.le.refl _
end Go.Proofs.Ytaemlmpcclfmdaa
namespace Go.Proofs.Ytaemlmpcclfmdaa
open Go.RowKit
set_option maxRecDepth 100000 in
theorem indexedM_pc (n : Nat) (hn : n ≤ 1000000000) (a : Nat → Nat → Int) (f n1 n2 : Nat) (h1 h2 : Nat → AV) (e : Nat → Int) (hc : ∀ k, k < n → PC Try.prog f (lst n1 h1 ++ ([iv ((k : Nat) : Int), zv 5 (a k)] ++ lst n2 h2)) (iv (e k))) : PC Try.prog 49 [zsl 5 n a, .clo f n1 h1 n2 h2] (.tup 2 (vec [iv (fi e n), iv (fe e n)])) := by
  refine PC.intro Try.func49 (by kernel_rfl) rfl (by kernel_rfl) fun S0 w0 => ?_
  refine AW.seq ?_
  refine AW.region (noH) (RPre.of (X := True) (by kernel_rfl) trivial) ?_
  refine thenN ?_
  refine AW.seq ?_
  refine AW.seq ?_
  refine AW.region (noH) (RPre.of (X := True) (by kernel_rfl) trivial) ?_
  refine thenN ?_
  refine AW.block ?_
  refine AW.re [(0, zsl 5 n a), (1, .clo f n1 h1 n2 h2), (9, zsl 5 n a), (10, iv (((n : Nat) : Int))), (11, iv (((0 : Nat) : Int)))] [] [] (by kernel_rfl) (SLe.all (by kernel_rfl)) trivial ?_
  refine AW.loop (fun m_ σ_ => ∃ (k : Nat), (k ≤ n ∧ ∀ i, i < k → e i = 0) ∧ m_ = n - k ∧ σ_ = ⟨mkS [(0, zsl 5 n a), (1, .clo f n1 h1 n2 h2), (9, zsl 5 n a), (10, iv (((n : Nat) : Int))), (11, iv (((k : Nat) : Int)))], mkB []⟩) _ ⟨0, ⟨Nat.zero_le _, fun i hi => absurd hi (Nat.not_lt_zero _)⟩, rfl, rfl⟩ ?_
  rintro _ _ ⟨k, H0, rfl, rfl⟩
  obtain ⟨hk, H⟩ := H0
  refine AW.seq ?_
  refine AW.region (noH) (RPre.of (X := True) (by kernel_rfl) trivial) ?_
  refine thenN ?_
  refine AW.seq ?_
  refine AW.cond (decide (((k : Nat) : Int) < ((n : Nat) : Int))) (by kernel_rfl) (fun h12 => ?_) (fun h12 => ?_)
  · have ch12 : (((k : Nat) : Int) < ((n : Nat) : Int)) := of_decide_eq_true h12
    refine AW.skip ?_
    refine thenN ?_
    refine AW.seq ?_
    refine AW.block ?_
    refine AW.seq ?_
    refine AW.region (noH) (RPre.of (X := (0 ≤ ((k : Nat) : Int)) ∧ (((k : Nat) : Int) < (n : Nat))) (by kernel_rfl) (by omega)) ?_
    refine thenN ?_
    refine AW.seq ?_
    refine AW.region (vec [.dead, .dead, .dead, iv (e k)]) (RPre.of (X := (PC Try.prog f (lst n1 h1 ++ ([iv (((k : Nat) : Int)), .agg 5 (vec [iv ((a k) 0), iv ((a k) 1), iv ((a k) 2), iv ((a k) 3), iv ((a k) 4)])] ++ lst n2 h2)) (iv (e k)))) (by kernel_rfl) (hc k (by omega))) ?_
    refine thenN ?_
    refine AW.seq ?_
    refine AW.region (noH) (RPre.of (X := True) (by kernel_rfl) trivial) ?_
    refine thenN ?_
    refine AW.cond ((e k) != 0) (by kernel_rfl) (fun h21 => ?_) (fun h21 => ?_)
    · have ch21 : (e k) ≠ 0 := by simpa using h21
      refine AW.seq ?_
      refine AW.region (noH) (RPre.of (X := True) (by kernel_rfl) trivial) ?_
      refine thenN ?_
      refine AW.ret ?_
      refine blockR ?_
      refine thenR ?_
      refine loopR ?_
      refine blockR ?_
      refine thenR ?_
      refine retN (.tup 2 (vec [iv (((k : Nat) : Int)), iv (e k)])) (by kernel_rfl) ?_
      rw [fe_hit H (show k < n by omega) ch21, fi_hit H (show k < n by omega) ch21]
      exact AV.le.refl _
    · have ch21 : (e k) = 0 := by simpa using h21
      refine AW.skip ?_
      refine blockN ?_
      refine thenN ?_
      refine AW.region (noH) (RPre.of (X := (-9223372036854775808 ≤ (((k : Nat) : Int) + 1) ∧ (((k : Nat) : Int) + 1) ≤ 9223372036854775807)) (by kernel_rfl) (by omega)) ?_
      have hx : ∀ i, i < k + 1 → e i = 0 := by
        intro i hi
        by_cases q : i = k
        · subst q; exact ch21
        · exact H i (by omega)
      exact loopN' ⟨n - (k + 1), _, (by omega), ⟨(k + 1), ⟨by omega, hx⟩, rfl, rfl⟩, wk_re [(0, zsl 5 n a), (1, .clo f n1 h1 n2 h2), (9, zsl 5 n a), (10, iv (((n : Nat) : Int))), (11, iv ((((k + 1) : Nat) : Int)))] [] [] (by kernel_rfl) (SLe.all (by kernel_rfl)) trivial⟩
  · have ch12 : ¬ (((k : Nat) : Int) < ((n : Nat) : Int)) := of_decide_eq_false h12
    refine AW.exit ?_
    refine thenE ?_
    refine loopE ?_
    refine blockH ?_
    refine thenN ?_
    refine AW.seq ?_
    refine AW.region (noH) (RPre.of (X := True) (by kernel_rfl) trivial) ?_
    refine thenN ?_
    refine AW.ret ?_
    refine retN (.tup 2 (vec [iv (0), iv (0)])) (by kernel_rfl) ?_
    rw [fe_none (fun i hi => H i (by omega)), fi_none (fun i hi => H i (by omega))]
    exact AV.le.refl _
set_option maxRecDepth 100000 in
theorem each11M_pc (i : Int) (f n1 n2 : Nat) (h1 h2 : Nat → AV) (a : Nat → Nat → Int) (k : Nat) (e : Int) (hc : PC Try.prog f (lst n1 h1 ++ ([zv 5 (a k)] ++ lst n2 h2)) (iv e)) : PC Try.prog 136 [iv (i), zv 5 (a k), .elp 1 (vec [.clo f n1 h1 n2 h2])] (iv (e)) := by
  refine PC.intro Try.func136 (by kernel_rfl) rfl (by kernel_rfl) fun S0 w0 => ?_
  refine AW.seq ?_
  refine AW.region (noH) (RPre.of (X := True) (by kernel_rfl) trivial) ?_
  refine thenN ?_
  refine AW.seq ?_
  refine AW.region (vec [.dead, .dead, iv (e)]) (RPre.of (X := (PC Try.prog f (lst n1 h1 ++ ([.agg 5 (vec [iv ((a k) 0), iv ((a k) 1), iv ((a k) 2), iv ((a k) 3), iv ((a k) 4)])] ++ lst n2 h2)) (iv (e)))) (by kernel_rfl) (hc)) ?_
  refine thenN ?_
  refine AW.ret ?_
  refine retN (iv (e)) (by kernel_rfl) ?_
  exact AV.le.refl _
set_option maxRecDepth 100000 in
theorem each1M_pc (n : Nat) (hn : n ≤ 1000000000) (a : Nat → Nat → Int) (f n1 n2 : Nat) (h1 h2 : Nat → AV) (e : Nat → Int) (hc : ∀ k, k < n → PC Try.prog f (lst n1 h1 ++ ([zv 5 (a k)] ++ lst n2 h2)) (iv (e k))) : PC Try.prog 135 [.elp 1 (vec [zsl 5 n a]), .elp 1 (vec [.clo f n1 h1 n2 h2])] (iv (fe e n)) := by
  refine PC.intro Try.func135 (by kernel_rfl) rfl (by kernel_rfl) fun S0 w0 => ?_
  refine AW.seq ?_
  refine AW.region (noH) (RPre.of (X := True) (by kernel_rfl) trivial) ?_
  refine thenN ?_
  refine AW.seq ?_
  refine AW.region (vec [.dead, .dead, .tup 2 (vec [iv (fi e n), iv (fe e n)])]) (RPre.of (X := (PC Try.prog 49 [zsl 5 n a, .clo 136 0 (vec []) 1 (vec [.elp 1 (vec [.clo f n1 h1 n2 h2])])] (.tup 2 (vec [iv (fi e n), iv (fe e n)])))) (by kernel_rfl) (indexedM_pc _ hn _ _ 0 1 _ _ e (fun k hk => each11M_pc _ _ _ _ _ _ _ k _ (hc k hk)))) ?_
  refine thenN ?_
  refine AW.seq ?_
  refine AW.region (noH) (RPre.of (X := True) (by kernel_rfl) trivial) ?_
  refine thenN ?_
  refine AW.ret ?_
  refine retN (iv (fe e n)) (by kernel_rfl) ?_
  exact AV.le.refl _
set_option maxRecDepth 100000 in
theorem eachM_pc (n : Nat) (a : Nat → Nat → Int) (f n1 n2 : Nat) (h1 h2 : Nat → AV) : PC Try.prog 116 [zsl 5 n a, .clo f n1 h1 n2 h2] (.clo 135 0 (vec []) 2 (vec [.elp 1 (vec [zsl 5 n a]), .elp 1 (vec [.clo f n1 h1 n2 h2])])) := by
  refine PC.intro Try.func116 (by kernel_rfl) rfl (by kernel_rfl) fun S0 w0 => ?_
  refine AW.seq ?_
  refine AW.region (noH) (RPre.of (X := True) (by kernel_rfl) trivial) ?_
  refine thenN ?_
  refine AW.seq ?_
  refine AW.region (noH) (RPre.of (X := True) (by kernel_rfl) trivial) ?_
  refine thenN ?_
  refine AW.ret ?_
  refine retN (.clo 135 0 (vec []) 2 (vec [.elp 1 (vec [zsl 5 n a]), .elp 1 (vec [.clo f n1 h1 n2 h2])])) (by kernel_rfl) ?_
  exact AV.le.refl _
set_option maxRecDepth 100000 in
theorem atmost11M_pc (lim : Int) (n : Nat) (a : Nat → Nat → Int) : PC Try.prog 115 [.elp 1 (vec [zsl 5 n a]), .elp 1 (vec [iv (lim)])] (bv (decide (((n : Nat) : Int) ≤ lim))) := by
  refine PC.intro Try.func115 (by kernel_rfl) rfl (by kernel_rfl) fun S0 w0 => ?_
  refine AW.seq ?_
  refine AW.region (noH) (RPre.of (X := True) (by kernel_rfl) trivial) ?_
  refine thenN ?_
  refine AW.seq ?_
  refine AW.region (noH) (RPre.of (X := True) (by kernel_rfl) trivial) ?_
  refine thenN ?_
  refine AW.ret ?_
  refine retN (bv (decide (((n : Nat) : Int) ≤ lim))) (by kernel_rfl) ?_
  exact AV.le.refl _
set_option maxRecDepth 100000 in
theorem atmostM_pc (lim : Int) (n : Nat) (a : Nat → Nat → Int) (f n1 n2 : Nat) (h1 h2 : Nat → AV) : PC Try.prog 88 [iv (lim), zsl 5 n a, .clo f n1 h1 n2 h2] (.clo 114 0 (vec []) 3 (vec [.elp 1 (vec [zsl 5 n a]), .elp 1 (vec [iv (lim)]), .elp 1 (vec [.clo f n1 h1 n2 h2])])) := by
  refine PC.intro Try.func88 (by kernel_rfl) rfl (by kernel_rfl) fun S0 w0 => ?_
  refine AW.seq ?_
  refine AW.region (noH) (RPre.of (X := True) (by kernel_rfl) trivial) ?_
  refine thenN ?_
  refine AW.seq ?_
  refine AW.region (noH) (RPre.of (X := True) (by kernel_rfl) trivial) ?_
  refine thenN ?_
  refine AW.ret ?_
  refine retN (.clo 114 0 (vec []) 3 (vec [.elp 1 (vec [zsl 5 n a]), .elp 1 (vec [iv (lim)]), .elp 1 (vec [.clo f n1 h1 n2 h2])])) (by kernel_rfl) ?_
  exact AV.le.refl _
set_option maxRecDepth 100000 in
theorem atmost1M_pc (lim : Int) (n : Nat) (hn : n ≤ 1000000000) (a : Nat → Nat → Int) (f n1 n2 : Nat) (h1 h2 : Nat → AV) (e : Nat → Int) (hc : ∀ k, k < n → PC Try.prog f (lst n1 h1 ++ ([zv 5 (a k)] ++ lst n2 h2)) (iv (e k))) : PC Try.prog 114 [.elp 1 (vec [zsl 5 n a]), .elp 1 (vec [iv (lim)]), .elp 1 (vec [.clo f n1 h1 n2 h2])] (iv (feL [bif (decide (((n : Nat) : Int) ≤ lim)) then 0 else 8, fe e n])) := by
  refine PC.intro Try.func114 (by kernel_rfl) rfl (by kernel_rfl) fun S0 w0 => ?_
  refine AW.seq ?_
  refine AW.region (noH) (RPre.of (X := True) (by kernel_rfl) trivial) ?_
  refine thenN ?_
  refine AW.seq ?_
  refine AW.draw (by kernel_rfl) (vec [.dead, .clo 109 0 (vec []) 2 (vec [.elp 1 (vec [.clo 115 0 (vec []) 2 (vec [.elp 1 (vec [zsl 5 n a]), .elp 1 (vec [iv (lim)])])]), .elp 1 (vec [iv (8)])]), .dead, .dead, .clo 135 0 (vec []) 2 (vec [.elp 1 (vec [zsl 5 n a]), .elp 1 (vec [.clo f n1 h1 n2 h2])]), .dead, iv (feL [bif (decide (((n : Nat) : Int) ≤ lim)) then 0 else 8, fe e n])]) (by kernel_rfl) (RPre.of (X := (PC Try.prog 76 [iv (8), .clo 115 0 (vec []) 2 (vec [.elp 1 (vec [zsl 5 n a]), .elp 1 (vec [iv (lim)])])] (.clo 109 0 (vec []) 2 (vec [.elp 1 (vec [.clo 115 0 (vec []) 2 (vec [.elp 1 (vec [zsl 5 n a]), .elp 1 (vec [iv (lim)])])]), .elp 1 (vec [iv (8)])]))) ∧ (PC Try.prog 116 [zsl 5 n a, .clo f n1 h1 n2 h2] (.clo 135 0 (vec []) 2 (vec [.elp 1 (vec [zsl 5 n a]), .elp 1 (vec [.clo f n1 h1 n2 h2])]))) ∧ (PC Try.prog 54 [.sl 1 (2) (fun k j => vec [.clo 109 0 (vec []) 2 (vec [.elp 1 (vec [.clo 115 0 (vec []) 2 (vec [.elp 1 (vec [zsl 5 n a]), .elp 1 (vec [iv (lim)])])]), .elp 1 (vec [iv (8)])]), .clo 135 0 (vec []) 2 (vec [.elp 1 (vec [zsl 5 n a]), .elp 1 (vec [.clo f n1 h1 n2 h2])])] (k * 1 + j))] (iv (feL [bif (decide (((n : Nat) : Int) ≤ lim)) then 0 else 8, fe e n])))) (by kernel_rfl) ⟨require_pc _ _ _ _ _ _, eachM_pc _ _ _ _ _ _ _, firstL_pc [.clo 109 0 (vec []) 2 (vec [.elp 1 (vec [.clo 115 0 (vec []) 2 (vec [.elp 1 (vec [zsl 5 n a]), .elp 1 (vec [iv (lim)])])]), .elp 1 (vec [iv (8)])]), .clo 135 0 (vec []) 2 (vec [.elp 1 (vec [zsl 5 n a]), .elp 1 (vec [.clo f n1 h1 n2 h2])])] [bif (decide (((n : Nat) : Int) ≤ lim)) then 0 else 8, fe e n] (by simp) ⟨require1_pc _ _ _ _ _ _ _ (atmost11M_pc _ _ _), each1M_pc _ hn _ _ _ _ _ _ e hc, trivial⟩⟩) ?_
  refine thenN ?_
  refine AW.ret ?_
  refine retN (iv (feL [bif (decide (((n : Nat) : Int) ≤ lim)) then 0 else 8, fe e n])) (by kernel_rfl) ?_
  exact AV.le.refl _
end Go.Proofs.Ytaemlmpcclfmdaa
namespace Go.Proofs.Ytaemlmpcclfmdaa
open Go.RowKit
def wrOf : SeeR → List (Nat × AB)
  | some (_, _, wr) => wr
  | none => []
theorem AW.frzd {P : Program} {S0 : Addr → Prop} {mm : Nat} {w0 : Bs mm} {N nx : Nat} {σ : ASt} {K : AK} {c : Code} (t : Nat) (h : AW P S0 w0 N c nx ⟨σ.slot, nmw σ.name (wrOf (seeV0 σ.name (σ.slot t)))⟩ K) : AW P S0 w0 N c nx σ K := by
  refine ⟨fun ro a w ho hr => h.go ro a w ho ?_⟩
  obtain ⟨S, κ, hr⟩ := hr
  cases e : seeV0 σ.name (σ.slot t) with
  | none => exact ⟨S, κ, hr⟩
  | some r =>
    obtain ⟨y, rd, wr⟩ := r
    obtain ⟨S', h1, _, _⟩ := see0_ok hr (hr.slots t) e
    exact ⟨S', κ, h1⟩
end Go.Proofs.Ytaemlmpcclfmdaa
namespace Go.Proofs.Ytaemlmpcclfmdaa
open Go.RowKit
set_option maxRecDepth 100000 in
theorem timeCheck_pc (t : Int) : PC Try.prog 56 [iv (t)] (.clo 109 0 (vec []) 2 (vec [.elp 1 (vec [.clo 117 0 (vec []) 3 (vec [.elp 1 (vec [iv (t)]), .elp 1 (vec [iv (0)]), .elp 1 (vec [iv (1000)])])]), .elp 1 (vec [iv (2)])])) := by
  refine PC.intro Try.func56 (by kernel_rfl) rfl (by kernel_rfl) fun S0 w0 => ?_
  refine AW.seq ?_
  refine AW.region (noH) (RPre.of (X := True) (by kernel_rfl) trivial) ?_
  refine thenN ?_
  refine AW.seq ?_
  refine AW.region (vec [.dead, .clo 109 0 (vec []) 2 (vec [.elp 1 (vec [.clo 117 0 (vec []) 3 (vec [.elp 1 (vec [iv (t)]), .elp 1 (vec [iv (0)]), .elp 1 (vec [iv (1000)])])]), .elp 1 (vec [iv (2)])])]) (RPre.of (X := (PC Try.prog 89 [iv (t), iv (0), iv (1000)] (.clo 109 0 (vec []) 2 (vec [.elp 1 (vec [.clo 117 0 (vec []) 3 (vec [.elp 1 (vec [iv (t)]), .elp 1 (vec [iv (0)]), .elp 1 (vec [iv (1000)])])]), .elp 1 (vec [iv (2)])])))) (by kernel_rfl) (range_pc _ _ _)) ?_
  refine thenN ?_
  refine AW.ret ?_
  refine retN (.clo 109 0 (vec []) 2 (vec [.elp 1 (vec [.clo 117 0 (vec []) 3 (vec [.elp 1 (vec [iv (t)]), .elp 1 (vec [iv (0)]), .elp 1 (vec [iv (1000)])])]), .elp 1 (vec [iv (2)])])) (by kernel_rfl) ?_
  exact AV.le.refl _
set_option maxRecDepth 100000 in
theorem distancesCheck_pc (a b : Int) : PC Try.prog 83 [.agg 2 (vec [iv (a), iv (b)])] (.clo 107 0 (vec []) 3 (vec [.elp 2 (vec [iv (a), iv (b)]), .elp 1 (vec [iv (-100000)]), .elp 1 (vec [iv (100000)])])) := by
  refine PC.intro Try.func83 (by kernel_rfl) rfl (by kernel_rfl) fun S0 w0 => ?_
  refine AW.seq ?_
  refine AW.region (noH) (RPre.of (X := True) (by kernel_rfl) trivial) ?_
  refine thenN ?_
  refine AW.seq ?_
  refine AW.region (vec [.dead, .clo 107 0 (vec []) 3 (vec [.elp 2 (vec [iv (a), iv (b)]), .elp 1 (vec [iv (-100000)]), .elp 1 (vec [iv (100000)])])]) (RPre.of (X := (PC Try.prog 74 [.agg 2 (vec [iv (a), iv (b)]), iv (-100000), iv (100000)] (.clo 107 0 (vec []) 3 (vec [.elp 2 (vec [iv (a), iv (b)]), .elp 1 (vec [iv (-100000)]), .elp 1 (vec [iv (100000)])])))) (by kernel_rfl) (ends_pc _ _ _ _)) ?_
  refine thenN ?_
  refine AW.ret ?_
  refine retN (.clo 107 0 (vec []) 3 (vec [.elp 2 (vec [iv (a), iv (b)]), .elp 1 (vec [iv (-100000)]), .elp 1 (vec [iv (100000)])])) (by kernel_rfl) ?_
  exact AV.le.refl _
set_option maxRecDepth 100000 in
theorem cm1_pc (q : Nat → Int) : PC Try.prog 81 [.elp 5 (vec [iv (q 0), iv (q 1), iv (q 2), iv (q 3), iv (q 4)])] (bv (decide (0 ≤ q 0 ∧ q 0 ≤ 1))) := by
  refine PC.intro Try.func81 (by kernel_rfl) rfl (by kernel_rfl) fun S0 w0 => ?_
  refine AW.seq ?_
  refine AW.region (noH) (RPre.of (X := True) (by kernel_rfl) trivial) ?_
  refine thenN ?_
  refine AW.seq ?_
  refine AW.region (vec [.dead, .dead, bv (decide (0 ≤ q 0 ∧ q 0 ≤ 1))]) (RPre.of (X := (PC Try.prog 82 [iv (q 0), iv (0), iv (1)] (bv (decide (0 ≤ q 0 ∧ q 0 ≤ 1))))) (by kernel_rfl) (nwithin_pc _ _ _)) ?_
  refine thenN ?_
  refine AW.ret ?_
  refine retN (bv (decide (0 ≤ q 0 ∧ q 0 ≤ 1))) (by kernel_rfl) ?_
  exact AV.le.refl _
set_option maxRecDepth 100000 in
theorem cm2_pc (q : Nat → Int) : PC Try.prog 84 [.elp 5 (vec [iv (q 0), iv (q 1), iv (q 2), iv (q 3), iv (q 4)])] (bv (bif ((q 0) != 0) then true else ((q 1) == 0))) := by
  refine PC.intro Try.func84 (by kernel_rfl) rfl (by kernel_rfl) fun S0 w0 => ?_
  refine AW.seq ?_
  refine AW.region (noH) (RPre.of (X := True) (by kernel_rfl) trivial) ?_
  refine thenN ?_
  refine AW.seq ?_
  refine AW.region (noH) (RPre.of (X := ((gc ((q 0) != 0) false) = true → ((gc ((q 0) != 0) false) = true)) ∧ ((gc ((q 0) != 0) false) = true → ((gc ((q 0) != 0) false) = true)) ∧ (((q 0) != 0) = false → (gc ((q 0) != 0) false) = true)) (by kernel_rfl) ⟨fun hg => (by simp_all [gc]), fun hg => (by simp_all [gc]), (fun h => by simp [gc, h])⟩) ?_
  refine thenN ?_
  refine AW.ret ?_
  refine retN (bv (bif ((q 0) != 0) then true else ((q 1) == 0))) (by kernel_rfl) ?_
  exact AV.le.refl _
set_option maxRecDepth 100000 in
theorem cm3_pc (q : Nat → Int) : PC Try.prog 85 [.elp 5 (vec [iv (q 0), iv (q 1), iv (q 2), iv (q 3), iv (q 4)])] (bv (bif ((q 0) != 1) then true else (decide ((q 1) < (q 2))))) := by
  refine PC.intro Try.func85 (by kernel_rfl) rfl (by kernel_rfl) fun S0 w0 => ?_
  refine AW.seq ?_
  refine AW.region (noH) (RPre.of (X := True) (by kernel_rfl) trivial) ?_
  refine thenN ?_
  refine AW.seq ?_
  refine AW.region (noH) (RPre.of (X := ((gc ((q 0) != 1) false) = true → ((gc ((q 0) != 1) false) = true)) ∧ ((gc ((q 0) != 1) false) = true → ((gc ((q 0) != 1) false) = true)) ∧ ((gc ((q 0) != 1) false) = true → ((gc ((q 0) != 1) false) = true) ∧ ((gc ((q 0) != 1) false) = true)) ∧ (((q 0) != 1) = false → (gc ((q 0) != 1) false) = true)) (by kernel_rfl) ⟨fun hg => (by simp_all [gc]), fun hg => (by simp_all [gc]), fun hg => ⟨(by simp_all [gc]), (by simp_all [gc])⟩, (fun h => by simp [gc, h])⟩) ?_
  refine thenN ?_
  refine AW.ret ?_
  refine retN (bv (bif ((q 0) != 1) then true else (decide ((q 1) < (q 2))))) (by kernel_rfl) ?_
  exact AV.le.refl _
set_option maxRecDepth 100000 in
theorem checkMeasurement_pc (q : Nat → Int) : PC Try.prog 51 [zv 5 q] (iv (feL [bif (decide (0 ≤ q 0 ∧ q 0 ≤ 1)) then 0 else 15, bif (decide (0 ≤ q 1 ∧ q 1 ≤ 1000)) then 0 else 2, bif (decide (0 ≤ q 2 ∧ q 2 ≤ 1000)) then 0 else 2, feL [bif (decide (-100000 ≤ q 3 ∧ q 3 ≤ 100000)) then 0 else 2, bif (decide (-100000 ≤ q 4 ∧ q 4 ≤ 100000)) then 0 else 2], bif (bif ((q 0) != 0) then true else ((q 1) == 0)) then 0 else 3, bif (bif ((q 0) != 1) then true else (decide ((q 1) < (q 2)))) then 0 else 9, bif (decide ((q 3) ≤ (q 4))) then 0 else 9])) := by
  refine PC.intro Try.func51 (by kernel_rfl) rfl (by kernel_rfl) fun S0 w0 => ?_
  refine AW.seq ?_
  refine AW.region (noH) (RPre.of (X := True) (by kernel_rfl) trivial) ?_
  refine thenN ?_
  refine AW.seq ?_
  refine AW.frzd 1 ?_
  refine AW.draw (by kernel_rfl) (vec [.dead, .clo 109 0 (vec []) 2 (vec [.elp 1 (vec [.clo 81 0 (vec []) 1 (vec [.elp 5 (vec [iv (q 0), iv (q 1), iv (q 2), iv (q 3), iv (q 4)])])]), .elp 1 (vec [iv (15)])]), .dead, .dead, .clo 109 0 (vec []) 2 (vec [.elp 1 (vec [.clo 117 0 (vec []) 3 (vec [.elp 1 (vec [iv (q 1)]), .elp 1 (vec [iv (0)]), .elp 1 (vec [iv (1000)])])]), .elp 1 (vec [iv (2)])]), .dead, .dead, .clo 109 0 (vec []) 2 (vec [.elp 1 (vec [.clo 117 0 (vec []) 3 (vec [.elp 1 (vec [iv (q 2)]), .elp 1 (vec [iv (0)]), .elp 1 (vec [iv (1000)])])]), .elp 1 (vec [iv (2)])]), .dead, .dead, .clo 107 0 (vec []) 3 (vec [.elp 2 (vec [iv (q 3), iv (q 4)]), .elp 1 (vec [iv (-100000)]), .elp 1 (vec [iv (100000)])]), .dead, .clo 109 0 (vec []) 2 (vec [.elp 1 (vec [.clo 84 0 (vec []) 1 (vec [.elp 5 (vec [iv (q 0), iv (q 1), iv (q 2), iv (q 3), iv (q 4)])])]), .elp 1 (vec [iv (3)])]), .dead, .clo 109 0 (vec []) 2 (vec [.elp 1 (vec [.clo 85 0 (vec []) 1 (vec [.elp 5 (vec [iv (q 0), iv (q 1), iv (q 2), iv (q 3), iv (q 4)])])]), .elp 1 (vec [iv (9)])]), .dead, .dead, .clo 109 0 (vec []) 2 (vec [.elp 1 (vec [.clo 108 0 (vec []) 1 (vec [.elp 2 (vec [iv (q 3), iv (q 4)])])]), .elp 1 (vec [iv (9)])]), .dead, iv (feL [bif (decide (0 ≤ q 0 ∧ q 0 ≤ 1)) then 0 else 15, bif (decide (0 ≤ q 1 ∧ q 1 ≤ 1000)) then 0 else 2, bif (decide (0 ≤ q 2 ∧ q 2 ≤ 1000)) then 0 else 2, feL [bif (decide (-100000 ≤ q 3 ∧ q 3 ≤ 100000)) then 0 else 2, bif (decide (-100000 ≤ q 4 ∧ q 4 ≤ 100000)) then 0 else 2], bif (bif ((q 0) != 0) then true else ((q 1) == 0)) then 0 else 3, bif (bif ((q 0) != 1) then true else (decide ((q 1) < (q 2)))) then 0 else 9, bif (decide ((q 3) ≤ (q 4))) then 0 else 9])]) (by kernel_rfl) (RPre.of (X := (PC Try.prog 76 [iv (15), .clo 81 0 (vec []) 1 (vec [.elp 5 (vec [iv (q 0), iv (q 1), iv (q 2), iv (q 3), iv (q 4)])])] (.clo 109 0 (vec []) 2 (vec [.elp 1 (vec [.clo 81 0 (vec []) 1 (vec [.elp 5 (vec [iv (q 0), iv (q 1), iv (q 2), iv (q 3), iv (q 4)])])]), .elp 1 (vec [iv (15)])]))) ∧ (PC Try.prog 56 [iv (q 1)] (.clo 109 0 (vec []) 2 (vec [.elp 1 (vec [.clo 117 0 (vec []) 3 (vec [.elp 1 (vec [iv (q 1)]), .elp 1 (vec [iv (0)]), .elp 1 (vec [iv (1000)])])]), .elp 1 (vec [iv (2)])]))) ∧ (PC Try.prog 56 [iv (q 2)] (.clo 109 0 (vec []) 2 (vec [.elp 1 (vec [.clo 117 0 (vec []) 3 (vec [.elp 1 (vec [iv (q 2)]), .elp 1 (vec [iv (0)]), .elp 1 (vec [iv (1000)])])]), .elp 1 (vec [iv (2)])]))) ∧ (PC Try.prog 83 [.agg 2 (vec [iv (q 3), iv (q 4)])] (.clo 107 0 (vec []) 3 (vec [.elp 2 (vec [iv (q 3), iv (q 4)]), .elp 1 (vec [iv (-100000)]), .elp 1 (vec [iv (100000)])]))) ∧ (PC Try.prog 76 [iv (3), .clo 84 0 (vec []) 1 (vec [.elp 5 (vec [iv (q 0), iv (q 1), iv (q 2), iv (q 3), iv (q 4)])])] (.clo 109 0 (vec []) 2 (vec [.elp 1 (vec [.clo 84 0 (vec []) 1 (vec [.elp 5 (vec [iv (q 0), iv (q 1), iv (q 2), iv (q 3), iv (q 4)])])]), .elp 1 (vec [iv (3)])]))) ∧ (PC Try.prog 76 [iv (9), .clo 85 0 (vec []) 1 (vec [.elp 5 (vec [iv (q 0), iv (q 1), iv (q 2), iv (q 3), iv (q 4)])])] (.clo 109 0 (vec []) 2 (vec [.elp 1 (vec [.clo 85 0 (vec []) 1 (vec [.elp 5 (vec [iv (q 0), iv (q 1), iv (q 2), iv (q 3), iv (q 4)])])]), .elp 1 (vec [iv (9)])]))) ∧ (PC Try.prog 75 [.agg 2 (vec [iv (q 3), iv (q 4)])] (.clo 109 0 (vec []) 2 (vec [.elp 1 (vec [.clo 108 0 (vec []) 1 (vec [.elp 2 (vec [iv (q 3), iv (q 4)])])]), .elp 1 (vec [iv (9)])]))) ∧ (PC Try.prog 54 [.sl 1 (7) (fun k j => vec [.clo 109 0 (vec []) 2 (vec [.elp 1 (vec [.clo 81 0 (vec []) 1 (vec [.elp 5 (vec [iv (q 0), iv (q 1), iv (q 2), iv (q 3), iv (q 4)])])]), .elp 1 (vec [iv (15)])]), .clo 109 0 (vec []) 2 (vec [.elp 1 (vec [.clo 117 0 (vec []) 3 (vec [.elp 1 (vec [iv (q 1)]), .elp 1 (vec [iv (0)]), .elp 1 (vec [iv (1000)])])]), .elp 1 (vec [iv (2)])]), .clo 109 0 (vec []) 2 (vec [.elp 1 (vec [.clo 117 0 (vec []) 3 (vec [.elp 1 (vec [iv (q 2)]), .elp 1 (vec [iv (0)]), .elp 1 (vec [iv (1000)])])]), .elp 1 (vec [iv (2)])]), .clo 107 0 (vec []) 3 (vec [.elp 2 (vec [iv (q 3), iv (q 4)]), .elp 1 (vec [iv (-100000)]), .elp 1 (vec [iv (100000)])]), .clo 109 0 (vec []) 2 (vec [.elp 1 (vec [.clo 84 0 (vec []) 1 (vec [.elp 5 (vec [iv (q 0), iv (q 1), iv (q 2), iv (q 3), iv (q 4)])])]), .elp 1 (vec [iv (3)])]), .clo 109 0 (vec []) 2 (vec [.elp 1 (vec [.clo 85 0 (vec []) 1 (vec [.elp 5 (vec [iv (q 0), iv (q 1), iv (q 2), iv (q 3), iv (q 4)])])]), .elp 1 (vec [iv (9)])]), .clo 109 0 (vec []) 2 (vec [.elp 1 (vec [.clo 108 0 (vec []) 1 (vec [.elp 2 (vec [iv (q 3), iv (q 4)])])]), .elp 1 (vec [iv (9)])])] (k * 1 + j))] (iv (feL [bif (decide (0 ≤ q 0 ∧ q 0 ≤ 1)) then 0 else 15, bif (decide (0 ≤ q 1 ∧ q 1 ≤ 1000)) then 0 else 2, bif (decide (0 ≤ q 2 ∧ q 2 ≤ 1000)) then 0 else 2, feL [bif (decide (-100000 ≤ q 3 ∧ q 3 ≤ 100000)) then 0 else 2, bif (decide (-100000 ≤ q 4 ∧ q 4 ≤ 100000)) then 0 else 2], bif (bif ((q 0) != 0) then true else ((q 1) == 0)) then 0 else 3, bif (bif ((q 0) != 1) then true else (decide ((q 1) < (q 2)))) then 0 else 9, bif (decide ((q 3) ≤ (q 4))) then 0 else 9])))) (by kernel_rfl) ⟨require_pc _ _ _ _ _ _, timeCheck_pc _, timeCheck_pc _, distancesCheck_pc _ _, require_pc _ _ _ _ _ _, require_pc _ _ _ _ _ _, ordered_pc _ _, firstL_pc [.clo 109 0 (vec []) 2 (vec [.elp 1 (vec [.clo 81 0 (vec []) 1 (vec [.elp 5 (vec [iv (q 0), iv (q 1), iv (q 2), iv (q 3), iv (q 4)])])]), .elp 1 (vec [iv (15)])]), .clo 109 0 (vec []) 2 (vec [.elp 1 (vec [.clo 117 0 (vec []) 3 (vec [.elp 1 (vec [iv (q 1)]), .elp 1 (vec [iv (0)]), .elp 1 (vec [iv (1000)])])]), .elp 1 (vec [iv (2)])]), .clo 109 0 (vec []) 2 (vec [.elp 1 (vec [.clo 117 0 (vec []) 3 (vec [.elp 1 (vec [iv (q 2)]), .elp 1 (vec [iv (0)]), .elp 1 (vec [iv (1000)])])]), .elp 1 (vec [iv (2)])]), .clo 107 0 (vec []) 3 (vec [.elp 2 (vec [iv (q 3), iv (q 4)]), .elp 1 (vec [iv (-100000)]), .elp 1 (vec [iv (100000)])]), .clo 109 0 (vec []) 2 (vec [.elp 1 (vec [.clo 84 0 (vec []) 1 (vec [.elp 5 (vec [iv (q 0), iv (q 1), iv (q 2), iv (q 3), iv (q 4)])])]), .elp 1 (vec [iv (3)])]), .clo 109 0 (vec []) 2 (vec [.elp 1 (vec [.clo 85 0 (vec []) 1 (vec [.elp 5 (vec [iv (q 0), iv (q 1), iv (q 2), iv (q 3), iv (q 4)])])]), .elp 1 (vec [iv (9)])]), .clo 109 0 (vec []) 2 (vec [.elp 1 (vec [.clo 108 0 (vec []) 1 (vec [.elp 2 (vec [iv (q 3), iv (q 4)])])]), .elp 1 (vec [iv (9)])])] [bif (decide (0 ≤ q 0 ∧ q 0 ≤ 1)) then 0 else 15, bif (decide (0 ≤ q 1 ∧ q 1 ≤ 1000)) then 0 else 2, bif (decide (0 ≤ q 2 ∧ q 2 ≤ 1000)) then 0 else 2, feL [bif (decide (-100000 ≤ q 3 ∧ q 3 ≤ 100000)) then 0 else 2, bif (decide (-100000 ≤ q 4 ∧ q 4 ≤ 100000)) then 0 else 2], bif (bif ((q 0) != 0) then true else ((q 1) == 0)) then 0 else 3, bif (bif ((q 0) != 1) then true else (decide ((q 1) < (q 2)))) then 0 else 9, bif (decide ((q 3) ≤ (q 4))) then 0 else 9] (by simp) ⟨require1_pc _ _ _ _ _ _ _ (cm1_pc _), require1_pc _ _ _ _ _ _ _ (range1_pc _ _ _), require1_pc _ _ _ _ _ _ _ (range1_pc _ _ _), ends1_pc _ _ _ _, require1_pc _ _ _ _ _ _ _ (cm2_pc _), require1_pc _ _ _ _ _ _ _ (cm3_pc _), require1_pc _ _ _ _ _ _ _ (ordered1_pc _ _), trivial⟩⟩) ?_
  refine thenN ?_
  refine AW.ret ?_
  refine retN (iv (feL [bif (decide (0 ≤ q 0 ∧ q 0 ≤ 1)) then 0 else 15, bif (decide (0 ≤ q 1 ∧ q 1 ≤ 1000)) then 0 else 2, bif (decide (0 ≤ q 2 ∧ q 2 ≤ 1000)) then 0 else 2, feL [bif (decide (-100000 ≤ q 3 ∧ q 3 ≤ 100000)) then 0 else 2, bif (decide (-100000 ≤ q 4 ∧ q 4 ≤ 100000)) then 0 else 2], bif (bif ((q 0) != 0) then true else ((q 1) == 0)) then 0 else 3, bif (bif ((q 0) != 1) then true else (decide ((q 1) < (q 2)))) then 0 else 9, bif (decide ((q 3) ≤ (q 4))) then 0 else 9])) (by kernel_rfl) ?_
  exact AV.le.refl _
end Go.Proofs.Ytaemlmpcclfmdaa
