/- Helpers: no motion travels less than the one of the program, and of those that travel as much none is before it (no motion with the least travel has a step of a turn or more). -/
import Derived.Test.YtmhcmiajikffpaaB05
import Derived.Test.YtmhcmiajikffpaaB15
namespace Go.Proofs.Ytmhcmiajikffpaa
open Go.RowKit Go.Shelf Go.Sort
/-- A motion that is accepted. -/
def Mot (t lo hi st ra : Int) (n : Nat) (xs ys : Nat → Int) : Prop := ∀ i, i < n → (lo ≤ ys i ∧ ys i ≤ hi) ∧ t ∣ (ys i - xs i) ∧ siz (ys i - cbf st ys i) ≤ ra
theorem cbf_lo {t lo hi st ra : Int} {n : Nat} {xs ys : Nat → Int} (h : Mot t lo hi st ra n xs ys) (f1 : lo ≤ st) (f2 : st ≤ hi) (i : Nat) (hi' : i ≤ n) : lo ≤ cbf st ys i ∧ cbf st ys i ≤ hi := by
  cases i with
  | zero => exact ⟨f1, f2⟩
  | succ i => exact (h i (by omega)).1
/-- Positions that are lowered by a turn from one step on, up to another. -/
def lower (ys : Nat → Int) (t : Int) (i j : Nat) (l : Nat) : Int := if i ≤ l ∧ l < j then ys l - t else ys l
theorem cbf_lower (st : Int) (ys : Nat → Int) (t : Int) (i j l : Nat) : cbf st (lower ys t i j) l = if i < l ∧ l ≤ j then cbf st ys l - t else cbf st ys l := by
  cases l with
  | zero => rw [if_neg (by omega)]; rfl
  | succ l =>
    show lower ys t i j l = if i < l + 1 ∧ l + 1 ≤ j then ys l - t else ys l
    unfold lower
    by_cases h : i ≤ l ∧ l < j
    · rw [if_pos h, if_pos (by omega)]
    · rw [if_neg h, if_neg (by omega)]
theorem first_low (p : Nat → Prop) [DecidablePred p] (i : Nat) : ∀ n, i ≤ n → ∃ j, i ≤ j ∧ j ≤ n ∧ (∀ l, i ≤ l → l < j → ¬ p l) ∧ (j < n → p j)
  | 0, h => ⟨0, by omega, by omega, fun l h1 h2 => by omega, fun h => by omega⟩
  | n + 1, h => by
    by_cases hn : i = n + 1
    · exact ⟨n + 1, by omega, by omega, fun l h1 h2 => by omega, fun h => by omega⟩
    · obtain ⟨j, h1, h2, h3, h4⟩ := first_low p i n (by omega)
      by_cases hj : j < n
      · exact ⟨j, h1, by omega, h3, fun _ => h4 hj⟩
      · by_cases hp : p n
        · exact ⟨n, by omega, by omega, fun l q1 q2 => h3 l q1 (by omega), fun _ => hp⟩
        · refine ⟨n + 1, by omega, by omega, fun l q1 q2 => ?_, fun h => by omega⟩
          by_cases hl : l < j
          · exact h3 l q1 hl
          · rw [show l = n by omega]; exact hp
/-- A motion with a step upwards of a turn or more is not one with the least travel. -/
theorem no_up {t lo hi st ra : Int} {n : Nat} {xs ys : Nat → Int} (t1 : 1 ≤ t) (f1 : lo ≤ st) (f2 : st ≤ hi) (h : Mot t lo hi st ra n xs ys) {i : Nat} (hi' : i < n) (hup : t ≤ ys i - cbf st ys i) :
    ∃ zs, Mot t lo hi st ra n xs zs ∧ ctv st zs n < ctv st ys n := by
  obtain ⟨j, j1, j2, j3, j4⟩ := first_low (fun l => ys l < lo + t) (i + 1) n (by omega)
  have hlow : ∀ l, i ≤ l → l < j → lo + t ≤ ys l := by
    intro l h1 h2
    by_cases hl : l = i
    · subst hl
      have := (cbf_lo h f1 f2 l (by omega)).1
      omega
    · have := j3 l (by omega) h2
      omega
  -- the step into l
  have hstep : ∀ l, l < n → siz (lower ys t i j l - cbf st (lower ys t i j) l) ≤ siz (ys l - cbf st ys l) + (if l = j then 0 else 0) ∨ l = j := by
    intro l hl
    by_cases hj : l = j
    · exact .inr hj
    · left
      rw [cbf_lower]
      unfold lower
      by_cases h1 : i ≤ l ∧ l < j
      · rw [if_pos h1]
        by_cases h2 : i < l
        · rw [if_pos (by omega), if_neg hj]
          rw [show ys l - t - (cbf st ys l - t) = ys l - cbf st ys l by omega]
          omega
        · obtain rfl : l = i := by omega
          rw [if_neg (by omega), if_neg hj]
          unfold siz
          omega
      · rw [if_neg h1, if_neg (by omega), if_neg hj]
        omega
  have hlast : j < n → siz (lower ys t i j j - cbf st (lower ys t i j) j) ≤ ra ∧ siz (lower ys t i j j - cbf st (lower ys t i j) j) < siz (ys j - cbf st ys j) + t := by
    intro hj
    have hp := j4 hj
    have hr := (h i hi').2.2
    have hrj := (h j hj).2.2
    have hprev : lo + t ≤ cbf st ys j := by
      cases j with
      | zero => omega
      | succ j => exact hlow j (by omega) (by omega)
    rw [cbf_lower, if_pos (by omega)]
    unfold lower
    rw [if_neg (by omega)]
    unfold siz at *
    omega
  refine ⟨lower ys t i j, fun l hl => ?_, ?_⟩
  · obtain ⟨⟨a1, a2⟩, a3, a4⟩ := h l hl
    refine ⟨?_, ?_, ?_⟩
    · unfold lower
      by_cases h1 : i ≤ l ∧ l < j
      · rw [if_pos h1]
        have := hlow l h1.1 h1.2
        omega
      · rw [if_neg h1]; exact ⟨a1, a2⟩
    · unfold lower
      by_cases h1 : i ≤ l ∧ l < j
      · rw [if_pos h1]
        rw [show ys l - t - xs l = (ys l - xs l) - t by omega]
        exact Int.dvd_sub a3 (Int.dvd_refl t)
      · rw [if_neg h1]; exact a3
    · by_cases hj : l = j
      · subst hj; exact (hlast hl).1
      · rcases hstep l hl with q | q
        · rw [if_neg hj] at q; omega
        · exact absurd q hj
  · have key : ∀ l, l ≤ n → (l ≤ i → ctv st (lower ys t i j) l ≤ ctv st ys l) ∧ (i < l → l ≤ j → ctv st (lower ys t i j) l ≤ ctv st ys l - t) ∧ (j < l → ctv st (lower ys t i j) l < ctv st ys l) := by
      intro l
      induction l with
      | zero => intro _; exact ⟨fun _ => Int.le_refl _, fun h => by omega, fun h => by omega⟩
      | succ l ih =>
        intro hl
        obtain ⟨k1, k2, k3⟩ := ih (by omega)
        have hc1 : ctv st (lower ys t i j) (l + 1) = ctv st (lower ys t i j) l + siz (lower ys t i j l - cbf st (lower ys t i j) l) := rfl
        have hc2 : ctv st ys (l + 1) = ctv st ys l + siz (ys l - cbf st ys l) := rfl
        rw [hc1, hc2]
        have hs := hstep l (by omega)
        refine ⟨fun q => ?_, fun q1 q2 => ?_, fun q => ?_⟩
        · have := k1 (by omega)
          rcases hs with s | s
          · rw [if_neg (by omega)] at s; omega
          · omega
        · by_cases hli : l = i
          · subst hli
            have := k1 (Nat.le_refl _)
            have e1 : lower ys t l j l = ys l - t := by unfold lower; rw [if_pos (by omega)]
            rw [cbf_lower, if_neg (by omega), e1]
            unfold siz
            omega
          · have := k2 (by omega) (by omega)
            rcases hs with s | s
            · rw [if_neg (by omega)] at s; omega
            · omega
        · by_cases hlj : l = j
          · subst hlj
            have := k2 (by omega) (Nat.le_refl _)
            have := (hlast (by omega)).2
            omega
          · have := k3 (by omega)
            rcases hs with s | s
            · rw [if_neg hlj] at s; omega
            · omega
    obtain ⟨_, k2, k3⟩ := key n (Nat.le_refl _)
    by_cases hj : j < n
    · exact k3 hj
    · have := k2 (by omega) (by omega)
      omega

/-- The same, mirrored. -/
theorem siz_neg' (x : Int) : siz (-x) = siz x := by unfold siz; omega
theorem cbf_neg (st : Int) (ys : Nat → Int) (l : Nat) : cbf (-st) (fun i => -ys i) l = -cbf st ys l := by cases l <;> rfl
theorem ctv_neg (st : Int) (ys : Nat → Int) (l : Nat) : ctv (-st) (fun i => -ys i) l = ctv st ys l := by
  induction l with
  | zero => rfl
  | succ l ih =>
    show ctv (-st) (fun i => -ys i) l + siz (-ys l - cbf (-st) (fun i => -ys i) l) = ctv st ys l + siz (ys l - cbf st ys l)
    rw [ih, cbf_neg, show -ys l - -cbf st ys l = -(ys l - cbf st ys l) by omega, siz_neg']
theorem Mot.neg {t lo hi st ra : Int} {n : Nat} {xs ys : Nat → Int} (h : Mot t lo hi st ra n xs ys) : Mot t (-hi) (-lo) (-st) ra n (fun i => -xs i) (fun i => -ys i) := fun i hi' => by
  obtain ⟨⟨a1, a2⟩, a3, a4⟩ := h i hi'
  refine ⟨⟨show -hi ≤ -ys i by omega, show -ys i ≤ -lo by omega⟩, ?_, ?_⟩
  · show t ∣ (-ys i - -xs i)
    rw [show -ys i - -xs i = -(ys i - xs i) by omega]
    exact Int.dvd_neg.2 a3
  · show siz (-ys i - cbf (-st) (fun i => -ys i) i) ≤ ra
    rw [cbf_neg, show -ys i - -cbf st ys i = -(ys i - cbf st ys i) by omega, siz_neg']
    exact a4
theorem no_down {t lo hi st ra : Int} {n : Nat} {xs ys : Nat → Int} (t1 : 1 ≤ t) (f1 : lo ≤ st) (f2 : st ≤ hi) (h : Mot t lo hi st ra n xs ys) {i : Nat} (hi' : i < n) (hdn : ys i - cbf st ys i ≤ -t) :
    ∃ zs, Mot t lo hi st ra n xs zs ∧ ctv st zs n < ctv st ys n := by
  obtain ⟨zs, h1, h2⟩ := no_up t1 (by omega) (by omega) h.neg hi' (by rw [cbf_neg]; omega)
  have h3 := h1.neg
  simp only [Int.neg_neg] at h3
  have h4 := ctv_neg (-st) zs n
  rw [ctv_neg] at h2
  rw [Int.neg_neg] at h4
  exact ⟨fun i => -zs i, h3, by rw [h4]; exact h2⟩
theorem ctv_nn (st : Int) (ys : Nat → Int) (n : Nat) : 0 ≤ ctv st ys n := by
  induction n with
  | zero => exact Int.le_refl _
  | succ n ih =>
    show 0 ≤ ctv st ys n + siz (ys n - cbf st ys n)
    have : 0 ≤ siz (ys n - cbf st ys n) := by unfold siz; omega
    omega
/-- If any motion is accepted, there is one with the least travel. -/
theorem least_mot {t lo hi st ra : Int} {n : Nat} {xs ys : Nat → Int} (h : Mot t lo hi st ra n xs ys) : ∃ zs, Mot t lo hi st ra n xs zs ∧ ctv st zs n ≤ ctv st ys n ∧ ∀ us, Mot t lo hi st ra n xs us → ctv st zs n ≤ ctv st us n := by
  obtain ⟨k, hk⟩ : ∃ k : Nat, ctv st ys n = (k : Int) := ⟨(ctv st ys n).toNat, by have := ctv_nn st ys n; omega⟩
  induction k using Nat.strongRecOn generalizing ys with
  | _ k ih =>
    by_cases hm : ∀ us, Mot t lo hi st ra n xs us → ctv st ys n ≤ ctv st us n
    · exact ⟨ys, h, Int.le_refl _, hm⟩
    · obtain ⟨us, hu⟩ := Classical.not_forall.1 hm
      obtain ⟨hu1, hu2⟩ := Classical.not_imp.1 hu
      have h0 := ctv_nn st us n
      obtain ⟨zs, q1, q2, q3⟩ := ih (ctv st us n).toNat (by omega) hu1 (by omega)
      exact ⟨zs, q1, by omega, q3⟩
/-- The steps of a motion with the least travel are less than a turn. -/
theorem least_steps {t lo hi st ra : Int} {n : Nat} {xs ys : Nat → Int} (t1 : 1 ≤ t) (f1 : lo ≤ st) (f2 : st ≤ hi) (h : Mot t lo hi st ra n xs ys) (hm : ∀ us, Mot t lo hi st ra n xs us → ctv st ys n ≤ ctv st us n) (i : Nat) (hi' : i < n) : -t < ys i - cbf st ys i ∧ ys i - cbf st ys i < t := by
  refine ⟨?_, ?_⟩
  · rcases Int.lt_or_le (-t) (ys i - cbf st ys i) with q | q
    · exact q
    · obtain ⟨zs, h1, h2⟩ := no_down t1 f1 f2 h hi' q
      have := hm zs h1
      omega
  · rcases Int.lt_or_le (ys i - cbf st ys i) t with q | q
    · exact q
    · obtain ⟨zs, h1, h2⟩ := no_up t1 f1 f2 h hi' q
      have := hm zs h1
      omega
theorem mr_nn {ra fr : Int} {a r : Nat → Int} {n : Nat} (h : ∀ k, k < n → -1 ≤ r k) : -1 ≤ mr ra fr a r n := by
  induction n with
  | zero => simp [mr]
  | succ n ih =>
    have i1 := ih (fun k hk => h k (by omega))
    have i2 : -1 ≤ tv ra fr (a n) (r n) := by
      have := siz_nn (a n - fr)
      have := h n (by omega)
      unfold tv
      split <;> omega
    simp only [mr, mrStep]
    split <;> omega
theorem rst_nn {ra : Int} {n : Nat} {kk : Nat → Nat} {a : Nat → Nat → Int} : ∀ (d j : Nat), -1 ≤ rst ra n kk a d j
  | 0, j => by simp [rst]
  | d + 1, j => mr_nn fun k _ => rst_nn d k
theorem rest_nn {ra : Int} {n : Nat} {kk : Nat → Nat} {a : Nat → Nat → Int} (i j : Nat) : -1 ≤ RE ra n kk a i j := rst_nn _ _
theorem mr_le {ra fr : Int} {a r : Nat → Int} {n j : Nat} (hj : j < n) (h : tv ra fr (a j) (r j) ≠ -1) : mr ra fr a r n ≠ -1 ∧ mr ra fr a r n ≤ tv ra fr (a j) (r j) := by
  induction n with
  | zero => omega
  | succ n ih =>
    by_cases hc : tv ra fr (a n) (r n) ≠ -1 ∧ (mr ra fr a r n = -1 ∨ tv ra fr (a n) (r n) < mr ra fr a r n)
    · have e : mr ra fr a r (n + 1) = tv ra fr (a n) (r n) := by simp only [mr]; exact mrStep_t hc.1 hc.2
      rw [e]
      refine ⟨hc.1, ?_⟩
      by_cases hjn : j = n
      · rw [hjn]; exact Int.le_refl _
      · obtain ⟨q1, q2⟩ := ih (by omega)
        rcases hc.2 with q | q
        · exact absurd q q1
        · omega
    · have e : mr ra fr a r (n + 1) = mr ra fr a r n := by simp only [mr]; exact mrStep_f hc
      rw [e]
      by_cases hjn : j = n
      · subst hjn
        by_cases h1 : mr ra fr a r j = -1
        · exact absurd ⟨h, .inl h1⟩ hc
        · refine ⟨h1, ?_⟩
          rcases Int.lt_or_le (tv ra fr (a j) (r j)) (mr ra fr a r j) with q | q
          · exact absurd ⟨h, .inr q⟩ hc
          · exact q
      · exact ih (by omega)
theorem tv_of {ra fr a r : Int} (h1 : siz (a - fr) ≤ ra) (h2 : r ≠ -1) : tv ra fr a r = siz (a - fr) + r := by
  unfold tv
  rw [if_neg (by omega)]
theorem tv_inv {ra fr a r : Int} (h : tv ra fr a r ≠ -1) : siz (a - fr) ≤ ra ∧ r ≠ -1 ∧ tv ra fr a r = siz (a - fr) + r := by
  unfold tv at h ⊢
  by_cases hc : ra < siz (a - fr) ∨ r = -1
  · rw [if_pos hc] at h; exact absurd rfl h
  · rw [if_neg hc]
    exact ⟨by omega, fun e => hc (.inr e), rfl⟩
/-- A position less than a turn away from a row's stops is a stop of the next row. -/
theorem next_has {t lo hi tg F p y : Int} {k : Nat} (t1 : 1 ≤ t) (hk : 0 < k) (p1 : F ≤ p) (p2 : p ≤ F + t * ((k - 1 : Nat) : Int)) (y1 : lo ≤ y) (y2 : y ≤ hi) (hd : t ∣ (y - tg)) (s1 : -t < y - p) (s2 : y - p < t) :
    ∃ j, j < (nextRow t lo hi tg (F, k)).2 ∧ y = (nextRow t lo hi tg (F, k)).1 + t * (j : Int) := by
  obtain ⟨q, hq⟩ := hd
  unfold nextRow
  simp only
  rw [if_neg (by omega)]
  simp only
  have hM : max lo (F - t) ≤ y := by omega
  have hH : y ≤ min hi (F + t * ((k - 1 : Nat) : Int) + t) := by omega
  generalize max lo (F - t) = M at *
  generalize min hi (F + t * ((k - 1 : Nat) : Int) + t) = H at *
  obtain ⟨n1, n2⟩ := next_on t (M - tg) t1
  unfold firstAt
  generalize hc : -(-(M - tg) / t) = c at *
  -- y = tg + t * q with c ≤ q
  have hcq : c ≤ q := by
    rcases Int.lt_or_le q c with h | h
    · exfalso
      have : t * (q + 1) ≤ t * c := Int.mul_le_mul_of_nonneg_left (by omega) (by omega)
      rw [Int.mul_add, Int.mul_one] at this
      omega
    · exact h
  refine ⟨(q - c).toNat, ?_, ?_⟩
  · unfold cnt
    have e : t * q = t * c + t * (q - c) := by rw [← Int.mul_add]; congr 1; omega
    have e2 : 0 ≤ t * (q - c) := Int.mul_nonneg (by omega) (by omega)
    rw [if_neg (by omega)]
    have : q - c ≤ (H - (tg + t * c)) / t := (Int.le_ediv_iff_mul_le (by omega)).2 (by rw [Int.mul_comm]; omega)
    omega
  · have e : t * q = t * c + t * (q - c) := by rw [← Int.mul_add]; congr 1; omega
    have e2 : (((q - c).toNat : Nat) : Int) = q - c := by omega
    rw [e2]
    omega
/-- The positions of a motion whose steps are less than a turn are stops of the rows. -/
theorem in_rows {t lo hi st ra : Int} {n : Nat} {xs ys : Nat → Int} (t1 : 1 ≤ t) (h : Mot t lo hi st ra n xs ys) (hs : ∀ i, i < n → -t < ys i - cbf st ys i ∧ ys i - cbf st ys i < t) (i : Nat) (hi' : i < n) :
    ∃ j, j < kkF t lo hi st xs i ∧ ys i = aF t lo hi st xs i j := by
  have key : ∀ i, i ≤ n → 0 < (rowBefore t lo hi st xs i).2 ∧ ∃ j, j < (rowBefore t lo hi st xs i).2 ∧ cbf st ys i = (rowBefore t lo hi st xs i).1 + t * (j : Int) := by
    intro i
    induction i with
    | zero => intro _; exact ⟨by show 0 < 1; omega, 0, by show 0 < 1; omega, by show st = st + t * ((0 : Nat) : Int); simp⟩
    | succ i ih =>
      intro hin
      obtain ⟨hk, j, hj, hc⟩ := ih (by omega)
      obtain ⟨⟨a1, a2⟩, a3, _⟩ := h i (by omega)
      obtain ⟨s1, s2⟩ := hs i (by omega)
      have e : rowBefore t lo hi st xs i = ((rowBefore t lo hi st xs i).1, (rowBefore t lo hi st xs i).2) := rfl
      have m1 : 0 ≤ t * (j : Int) := Int.mul_nonneg (by omega) (by omega)
      have m2 : t * (j : Int) ≤ t * (((rowBefore t lo hi st xs i).2 - 1 : Nat) : Int) := Int.mul_le_mul_of_nonneg_left (by omega) (by omega)
      obtain ⟨j', h1, h2⟩ := next_has (F := (rowBefore t lo hi st xs i).1) (k := (rowBefore t lo hi st xs i).2) (p := cbf st ys i) (y := ys i) (tg := xs i) t1 hk (by omega) (by omega) a1 a2 a3 s1 s2
      show 0 < (nextRow t lo hi (xs i) (rowBefore t lo hi st xs i)).2 ∧ _
      exact ⟨by rw [e]; omega, j', h1, h2⟩
  obtain ⟨_, j, h1, h2⟩ := key (i + 1) (by omega)
  exact ⟨j, h1, h2⟩
/-- What is left to travel is at most what a motion through the rows travels. -/
theorem rest_le {ra st : Int} {n : Nat} {kk : Nat → Nat} {a : Nat → Nat → Int} {ys : Nat → Int} {js : Nat → Nat} (hj : ∀ i, i < n → js i < kk i ∧ ys i = a i (js i)) (hr : ∀ i, i < n → siz (ys i - cbf st ys i) ≤ ra) :
    ∀ d i, i + d + 1 = n → RE ra n kk a i (js i) ≠ -1 ∧ RE ra n kk a i (js i) ≤ ctv st ys n - ctv st ys (i + 1)
  | 0, i, h => by
    rw [RE_last ra kk a (by omega) (js i), show i + 1 = n by omega]
    omega
  | d + 1, i, h => by
    obtain ⟨h1, h2⟩ := rest_le hj hr d (i + 1) (by omega)
    rw [RE_step ra kk a (by omega) (js i)]
    have hy : ys (i + 1) = a (i + 1) (js (i + 1)) := (hj (i + 1) (by omega)).2
    have hy0 : ys i = a i (js i) := (hj i (by omega)).2
    have hs : siz (a (i + 1) (js (i + 1)) - a i (js i)) ≤ ra := by
      have := hr (i + 1) (by omega)
      rw [← hy, ← hy0]; exact this
    have ht := tv_of hs h1
    obtain ⟨q1, q2⟩ := mr_le (ra := ra) (fr := a i (js i)) (a := a (i + 1)) (r := RE ra n kk a (i + 1)) (hj (i + 1) (by omega)).1 (by rw [ht]; have := siz_nn (a (i + 1) (js (i + 1)) - a i (js i)); have := rest_nn (ra := ra) (n := n) (kk := kk) (a := a) (i + 1) (js (i + 1)); omega)
    refine ⟨q1, ?_⟩
    have hc : ctv st ys (i + 1 + 1) = ctv st ys (i + 1) + siz (ys (i + 1) - ys i) := rfl
    rw [hc, hy, hy0] at h2
    omega
/-- Going on to the next stop each time travels what was left. -/
theorem greedy {ra st m0 : Int} {n : Nat} {kk : Nat → Nat} {a : Nat → Nat → Int} (hn : 0 < n) (h0 : mr ra st (a 0) (RE ra n kk a 0) (kk 0) = m0) (hm : m0 ≠ -1) :
    ∀ i, i < n → mok ra st kk a (RE ra n kk a) i ∧ mtrv ra st kk a (RE ra n kk a) i + mr ra (mpos ra st kk a (RE ra n kk a) i) (a i) (RE ra n kk a i) (kk i) = m0 ∧
      mtrv ra st kk a (RE ra n kk a) (i + 1) + RE ra n kk a i (nxt ra (mpos ra st kk a (RE ra n kk a) i) (a i) (RE ra n kk a i) (kk i)) = m0
  | 0, _ => by
    have hk : mok ra st kk a (RE ra n kk a) 0 := by show mr ra st (a 0) (RE ra n kk a 0) (kk 0) ≠ -1; rw [h0]; exact hm
    obtain ⟨s1, _, s3⟩ := nxt_spec hk
    obtain ⟨v1, v2, v3⟩ := tv_inv (show tv ra _ _ _ ≠ -1 by rw [s3]; exact hk)
    have e : mr ra (mpos ra st kk a (RE ra n kk a) 0) (a 0) (RE ra n kk a 0) (kk 0) = m0 := h0
    have ec : mtrv ra st kk a (RE ra n kk a) 0 = 0 := rfl
    have e1 : mtrv ra st kk a (RE ra n kk a) (0 + 1) = mtrv ra st kk a (RE ra n kk a) 0 + siz (a 0 (nxt ra (mpos ra st kk a (RE ra n kk a) 0) (a 0) (RE ra n kk a 0) (kk 0)) - mpos ra st kk a (RE ra n kk a) 0) := rfl
    exact ⟨hk, by omega, by rw [e1]; omega⟩
  | i + 1, hi => by
    obtain ⟨g1, g2, g3⟩ := greedy hn h0 hm i (by omega)
    obtain ⟨s1, _, s3⟩ := nxt_spec g1
    obtain ⟨v1, v2, v3⟩ := tv_inv (show tv ra _ _ _ ≠ -1 by rw [s3]; exact g1)
    have ep : mpos ra st kk a (RE ra n kk a) (i + 1) = a i (nxt ra (mpos ra st kk a (RE ra n kk a) i) (a i) (RE ra n kk a i) (kk i)) := rfl
    have er := RE_step ra kk a (show i + 1 < n from hi) (nxt ra (mpos ra st kk a (RE ra n kk a) i) (a i) (RE ra n kk a i) (kk i))
    rw [← ep] at er
    have hk : mok ra st kk a (RE ra n kk a) (i + 1) := by show mr _ _ _ _ _ ≠ -1; rw [← er]; exact v2
    obtain ⟨r1, _, r3⟩ := nxt_spec hk
    obtain ⟨u1, u2, u3⟩ := tv_inv (show tv ra _ _ _ ≠ -1 by rw [r3]; exact hk)
    have e1 : mtrv ra st kk a (RE ra n kk a) (i + 1 + 1) = mtrv ra st kk a (RE ra n kk a) (i + 1) + siz (a (i + 1) (nxt ra (mpos ra st kk a (RE ra n kk a) (i + 1)) (a (i + 1)) (RE ra n kk a (i + 1)) (kk (i + 1))) - mpos ra st kk a (RE ra n kk a) (i + 1)) := rfl
    rw [er] at g3
    exact ⟨hk, g3, by rw [e1]; omega⟩
theorem greedy_end {ra st m0 : Int} {n : Nat} {kk : Nat → Nat} {a : Nat → Nat → Int} (hn : 0 < n) (h0 : mr ra st (a 0) (RE ra n kk a 0) (kk 0) = m0) (hm : m0 ≠ -1) : mtrv ra st kk a (RE ra n kk a) n = m0 := by
  obtain ⟨i, rfl⟩ : ∃ i, n = i + 1 := ⟨n - 1, by omega⟩
  have := (greedy hn h0 hm i (by omega)).2.2
  rw [RE_last ra kk a (by omega)] at this
  omega
/-- The motion of the program, as positions. -/
def pL (t lo hi st ra : Int) (n : Nat) (xs : Nat → Int) (i : Nat) : Int := pPos t lo hi st ra n xs (i + 1)
theorem cbf_pL (t lo hi st ra : Int) (n : Nat) (xs : Nat → Int) (i : Nat) : cbf st (pL t lo hi st ra n xs) i = pPos t lo hi st ra n xs i := by cases i <;> rfl
theorem ctv_pL (t lo hi st ra : Int) (n : Nat) (xs : Nat → Int) (i : Nat) : ctv st (pL t lo hi st ra n xs) i = pTrv t lo hi st ra n xs i := by
  induction i with
  | zero => rfl
  | succ i ih =>
    show ctv st (pL t lo hi st ra n xs) i + siz (pL t lo hi st ra n xs i - cbf st (pL t lo hi st ra n xs) i) = _
    rw [ih, cbf_pL]
    rfl
theorem aF_dvd {t lo hi st : Int} {xs : Nat → Int} {i j : Nat} (hj : j < kkF t lo hi st xs i) : t ∣ (aF t lo hi st xs i j - xs i) := by
  unfold kkF at hj
  unfold aF
  have e : rowBefore t lo hi st xs (i + 1) = nextRow t lo hi (xs i) (rowBefore t lo hi st xs i) := rfl
  rw [e] at hj ⊢
  unfold nextRow at hj ⊢
  split
  · rename_i h; rw [if_pos h] at hj; exact absurd hj (by simp)
  · simp only
    unfold firstAt
    rw [show ∀ p q : Int, xs i + p + q - xs i = p + q by intro p q; omega, ← Int.mul_add]
    exact Int.dvd_mul_right _ _
theorem pL_mot {t lo hi st ra : Int} {n : Nat} {xs : Nat → Int} (hin : ∀ i, i < n → ∀ j, j < kkF t lo hi st xs i → lo ≤ aF t lo hi st xs i j ∧ aF t lo hi st xs i j ≤ hi) (ho : ∀ i, i < n → pOk t lo hi st ra n xs i) : Mot t lo hi st ra n xs (pL t lo hi st ra n xs) := by
  intro i hi'
  have hk := ho i hi'
  unfold pOk at hk
  obtain ⟨s1, _, s3⟩ := nxt_spec hk
  obtain ⟨v1, _, _⟩ := tv_inv (show tv ra _ _ _ ≠ -1 by rw [s3]; exact hk)
  rw [cbf_pL]
  exact ⟨hin i hi' _ s1, aF_dvd s1, v1⟩
theorem aF_lt {t lo hi st : Int} {xs : Nat → Int} (t1 : 1 ≤ t) {i j j' : Nat} (h : aF t lo hi st xs i j < aF t lo hi st xs i j') : j < j' := by
  unfold aF at h
  rcases Nat.lt_or_ge j j' with q | q
  · exact q
  · have : t * (j' : Int) ≤ t * (j : Int) := Int.mul_le_mul_of_nonneg_left (by omega) (by omega)
    omega
theorem fidx_first {p : Nat → Bool} {n k j : Nat} (hk : fidx p n = (k : Int)) (hj : j < n) (hp : p j = true) : k ≤ j := by
  obtain ⟨i, h1, h2, h3⟩ := first_of (p := p) hj hp
  have := fidx_hit h1 h2 h3
  rw [hk] at this
  have hki : k = i := by omega
  rcases Nat.lt_or_ge j k with q | q
  · rw [hki] at q
    rw [h3 j q] at hp; cases hp
  · exact q
/-- No motion travels less than the program's, and of those that travel as much none is before it. -/
theorem pt_best {t lo hi st ra : Int} {n : Nat} {xs ys : Nat → Int} (t1 : 1 ≤ t) (f1 : lo ≤ st) (f2 : st ≤ hi) (hin : ∀ i, i < n → ∀ j, j < kkF t lo hi st xs i → lo ≤ aF t lo hi st xs i j ∧ aF t lo hi st xs i j ≤ hi)
    (h : Mot t lo hi st ra n xs ys) :
    (∀ i, i < n → pOk t lo hi st ra n xs i) ∧ pTrv t lo hi st ra n xs n ≤ ctv st ys n ∧ (ctv st ys n = pTrv t lo hi st ra n xs n → ∀ i, i < n → (∀ l, l < i → ys l = pL t lo hi st ra n xs l) → pL t lo hi st ra n xs i ≤ ys i) := by
  -- a motion that is accepted and travels least lies in the rows
  have rows : ∀ us, Mot t lo hi st ra n xs us → (∀ vs, Mot t lo hi st ra n xs vs → ctv st us n ≤ ctv st vs n) → ∃ js : Nat → Nat, ∀ i, i < n → js i < kkF t lo hi st xs i ∧ us i = aF t lo hi st xs i (js i) := by
    intro us hu hm
    have hs := least_steps t1 f1 f2 hu hm
    have hr := in_rows t1 hu hs
    exact ⟨fun i => if hi : i < n then Classical.choose (hr i hi) else 0, fun i hi => by simp only [dif_pos hi]; exact Classical.choose_spec (hr i hi)⟩
  obtain ⟨zs, z1, z2, z3⟩ := least_mot h
  rcases Nat.eq_zero_or_pos n with hn | hn
  · subst hn
    exact ⟨fun i hi => absurd hi (Nat.not_lt_zero i), Int.le_refl _, fun _ i hi => absurd hi (Nat.not_lt_zero i)⟩
  · obtain ⟨js, hjs⟩ := rows zs z1 z3
    have hrest := rest_le (st := st) hjs (fun i hi => (z1 i hi).2.2) (n - 1) 0 (by omega)
    obtain ⟨r1, r2⟩ := hrest
    have hz0 := (hjs 0 hn).2
    have hs0 : siz (aF t lo hi st xs 0 (js 0) - st) ≤ ra := by rw [← hz0]; exact (z1 0 hn).2.2
    have ht0 := tv_of hs0 r1
    have hnn := rest_nn (ra := ra) (n := n) (kk := kkF t lo hi st xs) (a := aF t lo hi st xs) 0 (js 0)
    obtain ⟨q1, q2⟩ := mr_le (ra := ra) (fr := st) (a := aF t lo hi st xs 0) (r := RE ra n (kkF t lo hi st xs) (aF t lo hi st xs) 0) (hjs 0 hn).1 (by rw [ht0]; have := siz_nn (aF t lo hi st xs 0 (js 0) - st); omega)
    have hc1 : ctv st zs (0 + 1) = ctv st zs 0 + siz (zs 0 - st) := rfl
    have hc0 : ctv st zs 0 = 0 := rfl
    rw [hz0] at hc1
    have hle : mr ra st (aF t lo hi st xs 0) (RE ra n (kkF t lo hi st xs) (aF t lo hi st xs) 0) (kkF t lo hi st xs 0) ≤ ctv st zs n := by omega
    have hg := greedy (ra := ra) (st := st) (kk := kkF t lo hi st xs) (a := aF t lo hi st xs) hn rfl q1
    have hge := greedy_end (ra := ra) (st := st) (kk := kkF t lo hi st xs) (a := aF t lo hi st xs) hn rfl q1
    have ho : ∀ i, i < n → pOk t lo hi st ra n xs i := fun i hi => (hg i hi).1
    have hT : pTrv t lo hi st ra n xs n = mr ra st (aF t lo hi st xs 0) (RE ra n (kkF t lo hi st xs) (aF t lo hi st xs) 0) (kkF t lo hi st xs 0) := hge
    have hM := z3 _ (pL_mot hin ho)
    rw [ctv_pL] at hM
    refine ⟨ho, by omega, fun hy i hlt hpre => ?_⟩
    have hmin : ∀ vs, Mot t lo hi st ra n xs vs → ctv st ys n ≤ ctv st vs n := fun vs hv => by have := z3 vs hv; omega
    obtain ⟨ks, hks⟩ := rows ys h hmin
    have hrest := rest_le (st := st) hks (fun i hi => (h i hi).2.2) (n - 1 - i) i (by omega)
    obtain ⟨w1, w2⟩ := hrest
    -- the same way so far
    have hcb : cbf st ys i = pPos t lo hi st ra n xs i := by
      rw [← cbf_pL]
      cases i with
      | zero => rfl
      | succ i => exact hpre i (Nat.lt_succ_self i)
    have hct : ctv st ys i = pTrv t lo hi st ra n xs i := by
      rw [← ctv_pL]
      have : ∀ l, l ≤ i → ctv st ys l = ctv st (pL t lo hi st ra n xs) l := by
        intro l
        induction l with
        | zero => intro _; rfl
        | succ l ih =>
          intro hl
          show ctv st ys l + siz (ys l - cbf st ys l) = ctv st (pL t lo hi st ra n xs) l + siz (pL t lo hi st ra n xs l - cbf st (pL t lo hi st ra n xs) l)
          rw [ih (by omega), hpre l (by omega)]
          have : cbf st ys l = cbf st (pL t lo hi st ra n xs) l := by
            cases l with
            | zero => rfl
            | succ l => exact hpre l (by omega)
          rw [this]
      exact this i (Nat.le_refl i)
    obtain ⟨g1, g2, _⟩ := hg i hlt
    obtain ⟨n1, n2, n3⟩ := nxt_spec g1
    have hyi := (hks i hlt).2
    have hsi : siz (aF t lo hi st xs i (ks i) - pPos t lo hi st ra n xs i) ≤ ra := by rw [← hyi, ← hcb]; exact (h i hlt).2.2
    have hti := tv_of hsi w1
    have hnn2 := rest_nn (ra := ra) (n := n) (kk := kkF t lo hi st xs) (a := aF t lo hi st xs) i (ks i)
    have hmle := mr_le (ra := ra) (fr := pPos t lo hi st ra n xs i) (a := aF t lo hi st xs i) (r := RE ra n (kkF t lo hi st xs) (aF t lo hi st xs) i) (hks i hlt).1 (by rw [hti]; have := siz_nn (aF t lo hi st xs i (ks i) - pPos t lo hi st ra n xs i); omega)
    have hci : ctv st ys (i + 1) = ctv st ys i + siz (ys i - cbf st ys i) := rfl
    rw [hyi, hcb] at hci
    have g2' : pTrv t lo hi st ra n xs i + mr ra (pPos t lo hi st ra n xs i) (aF t lo hi st xs i) (RE ra n (kkF t lo hi st xs) (aF t lo hi st xs) i) (kkF t lo hi st xs i) = mr ra st (aF t lo hi st xs 0) (RE ra n (kkF t lo hi st xs) (aF t lo hi st xs) 0) (kkF t lo hi st xs 0) := g2
    have heq : tv ra (pPos t lo hi st ra n xs i) (aF t lo hi st xs i (ks i)) (RE ra n (kkF t lo hi st xs) (aF t lo hi st xs) i (ks i)) = mr ra (pPos t lo hi st ra n xs i) (aF t lo hi st xs i) (RE ra n (kkF t lo hi st xs) (aF t lo hi st xs) i) (kkF t lo hi st xs i) := by omega
    have hfirst : nxt ra (pPos t lo hi st ra n xs i) (aF t lo hi st xs i) (RE ra n (kkF t lo hi st xs) (aF t lo hi st xs) i) (kkF t lo hi st xs i) ≤ ks i := fidx_first n2 (hks i hlt).1 (beq_iff_eq.2 heq)
    rw [hyi]
    rcases Int.lt_or_le (aF t lo hi st xs i (ks i)) (pL t lo hi st ra n xs i) with q | q
    · have := aF_lt t1 (show aF t lo hi st xs i (ks i) < aF t lo hi st xs i (nxt ra (pPos t lo hi st ra n xs i) (aF t lo hi st xs i) (RE ra n (kkF t lo hi st xs) (aF t lo hi st xs) i) (kkF t lo hi st xs i)) from q)
      exact absurd hfirst (by omega)
    · exact q
theorem cpi_mot {t lo hi st ra : Int} {xs ys : Nat → Int} {i : Nat} : cpi t lo hi st ra xs ys i = 0 ↔ (lo ≤ ys i ∧ ys i ≤ hi) ∧ t ∣ (ys i - xs i) ∧ siz (ys i - cbf st ys i) ≤ ra := by
  unfold cpi cpE
  constructor
  · intro h
    cases h1 : wi (ys i) lo hi
    · rw [h1] at h; simp at h
    · rw [h1] at h
      simp only [if_true] at h
      by_cases h2 : (ys i - xs i).tmod t = 0
      · rw [if_pos (by simpa using h2)] at h
        by_cases h3 : siz (ys i - cbf st ys i) ≤ ra
        · exact ⟨wi_t.1 h1, Int.dvd_of_tmod_eq_zero h2, h3⟩
        · rw [if_neg (by simpa using h3)] at h; omega
      · rw [if_neg (by simpa using h2)] at h; omega
  · rintro ⟨h1, h2, h3⟩
    rw [wi_t.2 h1]
    have h2' := Int.tmod_eq_zero_of_dvd h2
    simp [h2', h3]
theorem ferr_0 {er : Nat → Int} : ∀ (n i : Nat), ferr er i n = 0 → ∀ j, i ≤ j → j < i + n → er j = 0
  | 0, i, _, j, h1, h2 => by omega
  | n + 1, i, h, j, h1, h2 => by
    simp only [ferr] at h
    by_cases hz : er i = 0
    · rw [if_pos hz] at h
      by_cases e : j = i
      · rw [e]; exact hz
      · exact ferr_0 n (i + 1) h j (by omega) (by omega)
    · rw [if_neg hz] at h; exact absurd h hz
theorem mot_iff {t lo hi st ra : Int} {n : Nat} {xs ys : Nat → Int} : ferr (cpi t lo hi st ra xs ys) 0 n = 0 ↔ Mot t lo hi st ra n xs ys :=
  ⟨fun h i hi' => cpi_mot.1 (ferr_0 n 0 h i (Nat.zero_le _) (by omega)), fun h => ferr_miss n 0 fun j _ hj => cpi_mot.2 (h j (by omega))⟩
/-- With a greater rate a motion is accepted as well. -/
theorem Mot.faster {t lo hi st ra ra' : Int} {n : Nat} {xs ys : Nat → Int} (h : Mot t lo hi st ra n xs ys) (hr : ra ≤ ra') : Mot t lo hi st ra' n xs ys := fun i hi' => ⟨(h i hi').1, (h i hi').2.1, Int.le_trans (h i hi').2.2 hr⟩
/-- There is a motion. -/
def Can (t lo hi st ra : Int) (n : Nat) (xs : Nat → Int) : Prop := ∃ ys, Mot t lo hi st ra n xs ys
theorem can_iff {t lo hi st ra : Int} {n : Nat} {xs : Nat → Int} (t1 : 1 ≤ t) (f1 : lo ≤ st) (f2 : st ≤ hi) (hin : ∀ i, i < n → ∀ j, j < kkF t lo hi st xs i → lo ≤ aF t lo hi st xs i j ∧ aF t lo hi st xs i j ≤ hi) : Can t lo hi st ra n xs ↔ ∀ i, i < n → pOk t lo hi st ra n xs i :=
  ⟨fun ⟨_, h⟩ => (pt_best t1 f1 f2 hin h).1, fun h => ⟨_, pL_mot hin h⟩⟩
end Go.Proofs.Ytmhcmiajikffpaa
namespace Go.Proofs.Ytmhcmiajikffpaa
open Go.RowKit Go.Shelf Go.Sort
/-- a position, the least travel from there to the end, the next position's index -/
structure St where
  a : Int
  tr : Int
  nx : Nat
def St0 : St := ⟨0, 0, 0⟩
/-- the best way to go on from a position, by the first positions of a row -/
def bstF (ra p : Int) (row : Nat → St) : Nat → Option St
  | 0 => none
  | k + 1 => if ra < siz ((row k).a - p) then bstF ra p row k else
      match bstF ra p row k with
      | none => some ⟨p, siz ((row k).a - p) + (row k).tr, k⟩
      | some s => if siz ((row k).a - p) + (row k).tr < s.tr then some ⟨p, siz ((row k).a - p) + (row k).tr, k⟩ else some s
theorem bstF_none {ra p : Int} {row : Nat → St} : ∀ {m : Nat}, bstF ra p row m = none → ∀ j, j < m → ra < siz ((row j).a - p)
  | 0, _, j, h => absurd h (Nat.not_lt_zero j)
  | m + 1, h, j, hj => by
    unfold bstF at h
    by_cases c : ra < siz ((row m).a - p)
    · rw [if_pos c] at h
      rcases Nat.lt_or_eq_of_le (Nat.le_of_lt_succ hj) with q | q
      · exact bstF_none h j q
      · rw [q]; exact c
    · rw [if_neg c] at h
      cases hb : bstF ra p row m with
      | none => rw [hb] at h; cases h
      | some s0 =>
        rw [hb] at h
        simp only at h
        split at h <;> cases h
theorem bstF_some {ra p : Int} {row : Nat → St} : ∀ {m : Nat} {s : St}, bstF ra p row m = some s → ∃ k, k < m ∧ s = ⟨p, siz ((row k).a - p) + (row k).tr, k⟩ ∧ siz ((row k).a - p) ≤ ra ∧
    (∀ j, j < m → siz ((row j).a - p) ≤ ra → s.tr ≤ siz ((row j).a - p) + (row j).tr) ∧ (∀ j, j < k → siz ((row j).a - p) ≤ ra → s.tr < siz ((row j).a - p) + (row j).tr)
  | 0, s, h => by cases h
  | m + 1, s, h => by
    unfold bstF at h
    by_cases c : ra < siz ((row m).a - p)
    · rw [if_pos c] at h
      obtain ⟨k, h1, h2, h3, h4, h5⟩ := bstF_some h
      refine ⟨k, by omega, h2, h3, fun j hj hr => ?_, h5⟩
      rcases Nat.lt_or_eq_of_le (Nat.le_of_lt_succ hj) with q | q
      · exact h4 j q hr
      · rw [q] at hr; omega
    · rw [if_neg c] at h
      cases hb : bstF ra p row m with
      | none =>
        rw [hb] at h
        cases h
        refine ⟨m, by omega, rfl, by omega, fun j hj hr => ?_, fun j hj hr => ?_⟩
        · rcases Nat.lt_or_eq_of_le (Nat.le_of_lt_succ hj) with q | q
          · have := bstF_none hb j q; omega
          · rw [q]; exact Int.le_refl _
        · have := bstF_none hb j hj; omega
      | some s0 =>
        rw [hb] at h
        simp only at h
        obtain ⟨k, h1, h2, h3, h4, h5⟩ := bstF_some hb
        by_cases d : siz ((row m).a - p) + (row m).tr < s0.tr
        · rw [if_pos d] at h
          cases h
          refine ⟨m, by omega, rfl, by omega, fun j hj hr => ?_, fun j hj hr => ?_⟩
          · rcases Nat.lt_or_eq_of_le (Nat.le_of_lt_succ hj) with q | q
            · have := h4 j q hr
              show siz ((row m).a - p) + (row m).tr ≤ _
              omega
            · rw [q]; exact Int.le_refl _
          · have := h4 j hj hr
            show siz ((row m).a - p) + (row m).tr < _
            omega
        · rw [if_neg d] at h
          cases h
          refine ⟨k, by omega, h2, h3, fun j hj hr => ?_, h5⟩
          rcases Nat.lt_or_eq_of_le (Nat.le_of_lt_succ hj) with q | q
          · exact h4 j q hr
          · rw [q]; omega
/-- .. by all of them; at the end there is nothing to go on to -/
def bst (ra p : Int) (row : List St) (e : Bool) : Option St := if e = true then some ⟨p, 0, 0⟩ else bstF ra p (fun k => row.getD k St0) row.length
def fstP (t lo x : Int) : Int := lo + (x - lo) % t
/-- all positions that point at a target -/
def psL (t lo hi x : Int) : List Int := (List.range (cnt t (fstP t lo x) hi)).map fun (j : Nat) => fstP t lo x + t * j
theorem fstP_dvd (t lo x : Int) : t ∣ (fstP t lo x - x) := by
  have h := Int.mul_ediv_add_emod (x - lo) t
  refine ⟨-((x - lo) / t), ?_⟩
  unfold fstP
  rw [Int.mul_neg]
  omega
theorem cnt_le {t F H : Int} {j : Nat} (t1 : 1 ≤ t) : j < cnt t F H ↔ F + t * (j : Int) ≤ H := by
  unfold cnt
  by_cases h : H < F
  · rw [if_pos h]
    have : 0 ≤ t * (j : Int) := Int.mul_nonneg (by omega) (by omega)
    omega
  · rw [if_neg h]
    have e := Int.mul_ediv_add_emod (H - F) t
    have m0 := Int.emod_nonneg (H - F) (show t ≠ 0 by omega)
    have m1 := Int.emod_lt_of_pos (H - F) (show 0 < t by omega)
    have q0 : 0 ≤ (H - F) / t := Int.ediv_nonneg (by omega) (by omega)
    generalize (H - F) / t = q at *
    constructor
    · intro hj
      have : t * (j : Int) ≤ t * q := Int.mul_le_mul_of_nonneg_left (by omega) (by omega)
      omega
    · intro hj
      rcases Int.lt_or_le q (j : Int) with g | g
      · have := Int.mul_le_mul_of_nonneg_left (show q + 1 ≤ (j : Int) by omega) (show 0 ≤ t by omega)
        rw [Int.mul_add, Int.mul_one] at this
        omega
      · omega
theorem psL_mem {t lo hi x y : Int} (t1 : 1 ≤ t) : y ∈ psL t lo hi x ↔ (lo ≤ y ∧ y ≤ hi) ∧ t ∣ (y - x) := by
  have f0 : lo ≤ fstP t lo x := by
    have := Int.emod_nonneg (x - lo) (show t ≠ 0 by omega)
    unfold fstP
    omega
  have f1 : fstP t lo x < lo + t := by
    have := Int.emod_lt_of_pos (x - lo) (show 0 < t by omega)
    unfold fstP
    omega
  obtain ⟨c, hc⟩ := fstP_dvd t lo x
  unfold psL
  rw [List.mem_map]
  constructor
  · rintro ⟨j, hj, rfl⟩
    have h1 := (cnt_le t1).1 (List.mem_range.1 hj)
    have h2 : 0 ≤ t * (j : Int) := Int.mul_nonneg (by omega) (by omega)
    refine ⟨⟨by omega, h1⟩, c + j, ?_⟩
    rw [Int.mul_add]
    omega
  · rintro ⟨⟨h1, h2⟩, d, hd⟩
    have e : y - fstP t lo x = t * (d - c) := by rw [Int.mul_sub]; omega
    have hq : 0 ≤ d - c := by
      rcases Int.lt_or_le (d - c) 0 with g | g
      · have := Int.mul_le_mul_of_nonneg_left (show d - c ≤ -1 by omega) (show 0 ≤ t by omega)
        rw [Int.mul_neg, Int.mul_one] at this
        omega
      · exact g
    have e2 : ((d - c).toNat : Int) = d - c := by omega
    refine ⟨(d - c).toNat, List.mem_range.2 ((cnt_le t1).2 ?_), ?_⟩
    · rw [e2]; omega
    · rw [e2]; omega
theorem psL_up {t lo hi x : Int} (t1 : 1 ≤ t) : (psL t lo hi x).Pairwise (· < ·) := by
  unfold psL
  rw [List.pairwise_map]
  refine List.Pairwise.imp ?_ List.pairwise_lt_range
  intro a b hab
  have := Int.mul_lt_mul_of_pos_left (show (a : Int) < (b : Int) by omega) (show 0 < t by omega)
  omega
/-- the rows of the first of some targets -/
def rowR (t lo hi ra : Int) : List Int → List St
  | [] => []
  | x :: xs => (psL t lo hi x).filterMap fun p => bst ra p (rowR t lo hi ra xs) xs.isEmpty
def TM (t lo hi ra : Int) : List Int → Int → List Int → Prop
  | [], _, [] => True
  | x :: xs, p, y :: ys => (lo ≤ y ∧ y ≤ hi) ∧ t ∣ (y - x) ∧ siz (y - p) ≤ ra ∧ TM t lo hi ra xs y ys
  | [], _, _ :: _ => False
  | _ :: _, _, [] => False
def TT : Int → List Int → Int
  | _, [] => 0
  | p, y :: ys => siz (y - p) + TT y ys
def lexLe : List Int → List Int → Prop
  | [], _ => True
  | _ :: _, [] => False
  | p :: ps, y :: ys => p < y ∨ p = y ∧ lexLe ps ys
def follow (t lo hi ra : Int) : List Int → Nat → List Int
  | [], _ => []
  | x :: xs, k => ((rowR t lo hi ra (x :: xs)).getD k St0).a :: follow t lo hi ra xs ((rowR t lo hi ra (x :: xs)).getD k St0).nx
theorem getD_of {α : Type} {l : List α} {k : Nat} {d : α} (h : k < l.length) : l.getD k d = l[k] := by simp [List.getD_eq_getElem?_getD, List.getElem?_eq_getElem h]
theorem bst_spec {t lo hi ra : Int} (t1 : 1 ≤ t) : ∀ (xs : List Int) (p : Int),
    (bst ra p (rowR t lo hi ra xs) xs.isEmpty = none → ∀ ys, ¬ TM t lo hi ra xs p ys) ∧
    (∀ s, bst ra p (rowR t lo hi ra xs) xs.isEmpty = some s → s.a = p ∧ TM t lo hi ra xs p (follow t lo hi ra xs s.nx) ∧ TT p (follow t lo hi ra xs s.nx) = s.tr ∧
      ∀ ys, TM t lo hi ra xs p ys → s.tr ≤ TT p ys ∧ (TT p ys = s.tr → lexLe (follow t lo hi ra xs s.nx) ys))
  | [], p => by
    refine ⟨fun h => (by cases h), fun s h => ?_⟩
    cases h
    refine ⟨rfl, trivial, rfl, fun ys hy => ?_⟩
    cases ys with
    | nil => exact ⟨Int.le_refl _, fun _ => trivial⟩
    | cons y ys => exact absurd hy (fun h => h)
  | x :: xs, p => by
    have ih := bst_spec (lo := lo) (hi := hi) (ra := ra) t1 xs
    have hb : bst ra p (rowR t lo hi ra (x :: xs)) (x :: xs).isEmpty = bstF ra p (fun k => (rowR t lo hi ra (x :: xs)).getD k St0) (rowR t lo hi ra (x :: xs)).length := rfl
    have hrow : rowR t lo hi ra (x :: xs) = (psL t lo hi x).filterMap fun p => bst ra p (rowR t lo hi ra xs) xs.isEmpty := rfl
    have rmem : ∀ k, k < (rowR t lo hi ra (x :: xs)).length → ∃ q, ((lo ≤ q ∧ q ≤ hi) ∧ t ∣ (q - x)) ∧ bst ra q (rowR t lo hi ra xs) xs.isEmpty = some ((rowR t lo hi ra (x :: xs)).getD k St0) := fun k hk => by
      have hm : (rowR t lo hi ra (x :: xs)).getD k St0 ∈ rowR t lo hi ra (x :: xs) := by rw [getD_of hk]; exact List.getElem_mem hk
      rw [hrow] at hm
      obtain ⟨q, h1, h2⟩ := List.mem_filterMap.1 hm
      rw [← hrow] at h2
      exact ⟨q, (psL_mem t1).1 h1, h2⟩
    have rhas : ∀ q s, (lo ≤ q ∧ q ≤ hi) ∧ t ∣ (q - x) → bst ra q (rowR t lo hi ra xs) xs.isEmpty = some s → ∃ k, k < (rowR t lo hi ra (x :: xs)).length ∧ (rowR t lo hi ra (x :: xs)).getD k St0 = s := fun q s h1 h2 => by
      have hm : s ∈ rowR t lo hi ra (x :: xs) := by rw [hrow]; exact List.mem_filterMap.2 ⟨q, (psL_mem t1).2 h1, h2⟩
      obtain ⟨k, hk, e⟩ := List.mem_iff_getElem.1 hm
      exact ⟨k, hk, by rw [getD_of hk]; exact e⟩
    have rup : ∀ j k, j < k → k < (rowR t lo hi ra (x :: xs)).length → ((rowR t lo hi ra (x :: xs)).getD j St0).a < ((rowR t lo hi ra (x :: xs)).getD k St0).a := fun j k hjk hk => by
      have hp : (rowR t lo hi ra (x :: xs)).Pairwise (fun s s' => s.a < s'.a) := by
        rw [hrow]
        refine List.Pairwise.filterMap _ ?_ (psL_up t1)
        intro a a' haa s hs s' hs'
        have e1 := ((ih a).2 s hs).1
        have e2 := ((ih a').2 s' hs').1
        omega
      rw [getD_of (by omega), getD_of hk]
      exact List.pairwise_iff_getElem.1 hp j k (by omega) hk hjk
    rw [hb]
    generalize hR : rowR t lo hi ra (x :: xs) = R at rmem rhas rup
    have hfol : ∀ k, follow t lo hi ra (x :: xs) k = (R.getD k St0).a :: follow t lo hi ra xs (R.getD k St0).nx := fun k => by rw [← hR]; rfl
    -- a way on by y stands in the row
    have on : ∀ y ys, TM t lo hi ra (x :: xs) p (y :: ys) → ∃ k, k < R.length ∧ (R.getD k St0).a = y ∧ siz ((R.getD k St0).a - p) ≤ ra ∧ (R.getD k St0).tr ≤ TT y ys ∧ (TT y ys = (R.getD k St0).tr → lexLe (follow t lo hi ra xs (R.getD k St0).nx) ys) := by
      rintro y ys ⟨h1, h2, h3, h4⟩
      cases hy : bst ra y (rowR t lo hi ra xs) xs.isEmpty with
      | none => exact absurd h4 ((ih y).1 hy ys)
      | some s =>
        obtain ⟨k, hk, e⟩ := rhas y s ⟨h1, h2⟩ hy
        obtain ⟨i1, _, _, i4⟩ := (ih y).2 s hy
        obtain ⟨j1, j2⟩ := i4 ys h4
        exact ⟨k, hk, by rw [e]; exact i1, by rw [e, i1]; exact h3, by rw [e]; exact j1, by rw [e]; exact j2⟩
    refine ⟨fun hn ys hy => ?_, fun s hs => ?_⟩
    · cases ys with
      | nil => exact hy
      | cons y ys =>
        obtain ⟨k, hk, _, h3, _⟩ := on y ys hy
        have := bstF_none hn k hk
        omega
    · obtain ⟨k, hk, rfl, h3, h4, h5⟩ := bstF_some hs
      obtain ⟨q, hq, hqs⟩ := rmem k hk
      obtain ⟨i1, i2, i3, _⟩ := (ih q).2 _ hqs
      refine ⟨rfl, ?_, ?_, fun ys hy => ?_⟩
      · show TM t lo hi ra (x :: xs) p (follow t lo hi ra (x :: xs) k)
        rw [hfol]
        refine ⟨by rw [i1]; exact hq.1, by rw [i1]; exact hq.2, h3, ?_⟩
        rw [i1]
        exact i2
      · show TT p (follow t lo hi ra (x :: xs) k) = _
        rw [hfol]
        show siz ((R.getD k St0).a - p) + TT (R.getD k St0).a _ = siz ((R.getD k St0).a - p) + (R.getD k St0).tr
        rw [show TT (R.getD k St0).a (follow t lo hi ra xs (R.getD k St0).nx) = (R.getD k St0).tr by rw [i1]; exact i3]
      · cases ys with
        | nil => exact absurd hy (fun h => h)
        | cons y ys =>
          obtain ⟨j, hj, e1, e2, e3, e4⟩ := on y ys hy
          have hle : siz ((R.getD k St0).a - p) + (R.getD k St0).tr ≤ siz ((R.getD j St0).a - p) + (R.getD j St0).tr := h4 j hj e2
          have htt : TT p (y :: ys) = siz ((R.getD j St0).a - p) + TT y ys := by rw [e1]; rfl
          refine ⟨?_, fun he => ?_⟩
          · show siz ((R.getD k St0).a - p) + (R.getD k St0).tr ≤ _
            omega
          · replace he : TT p (y :: ys) = siz ((R.getD k St0).a - p) + (R.getD k St0).tr := he
            show lexLe (follow t lo hi ra (x :: xs) k) (y :: ys)
            rw [hfol]
            rcases Nat.lt_trichotomy k j with g | g | g
            · left
              rw [← e1]
              exact rup k j g hj
            · subst g
              exact .inr ⟨e1, e4 (by omega)⟩
            · have : siz ((R.getD k St0).a - p) + (R.getD k St0).tr < siz ((R.getD j St0).a - p) + (R.getD j St0).tr := h5 j g e2
              omega
/-! ### motions as lists -/
theorem TM_iff {t lo hi ra st : Int} {xs ys : Nat → Int} : ∀ (r i : Nat), TM t lo hi ra ((List.range' i r).map xs) (cbf st ys i) ((List.range' i r).map ys) ↔ ∀ l, i ≤ l → l < i + r → (lo ≤ ys l ∧ ys l ≤ hi) ∧ t ∣ (ys l - xs l) ∧ siz (ys l - cbf st ys l) ≤ ra
  | 0, i => ⟨fun _ l h1 h2 => by omega, fun _ => trivial⟩
  | r + 1, i => by
    rw [List.range'_succ, List.map_cons, List.map_cons]
    have ih := TM_iff (t := t) (lo := lo) (hi := hi) (ra := ra) (st := st) (xs := xs) (ys := ys) r (i + 1)
    constructor
    · rintro ⟨h1, h2, h3, h4⟩ l hl hr
      rcases Nat.lt_or_eq_of_le hl with g | g
      · exact ih.1 h4 l (by omega) (by omega)
      · subst g; exact ⟨h1, h2, h3⟩
    · intro h
      obtain ⟨h1, h2, h3⟩ := h i (Nat.le_refl i) (by omega)
      exact ⟨h1, h2, h3, ih.2 fun l hl hr => h l (by omega) (by omega)⟩
theorem TT_ctv (st : Int) (ys : Nat → Int) : ∀ (r i : Nat), ctv st ys (i + r) = ctv st ys i + TT (cbf st ys i) ((List.range' i r).map ys)
  | 0, i => by simp [TT]
  | r + 1, i => by
    have ih := TT_ctv st ys r (i + 1)
    rw [List.range'_succ, List.map_cons, show i + (r + 1) = i + 1 + r by omega, ih]
    show ctv st ys i + siz (ys i - cbf st ys i) + TT (ys i) _ = ctv st ys i + (siz (ys i - cbf st ys i) + TT (ys i) _)
    omega
theorem mot_TM {t lo hi ra st : Int} {n : Nat} {xs ys : Nat → Int} : TM t lo hi ra ((List.range n).map xs) st ((List.range n).map ys) ↔ Mot t lo hi st ra n xs ys := by
  rw [List.range_eq_range']
  have := TM_iff (t := t) (lo := lo) (hi := hi) (ra := ra) (st := st) (xs := xs) (ys := ys) n 0
  rw [show cbf st ys 0 = st from rfl] at this
  rw [this]
  exact ⟨fun h i hi' => h i (Nat.zero_le i) (by omega), fun h l _ hl => h l (by omega)⟩
theorem ctv_TT {st : Int} {n : Nat} {ys : Nat → Int} : ctv st ys n = TT st ((List.range n).map ys) := by
  have := TT_ctv st ys n 0
  rw [Nat.zero_add] at this
  rw [this, List.range_eq_range', show ctv st ys 0 = 0 from rfl, show cbf st ys 0 = st from rfl, Int.zero_add]
theorem TM_len {t lo hi ra : Int} : ∀ {xs : List Int} {p : Int} {ys : List Int}, TM t lo hi ra xs p ys → ys.length = xs.length
  | [], _, [], _ => rfl
  | [], _, _ :: _, h => absurd h (fun h => h)
  | _ :: _, _, [], h => absurd h (fun h => h)
  | x :: xs, p, y :: ys, h => by
    have := TM_len h.2.2.2
    simp [this]
theorem list_fn {n : Nat} {l : List Int} (h : l.length = n) : l = (List.range n).map fun i => l.getD i 0 := by
  refine List.ext_getElem (by simp [h]) fun i h1 h2 => ?_
  simp [List.getD_eq_getElem?_getD, List.getElem?_eq_getElem h1]
theorem lexLe_first : ∀ {l m : List Int}, l.length = m.length → lexLe l m → (∀ i, i < m.length → (∀ j, j < i → l.getD j 0 = m.getD j 0) → m.getD i 0 ≤ l.getD i 0) → l = m
  | [], [], _, _, _ => rfl
  | [], _ :: _, h, _, _ => by simp at h
  | _ :: _, [], h, _, _ => by simp at h
  | p :: ps, y :: ys, hl, hx, hm => by
    have h0 := hm 0 (by simp) (fun j hj => absurd hj (Nat.not_lt_zero j))
    simp only [List.getD_cons_zero] at h0
    rcases hx with g | ⟨g, hx'⟩
    · omega
    · subst g
      rw [lexLe_first (by simpa using hl) hx' fun i hi' hpre => ?_]
      have := hm (i + 1) (by simpa using hi') (fun j hj => by
        cases j with
        | zero => rfl
        | succ j => simpa using hpre j (by omega))
      simpa using this
/-- the reference's best way is the program's -/
theorem ref_best {t lo hi st ra : Int} {n : Nat} {xs : Nat → Int} (t1 : 1 ≤ t) (f1 : lo ≤ st) (f2 : st ≤ hi) (hin : ∀ i, i < n → ∀ j, j < kkF t lo hi st xs i → lo ≤ aF t lo hi st xs i j ∧ aF t lo hi st xs i j ≤ hi) :
    (bst ra st (rowR t lo hi ra ((List.range n).map xs)) ((List.range n).map xs).isEmpty = none → ¬ ∀ i, i < n → pOk t lo hi st ra n xs i) ∧
    (∀ s, bst ra st (rowR t lo hi ra ((List.range n).map xs)) ((List.range n).map xs).isEmpty = some s → (∀ i, i < n → pOk t lo hi st ra n xs i) ∧ s.tr = pTrv t lo hi st ra n xs n ∧
      follow t lo hi ra ((List.range n).map xs) s.nx = (List.range n).map (pL t lo hi st ra n xs)) := by
  obtain ⟨h1, h2⟩ := bst_spec (lo := lo) (hi := hi) (ra := ra) t1 ((List.range n).map xs) st
  refine ⟨fun hn ho => h1 hn _ (mot_TM.2 (pL_mot hin ho)), fun s hs => ?_⟩
  obtain ⟨_, q2, q3, q4⟩ := h2 s hs
  have hlen : (follow t lo hi ra ((List.range n).map xs) s.nx).length = n := by rw [TM_len q2]; simp
  generalize follow t lo hi ra ((List.range n).map xs) s.nx = R at *
  have hM : Mot t lo hi st ra n xs (fun i => R.getD i 0) := mot_TM.1 (by rw [← list_fn hlen]; exact q2)
  have hc : ctv st (fun i => R.getD i 0) n = s.tr := by rw [ctv_TT, ← list_fn hlen]; exact q3
  obtain ⟨ho, b1, b2⟩ := pt_best t1 f1 f2 hin hM
  have hp := q4 _ (mot_TM.2 (pL_mot hin ho))
  rw [← ctv_TT, ctv_pL] at hp
  have he : s.tr = pTrv t lo hi st ra n xs n := by omega
  refine ⟨ho, he, ?_⟩
  refine lexLe_first (by simp [hlen]) (hp.2 he.symm) fun i hi' hpre => ?_
  have hi2 : i < n := by simpa using hi'
  have g : ∀ j, j < n → ((List.range n).map (pL t lo hi st ra n xs)).getD j 0 = pL t lo hi st ra n xs j := fun j hj => by simp [List.getD_eq_getElem?_getD, hj]
  rw [g i hi2]
  exact b2 (by omega) i hi2 fun l hl => by rw [hpre l hl, g l (by omega)]
end Go.Proofs.Ytmhcmiajikffpaa
