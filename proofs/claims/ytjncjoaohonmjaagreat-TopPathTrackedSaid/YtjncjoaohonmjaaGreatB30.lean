/- Helpers: no motion travels less than the one of the program, and of those that travel as much none is before it (no motion with the least travel has a step of a turn or more). -/
import Derived.Test.YtjncjoaohonmjaaGreatB13
import Derived.Test.YtjncjoaohonmjaaGreatB29
import Derived.Test.YtjncjoaohonmjaaGreatB19
namespace Go.Proofs.YtjncjoaohonmjaaGreat
open Go.RowKit Go.Shelf Go.Sort
/-- A motion that is accepted. -/
def Mot (t lo hi st ra : Int) (n : Nat) (xs ys : Nat → Int) : Prop := ∀ i, i < n → (lo ≤ ys i ∧ ys i ≤ hi) ∧ t ∣ (ys i - xs i) ∧ siz (ys i - cbf st ys i) ≤ ra
theorem cbf_lo {t lo hi st ra : Int} {n : Nat} {xs ys : Nat → Int} (h : Mot t lo hi st ra n xs ys) (f1 : lo ≤ st) (f2 : st ≤ hi) (i : Nat) (hi' : i ≤ n) : lo ≤ cbf st ys i ∧ cbf st ys i ≤ hi := by
  cases i with
  | zero => exact ⟨f1, f2⟩
  | succ i => exact (h i (by omega)).1
/-- Positions that are lowered by a turn from one step on, up to another. -/
def lower (ys : Nat → Int) (t : Int) (i j : Nat) (l : Nat) : Int := if i ≤ l ∧ l < j then ys l - t else ys l
theorem cbf_lower (st : Int) (ys : Nat → Int) (t : Int) (i j l : Nat) : cbf st (lower ys t i j) l = if i < l ∧ l ≤ j then cbf st ys l - t else cbf st ys l := by
  cases l with
  | zero => rw [if_neg (by omega)]; rfl
  | succ l =>
    show lower ys t i j l = if i < l + 1 ∧ l + 1 ≤ j then ys l - t else ys l
    unfold lower
    by_cases h : i ≤ l ∧ l < j
    · rw [if_pos h, if_pos (by omega)]
    · rw [if_neg h, if_neg (by omega)]
theorem first_low (p : Nat → Prop) [DecidablePred p] (i : Nat) : ∀ n, i ≤ n → ∃ j, i ≤ j ∧ j ≤ n ∧ (∀ l, i ≤ l → l < j → ¬ p l) ∧ (j < n → p j)
  | 0, h => ⟨0, by omega, by omega, fun l h1 h2 => by omega, fun h => by omega⟩
  | n + 1, h => by
    by_cases hn : i = n + 1
    · exact ⟨n + 1, by omega, by omega, fun l h1 h2 => by omega, fun h => by omega⟩
    · obtain ⟨j, h1, h2, h3, h4⟩ := first_low p i n (by omega)
      by_cases hj : j < n
      · exact ⟨j, h1, by omega, h3, fun _ => h4 hj⟩
      · by_cases hp : p n
        · exact ⟨n, by omega, by omega, fun l q1 q2 => h3 l q1 (by omega), fun _ => hp⟩
        · refine ⟨n + 1, by omega, by omega, fun l q1 q2 => ?_, fun h => by omega⟩
          by_cases hl : l < j
          · exact h3 l q1 hl
          · rw [show l = n by omega]; exact hp
/-- A motion with a step upwards of a turn or more is not one with the least travel. -/
theorem no_up {t lo hi st ra : Int} {n : Nat} {xs ys : Nat → Int} (t1 : 1 ≤ t) (f1 : lo ≤ st) (f2 : st ≤ hi) (h : Mot t lo hi st ra n xs ys) {i : Nat} (hi' : i < n) (hup : t ≤ ys i - cbf st ys i) :
    ∃ zs, Mot t lo hi st ra n xs zs ∧ ctv st zs n < ctv st ys n := by
  obtain ⟨j, j1, j2, j3, j4⟩ := first_low (fun l => ys l < lo + t) (i + 1) n (by omega)
  have hlow : ∀ l, i ≤ l → l < j → lo + t ≤ ys l := by
    intro l h1 h2
    by_cases hl : l = i
    · subst hl
      have := (cbf_lo h f1 f2 l (by omega)).1
      omega
    · have := j3 l (by omega) h2
      omega
  -- the step into l
  have hstep : ∀ l, l < n → siz (lower ys t i j l - cbf st (lower ys t i j) l) ≤ siz (ys l - cbf st ys l) + (if l = j then 0 else 0) ∨ l = j := by
    intro l hl
    by_cases hj : l = j
    · exact .inr hj
    · left
      rw [cbf_lower]
      unfold lower
      by_cases h1 : i ≤ l ∧ l < j
      · rw [if_pos h1]
        by_cases h2 : i < l
        · rw [if_pos (by omega), if_neg hj]
          rw [show ys l - t - (cbf st ys l - t) = ys l - cbf st ys l by omega]
          omega
        · obtain rfl : l = i := by omega
          rw [if_neg (by omega), if_neg hj]
          unfold siz
          omega
      · rw [if_neg h1, if_neg (by omega), if_neg hj]
        omega
  have hlast : j < n → siz (lower ys t i j j - cbf st (lower ys t i j) j) ≤ ra ∧ siz (lower ys t i j j - cbf st (lower ys t i j) j) < siz (ys j - cbf st ys j) + t := by
    intro hj
    have hp := j4 hj
    have hr := (h i hi').2.2
    have hrj := (h j hj).2.2
    have hprev : lo + t ≤ cbf st ys j := by
      cases j with
      | zero => omega
      | succ j => exact hlow j (by omega) (by omega)
    rw [cbf_lower, if_pos (by omega)]
    unfold lower
    rw [if_neg (by omega)]
    unfold siz at *
    omega
  refine ⟨lower ys t i j, fun l hl => ?_, ?_⟩
  · obtain ⟨⟨a1, a2⟩, a3, a4⟩ := h l hl
    refine ⟨?_, ?_, ?_⟩
    · unfold lower
      by_cases h1 : i ≤ l ∧ l < j
      · rw [if_pos h1]
        have := hlow l h1.1 h1.2
        omega
      · rw [if_neg h1]; exact ⟨a1, a2⟩
    · unfold lower
      by_cases h1 : i ≤ l ∧ l < j
      · rw [if_pos h1]
        rw [show ys l - t - xs l = (ys l - xs l) - t by omega]
        exact Int.dvd_sub a3 (Int.dvd_refl t)
      · rw [if_neg h1]; exact a3
    · by_cases hj : l = j
      · subst hj; exact (hlast hl).1
      · rcases hstep l hl with q | q
        · rw [if_neg hj] at q; omega
        · exact absurd q hj
  · have key : ∀ l, l ≤ n → (l ≤ i → ctv st (lower ys t i j) l ≤ ctv st ys l) ∧ (i < l → l ≤ j → ctv st (lower ys t i j) l ≤ ctv st ys l - t) ∧ (j < l → ctv st (lower ys t i j) l < ctv st ys l) := by
      intro l
      induction l with
      | zero => intro _; exact ⟨fun _ => Int.le_refl _, fun h => by omega, fun h => by omega⟩
      | succ l ih =>
        intro hl
        obtain ⟨k1, k2, k3⟩ := ih (by omega)
        have hc1 : ctv st (lower ys t i j) (l + 1) = ctv st (lower ys t i j) l + siz (lower ys t i j l - cbf st (lower ys t i j) l) := rfl
        have hc2 : ctv st ys (l + 1) = ctv st ys l + siz (ys l - cbf st ys l) := rfl
        rw [hc1, hc2]
        have hs := hstep l (by omega)
        refine ⟨fun q => ?_, fun q1 q2 => ?_, fun q => ?_⟩
        · have := k1 (by omega)
          rcases hs with s | s
          · rw [if_neg (by omega)] at s; omega
          · omega
        · by_cases hli : l = i
          · subst hli
            have := k1 (Nat.le_refl _)
            have e1 : lower ys t l j l = ys l - t := by unfold lower; rw [if_pos (by omega)]
            rw [cbf_lower, if_neg (by omega), e1]
            unfold siz
            omega
          · have := k2 (by omega) (by omega)
            rcases hs with s | s
            · rw [if_neg (by omega)] at s; omega
            · omega
        · by_cases hlj : l = j
          · subst hlj
            have := k2 (by omega) (Nat.le_refl _)
            have := (hlast (by omega)).2
            omega
          · have := k3 (by omega)
            rcases hs with s | s
            · rw [if_neg hlj] at s; omega
            · omega
    obtain ⟨_, k2, k3⟩ := key n (Nat.le_refl _)
    by_cases hj : j < n
    · exact k3 hj
    · have := k2 (by omega) (by omega)
      omega

/-- The same, mirrored. -/
theorem siz_neg' (x : Int) : siz (-x) = siz x := by unfold siz; omega
theorem cbf_neg (st : Int) (ys : Nat → Int) (l : Nat) : cbf (-st) (fun i => -ys i) l = -cbf st ys l := by cases l <;> rfl
theorem ctv_neg (st : Int) (ys : Nat → Int) (l : Nat) : ctv (-st) (fun i => -ys i) l = ctv st ys l := by
  induction l with
  | zero => rfl
  | succ l ih =>
    show ctv (-st) (fun i => -ys i) l + siz (-ys l - cbf (-st) (fun i => -ys i) l) = ctv st ys l + siz (ys l - cbf st ys l)
    rw [ih, cbf_neg, show -ys l - -cbf st ys l = -(ys l - cbf st ys l) by omega, siz_neg']
theorem Mot.neg {t lo hi st ra : Int} {n : Nat} {xs ys : Nat → Int} (h : Mot t lo hi st ra n xs ys) : Mot t (-hi) (-lo) (-st) ra n (fun i => -xs i) (fun i => -ys i) := fun i hi' => by
  obtain ⟨⟨a1, a2⟩, a3, a4⟩ := h i hi'
  refine ⟨⟨show -hi ≤ -ys i by omega, show -ys i ≤ -lo by omega⟩, ?_, ?_⟩
  · show t ∣ (-ys i - -xs i)
    rw [show -ys i - -xs i = -(ys i - xs i) by omega]
    exact Int.dvd_neg.2 a3
  · show siz (-ys i - cbf (-st) (fun i => -ys i) i) ≤ ra
    rw [cbf_neg, show -ys i - -cbf st ys i = -(ys i - cbf st ys i) by omega, siz_neg']
    exact a4
theorem no_down {t lo hi st ra : Int} {n : Nat} {xs ys : Nat → Int} (t1 : 1 ≤ t) (f1 : lo ≤ st) (f2 : st ≤ hi) (h : Mot t lo hi st ra n xs ys) {i : Nat} (hi' : i < n) (hdn : ys i - cbf st ys i ≤ -t) :
    ∃ zs, Mot t lo hi st ra n xs zs ∧ ctv st zs n < ctv st ys n := by
  obtain ⟨zs, h1, h2⟩ := no_up t1 (by omega) (by omega) h.neg hi' (by rw [cbf_neg]; omega)
  have h3 := h1.neg
  simp only [Int.neg_neg] at h3
  have h4 := ctv_neg (-st) zs n
  rw [ctv_neg] at h2
  rw [Int.neg_neg] at h4
  exact ⟨fun i => -zs i, h3, by rw [h4]; exact h2⟩
theorem ctv_nn (st : Int) (ys : Nat → Int) (n : Nat) : 0 ≤ ctv st ys n := by
  induction n with
  | zero => exact Int.le_refl _
  | succ n ih =>
    show 0 ≤ ctv st ys n + siz (ys n - cbf st ys n)
    have : 0 ≤ siz (ys n - cbf st ys n) := by unfold siz; omega
    omega
/-- If any motion is accepted, there is one with the least travel. -/
theorem least_mot {t lo hi st ra : Int} {n : Nat} {xs ys : Nat → Int} (h : Mot t lo hi st ra n xs ys) : ∃ zs, Mot t lo hi st ra n xs zs ∧ ctv st zs n ≤ ctv st ys n ∧ ∀ us, Mot t lo hi st ra n xs us → ctv st zs n ≤ ctv st us n := by
  obtain ⟨k, hk⟩ : ∃ k : Nat, ctv st ys n = (k : Int) := ⟨(ctv st ys n).toNat, by have := ctv_nn st ys n; omega⟩
  induction k using Nat.strongRecOn generalizing ys with
  | _ k ih =>
    by_cases hm : ∀ us, Mot t lo hi st ra n xs us → ctv st ys n ≤ ctv st us n
    · exact ⟨ys, h, Int.le_refl _, hm⟩
    · obtain ⟨us, hu⟩ := Classical.not_forall.1 hm
      obtain ⟨hu1, hu2⟩ := Classical.not_imp.1 hu
      have h0 := ctv_nn st us n
      obtain ⟨zs, q1, q2, q3⟩ := ih (ctv st us n).toNat (by omega) hu1 (by omega)
      exact ⟨zs, q1, by omega, q3⟩
/-- The steps of a motion with the least travel are less than a turn. -/
theorem least_steps {t lo hi st ra : Int} {n : Nat} {xs ys : Nat → Int} (t1 : 1 ≤ t) (f1 : lo ≤ st) (f2 : st ≤ hi) (h : Mot t lo hi st ra n xs ys) (hm : ∀ us, Mot t lo hi st ra n xs us → ctv st ys n ≤ ctv st us n) (i : Nat) (hi' : i < n) : -t < ys i - cbf st ys i ∧ ys i - cbf st ys i < t := by
  refine ⟨?_, ?_⟩
  · rcases Int.lt_or_le (-t) (ys i - cbf st ys i) with q | q
    · exact q
    · obtain ⟨zs, h1, h2⟩ := no_down t1 f1 f2 h hi' q
      have := hm zs h1
      omega
  · rcases Int.lt_or_le (ys i - cbf st ys i) t with q | q
    · exact q
    · obtain ⟨zs, h1, h2⟩ := no_up t1 f1 f2 h hi' q
      have := hm zs h1
      omega
theorem mr_nn {ra fr : Int} {a r : Nat → Int} {n : Nat} (h : ∀ k, k < n → -1 ≤ r k) : -1 ≤ mr ra fr a r n := by
  induction n with
  | zero => simp [mr]
  | succ n ih =>
    have i1 := ih (fun k hk => h k (by omega))
    have i2 : -1 ≤ tv ra fr (a n) (r n) := by
      have := siz_nn (a n - fr)
      have := h n (by omega)
      unfold tv
      split <;> omega
    simp only [mr, mrStep]
    split <;> omega
theorem rst_nn {ra : Int} {n : Nat} {kk : Nat → Nat} {a : Nat → Nat → Int} : ∀ (d j : Nat), -1 ≤ rst ra n kk a d j
  | 0, j => by simp [rst]
  | d + 1, j => mr_nn fun k _ => rst_nn d k
theorem rest_nn {ra : Int} {n : Nat} {kk : Nat → Nat} {a : Nat → Nat → Int} (i j : Nat) : -1 ≤ RE ra n kk a i j := rst_nn _ _
theorem mr_le {ra fr : Int} {a r : Nat → Int} {n j : Nat} (hj : j < n) (h : tv ra fr (a j) (r j) ≠ -1) : mr ra fr a r n ≠ -1 ∧ mr ra fr a r n ≤ tv ra fr (a j) (r j) := by
  induction n with
  | zero => omega
  | succ n ih =>
    by_cases hc : tv ra fr (a n) (r n) ≠ -1 ∧ (mr ra fr a r n = -1 ∨ tv ra fr (a n) (r n) < mr ra fr a r n)
    · have e : mr ra fr a r (n + 1) = tv ra fr (a n) (r n) := by simp only [mr]; exact mrStep_t hc.1 hc.2
      rw [e]
      refine ⟨hc.1, ?_⟩
      by_cases hjn : j = n
      · rw [hjn]; exact Int.le_refl _
      · obtain ⟨q1, q2⟩ := ih (by omega)
        rcases hc.2 with q | q
        · exact absurd q q1
        · omega
    · have e : mr ra fr a r (n + 1) = mr ra fr a r n := by simp only [mr]; exact mrStep_f hc
      rw [e]
      by_cases hjn : j = n
      · subst hjn
        by_cases h1 : mr ra fr a r j = -1
        · exact absurd ⟨h, .inl h1⟩ hc
        · refine ⟨h1, ?_⟩
          rcases Int.lt_or_le (tv ra fr (a j) (r j)) (mr ra fr a r j) with q | q
          · exact absurd ⟨h, .inr q⟩ hc
          · exact q
      · exact ih (by omega)
theorem tv_of {ra fr a r : Int} (h1 : siz (a - fr) ≤ ra) (h2 : r ≠ -1) : tv ra fr a r = siz (a - fr) + r := by
  unfold tv
  rw [if_neg (by omega)]
theorem tv_inv {ra fr a r : Int} (h : tv ra fr a r ≠ -1) : siz (a - fr) ≤ ra ∧ r ≠ -1 ∧ tv ra fr a r = siz (a - fr) + r := by
  unfold tv at h ⊢
  by_cases hc : ra < siz (a - fr) ∨ r = -1
  · rw [if_pos hc] at h; exact absurd rfl h
  · rw [if_neg hc]
    exact ⟨by omega, fun e => hc (.inr e), rfl⟩
/-- A position less than a turn away from a row's stops is a stop of the next row. -/
theorem next_has {t lo hi tg F p y : Int} {k : Nat} (t1 : 1 ≤ t) (hk : 0 < k) (p1 : F ≤ p) (p2 : p ≤ F + t * ((k - 1 : Nat) : Int)) (y1 : lo ≤ y) (y2 : y ≤ hi) (hd : t ∣ (y - tg)) (s1 : -t < y - p) (s2 : y - p < t) :
    ∃ j, j < (nextRow t lo hi tg (F, k)).2 ∧ y = (nextRow t lo hi tg (F, k)).1 + t * (j : Int) := by
  obtain ⟨q, hq⟩ := hd
  unfold nextRow
  simp only
  rw [if_neg (by omega)]
  simp only
  have hM : max lo (F - t) ≤ y := by omega
  have hH : y ≤ min hi (F + t * ((k - 1 : Nat) : Int) + t) := by omega
  generalize max lo (F - t) = M at *
  generalize min hi (F + t * ((k - 1 : Nat) : Int) + t) = H at *
  obtain ⟨n1, n2⟩ := next_on t (M - tg) t1
  unfold firstAt
  generalize hc : -(-(M - tg) / t) = c at *
  -- y = tg + t * q with c ≤ q
  have hcq : c ≤ q := by
    rcases Int.lt_or_le q c with h | h
    · exfalso
      have : t * (q + 1) ≤ t * c := Int.mul_le_mul_of_nonneg_left (by omega) (by omega)
      rw [Int.mul_add, Int.mul_one] at this
      omega
    · exact h
  refine ⟨(q - c).toNat, ?_, ?_⟩
  · unfold cnt
    have e : t * q = t * c + t * (q - c) := by rw [← Int.mul_add]; congr 1; omega
    have e2 : 0 ≤ t * (q - c) := Int.mul_nonneg (by omega) (by omega)
    rw [if_neg (by omega)]
    have : q - c ≤ (H - (tg + t * c)) / t := (Int.le_ediv_iff_mul_le (by omega)).2 (by rw [Int.mul_comm]; omega)
    omega
  · have e : t * q = t * c + t * (q - c) := by rw [← Int.mul_add]; congr 1; omega
    have e2 : (((q - c).toNat : Nat) : Int) = q - c := by omega
    rw [e2]
    omega
/-- The positions of a motion whose steps are less than a turn are stops of the rows. -/
theorem in_rows {t lo hi st ra : Int} {n : Nat} {xs ys : Nat → Int} (t1 : 1 ≤ t) (h : Mot t lo hi st ra n xs ys) (hs : ∀ i, i < n → -t < ys i - cbf st ys i ∧ ys i - cbf st ys i < t) (i : Nat) (hi' : i < n) :
    ∃ j, j < kkF t lo hi st xs i ∧ ys i = aF t lo hi st xs i j := by
  have key : ∀ i, i ≤ n → 0 < (rowBefore t lo hi st xs i).2 ∧ ∃ j, j < (rowBefore t lo hi st xs i).2 ∧ cbf st ys i = (rowBefore t lo hi st xs i).1 + t * (j : Int) := by
    intro i
    induction i with
    | zero => intro _; exact ⟨by show 0 < 1; omega, 0, by show 0 < 1; omega, by show st = st + t * ((0 : Nat) : Int); simp⟩
    | succ i ih =>
      intro hin
      obtain ⟨hk, j, hj, hc⟩ := ih (by omega)
      obtain ⟨⟨a1, a2⟩, a3, _⟩ := h i (by omega)
      obtain ⟨s1, s2⟩ := hs i (by omega)
      have e : rowBefore t lo hi st xs i = ((rowBefore t lo hi st xs i).1, (rowBefore t lo hi st xs i).2) := rfl
      have m1 : 0 ≤ t * (j : Int) := Int.mul_nonneg (by omega) (by omega)
      have m2 : t * (j : Int) ≤ t * (((rowBefore t lo hi st xs i).2 - 1 : Nat) : Int) := Int.mul_le_mul_of_nonneg_left (by omega) (by omega)
      obtain ⟨j', h1, h2⟩ := next_has (F := (rowBefore t lo hi st xs i).1) (k := (rowBefore t lo hi st xs i).2) (p := cbf st ys i) (y := ys i) (tg := xs i) t1 hk (by omega) (by omega) a1 a2 a3 s1 s2
      show 0 < (nextRow t lo hi (xs i) (rowBefore t lo hi st xs i)).2 ∧ _
      exact ⟨by rw [e]; omega, j', h1, h2⟩
  obtain ⟨_, j, h1, h2⟩ := key (i + 1) (by omega)
  exact ⟨j, h1, h2⟩
/-- What is left to travel is at most what a motion through the rows travels. -/
theorem rest_le {ra st : Int} {n : Nat} {kk : Nat → Nat} {a : Nat → Nat → Int} {ys : Nat → Int} {js : Nat → Nat} (hj : ∀ i, i < n → js i < kk i ∧ ys i = a i (js i)) (hr : ∀ i, i < n → siz (ys i - cbf st ys i) ≤ ra) :
    ∀ d i, i + d + 1 = n → RE ra n kk a i (js i) ≠ -1 ∧ RE ra n kk a i (js i) ≤ ctv st ys n - ctv st ys (i + 1)
  | 0, i, h => by
    rw [RE_last ra kk a (by omega) (js i), show i + 1 = n by omega]
    omega
  | d + 1, i, h => by
    obtain ⟨h1, h2⟩ := rest_le hj hr d (i + 1) (by omega)
    rw [RE_step ra kk a (by omega) (js i)]
    have hy : ys (i + 1) = a (i + 1) (js (i + 1)) := (hj (i + 1) (by omega)).2
    have hy0 : ys i = a i (js i) := (hj i (by omega)).2
    have hs : siz (a (i + 1) (js (i + 1)) - a i (js i)) ≤ ra := by
      have := hr (i + 1) (by omega)
      rw [← hy, ← hy0]; exact this
    have ht := tv_of hs h1
    obtain ⟨q1, q2⟩ := mr_le (ra := ra) (fr := a i (js i)) (a := a (i + 1)) (r := RE ra n kk a (i + 1)) (hj (i + 1) (by omega)).1 (by rw [ht]; have := siz_nn (a (i + 1) (js (i + 1)) - a i (js i)); have := rest_nn (ra := ra) (n := n) (kk := kk) (a := a) (i + 1) (js (i + 1)); omega)
    refine ⟨q1, ?_⟩
    have hc : ctv st ys (i + 1 + 1) = ctv st ys (i + 1) + siz (ys (i + 1) - ys i) := rfl
    rw [hc, hy, hy0] at h2
    omega
/-- Going on to the next stop each time travels what was left. -/
theorem greedy {ra st m0 : Int} {n : Nat} {kk : Nat → Nat} {a : Nat → Nat → Int} (hn : 0 < n) (h0 : mr ra st (a 0) (RE ra n kk a 0) (kk 0) = m0) (hm : m0 ≠ -1) :
    ∀ i, i < n → mok ra st kk a (RE ra n kk a) i ∧ mtrv ra st kk a (RE ra n kk a) i + mr ra (mpos ra st kk a (RE ra n kk a) i) (a i) (RE ra n kk a i) (kk i) = m0 ∧
      mtrv ra st kk a (RE ra n kk a) (i + 1) + RE ra n kk a i (nxt ra (mpos ra st kk a (RE ra n kk a) i) (a i) (RE ra n kk a i) (kk i)) = m0
  | 0, _ => by
    have hk : mok ra st kk a (RE ra n kk a) 0 := by show mr ra st (a 0) (RE ra n kk a 0) (kk 0) ≠ -1; rw [h0]; exact hm
    obtain ⟨s1, _, s3⟩ := nxt_spec hk
    obtain ⟨v1, v2, v3⟩ := tv_inv (show tv ra _ _ _ ≠ -1 by rw [s3]; exact hk)
    have e : mr ra (mpos ra st kk a (RE ra n kk a) 0) (a 0) (RE ra n kk a 0) (kk 0) = m0 := h0
    have ec : mtrv ra st kk a (RE ra n kk a) 0 = 0 := rfl
    have e1 : mtrv ra st kk a (RE ra n kk a) (0 + 1) = mtrv ra st kk a (RE ra n kk a) 0 + siz (a 0 (nxt ra (mpos ra st kk a (RE ra n kk a) 0) (a 0) (RE ra n kk a 0) (kk 0)) - mpos ra st kk a (RE ra n kk a) 0) := rfl
    exact ⟨hk, by omega, by rw [e1]; omega⟩
  | i + 1, hi => by
    obtain ⟨g1, g2, g3⟩ := greedy hn h0 hm i (by omega)
    obtain ⟨s1, _, s3⟩ := nxt_spec g1
    obtain ⟨v1, v2, v3⟩ := tv_inv (show tv ra _ _ _ ≠ -1 by rw [s3]; exact g1)
    have ep : mpos ra st kk a (RE ra n kk a) (i + 1) = a i (nxt ra (mpos ra st kk a (RE ra n kk a) i) (a i) (RE ra n kk a i) (kk i)) := rfl
    have er := RE_step ra kk a (show i + 1 < n from hi) (nxt ra (mpos ra st kk a (RE ra n kk a) i) (a i) (RE ra n kk a i) (kk i))
    rw [← ep] at er
    have hk : mok ra st kk a (RE ra n kk a) (i + 1) := by show mr _ _ _ _ _ ≠ -1; rw [← er]; exact v2
    obtain ⟨r1, _, r3⟩ := nxt_spec hk
    obtain ⟨u1, u2, u3⟩ := tv_inv (show tv ra _ _ _ ≠ -1 by rw [r3]; exact hk)
    have e1 : mtrv ra st kk a (RE ra n kk a) (i + 1 + 1) = mtrv ra st kk a (RE ra n kk a) (i + 1) + siz (a (i + 1) (nxt ra (mpos ra st kk a (RE ra n kk a) (i + 1)) (a (i + 1)) (RE ra n kk a (i + 1)) (kk (i + 1))) - mpos ra st kk a (RE ra n kk a) (i + 1)) := rfl
    rw [er] at g3
    exact ⟨hk, g3, by rw [e1]; omega⟩
theorem greedy_end {ra st m0 : Int} {n : Nat} {kk : Nat → Nat} {a : Nat → Nat → Int} (hn : 0 < n) (h0 : mr ra st (a 0) (RE ra n kk a 0) (kk 0) = m0) (hm : m0 ≠ -1) : mtrv ra st kk a (RE ra n kk a) n = m0 := by
  obtain ⟨i, rfl⟩ : ∃ i, n = i + 1 := ⟨n - 1, by omega⟩
  have := (greedy hn h0 hm i (by omega)).2.2
  rw [RE_last ra kk a (by omega)] at this
  omega
/-- The motion of the program, as positions. -/
def pL (t lo hi st ra : Int) (n : Nat) (xs : Nat → Int) (i : Nat) : Int := pPos t lo hi st ra n xs (i + 1)
theorem cbf_pL (t lo hi st ra : Int) (n : Nat) (xs : Nat → Int) (i : Nat) : cbf st (pL t lo hi st ra n xs) i = pPos t lo hi st ra n xs i := by cases i <;> rfl
theorem ctv_pL (t lo hi st ra : Int) (n : Nat) (xs : Nat → Int) (i : Nat) : ctv st (pL t lo hi st ra n xs) i = pTrv t lo hi st ra n xs i := by
  induction i with
  | zero => rfl
  | succ i ih =>
    show ctv st (pL t lo hi st ra n xs) i + siz (pL t lo hi st ra n xs i - cbf st (pL t lo hi st ra n xs) i) = _
    rw [ih, cbf_pL]
    rfl
theorem aF_dvd {t lo hi st : Int} {xs : Nat → Int} {i j : Nat} (hj : j < kkF t lo hi st xs i) : t ∣ (aF t lo hi st xs i j - xs i) := by
  unfold kkF at hj
  unfold aF
  have e : rowBefore t lo hi st xs (i + 1) = nextRow t lo hi (xs i) (rowBefore t lo hi st xs i) := rfl
  rw [e] at hj ⊢
  unfold nextRow at hj ⊢
  split
  · rename_i h; rw [if_pos h] at hj; exact absurd hj (by simp)
  · simp only
    unfold firstAt
    rw [show ∀ p q : Int, xs i + p + q - xs i = p + q by intro p q; omega, ← Int.mul_add]
    exact Int.dvd_mul_right _ _
theorem pL_mot {t lo hi st ra : Int} {n : Nat} {xs : Nat → Int} (hin : ∀ i, i < n → ∀ j, j < kkF t lo hi st xs i → lo ≤ aF t lo hi st xs i j ∧ aF t lo hi st xs i j ≤ hi) (ho : ∀ i, i < n → pOk t lo hi st ra n xs i) : Mot t lo hi st ra n xs (pL t lo hi st ra n xs) := by
  intro i hi'
  have hk := ho i hi'
  unfold pOk at hk
  obtain ⟨s1, _, s3⟩ := nxt_spec hk
  obtain ⟨v1, _, _⟩ := tv_inv (show tv ra _ _ _ ≠ -1 by rw [s3]; exact hk)
  rw [cbf_pL]
  exact ⟨hin i hi' _ s1, aF_dvd s1, v1⟩
theorem aF_lt {t lo hi st : Int} {xs : Nat → Int} (t1 : 1 ≤ t) {i j j' : Nat} (h : aF t lo hi st xs i j < aF t lo hi st xs i j') : j < j' := by
  unfold aF at h
  rcases Nat.lt_or_ge j j' with q | q
  · exact q
  · have : t * (j' : Int) ≤ t * (j : Int) := Int.mul_le_mul_of_nonneg_left (by omega) (by omega)
    omega
theorem fidx_first {p : Nat → Bool} {n k j : Nat} (hk : fidx p n = (k : Int)) (hj : j < n) (hp : p j = true) : k ≤ j := by
  obtain ⟨i, h1, h2, h3⟩ := first_of (p := p) hj hp
  have := fidx_hit h1 h2 h3
  rw [hk] at this
  have hki : k = i := by omega
  rcases Nat.lt_or_ge j k with q | q
  · rw [hki] at q
    rw [h3 j q] at hp; cases hp
  · exact q
/-- No motion travels less than the program's, and of those that travel as much none is before it. -/
theorem pt_best {t lo hi st ra : Int} {n : Nat} {xs ys : Nat → Int} (t1 : 1 ≤ t) (f1 : lo ≤ st) (f2 : st ≤ hi) (hin : ∀ i, i < n → ∀ j, j < kkF t lo hi st xs i → lo ≤ aF t lo hi st xs i j ∧ aF t lo hi st xs i j ≤ hi)
    (h : Mot t lo hi st ra n xs ys) :
    (∀ i, i < n → pOk t lo hi st ra n xs i) ∧ pTrv t lo hi st ra n xs n ≤ ctv st ys n ∧ (ctv st ys n = pTrv t lo hi st ra n xs n → ∀ i, i < n → (∀ l, l < i → ys l = pL t lo hi st ra n xs l) → pL t lo hi st ra n xs i ≤ ys i) := by
  -- a motion that is accepted and travels least lies in the rows
  have rows : ∀ us, Mot t lo hi st ra n xs us → (∀ vs, Mot t lo hi st ra n xs vs → ctv st us n ≤ ctv st vs n) → ∃ js : Nat → Nat, ∀ i, i < n → js i < kkF t lo hi st xs i ∧ us i = aF t lo hi st xs i (js i) := by
    intro us hu hm
    have hs := least_steps t1 f1 f2 hu hm
    have hr := in_rows t1 hu hs
    exact ⟨fun i => if hi : i < n then Classical.choose (hr i hi) else 0, fun i hi => by simp only [dif_pos hi]; exact Classical.choose_spec (hr i hi)⟩
  obtain ⟨zs, z1, z2, z3⟩ := least_mot h
  rcases Nat.eq_zero_or_pos n with hn | hn
  · subst hn
    exact ⟨fun i hi => absurd hi (Nat.not_lt_zero i), Int.le_refl _, fun _ i hi => absurd hi (Nat.not_lt_zero i)⟩
  · obtain ⟨js, hjs⟩ := rows zs z1 z3
    have hrest := rest_le (st := st) hjs (fun i hi => (z1 i hi).2.2) (n - 1) 0 (by omega)
    obtain ⟨r1, r2⟩ := hrest
    have hz0 := (hjs 0 hn).2
    have hs0 : siz (aF t lo hi st xs 0 (js 0) - st) ≤ ra := by rw [← hz0]; exact (z1 0 hn).2.2
    have ht0 := tv_of hs0 r1
    have hnn := rest_nn (ra := ra) (n := n) (kk := kkF t lo hi st xs) (a := aF t lo hi st xs) 0 (js 0)
    obtain ⟨q1, q2⟩ := mr_le (ra := ra) (fr := st) (a := aF t lo hi st xs 0) (r := RE ra n (kkF t lo hi st xs) (aF t lo hi st xs) 0) (hjs 0 hn).1 (by rw [ht0]; have := siz_nn (aF t lo hi st xs 0 (js 0) - st); omega)
    have hc1 : ctv st zs (0 + 1) = ctv st zs 0 + siz (zs 0 - st) := rfl
    have hc0 : ctv st zs 0 = 0 := rfl
    rw [hz0] at hc1
    have hle : mr ra st (aF t lo hi st xs 0) (RE ra n (kkF t lo hi st xs) (aF t lo hi st xs) 0) (kkF t lo hi st xs 0) ≤ ctv st zs n := by omega
    have hg := greedy (ra := ra) (st := st) (kk := kkF t lo hi st xs) (a := aF t lo hi st xs) hn rfl q1
    have hge := greedy_end (ra := ra) (st := st) (kk := kkF t lo hi st xs) (a := aF t lo hi st xs) hn rfl q1
    have ho : ∀ i, i < n → pOk t lo hi st ra n xs i := fun i hi => (hg i hi).1
    have hT : pTrv t lo hi st ra n xs n = mr ra st (aF t lo hi st xs 0) (RE ra n (kkF t lo hi st xs) (aF t lo hi st xs) 0) (kkF t lo hi st xs 0) := hge
    have hM := z3 _ (pL_mot hin ho)
    rw [ctv_pL] at hM
    refine ⟨ho, by omega, fun hy i hlt hpre => ?_⟩
    have hmin : ∀ vs, Mot t lo hi st ra n xs vs → ctv st ys n ≤ ctv st vs n := fun vs hv => by have := z3 vs hv; omega
    obtain ⟨ks, hks⟩ := rows ys h hmin
    have hrest := rest_le (st := st) hks (fun i hi => (h i hi).2.2) (n - 1 - i) i (by omega)
    obtain ⟨w1, w2⟩ := hrest
    -- the same way so far
    have hcb : cbf st ys i = pPos t lo hi st ra n xs i := by
      rw [← cbf_pL]
      cases i with
      | zero => rfl
      | succ i => exact hpre i (Nat.lt_succ_self i)
    have hct : ctv st ys i = pTrv t lo hi st ra n xs i := by
      rw [← ctv_pL]
      have : ∀ l, l ≤ i → ctv st ys l = ctv st (pL t lo hi st ra n xs) l := by
        intro l
        induction l with
        | zero => intro _; rfl
        | succ l ih =>
          intro hl
          show ctv st ys l + siz (ys l - cbf st ys l) = ctv st (pL t lo hi st ra n xs) l + siz (pL t lo hi st ra n xs l - cbf st (pL t lo hi st ra n xs) l)
          rw [ih (by omega), hpre l (by omega)]
          have : cbf st ys l = cbf st (pL t lo hi st ra n xs) l := by
            cases l with
            | zero => rfl
            | succ l => exact hpre l (by omega)
          rw [this]
      exact this i (Nat.le_refl i)
    obtain ⟨g1, g2, _⟩ := hg i hlt
    obtain ⟨n1, n2, n3⟩ := nxt_spec g1
    have hyi := (hks i hlt).2
    have hsi : siz (aF t lo hi st xs i (ks i) - pPos t lo hi st ra n xs i) ≤ ra := by rw [← hyi, ← hcb]; exact (h i hlt).2.2
    have hti := tv_of hsi w1
    have hnn2 := rest_nn (ra := ra) (n := n) (kk := kkF t lo hi st xs) (a := aF t lo hi st xs) i (ks i)
    have hmle := mr_le (ra := ra) (fr := pPos t lo hi st ra n xs i) (a := aF t lo hi st xs i) (r := RE ra n (kkF t lo hi st xs) (aF t lo hi st xs) i) (hks i hlt).1 (by rw [hti]; have := siz_nn (aF t lo hi st xs i (ks i) - pPos t lo hi st ra n xs i); omega)
    have hci : ctv st ys (i + 1) = ctv st ys i + siz (ys i - cbf st ys i) := rfl
    rw [hyi, hcb] at hci
    have g2' : pTrv t lo hi st ra n xs i + mr ra (pPos t lo hi st ra n xs i) (aF t lo hi st xs i) (RE ra n (kkF t lo hi st xs) (aF t lo hi st xs) i) (kkF t lo hi st xs i) = mr ra st (aF t lo hi st xs 0) (RE ra n (kkF t lo hi st xs) (aF t lo hi st xs) 0) (kkF t lo hi st xs 0) := g2
    have heq : tv ra (pPos t lo hi st ra n xs i) (aF t lo hi st xs i (ks i)) (RE ra n (kkF t lo hi st xs) (aF t lo hi st xs) i (ks i)) = mr ra (pPos t lo hi st ra n xs i) (aF t lo hi st xs i) (RE ra n (kkF t lo hi st xs) (aF t lo hi st xs) i) (kkF t lo hi st xs i) := by omega
    have hfirst : nxt ra (pPos t lo hi st ra n xs i) (aF t lo hi st xs i) (RE ra n (kkF t lo hi st xs) (aF t lo hi st xs) i) (kkF t lo hi st xs i) ≤ ks i := fidx_first n2 (hks i hlt).1 (beq_iff_eq.2 heq)
    rw [hyi]
    rcases Int.lt_or_le (aF t lo hi st xs i (ks i)) (pL t lo hi st ra n xs i) with q | q
    · have := aF_lt t1 (show aF t lo hi st xs i (ks i) < aF t lo hi st xs i (nxt ra (pPos t lo hi st ra n xs i) (aF t lo hi st xs i) (RE ra n (kkF t lo hi st xs) (aF t lo hi st xs) i) (kkF t lo hi st xs i)) from q)
      exact absurd hfirst (by omega)
    · exact q
theorem cpi_mot {t lo hi st ra : Int} {xs ys : Nat → Int} {i : Nat} : cpi t lo hi st ra xs ys i = 0 ↔ (lo ≤ ys i ∧ ys i ≤ hi) ∧ t ∣ (ys i - xs i) ∧ siz (ys i - cbf st ys i) ≤ ra := by
  unfold cpi cpE
  constructor
  · intro h
    cases h1 : wi (ys i) lo hi
    · rw [h1] at h; simp at h
    · rw [h1] at h
      simp only [if_true] at h
      by_cases h2 : (ys i - xs i).tmod t = 0
      · rw [if_pos (by simpa using h2)] at h
        by_cases h3 : siz (ys i - cbf st ys i) ≤ ra
        · exact ⟨wi_t.1 h1, Int.dvd_of_tmod_eq_zero h2, h3⟩
        · rw [if_neg (by simpa using h3)] at h; omega
      · rw [if_neg (by simpa using h2)] at h; omega
  · rintro ⟨h1, h2, h3⟩
    rw [wi_t.2 h1]
    have h2' := Int.tmod_eq_zero_of_dvd h2
    simp [h2', h3]
theorem ferr_0 {er : Nat → Int} : ∀ (n i : Nat), ferr er i n = 0 → ∀ j, i ≤ j → j < i + n → er j = 0
  | 0, i, _, j, h1, h2 => by omega
  | n + 1, i, h, j, h1, h2 => by
    simp only [ferr] at h
    by_cases hz : er i = 0
    · rw [if_pos hz] at h
      by_cases e : j = i
      · rw [e]; exact hz
      · exact ferr_0 n (i + 1) h j (by omega) (by omega)
    · rw [if_neg hz] at h; exact absurd h hz
theorem mot_iff {t lo hi st ra : Int} {n : Nat} {xs ys : Nat → Int} : ferr (cpi t lo hi st ra xs ys) 0 n = 0 ↔ Mot t lo hi st ra n xs ys :=
  ⟨fun h i hi' => cpi_mot.1 (ferr_0 n 0 h i (Nat.zero_le _) (by omega)), fun h => ferr_miss n 0 fun j _ hj => cpi_mot.2 (h j (by omega))⟩
/-- With a greater rate a motion is accepted as well. -/
theorem Mot.faster {t lo hi st ra ra' : Int} {n : Nat} {xs ys : Nat → Int} (h : Mot t lo hi st ra n xs ys) (hr : ra ≤ ra') : Mot t lo hi st ra' n xs ys := fun i hi' => ⟨(h i hi').1, (h i hi').2.1, Int.le_trans (h i hi').2.2 hr⟩
/-- There is a motion. -/
def Can (t lo hi st ra : Int) (n : Nat) (xs : Nat → Int) : Prop := ∃ ys, Mot t lo hi st ra n xs ys
theorem can_iff {t lo hi st ra : Int} {n : Nat} {xs : Nat → Int} (t1 : 1 ≤ t) (f1 : lo ≤ st) (f2 : st ≤ hi) (hin : ∀ i, i < n → ∀ j, j < kkF t lo hi st xs i → lo ≤ aF t lo hi st xs i j ∧ aF t lo hi st xs i j ≤ hi) : Can t lo hi st ra n xs ↔ ∀ i, i < n → pOk t lo hi st ra n xs i :=
  ⟨fun ⟨_, h⟩ => (pt_best t1 f1 f2 hin h).1, fun h => ⟨_, pL_mot hin h⟩⟩
end Go.Proofs.YtjncjoaohonmjaaGreat
namespace Go.Proofs.YtjncjoaohonmjaaGreat
open Go.RowKit Go.Shelf Go.Sort
attribute [local go_sem] idx3_0 idx3_1 idx3_2 old1 fro1 old2 fro2 old3 fro3 old4 fro4 old5 fro5 old6 fro6 old7 fro7 old8 fro8 old9 fro9 old10 fro10 old11 fro11 old12 fro12
/-- With this rate there is a motion. -/
def okB (t lo hi st : Int) (n : Nat) (xs : Nat → Int) (r : Int) : Bool := (List.range n).all fun i => !(mr r (pPos t lo hi st r n xs i) (aF t lo hi st xs i) (pR t lo hi st r n xs i) (kkF t lo hi st xs i) == -1)
theorem okB_iff {t lo hi st : Int} {n : Nat} {xs : Nat → Int} {r : Int} : okB t lo hi st n xs r = true ↔ ∀ i, i < n → pOk t lo hi st r n xs i := by
  unfold okB
  rw [List.all_eq_true]
  constructor
  · intro h i hi'
    have := h i (List.mem_range.2 hi')
    have h2 : mr r (pPos t lo hi st r n xs i) (aF t lo hi st xs i) (pR t lo hi st r n xs i) (kkF t lo hi st xs i) ≠ -1 := by simpa using this
    exact h2
  · intro h i hi'
    have : mr r (pPos t lo hi st r n xs i) (aF t lo hi st xs i) (pR t lo hi st r n xs i) (kkF t lo hi st xs i) ≠ -1 := h i (List.mem_range.1 hi')
    simpa using this
theorem mot_any (t lo hi st ra : Int) (A : Option Addr) (n c : Nat) (xs : Nat → Int) (w : World) (hA : IA w A n xs) (hd : driveErr t lo hi st ra = 0) (hn : n ≤ 40) (hx : ∀ i, i < n → 0 ≤ xs i ∧ xs i ≤ t - 1) :
    Calls Tryz.prog 43 #[.agg #[.int .i64 t, .int .i64 lo, .int .i64 hi, .int .i64 st, .int .i64 ra], .slice A n c] w fun e w' => Below w.heap.size w w' ∧
      ∃ A' n' c' x, e = .returned (.tuple #[.slice A' n' c', .int .i64 x]) ∧ (x != -1) = okB t lo hi st n xs ra := by
  obtain ⟨⟨t1, t2⟩, ⟨l1, l2⟩, ⟨h1, h2⟩, ⟨r0, r1⟩, f1, f2⟩ := drive_ok hd
  refine (minimumMotion_o t lo hi st ra A n c xs w (by omega) hA (fun i hi => ⟨(hx i hi).1, by have := (hx i hi).2; omega⟩) t1 t2 l1 l2 h1 h2 f1 f2 r0 r1 _ _ _ rfl rfl rfl (fun i _ => rows_in t1 t2 l1 h2 f1 f2 i)).mono ?_
  rintro e w' ⟨hb, ⟨ho, v, rfl, hv⟩ | ⟨⟨i, hlt, hni⟩, rfl⟩⟩
  · obtain ⟨hv1, _⟩ := own_parts hv
    have hT := (mtrv_in (ra := ra) (R := pR t lo hi st ra n xs) l1 h2 f1 f2 (fun i (_ : i < n) => (rows_in (xs := xs) t1 t2 l1 h2 f1 f2 i).2) n (Nat.le_refl n) ho).1
    refine ⟨hb, sA v, n, sC v, mtrv ra st (kkF t lo hi st xs) (aF t lo hi st xs) (pR t lo hi st ra n xs) n, congrArg (fun q => Ending.returned (.tuple #[q, .int .i64 (mtrv ra st (kkF t lo hi st xs) (aF t lo hi st xs) (pR t lo hi st ra n xs) n)])) hv1, ?_⟩
    rw [okB_iff.2 ho]
    have : mtrv ra st (kkF t lo hi st xs) (aF t lo hi st xs) (pR t lo hi st ra n xs) n ≠ -1 := by omega
    simpa using this
  · refine ⟨hb, none, 0, 0, -1, rfl, ?_⟩
    cases ho : okB t lo hi st n xs ra
    · rfl
    · exact absurd (okB_iff.1 ho i hlt) hni
set_option maxRecDepth 100000 in
set_option maxHeartbeats 2000000 in
theorem minimumRate1_any (t lo hi st ra r : Int) (bd bs : Nat) (A : Option Addr) (n c : Nat) (xs : Nat → Int) (w : World) (hA : IA w A n xs) (hd : driveErr t lo hi st r = 0) (hn : n ≤ 40) (hx : ∀ i, i < n → 0 ≤ xs i ∧ xs i ≤ t - 1)
    (d0 : w.cell? ⟨bd, 0, none⟩ = some (.int .i64 t)) (d1 : w.cell? ⟨bd, 1, none⟩ = some (.int .i64 lo)) (d2 : w.cell? ⟨bd, 2, none⟩ = some (.int .i64 hi)) (d3 : w.cell? ⟨bd, 3, none⟩ = some (.int .i64 st)) (d4 : w.cell? ⟨bd, 4, none⟩ = some (.int .i64 ra)) (s0 : w.cell? ⟨bs, 0, none⟩ = some (.slice A n c)) :
    Calls Tryz.prog 45 #[.int .i64 r, .pointer (some ⟨bd, 0, none⟩), .pointer (some ⟨bs, 0, none⟩)] w fun e w' => e = .returned (.bool (okB t lo hi st n xs r)) ∧ Below w.heap.size w w' := by
  have HM := fun W hW => Lib.hid (mot_any t lo hi st r A n c xs W hW hd hn hx)
  have HA := Lib.hid hA
  clear hA
  go_enter Tryz.func45, Tryz.ntmps45
  go_wp2_with (go_at_call 43; go_loud ((with_reducible refine Calls.mono (HM _ (HA.out.below (by (repeat (first | with_reducible exact Below.refl _ _ | with_reducible assumption | with_reducible refine Below.alloc ?_ (by first | (simp; done) | (simp; omega) | omega) _ | with_reducible refine Below.setCell ?_ (by first | (simp; done) | (simp; omega) | omega) _ | with_reducible refine Below.drew ?_ | with_reducible refine below_drewN ?_ _))))).out ?_); rintro e w1 ⟨hb1, A', n', c', x, rfl, hx1⟩; have B1 := thenB (show Below w.heap.size w _ by (repeat (first | with_reducible exact Below.refl _ _ | with_reducible assumption | with_reducible refine Below.alloc ?_ (by first | (simp; done) | (simp; omega) | omega) _ | with_reducible refine Below.setCell ?_ (by first | (simp; done) | (simp; omega) | omega) _ | with_reducible refine Below.drew ?_ | with_reducible refine below_drewN ?_ _))) hb1; have HX := Lib.hid hx1; clear hb1 hx1))
  go_ret
  exact ⟨ret_bool HX.out, B1⟩
def SomeRate (t lo hi st ra : Int) (n : Nat) (xs : Nat → Int) (w : World) (e : Ending) (w' : World) : Prop :=
  Below w.heap.size w w' ∧ ((ptErr t lo hi st ra n xs ≠ 0 ∧ e = .returned (.tuple #[.int .i64 0, .int .i64 (ptErr t lo hi st ra n xs)])) ∨
    (ptErr t lo hi st ra n xs = 0 ∧ ∃ r, RL (okB t lo hi st n xs) 0 40000 r ∧ ((40000 < r ∧ e = .returned (.tuple #[.int .i64 0, .int .i64 12])) ∨ (r ≤ 40000 ∧ e = .returned (.tuple #[.int .i64 r, .int .i64 0])))))
theorem drive_rate {t lo hi st ra r : Int} (h : driveErr t lo hi st ra = 0) (r0 : 0 ≤ r) (r1 : r ≤ 40000) : driveErr t lo hi st r = 0 := by
  obtain ⟨t1, l1, h1, _, f1, f2⟩ := drive_ok h
  unfold driveErr dr1
  rw [wi_t.2 t1, wi_t.2 l1, wi_t.2 h1, wi_t.2 ⟨r0, r1⟩, wi_t.2 ⟨f1, f2⟩]
  have : decide (lo ≤ hi) = true := by simp; omega
  rw [this]
  rfl
theorem leastRate (t lo hi st ra : Int) (bd bs : Nat) (A : Option Addr) (n c : Nat) (xs : Nat → Int) (w : World) (hA : IA w A n xs) (hd : driveErr t lo hi st ra = 0) (hn : n ≤ 40) (hx : ∀ i, i < n → 0 ≤ xs i ∧ xs i ≤ t - 1)
    (d0 : w.cell? ⟨bd, 0, none⟩ = some (.int .i64 t)) (d1 : w.cell? ⟨bd, 1, none⟩ = some (.int .i64 lo)) (d2 : w.cell? ⟨bd, 2, none⟩ = some (.int .i64 hi)) (d3 : w.cell? ⟨bd, 3, none⟩ = some (.int .i64 st)) (d4 : w.cell? ⟨bd, 4, none⟩ = some (.int .i64 ra)) (s0 : w.cell? ⟨bs, 0, none⟩ = some (.slice A n c)) :
    Calls Tryz.prog 44 #[.int .i64 0, .int .i64 40000, .func (.func 45) #[] #[.pointer (some ⟨bd, 0, none⟩), .pointer (some ⟨bs, 0, none⟩)]] w (SomeL (okB t lo hi st n xs) 0 40000 w) :=
  least_any 45 _ 0 40000 _ w (enters_of Tryz.func45 (by kernel_rfl) rfl) (by omega) (by omega) (by omega) (fun r w1 h1 h2 hb =>
    minimumRate1_any t lo hi st ra r bd bs A n c xs w1 (hA.below hb) (drive_rate hd h1 h2) hn hx (keep hb d0) (keep hb d1) (keep hb d2) (keep hb d3) (keep hb d4) (keep hb s0))
set_option maxRecDepth 100000 in
set_option maxHeartbeats 2000000 in
theorem minimumRate_any (t lo hi st ra : Int) (A : Option Addr) (n c : Nat) (xs : Nat → Int) (w : World) (hn : n ≤ 9223372036854775807) (hA : IA w A n xs) :
    Calls Tryz.prog 18 #[.agg #[.int .i64 t, .int .i64 lo, .int .i64 hi, .int .i64 st, .int .i64 ra], .slice A n c] w (SomeRate t lo hi st ra n xs w) := by
  have HC := fun W hW => Lib.hid (checkTargets_any t lo hi st ra A n c xs W hn hW)
  have HA := Lib.hid hA
  by_cases h0 : ptErr t lo hi st ra n xs = 0
  · obtain ⟨hd, hn40, hx⟩ := pt_ok h0
    have HS : Hid (∀ e w', Below w.heap.size w w' → (∃ r, RL (okB t lo hi st n xs) 0 40000 r ∧ ((40000 < r ∧ e = .returned (.tuple #[.int .i64 0, .int .i64 12])) ∨ (r ≤ 40000 ∧ e = .returned (.tuple #[.int .i64 r, .int .i64 0])))) → SomeRate t lo hi st ra n xs w e w') := fun e w' hb h => ⟨hb, .inr ⟨h0, h⟩⟩
    rw [h0] at HC
    clear hA h0
    go_enter Tryz.func18, Tryz.ntmps18
    go_wp2_with (first
      | (go_at_call 42; (with_reducible refine Calls.mono (HC _ (HA.out.below (by (repeat (first | with_reducible exact Below.refl _ _ | with_reducible assumption | with_reducible refine Below.alloc ?_ (by first | (simp; done) | (simp; omega) | omega) _ | with_reducible refine Below.setCell ?_ (by first | (simp; done) | (simp; omega) | omega) _ | with_reducible refine Below.drew ?_ | with_reducible refine below_drewN ?_ _))))).out ?_); rintro e w1 ⟨rfl, hb1⟩; have B1 := Lib.hid (thenB (show Below w.heap.size w _ by (repeat (first | with_reducible exact Below.refl _ _ | with_reducible assumption | with_reducible refine Below.alloc ?_ (by first | (simp; done) | (simp; omega) | omega) _ | with_reducible refine Below.setCell ?_ (by first | (simp; done) | (simp; omega) | omega) _ | with_reducible refine Below.drew ?_ | with_reducible refine below_drewN ?_ _))) hb1); have d0 := (hb1.cell (p := ⟨w.heap.size, 0, none⟩) (by first | (simp; done) | (simp; omega) | omega)).trans (show _ = some (.int .i64 t) by simp [go_sem]); have d1 := (hb1.cell (p := ⟨w.heap.size, 1, none⟩) (by first | (simp; done) | (simp; omega) | omega)).trans (show _ = some (.int .i64 lo) by simp [go_sem]); have d2 := (hb1.cell (p := ⟨w.heap.size, 2, none⟩) (by first | (simp; done) | (simp; omega) | omega)).trans (show _ = some (.int .i64 hi) by simp [go_sem]); have d3 := (hb1.cell (p := ⟨w.heap.size, 3, none⟩) (by first | (simp; done) | (simp; omega) | omega)).trans (show _ = some (.int .i64 st) by simp [go_sem]); have d4 := (hb1.cell (p := ⟨w.heap.size, 4, none⟩) (by first | (simp; done) | (simp; omega) | omega)).trans (show _ = some (.int .i64 ra) by simp [go_sem]); have s0 := (hb1.cell (p := ⟨w.heap.size + 1, 0, none⟩) (by first | (simp; done) | (simp; omega) | omega)).trans (show _ = some (.slice A n c) by simp [go_sem]); clear hb1)
      | (go_at_call 44; (with_reducible refine Calls.mono (leastRate t lo hi st ra w.heap.size (w.heap.size + 1) A n c xs _ (HA.out.below B1.out) hd hn40 hx d0 d1 d2 d3 d4 s0) ?_); rintro e w2 ⟨r, rfl, hr, hb2⟩; have B2 := Lib.hid (thenB B1.out hb2); have HR := Lib.hid hr; clear hb2 hr)
      | fail)
    all_goals
      go_ret2
      first
        | exact HS.out _ _ B2.out ⟨r, HR.out, .inl ⟨by omega, rfl⟩⟩
        | exact HS.out _ _ B2.out ⟨r, HR.out, .inr ⟨by omega, rfl⟩⟩
  · have HS : Hid (∀ e w', Below w.heap.size w w' → e = .returned (.tuple #[.int .i64 0, .int .i64 (ptErr t lo hi st ra n xs)]) → SomeRate t lo hi st ra n xs w e w') := fun e w' hb h => ⟨hb, .inl ⟨h0, h⟩⟩
    have g0 : (ptErr t lo hi st ra n xs != 0) = true := by simp [h0]
    have g1 : (ptErr t lo hi st ra n xs == 0) = false := by simp [h0]
    clear hA h0
    generalize ptErr t lo hi st ra n xs = P at HC g0 g1 HS
    go_enter Tryz.func18, Tryz.ntmps18
    go_wp2_with (first
      | (go_at_call 42; (with_reducible refine Calls.mono (HC _ (HA.out.below (by (repeat (first | with_reducible exact Below.refl _ _ | with_reducible assumption | with_reducible refine Below.alloc ?_ (by first | (simp; done) | (simp; omega) | omega) _ | with_reducible refine Below.setCell ?_ (by first | (simp; done) | (simp; omega) | omega) _ | with_reducible refine Below.drew ?_ | with_reducible refine below_drewN ?_ _))))).out ?_); rintro e w1 ⟨rfl, hb1⟩; have B1 := Lib.hid (thenB (show Below w.heap.size w _ by (repeat (first | with_reducible exact Below.refl _ _ | with_reducible assumption | with_reducible refine Below.alloc ?_ (by first | (simp; done) | (simp; omega) | omega) _ | with_reducible refine Below.setCell ?_ (by first | (simp; done) | (simp; omega) | omega) _ | with_reducible refine Below.drew ?_ | with_reducible refine below_drewN ?_ _))) hb1); clear hb1)
      | fail)
    go_ret2
    exact HS.out _ _ B1.out rfl
end Go.Proofs.YtjncjoaohonmjaaGreat
namespace Go.Proofs.YtjncjoaohonmjaaGreat
open Go.RowKit Go.Shelf Go.Sort
attribute [local go_sem] idx3_0 idx3_1 idx3_2 old1 fro1 old2 fro2 old3 fro3 old4 fro4 old5 fro5 old6 fro6 old7 fro7 old8 fro8 old9 fro9 old10 fro10 old11 fro11 old12 fro12
theorem cpE_1 {t lo hi ra x y bf : Int} (h : wi x lo hi = false) : cpE t lo hi ra x y bf = 23 := by unfold cpE; simp [h]
theorem cpE_2 {t lo hi ra x y bf : Int} (t1 : 1 ≤ t) (h : wi x lo hi = true) (h2 : ¬ (x - y) % t = 0) : cpE t lo hi ra x y bf = 13 := by
  have h3 : ((x - y).tmod t == 0) = false := by rw [← mod_zero _ _ t1]; simpa using h2
  unfold cpE
  rw [h, h3]
  rfl
theorem cpE_3 {t lo hi ra x y bf : Int} (t1 : 1 ≤ t) (h : wi x lo hi = true) (h2 : (x - y) % t = 0) (h4 : ¬ siz (x - bf) ≤ ra) : cpE t lo hi ra x y bf = 24 := by
  have h3 : ((x - y).tmod t == 0) = true := by rw [← mod_zero _ _ t1]; simpa using h2
  unfold cpE
  rw [h, h3]
  simp [h4]
theorem cpE_4 {t lo hi ra x y bf : Int} (t1 : 1 ≤ t) (h : wi x lo hi = true) (h2 : (x - y) % t = 0) (h4 : siz (x - bf) ≤ ra) : cpE t lo hi ra x y bf = 0 := by
  have h3 : ((x - y).tmod t == 0) = true := by rw [← mod_zero _ _ t1]; simpa using h2
  unfold cpE
  rw [h, h3]
  simp [h4]
theorem rhit {t lo hi st ra : Int} {n k : Nat} {xs ys : Nat → Int} {E : Int} (hk : k < n) (he : cpi t lo hi st ra xs ys k = E) (h0 : E ≠ 0) (hz : ∀ i, i < k → cpi t lo hi st ra xs ys i = 0) : cpTr t lo hi st ra n xs ys = 0 ∧ ferr (cpi t lo hi st ra xs ys) 0 n = E := by
  have h := ferr_hit (er := cpi t lo hi st ra xs ys) (k := k) (by rw [he]; exact h0) n 0 (Nat.zero_le _) (by omega) (fun j _ hj => hz j hj)
  rw [he] at h
  exact ⟨by unfold cpTr; rw [h, if_neg h0], h⟩
end Go.Proofs.YtjncjoaohonmjaaGreat
namespace Go.Proofs.YtjncjoaohonmjaaGreat
open Go.RowKit Go.Shelf Go.Sort
attribute [local go_sem] idx3_0 idx3_1 idx3_2 old1 fro1 old2 fro2 old3 fro3 old4 fro4 old5 fro5 old6 fro6 old7 fro7 old8 fro8 old9 fro9 old10 fro10 old11 fro11 old12 fro12
theorem copyInts_any (A : Option Addr) (n c : Nat) (xs : Nat → Int) (w : World) (hn : n ≤ 1000000) (h0 : A = none → n = 0 ∧ c = 0) (hA : IA w A n xs) :
    Calls Tryz.prog 17 #[.slice A n c] w fun e w' => ∃ A' c', e = .returned (.slice A' n c') ∧ IA w' A' n xs ∧ Below w.heap.size w w' := by
  cases A with
  | some a => exact copyInts_some a n c xs w hn hA
  | none =>
    obtain ⟨rfl, rfl⟩ := h0 rfl
    exact (copyInts_nil w).mono fun e w' ⟨A', c', he, hb⟩ => ⟨A', c', he, fun h => absurd h (Nat.lt_irrefl 0), hb⟩
/-- The travel and the error that CheckPointing answers. -/
def cpV (t lo hi st ra : Int) (n m : Nat) (xs ys : Nat → Int) : Int := if ptErr t lo hi st ra n xs = 0 then (if m = n then cpTr t lo hi st ra n xs ys else 0) else 0
def cpF (t lo hi st ra : Int) (n m : Nat) (xs ys : Nat → Int) : Int := if ptErr t lo hi st ra n xs = 0 then (if m = n then ferr (cpi t lo hi st ra xs ys) 0 n else 10) else ptErr t lo hi st ra n xs
theorem checkPointing_all (t lo hi st ra : Int) (A B : Option Addr) (n c m c' : Nat) (xs ys : Nat → Int) (w : World) (hn : n ≤ 1000000) (hA : IA w A n xs) (hB : IA w B m ys) :
    Calls Tryz.prog 19 #[.agg #[.int .i64 t, .int .i64 lo, .int .i64 hi, .int .i64 st, .int .i64 ra], .slice A n c, .slice B m c'] w fun e w' => e = .returned (.tuple #[.int .i64 (cpV t lo hi st ra n m xs ys), .int .i64 (cpF t lo hi st ra n m xs ys)]) ∧ Below w.heap.size w w' := by
  by_cases h0 : ptErr t lo hi st ra n xs = 0
  · by_cases hm : m = n
    · subst hm
      have := checkPointing_c t lo hi st ra A B m c m c' xs ys w (by omega) hA hB h0
      unfold cpV cpF
      rw [if_pos h0, if_pos h0, if_pos rfl, if_pos rfl]
      exact this
    · have := checkPointing_b t lo hi st ra A B n c m c' xs ys w (by omega) hA h0 hm
      unfold cpV cpF
      rw [if_pos h0, if_pos h0, if_neg hm, if_neg hm]
      exact this
  · have := checkPointing_a t lo hi st ra A B n c m c' xs ys w (by omega) hA h0
    unfold cpV cpF
    rw [if_neg h0, if_neg h0]
    exact this
theorem pe_0 {t lo hi st ra : Int} {n : Nat} {xs : Nat → Int} (h : driveErr t lo hi st ra = 0) : ptErr t lo hi st ra n xs = tgErr n xs t := by unfold ptErr; rw [if_pos h]
theorem pe_1 {t lo hi st ra : Int} {n : Nat} {xs : Nat → Int} (h : driveErr t lo hi st ra ≠ 0) : ptErr t lo hi st ra n xs = driveErr t lo hi st ra := by unfold ptErr; rw [if_neg h]
end Go.Proofs.YtjncjoaohonmjaaGreat
namespace Go.Proofs.YtjncjoaohonmjaaGreat
open Go.RowKit Go.Shelf Go.Sort
attribute [local go_sem] idx3_0 idx3_1 idx3_2 old1 fro1 old2 fro2 old3 fro3 old4 fro4 old5 fro5 old6 fro6 old7 fro7 old8 fro8 old9 fro9 old10 fro10 old11 fro11 old12 fro12
end Go.Proofs.YtjncjoaohonmjaaGreat
namespace Go.Proofs.YtjncjoaohonmjaaGreat
open Go.RowKit Go.Shelf Go.Sort
attribute [local go_sem] idx3_0 idx3_1 idx3_2 old1 fro1 old2 fro2 old3 fro3 old4 fro4 old5 fro5 old6 fro6 old7 fro7 old8 fro8 old9 fro9 old10 fro10 old11 fro11 old12 fro12
theorem IA.bel {w W : World} {A : Option Addr} {n : Nat} {xs : Nat → Int} (h : IA w A n xs) (hb : Below w.heap.size w W) : IA W A n xs := h.below hb
theorem IA.bel2 {w W : World} {A : Option Addr} {n : Nat} {xs : Nat → Int} (h : IA w A n xs) (hb : Below w.heap.size w W) : IA W A n xs := h.below hb
theorem IA.on {w w1 : World} {A : Option Addr} {n : Nat} {xs : Nat → Int} (hb : Below w.heap.size w w1) (h : IA w A n xs) : IA w1 A n xs := h.below hb
end Go.Proofs.YtjncjoaohonmjaaGreat
namespace Go.Proofs.YtjncjoaohonmjaaGreat
open Go.RowKit Go.Shelf Go.Sort
attribute [local go_sem] idx3_0 idx3_1 idx3_2 old1 fro1 old2 fro2 old3 fro3 old4 fro4 old5 fro5 old6 fro6 old7 fro7 old8 fro8 old9 fro9 old10 fro10 old11 fro11 old12 fro12
end Go.Proofs.YtjncjoaohonmjaaGreat
namespace Go.Proofs.YtjncjoaohonmjaaGreat
open Go.RowKit Go.Shelf Go.Sort
attribute [local go_sem] idx3_0 idx3_1 idx3_2 old1 fro1 old2 fro2 old3 fro3 old4 fro4 old5 fro5 old6 fro6 old7 fro7 old8 fro8 old9 fro9 old10 fro10 old11 fro11 old12 fro12
end Go.Proofs.YtjncjoaohonmjaaGreat
namespace Go.Proofs.YtjncjoaohonmjaaGreat
open Go.RowKit Go.Shelf Go.Sort
attribute [local go_sem] idx3_0 idx3_1 idx3_2 old1 fro1 old2 fro2 old3 fro3 old4 fro4 old5 fro5 old6 fro6 old7 fro7 old8 fro8 old9 fro9 old10 fro10 old11 fro11 old12 fro12
end Go.Proofs.YtjncjoaohonmjaaGreat
