/- Helpers: a law for a statement that leaves its order open and whose operations read, allocate and call, but store nothing: one goal for each operation, not one for each order. No condition but the hypotheses that each theorem names. -/
import Derived.Test.YtjncjoaohonmjaaGreatRows
import Derived.WalkKit
import Derived.RegionTactic
import Derived.Lib.Hide
import Derived.Deep.RegionHeld3
import Derived.Test.YtjncjoaohonmjaaGreatB00
namespace Go.Proofs.YtjncjoaohonmjaaGreat
open Go.RowKit
theorem belowB {B : Nat} {a b c : World} (hB : B ≤ b.heap.size) (h : Below B a b) (k : Below b.heap.size b c) : Below B a c := h.trans (k.mono hB)
theorem belowT {a b c : World} (h : Below a.heap.size a b) (k : Below b.heap.size b c) : Below a.heap.size a c := h.trans (k.mono h.size)
theorem filter_len_lt {p q : Nat → Bool} {i : Nat} (hpq : ∀ x, q x = true → p x = true) (hp : p i = true) (hq : q i = false) : ∀ {l : List Nat}, i ∈ l → (l.filter q).length < (l.filter p).length
  | [], h => by cases h
  | x :: l, h => by
    have le : ∀ l : List Nat, (l.filter q).length ≤ (l.filter p).length := by
      intro l
      induction l with
      | nil => simp
      | cons y l ih =>
        cases hy : q y with
        | true => simp [hy, hpq y hy]; exact ih
        | false =>
          cases hz : p y with
          | true => simp [hy, hz]; omega
          | false => simp [hy, hz]; exact ih
    rcases List.mem_cons.1 h with rfl | h
    · simp [hp, hq]
      have := le l
      omega
    · have ih := filter_len_lt hpq hp hq h
      cases hy : q x with
      | true => simp [hy, hpq x hy]; exact ih
      | false =>
        cases hz : p x with
        | true => simp [hy, hz]; omega
        | false => simp [hy, hz]; exact ih
def rgMissing (listed : Array Bool) (n : Nat) : Nat := ((List.range n).filter fun i => !listed.getD i true).length
def rgLow (ops : Array Oper) (n : Nat) : Prop := ∀ (i : Nat) (o : Oper), ops[i]? = some o → o.guard = none ∧ (∀ e ∈ o.after, Region.binds .any e = true → e.on < i) ∧ ∃ d, o.dst = some d ∧ d < n ∧ ∀ (j : Nat) (o' : Oper), ops[j]? = some o' → j ≠ i → o'.dst ≠ some d
structure RInv (ops : Array Oper) (φ : Nat → Value → World → Prop) (a : Act) (w : World) (listed : Array Bool) (a' : Act) (w' : World) : Prop where
  sz : listed.size = ops.size
  below : Below w.heap.size w w'
  tsize : a'.tmps.size = a.tmps.size
  defs : a'.defers = a.defers
  rest : ∀ t, (∀ (i : Nat) (o : Oper), ops[i]? = some o → o.dst ≠ some t) → a'.tmps[t]? = a.tmps[t]?
  facts : ∀ (i : Nat) (o : Oper) (d : Nat), ops[i]? = some o → o.dst = some d → listed.getD i false = true → φ i (a'.tmps.getD d undef) w'
def RDeps (ops : Array Oper) (φ : Nat → Value → World → Prop) (a' : Act) (w' : World) (o : Oper) : Prop :=
  ∀ e ∈ o.after, Region.binds .any e = true → ∀ (o' : Oper) (d : Nat), ops[e.on]? = some o' → o'.dst = some d → φ e.on (a'.tmps.getD d undef) w'
def RSame (ops : Array Oper) (a a' : Act) : Prop := a'.tmps.size = a.tmps.size ∧ a'.defers = a.defers ∧ ∀ t, (∀ (i : Nat) (o : Oper), ops[i]? = some o → o.dst ≠ some t) → a'.tmps[t]? = a.tmps[t]?
theorem rg_put_get {a : Act} {d t : Nat} {v : Value} (h : d ≠ t) : (a.put (some d) v).tmps[t]? = a.tmps[t]? := by
  show (a.tmps.setIfInBounds d v)[t]? = _
  rw [Array.getElem?_setIfInBounds, if_neg h]
theorem rg_getD {a : Act} {t : Nat} : a.tmps.getD t undef = (a.tmps[t]?).getD undef := by simp [Array.getD_eq_getD_getElem?]
theorem rg_put_getD {a : Act} {d t : Nat} {v : Value} (h : d ≠ t) : (a.put (some d) v).tmps.getD t undef = a.tmps.getD t undef := by rw [rg_getD, rg_getD, rg_put_get h]
theorem rg_put_own {a : Act} {d : Nat} {v : Value} (h : d < a.tmps.size) : (a.put (some d) v).tmps.getD d undef = v := by
  rw [rg_getD]
  show ((a.tmps.setIfInBounds d v)[d]?).getD undef = v
  rw [Array.getElem?_setIfInBounds, if_pos rfl, if_pos h]
  rfl
theorem wpAny_phi {P : Program} {ops : Array Oper} {Q : Exit → Act → World → Prop} (φ : Nat → Value → World → Prop) (a : Act) (w : World) (hl : rgLow ops a.tmps.size)
    (hmono : ∀ i v w1 w2, φ i v w1 → Below w1.heap.size w1 w2 → φ i v w2)
    (hstep : ∀ (i : Nat) (o : Oper), ops[i]? = some o → ∀ a' w', Below w.heap.size w w' → RSame ops a a' → RDeps ops φ a' w' o → o.wp P a' w' (fun a'' w'' => ∃ v, a'' = a'.put o.dst v ∧ Below w'.heap.size w' w'' ∧ φ i v w'') Q)
    (hend : ∀ a' w', Below w.heap.size w w' → RSame ops a a' → (∀ (i : Nat) (o : Oper) (d : Nat), ops[i]? = some o → o.dst = some d → φ i (a'.tmps.getD d undef) w') → Q .normal a' w') :
    ∀ (fuel : Nat) (listed : Array Bool) (a' : Act) (w' : World), RInv ops φ a w listed a' w' → rgMissing listed ops.size ≤ fuel → wpAny P .any ops Q fuel listed a' w' := by
  have full : ∀ (listed : Array Bool) (a' : Act) (w' : World), RInv ops φ a w listed a' w' → Region.ready .any ops listed = [] → Q .normal a' w' := by
    intro listed a' w' h hr
    have all : ∀ n i, i < n → i < ops.size → listed.getD i false = true := by
      intro n
      induction n with
      | zero => intro i hi; omega
      | succ n ih =>
        intro i hi hs
        rcases Nat.lt_or_eq_of_le (Nat.le_of_lt_succ hi) with h1 | rfl
        · exact ih i h1 hs
        · have ho : ops[i]? = some ops[i] := Array.getElem?_eq_getElem hs
          cases hc : listed.getD i false with
          | true => rfl
          | false =>
            exfalso
            have hm : i ∈ Region.ready .any ops listed := by
              unfold Region.ready
              refine List.mem_filter.2 ⟨List.mem_range.2 hs, ?_⟩
              have h2 : listed.getD i true = false := by
                have hsz : i < listed.size := by rw [h.sz]; exact hs
                simp [Array.getD, hsz] at hc ⊢
                exact hc
              rw [h2, ho]
              simp only [Bool.not_false, Bool.true_and, Option.map_some, Option.getD_some]
              rw [Array.all_eq_true_iff_forall_mem]
              intro e he
              cases hbd : Region.binds .any e with
              | false => simp
              | true =>
                have := ih e.on ((hl i _ ho).2.1 e he hbd) (by have := (hl i _ ho).2.1 e he hbd; omega)
                simp [this]
            rw [hr] at hm
            cases hm
    refine hend a' w' h.below ⟨h.tsize, h.defs, h.rest⟩ fun i o d ho hd => h.facts i o d ho hd ?_
    have hs : i < ops.size := by
      rcases Nat.lt_or_ge i ops.size with q | q
      · exact q
      · rw [Array.getElem?_eq_none q] at ho; cases ho
    exact all (i + 1) i (by omega) hs
  intro fuel
  induction fuel with
  | zero =>
    intro listed a' w' h hm
    have hr : Region.ready .any ops listed = [] := by
      rcases hq : Region.ready .any ops listed with _ | ⟨i, l⟩
      · rfl
      · exfalso
        have hi : i ∈ Region.ready .any ops listed := by rw [hq]; simp
        unfold Region.ready at hi
        obtain ⟨h1, h2⟩ := List.mem_filter.1 hi
        have h3 : (!listed.getD i true) = true := by
          simp only [Bool.and_eq_true] at h2
          exact h2.1
        have : i ∈ (List.range ops.size).filter fun i => !listed.getD i true := List.mem_filter.2 ⟨h1, h3⟩
        have := List.length_pos_of_mem this
        unfold rgMissing at hm
        omega
    exact ⟨hr, full _ _ _ h hr⟩
  | succ fuel ih =>
    intro listed a' w' h hm
    refine ⟨fun hr => full _ _ _ h hr, fun i hi => ?_⟩
    unfold Region.ready at hi
    obtain ⟨h1, h2⟩ := List.mem_filter.1 hi
    simp only [Bool.and_eq_true] at h2
    obtain ⟨h3, h4⟩ := h2
    have hs : i < ops.size := List.mem_range.1 h1
    have ho : ops[i]? = some ops[i] := Array.getElem?_eq_getElem hs
    obtain ⟨hg, hlow, d, hd, hdn, hdi⟩ := hl i _ ho
    rw [ho] at h4
    simp only [Option.map_some, Option.getD_some] at h4
    rw [Array.all_eq_true_iff_forall_mem] at h4
    have hdeps : RDeps ops φ a' w' ops[i] := by
      intro e he hb o' d' ho' hd'
      have := h4 e he
      rw [hb] at this
      exact h.facts _ _ _ ho' hd' (by simpa using this)
    have hw := hstep i _ ho a' w' h.below ⟨h.tsize, h.defs, h.rest⟩ hdeps
    unfold wpOp
    rw [ho]
    have hwant : Region.wanted ops[i] (yielded ops a'.tmps) = true := by simp [Region.wanted, hg]
    simp only [hwant, if_true]
    refine .inl (Oper.wp_mono ?_ hw)
    rintro a'' w'' ⟨v, rfl, hb, hv⟩
    rw [hd]
    have hsz : i < listed.size := by rw [h.sz]; exact hs
    refine ih _ _ _ ⟨by simp [h.sz], belowT h.below hb, by rw [← h.tsize]; simp [Act.put], by rw [← h.defs]; rfl, ?_, ?_⟩ ?_
    · intro t ht
      rw [rg_put_get (by intro e; exact ht i _ ho (by rw [hd, e]))]
      exact h.rest t ht
    · intro j o' d' ho' hd' hj
      by_cases hji : j = i
      · subst hji
        rw [ho] at ho'
        cases ho'
        rw [hd] at hd'
        cases hd'
        rw [rg_put_own (by rw [h.tsize]; exact hdn)]
        exact hv
      · have hne : d ≠ d' := by
          intro e
          exact hdi j o' ho' hji (by rw [hd', e])
        rw [rg_put_getD hne]
        refine hmono _ _ _ _ (h.facts j o' d' ho' hd' ?_) hb
        simp only [Array.getD_eq_getD_getElem?, Array.getElem?_setIfInBounds] at hj ⊢
        rw [if_neg (fun e => hji e.symm)] at hj
        exact hj
    · have : rgMissing (listed.setIfInBounds i true) ops.size < rgMissing listed ops.size := by
        refine filter_len_lt (i := i) ?_ h3 ?_ h1
        · intro x hx
          simp only [Array.getD_eq_getD_getElem?, Array.getElem?_setIfInBounds] at hx ⊢
          by_cases hxi : i = x
          · subst hxi
            simp [hsz] at hx
          · rw [if_neg hxi] at hx
            exact hx
        · simp [Array.getD_eq_getD_getElem?, hsz]
      omega
def AllOps (R : Nat → Oper → Prop) : Nat → List Oper → Prop
  | _, [] => True
  | i, o :: l => R i o ∧ AllOps R (i + 1) l
theorem allOps_of' {R : Nat → Oper → Prop} : ∀ {k : Nat} {l : List Oper}, AllOps R k l → ∀ (i : Nat) (o : Oper), l[i]? = some o → R (k + i) o
  | k, [], _, i, o, h => by simp at h
  | k, x :: l, ⟨h1, h2⟩, 0, o, h => by simp at h; subst h; exact h1
  | k, x :: l, ⟨h1, h2⟩, i + 1, o, h => by
    have := allOps_of' h2 i o (by simpa using h)
    rwa [show k + 1 + i = k + (i + 1) from by omega] at this
theorem allOps_of {R : Nat → Oper → Prop} {ops : Array Oper} (h : AllOps R 0 ops.toList) : ∀ (i : Nat) (o : Oper), ops[i]? = some o → R i o := fun i o ho => by
  have := allOps_of' h i o (by rw [Array.getElem?_toList]; exact ho)
  rwa [Nat.zero_add] at this
theorem allOps_mk' {R : Nat → Oper → Prop} : ∀ {k : Nat} {l : List Oper}, (∀ (i : Nat) (o : Oper), l[i]? = some o → R (k + i) o) → AllOps R k l
  | _, [], _ => trivial
  | k, x :: l, h => ⟨h 0 x rfl, allOps_mk' fun i o ho => by
    have := h (i + 1) o (by simpa using ho)
    rwa [show k + (i + 1) = k + 1 + i from by omega] at this⟩
theorem allOps_mk {R : Nat → Oper → Prop} {ops : Array Oper} (h : ∀ (i : Nat) (o : Oper), ops[i]? = some o → R i o) : AllOps R 0 ops.toList := allOps_mk' fun i o ho => by
  rw [Nat.zero_add]
  exact h i o (by rw [← Array.getElem?_toList]; exact ho)
def rgDsts (ops : List Oper) : List Nat := ops.map fun o => o.dst.getD 0
def rgCheck (n : Nat) : Nat → List Oper → Bool
  | _, [] => true
  | i, o :: l => o.guard.isNone && o.after.toList.all (fun e => !Region.binds .any e || Nat.blt e.on i) && (match o.dst with | some d => Nat.blt d n && l.all (fun o' => match o'.dst with | some d' => !(Nat.beq d d') | none => false) | none => false) && rgCheck n (i + 1) l
theorem rgCheck_of : ∀ (n k : Nat) (l : List Oper), rgCheck n k l = true → ∀ (i : Nat) (o : Oper), l[i]? = some o → o.guard = none ∧ (∀ e ∈ o.after, Region.binds .any e = true → e.on < k + i) ∧ ∃ d, o.dst = some d ∧ d < n ∧ ∀ (j : Nat) (o' : Oper), l[j]? = some o' → i < j → o'.dst ≠ some d
  | n, k, [], _, i, o, h => by simp at h
  | n, k, x :: l, hc, 0, o, h => by
    simp at h
    subst h
    simp only [rgCheck, Bool.and_eq_true] at hc
    obtain ⟨⟨⟨h1, h2⟩, h3⟩, h4⟩ := hc
    refine ⟨by simpa using h1, fun e he hbd => ?_, ?_⟩
    · have := List.all_eq_true.1 h2 e (by simpa using he)
      rw [hbd] at this
      simpa [Nat.blt_eq] using this
    · cases hd : x.dst with
      | none => rw [hd] at h3; simp at h3
      | some d =>
        rw [hd] at h3
        simp only [Bool.and_eq_true, Nat.blt_eq] at h3
        refine ⟨d, rfl, h3.1, fun j o' hj hij => ?_⟩
        obtain ⟨j, rfl⟩ : ∃ j', j = j' + 1 := ⟨j - 1, by omega⟩
        have hm : o' ∈ l := List.mem_of_getElem? (by simpa using hj)
        have := List.all_eq_true.1 h3.2 o' hm
        intro e
        rw [e] at this
        simp at this
  | n, k, x :: l, hc, i + 1, o, h => by
    simp only [rgCheck, Bool.and_eq_true] at hc
    obtain ⟨g1, g2, d, g3, g4, g5⟩ := rgCheck_of n (k + 1) l hc.2 i o (by simpa using h)
    refine ⟨g1, fun e he hbd => by have := g2 e he hbd; omega, d, g3, g4, fun j o' hj hij => ?_⟩
    obtain ⟨j, rfl⟩ : ∃ j', j = j' + 1 := ⟨j - 1, by omega⟩
    exact g5 j o' (by simpa using hj) (by omega)
theorem rgLow_of {ops : Array Oper} {n : Nat} (h : rgCheck n 0 ops.toList = true) : rgLow ops n := by
  intro i o ho
  have ho' : ops.toList[i]? = some o := by rw [Array.getElem?_toList]; exact ho
  obtain ⟨g1, g2, d, g3, g4, g5⟩ := rgCheck_of n 0 ops.toList h i o ho'
  refine ⟨g1, fun e he hbd => by have := g2 e he hbd; omega, d, g3, g4, fun j o' hj hne => ?_⟩
  have hj' : ops.toList[j]? = some o' := by rw [Array.getElem?_toList]; exact hj
  rcases Nat.lt_or_gt_of_ne hne with hlt | hgt
  · obtain ⟨_, _, d', k3, _, k5⟩ := rgCheck_of n 0 ops.toList h j o' hj'
    intro e
    have := k5 i o ho' hlt
    rw [k3] at e
    cases e
    exact this g3
  · exact g5 j o' hj' hgt
theorem foldl_put_size (V : Nat → Value) : ∀ (ds : List Nat) (b : Act), (ds.foldl (fun b d => b.put (some d) (V d)) b).tmps.size = b.tmps.size ∧ (ds.foldl (fun b d => b.put (some d) (V d)) b).defers = b.defers
  | [], _ => ⟨rfl, rfl⟩
  | d :: ds, b => by
    obtain ⟨h1, h2⟩ := foldl_put_size V ds (b.put (some d) (V d))
    exact ⟨by rw [List.foldl_cons, h1]; simp [Act.put], by rw [List.foldl_cons, h2]; rfl⟩
theorem foldl_put_out (V : Nat → Value) : ∀ (ds : List Nat) (b : Act) (t : Nat), t ∉ ds → (ds.foldl (fun b d => b.put (some d) (V d)) b).tmps[t]? = b.tmps[t]?
  | [], _, _, _ => rfl
  | d :: ds, b, t, h => by
    rw [List.foldl_cons, foldl_put_out V ds _ t (fun q => h (List.mem_cons_of_mem _ q)), rg_put_get (fun e => h (by rw [e]; simp))]
theorem foldl_put_in (V : Nat → Value) : ∀ (ds : List Nat) (b : Act) (t : Nat), t ∈ ds → t < b.tmps.size → (ds.foldl (fun b d => b.put (some d) (V d)) b).tmps[t]? = some (V t)
  | [], _, _, h, _ => by cases h
  | d :: ds, b, t, h, hs => by
    rw [List.foldl_cons]
    by_cases ht : t ∈ ds
    · exact foldl_put_in V ds _ t ht (by simpa [Act.put] using hs)
    · rcases List.mem_cons.1 h with rfl | h
      · rw [foldl_put_out V ds _ t ht]
        show (b.tmps.setIfInBounds t (V t))[t]? = _
        rw [Array.getElem?_setIfInBounds, if_pos rfl, if_pos hs]
      · exact absurd h ht
theorem act_of {ops : Array Oper} {a a' : Act} (h : RSame ops a a') : a' = (rgDsts ops.toList).foldl (fun b d => b.put (some d) (a'.tmps.getD d undef)) a := by
  have e1 := foldl_put_size (fun d => a'.tmps.getD d undef) (rgDsts ops.toList) a
  have ht : a'.tmps = ((rgDsts ops.toList).foldl (fun b d => b.put (some d) (a'.tmps.getD d undef)) a).tmps := by
    refine Array.ext_getElem? fun t => ?_
    by_cases hs : t < a.tmps.size
    · by_cases hm : t ∈ rgDsts ops.toList
      · rw [foldl_put_in _ _ _ t hm hs, rg_getD]
        have : t < a'.tmps.size := by rw [h.1]; exact hs
        rw [Array.getElem?_eq_getElem this]
        rfl
      · rw [foldl_put_out _ _ _ t hm]
        refine h.2.2 t fun i o ho e => hm ?_
        refine List.mem_map.2 ⟨o, List.mem_of_getElem? (i := i) (by rw [Array.getElem?_toList]; exact ho), by rw [e]; rfl⟩
    · rw [Array.getElem?_eq_none (by rw [h.1]; omega), Array.getElem?_eq_none (by rw [e1.1]; omega)]
  have hd : a'.defers = ((rgDsts ops.toList).foldl (fun b d => b.put (some d) (a'.tmps.getD d undef)) a).defers := by rw [e1.2, h.2.1]
  generalize (rgDsts ops.toList).foldl (fun b d => b.put (some d) (a'.tmps.getD d undef)) a = z at ht hd
  cases a'
  cases z
  simp only at ht hd
  rw [ht, hd]
/-- what a frame's slots hold behind the statement: V where the mask says so -/
def maskPut (V : Nat → Value) : Nat → List Bool → List Value → List Value
  | i, true :: m, _ :: l => V i :: maskPut V (i + 1) m l
  | i, false :: m, x :: l => x :: maskPut V (i + 1) m l
  | _, [], l => l
  | _, _ :: _, [] => []
theorem maskPut_get (V : Nat → Value) : ∀ (m : List Bool) (l : List Value) (i t : Nat), m.length = l.length → (maskPut V i m l)[t]? = if t < l.length then (if m.getD t false then some (V (i + t)) else l[t]?) else none
  | [], l, i, t, h => by
    have : l = [] := List.length_eq_zero_iff.1 h.symm
    subst this
    simp [maskPut]
  | true :: m, [], i, t, h => by simp at h
  | false :: m, [], i, t, h => by simp at h
  | true :: m, x :: l, i, 0, h => by simp [maskPut]
  | false :: m, x :: l, i, 0, h => by simp [maskPut]
  | true :: m, x :: l, i, t + 1, h => by
    have ih := maskPut_get V m l (i + 1) t (by simpa using h)
    simp only [maskPut, List.getElem?_cons_succ, ih, List.length_cons, List.getD_cons_succ]
    rw [show i + 1 + t = i + (t + 1) from by omega]
    simp
  | false :: m, x :: l, i, t + 1, h => by
    have ih := maskPut_get V m l (i + 1) t (by simpa using h)
    simp only [maskPut, List.getElem?_cons_succ, ih, List.length_cons, List.getD_cons_succ]
    rw [show i + 1 + t = i + (t + 1) from by omega]
    simp
theorem maskPut_length (V : Nat → Value) : ∀ (m : List Bool) (l : List Value) (i : Nat), m.length = l.length → (maskPut V i m l).length = l.length
  | [], l, i, h => rfl
  | true :: m, [], i, h => by simp at h
  | false :: m, [], i, h => by simp at h
  | true :: m, x :: l, i, h => by simp [maskPut, maskPut_length V m l (i + 1) (by simpa using h)]
  | false :: m, x :: l, i, h => by simp [maskPut, maskPut_length V m l (i + 1) (by simpa using h)]
def maskOf (ds : List Nat) (n : Nat) : List Bool := (List.range n).map fun t => ds.any fun d => Nat.beq d t
theorem act_mask (V : Nat → Value) (ds : List Nat) (a : Act) (m : List Bool) (hm : maskOf ds a.tmps.size = m) :
    ds.foldl (fun b d => b.put (some d) (V d)) a = ⟨(maskPut V 0 m a.tmps.toList).toArray, a.defers⟩ := by
  have hl : m.length = a.tmps.toList.length := by rw [← hm]; simp [maskOf]
  obtain ⟨e1, e2⟩ := foldl_put_size V ds a
  have ht : (ds.foldl (fun b d => b.put (some d) (V d)) a).tmps = (maskPut V 0 m a.tmps.toList).toArray := by
    refine Array.ext_getElem? fun t => ?_
    rw [show (maskPut V 0 m a.tmps.toList).toArray[t]? = (maskPut V 0 m a.tmps.toList)[t]? by simp, maskPut_get V m _ 0 t hl, Nat.zero_add]
    by_cases hs : t < a.tmps.size
    · have hmt : m.getD t false = ds.any fun d => Nat.beq d t := by
        rw [← hm]
        simp [maskOf, List.getD_eq_getElem?_getD, List.getElem?_map, List.getElem?_range hs]
      rw [if_pos (by simpa using hs), hmt]
      by_cases hd : t ∈ ds
      · rw [foldl_put_in V ds a t hd hs, if_pos (List.any_eq_true.2 ⟨t, hd, by simp⟩)]
      · rw [foldl_put_out V ds a t hd, if_neg, Array.getElem?_toList]
        intro h
        obtain ⟨d, hd1, hd2⟩ := List.any_eq_true.1 h
        exact hd (by rw [← Nat.eq_of_beq_eq_true hd2]; exact hd1)
    · rw [Array.getElem?_eq_none (by rw [e1]; omega), if_neg (by simpa using hs)]
  generalize ds.foldl (fun b d => b.put (some d) (V d)) a = z at ht e2
  cases z
  simp only at ht e2
  rw [ht, e2]
/-- The law: the structure is checked by evaluation, each operation keeps its own word, and what follows knows the words of all. -/
theorem wp_region_phi {P : Program} {id : Nat} {ops : Array Oper} {Q : Exit → Act → World → Prop} {a : Act} {w : World} (φ : Nat → Value → World → Prop) (hm : P.follows .mixedOrders = true)
    (hl : rgCheck a.tmps.size 0 ops.toList = true) (hmono : ∀ i v w1 w2, φ i v w1 → Below w1.heap.size w1 w2 → φ i v w2)
    (hstep : AllOps (fun i o => ∀ a' w', Below w.heap.size w w' → RSame ops a a' → RDeps ops φ a' w' o → o.wp P a' w' (fun a'' w'' => ∃ v, a'' = a'.put o.dst v ∧ Below w'.heap.size w' w'' ∧ φ i v w'') Q) 0 ops.toList)
    (hend : ∀ (V : Nat → Value) (w' : World), Below w.heap.size w w' → AllOps (fun i o => φ i (V (o.dst.getD 0)) w') 0 ops.toList → Q .normal ((rgDsts ops.toList).foldl (fun b d => b.put (some d) (V d)) a) w') :
    (Code.region id ops true).wp P Q a w := by
  refine wp_region_any hm ?_
  have low := rgLow_of hl
  refine wpAny_phi φ a w low hmono (allOps_of hstep) ?_ ops.size (Array.replicate ops.size false) a _ ⟨by simp, (Below.refl _ _).drew, rfl, rfl, fun _ _ => rfl, ?_⟩ ?_
  · intro a' w' hb hs hf
    have := hend (fun d => a'.tmps.getD d undef) w' hb (allOps_mk fun i o ho => by
      obtain ⟨_, _, d, hd, _⟩ := low i o ho
      rw [hd]
      exact hf i o d ho hd)
    rw [act_of hs]
    exact this
  · intro i o d ho _ h
    exfalso
    simp only [Array.getD_eq_getD_getElem?, Array.getElem?_replicate] at h
    split at h <;> cases h
  · unfold rgMissing
    refine Nat.le_trans (List.length_filter_le _ _) ?_
    simp
theorem rg_val {P : Program} {φ : Value → World → Prop} {Q : Exit → Act → World → Prop} {o : Oper} {a : Act} {w w' : World} (v : Value) (h : (execOp a.eval o).run P w = .ok (.value v) w') (hb : Below w.heap.size w w') (hv : φ v w') :
    o.wp P a w (fun a'' w'' => ∃ v, a'' = a.put o.dst v ∧ Below w.heap.size w w'' ∧ φ v w'') Q := by
  unfold Oper.wp
  rw [h]
  exact ⟨v, rfl, hb, hv⟩
theorem rg_call {P : Program} {φ : Value → World → Prop} {Q : Exit → Act → World → Prop} {o : Oper} {a : Act} {w : World} {f : FuncId} {args : Array Value} (h : (execOp a.eval o).run P w = .ok (.enter f args) w)
    (hc : Calls P f args w fun e w' => ∃ v, e = .returned v ∧ Below w.heap.size w w' ∧ φ v w') :
    o.wp P a w (fun a'' w'' => ∃ v, a'' = a.put o.dst v ∧ Below w.heap.size w w'' ∧ φ v w'') Q := by
  unfold Oper.wp
  rw [h]
  refine hc.mono ?_
  rintro e w' ⟨v, rfl, hb, hv⟩
  exact ⟨v, rfl, hb, hv⟩
/-- A word of a value in a world that stays true while memory only grows. -/
structure MP where
  p : Value → World → Prop
  on : ∀ v w1 w2, p v w1 → Below w1.heap.size w1 w2 → p v w2
def mpTop : MP := ⟨fun _ _ => True, fun _ _ _ _ _ => trivial⟩
def mpEq (x : Value) : MP := ⟨fun v _ => v = x, fun _ _ _ h _ => h⟩
def mpAt (l : List MP) (i : Nat) : MP := l.getD i mpTop
theorem allOps_nil {R : Nat → Oper → Prop} {k : Nat} : AllOps R k [] := trivial
theorem allOps_cons {R : Nat → Oper → Prop} {k : Nat} {o : Oper} {l : List Oper} (h : R k o) (hl : AllOps R (k + 1) l) : AllOps R k (o :: l) := ⟨h, hl⟩
theorem AllOps.get {R : Nat → Oper → Prop} {ops : Array Oper} (h : AllOps R 0 ops.toList) {o : Oper} (i : Nat) (ho : ops[i]? = some o) : R i o := allOps_of h i o ho
theorem RDeps.get {ops : Array Oper} {φ : Nat → Value → World → Prop} {a : Act} {w : World} {o : Oper} (h : RDeps ops φ a w o) (j d : Nat) (hj : (o.after.toList.any fun e => Nat.beq e.on j && Region.binds .any e) = true) (ho : (ops[j]?).bind (·.dst) = some d) : φ j (a.eval (.tmp d)) w := by
  show φ j (a.tmps.getD d undef) w
  obtain ⟨e, he, h2⟩ := List.any_eq_true.1 hj
  obtain ⟨h3, h4⟩ := (Bool.and_eq_true _ _).mp h2
  replace h3 := Nat.eq_of_beq_eq_true h3
  subst h3
  cases ho' : ops[e.on]? with
  | none => rw [ho'] at ho; cases ho
  | some o' =>
    rw [ho'] at ho
    exact h e (by simpa using he) h4 o' d ho' ho
theorem RSame.get {ops : Array Oper} {a a' : Act} (h : RSame ops a a') (t : Nat) (hc : (ops.toList.all fun o => match o.dst with | some d => !(Nat.beq d t) | none => true) = true) : a'.eval (.tmp t) = a.eval (.tmp t) := by
  show a'.tmps.getD t undef = a.tmps.getD t undef
  rw [rg_getD, rg_getD, h.2.2 t fun i o ho e => ?_]
  have := List.all_eq_true.1 hc o (List.mem_of_getElem? (i := i) (by rw [Array.getElem?_toList]; exact ho))
  rw [e] at this
  simp at this
theorem wp_region_mp {P : Program} {id : Nat} {ops : Array Oper} {Q : Exit → Act → World → Prop} {a : Act} {w : World} (Φ : List MP) (m : List Bool) (hmask : maskOf (rgDsts ops.toList) a.tmps.size = m) (hm : P.follows .mixedOrders = true) (hl : rgCheck a.tmps.size 0 ops.toList = true)
    (hstep : AllOps (fun i o => ∀ a' w', Below w.heap.size w w' → RSame ops a a' → RDeps ops (fun i => (mpAt Φ i).p) a' w' o → o.wp P a' w' (fun a'' w'' => ∃ v, a'' = a'.put o.dst v ∧ Below w'.heap.size w' w'' ∧ (mpAt Φ i).p v w'') Q) 0 ops.toList)
    (hend : ∀ (V : Nat → Value) (w' : World), Below w.heap.size w w' → AllOps (fun i o => (mpAt Φ i).p (V (o.dst.getD 0)) w') 0 ops.toList → Q .normal ⟨(maskPut V 0 m a.tmps.toList).toArray, a.defers⟩ w') :
    (Code.region id ops true).wp P Q a w :=
  wp_region_phi (fun i => (mpAt Φ i).p) hm hl (fun i v w1 w2 => (mpAt Φ i).on v w1 w2) hstep fun V w' hb h => by
    rw [act_mask V _ a m hmask]
    exact hend V w' hb h
theorem rg_op {P : Program} {φ : Value → World → Prop} {Q : Exit → Act → World → Prop} {o : Oper} {a : Act} {w : World} (h : ∀ K : Act → World → Prop, (∀ v w', Below w.heap.size w w' → φ v w' → K (a.put o.dst v) w') → o.wp P a w K Q) :
    o.wp P a w (fun a'' w'' => ∃ v, a'' = a.put o.dst v ∧ Below w.heap.size w w'' ∧ φ v w'') Q := h _ fun v _ hb hv => ⟨v, rfl, hb, hv⟩
theorem rg_run_call {P : Program} {ρ : Operand → Value} {dst : Option Tmp} {f : Operand} {args : Array Operand} {ats : Array TypeId} {ty : TypeId} {pos : String} {after : Array Edge} {guard : Option (Nat × Bool)} {g : FuncId} {x y : Array Value} {w : World}
    (hf : ρ f = .func (.func g) x y) (he : ∀ args w, (callFunc g args).run P w = .ok (.enter g args) w) :
    (execOp ρ ⟨dst, .call { callee := .value f, args, argTypes := ats }, ty, pos, after, guard⟩).run P w = .ok (.enter g (x ++ args.map ρ ++ y)) w := by
  have h := he (x ++ args.map ρ ++ y) w
  simp only [execOp, resolve, hf, Deferred.ofValue, invoke, pure_bind]
  exact h
theorem rg_fn {P : Program} {φ : Value → World → Prop} {Q : Exit → Act → World → Prop} {dst : Option Tmp} {f : Operand} {args : Array Operand} {ats : Array TypeId} {ty : TypeId} {pos : String} {after : Array Edge} {guard : Option (Nat × Bool)} {g : FuncId} {x y : Array Value} {a : Act} {w : World} {vs : Array Value}
    (hf : a.eval f = .func (.func g) x y) (he : ∀ args w, (callFunc g args).run P w = .ok (.enter g args) w) (hv : x ++ args.map a.eval ++ y = vs) (hc : Calls P g vs w fun e w' => ∃ v, e = .returned v ∧ Below w.heap.size w w' ∧ φ v w') :
    Oper.wp P ⟨dst, .call { callee := .value f, args, argTypes := ats }, ty, pos, after, guard⟩ a w (fun a'' w'' => ∃ v, a'' = a.put dst v ∧ Below w.heap.size w w'' ∧ φ v w'') Q := by
  subst hv
  exact rg_call (rg_run_call hf he) hc
end Go.Proofs.YtjncjoaohonmjaaGreat
namespace Go.Proofs.YtjncjoaohonmjaaGreat
open Go.RowKit Go.Shelf Go.Sort
theorem lt_of {w : World} {b o : Nat} {v : Value} (h : w.cell? ⟨b, o, none⟩ = some v) : b < w.heap.size := World.block_lt_of_cell? _ _ h
theorem keep {w w1 : World} {b o : Nat} {v : Value} (hb : Below w.heap.size w w1) (h : w.cell? ⟨b, o, none⟩ = some v) : w1.cell? ⟨b, o, none⟩ = some v := (hb.cell (p := ⟨b, o, none⟩) (lt_of h)).trans h
theorem grows_of {P : Program} {f : FuncId} {args : Array Value} {w : World} {v : Value} (h : Calls P f args w fun e w' => e = .returned v ∧ w = w') : Calls P f args w fun e w' => e = .returned v ∧ Below w.heap.size w w' :=
  h.mono fun _ _ ⟨h1, h2⟩ => ⟨h1, h2 ▸ Below.refl _ _⟩
def ferr (er : Nat → Int) : Nat → Nat → Int
  | _, 0 => 0
  | i, n + 1 => if er i = 0 then ferr er (i + 1) n else er i
set_option maxRecDepth 100000 in
set_option maxHeartbeats 400000 in
theorem firstError_any (A n : Nat) (g : Nat → Nat) (cb : Nat → Array Value) (er : Nat → Int) (w : World) (hn : n ≤ 100) (hA : A < w.heap.size)
    (hc : ∀ i, i < n → w.cell? ⟨A, 0 + i, none⟩ = some (.func (.func (g i)) #[] (cb i)))
    (eg : ∀ i, i < n → ∀ args w, (callFunc (g i) args).run Tryz.prog w = .ok (.enter (g i) args) w)
    (hf : ∀ i w1, i < n → (∀ j, j < i → er j = 0) → Below w.heap.size w w1 → Calls Tryz.prog (g i) (cb i) w1 fun e w' => e = .returned (.int .i64 (er i)) ∧ Below w1.heap.size w1 w') :
    Calls Tryz.prog 29 #[.slice (some ⟨A, 0, none⟩) n n] w fun e w' => e = .returned (.int .i64 (ferr er 0 n)) ∧ Below w.heap.size w w' := by
  have HF := Lib.hid hf
  have HC := Lib.hid hc
  have HE := Lib.hid eg
  clear hf hc eg
  go_enter Tryz.func29, Tryz.ntmps29
  go_wp2
  go_loopw [8] (fun i wr => ∃ k : Nat, k ≤ n ∧ i = .int .i64 k ∧ Below w.heap.size w wr ∧ Hid (∀ j, j < k → er j = 0) ∧ Hid (ferr er 0 n = ferr er k (n - k))) (fun i _ => n - (intOf i).toNat)
  case atStart => exact ⟨0, Nat.zero_le _, rfl, Below.refl _ _, fun j hj => absurd hj (Nat.not_lt_zero _), rfl⟩
  case round =>
    obtain ⟨k, hk, rfl, hbel, H, H2⟩ := hrel
    by_cases hlt : k < n
    · have hcell : wr.cell? ⟨A, k, none⟩ = some (.func (.func (g k)) #[] (cb k)) := by rw [hbel.cell (p := ⟨A, k, none⟩) hA]; have := HC.out k hlt; rwa [Nat.zero_add] at this
      have hcon := HF.out k wr hlt H.out hbel
      have heg := HE.out k hlt
      have hsz := hbel.size
      have HB := Lib.hid hbel
      clear hbel
      have HS : Hid (ferr er k (n - k) = if er k = 0 then ferr er (k + 1) (n - (k + 1)) else er k) := by
        rw [show n - k = (n - (k + 1)) + 1 from by omega]; rfl
      generalize hgk : g k = gk at hcell hcon heg
      clear hgk
      generalize cb k = cbk at hcell hcon
      by_cases hz : er k = 0
      · have HZ := Lib.hid hz
        rw [hz] at hcon
        clear hz
        go_wp2_with (go_at_fn gk; refine hcon.mono ?_; rintro e w1 ⟨rfl, hb1⟩)
        go_roundw
        case rel => exact ⟨k + 1, by omega, by go_num, HB.out.trans (hb1.mono hsz), fun j hj => (by
          rcases Nat.lt_or_eq_of_le (Nat.le_of_lt_succ hj) with h | h
          · exact H.out j h
          · rw [h]; exact HZ.out), (by show ferr er 0 n = _; rw [H2.out, HS.out, if_pos HZ.out])⟩
        case measure => simp [intOf]; omega
      · have HZ := Lib.hid hz
        have hq : (er k != 0) = true := by simpa using hz
        clear hz
        go_wp2_with (go_at_fn gk; refine hcon.mono ?_; rintro e w1 ⟨rfl, hb1⟩)
        go_ret
        exact ⟨ret_int (by rw [H2.out, HS.out, if_neg HZ.out]), HB.out.trans (hb1.mono hsz)⟩
    · obtain rfl : k = n := by omega
      have HB := Lib.hid hbel
      clear hbel
      go_wp2
      go_ret
      exact ⟨ret_int (by rw [H2.out, Nat.sub_self]; rfl), HB.out⟩
set_option maxRecDepth 100000 in
set_option maxHeartbeats 400000 in
theorem require1_any (bc be g : Nat) (cb : Array Value) (er : Int) (b : Bool) (w : World) (h1 : w.cell? ⟨bc, 0, none⟩ = some (.func (.func g) #[] cb)) (h2 : w.cell? ⟨be, 0, none⟩ = some (.int .i64 er)) (h3 : be < w.heap.size)
    (eg : ∀ args w, (callFunc g args).run Tryz.prog w = .ok (.enter g args) w)
    (hf : Calls Tryz.prog g cb w fun e w' => e = .returned (.bool b) ∧ Below w.heap.size w w') :
    Calls Tryz.prog 97 #[.pointer (some ⟨bc, 0, none⟩), .pointer (some ⟨be, 0, none⟩)] w fun e w' => e = .returned (.int .i64 (if b then 0 else er)) ∧ Below w.heap.size w w' := by
  have HF := Lib.hid hf
  clear hf
  cases b
  all_goals
    go_enter Tryz.func97, Tryz.ntmps97
    go_wp2_with (go_at_fn g; refine HF.out.mono ?_; rintro e w1 ⟨rfl, hb1⟩; have hv := (hb1.cell (p := ⟨be, 0, none⟩) h3).trans h2; have HB := Lib.hid hb1; clear hb1)
    go_ret
    exact ⟨rfl, HB.out⟩
set_option maxRecDepth 100000 in
set_option maxHeartbeats 400000 in
theorem require_any (er : Int) (g : Nat) (cb : Array Value) (w : World) :
    Calls Tryz.prog 46 #[.int .i64 er, .func (.func g) #[] cb] w fun e w' => e = .returned (.func (.func 97) #[] #[.pointer (some ⟨w.heap.size + 1, 0, none⟩), .pointer (some ⟨w.heap.size, 0, none⟩)]) ∧
      w' = (w.alloc (.cells #[.int .i64 er] 44)).alloc (.cells #[.func (.func g) #[] cb] 37) := by
  go_enter Tryz.func46, Tryz.ntmps46
  go_wp2
  go_ret
  exact ⟨rfl, rfl⟩
end Go.Proofs.YtjncjoaohonmjaaGreat
namespace Go.Proofs.YtjncjoaohonmjaaGreat
open Go.RowKit Go.Shelf Go.Sort
attribute [local go_sem] idx3_0 idx3_1 idx3_2 old1 fro1 old2 fro2 old3 fro3 old4 fro4 old5 fro5 old6 fro6 old7 fro7 old8 fro8 old9 fro9 old10 fro10 old11 fro11 old12 fro12
/-- A cone: its axis, and the square of a cosine as u / d. -/
structure Cone where
  x : Int
  y : Int
  z : Int
  u : Int
  d : Int
def axErr (x y z : Int) : Int := if exc x y z 100 = true then 2 else if x = 0 ∧ y = 0 ∧ z = 0 then 11 else 0
def coneErr (c : Cone) : Int := if axErr c.x c.y c.z = 0 then (if (wi c.d 1 100 && wi c.u 0 c.d) = true then 0 else 2) else axErr c.x c.y c.z
set_option maxRecDepth 100000 in
set_option maxHeartbeats 400000 in
theorem checkAxis_any (x y z : Int) (w : World) :
    Calls Tryz.prog 105 #[.agg #[.int .i64 x, .int .i64 y, .int .i64 z]] w fun e w' => e = .returned (.int .i64 (axErr x y z)) ∧ Below w.heap.size w w' := by
  unfold axErr
  cases he : exc x y z 100
  · rw [if_neg (by simp)]
    by_cases hz : x = 0 ∧ y = 0 ∧ z = 0
    · obtain ⟨rfl, rfl, rfl⟩ := hz
      go_enter Tryz.func105, Tryz.ntmps105
      go_wp2_with (first | (go_at_call 71; refine (components_any _ _ _ _).mono ?_; rintro e w1 ⟨rfl, o1, o2, rfl⟩) | (go_at_call 117; refine (exceeds_any _ _ _ _ _ (by omega) (by omega)).mono ?_; rintro e w1 ⟨rfl, o3, o4, rfl⟩))
      go_ret
      exact ⟨rfl, by (repeat (first | with_reducible exact Below.refl _ _ | with_reducible assumption | with_reducible refine Below.alloc ?_ (by first | (simp; done) | (simp; omega) | omega) _ | with_reducible refine Below.setCell ?_ (by first | (simp; done) | (simp; omega) | omega) _ | with_reducible refine Below.drew ?_ | with_reducible refine below_drewN ?_ _))⟩
    · rw [if_neg hz]
      go_enter Tryz.func105, Tryz.ntmps105
      go_wp2_with (first | (go_at_call 71; refine (components_any _ _ _ _).mono ?_; rintro e w1 ⟨rfl, o1, o2, rfl⟩) | (go_at_call 117; refine (exceeds_any _ _ _ _ _ (by omega) (by omega)).mono ?_; rintro e w1 ⟨rfl, o3, o4, rfl⟩))
      all_goals
        go_ret
        exact ⟨rfl, by (repeat (first | with_reducible exact Below.refl _ _ | with_reducible assumption | with_reducible refine Below.alloc ?_ (by first | (simp; done) | (simp; omega) | omega) _ | with_reducible refine Below.setCell ?_ (by first | (simp; done) | (simp; omega) | omega) _ | with_reducible refine Below.drew ?_ | with_reducible refine below_drewN ?_ _))⟩
  · rw [if_pos rfl]
    go_enter Tryz.func105, Tryz.ntmps105
    go_wp2_with (first | (go_at_call 71; refine (components_any _ _ _ _).mono ?_; rintro e w1 ⟨rfl, o1, o2, rfl⟩) | (go_at_call 117; refine (exceeds_any _ _ _ _ _ (by omega) (by omega)).mono ?_; rintro e w1 ⟨rfl, o3, o4, rfl⟩))
    go_ret
    exact ⟨rfl, by (repeat (first | with_reducible exact Below.refl _ _ | with_reducible assumption | with_reducible refine Below.alloc ?_ (by first | (simp; done) | (simp; omega) | omega) _ | with_reducible refine Below.setCell ?_ (by first | (simp; done) | (simp; omega) | omega) _ | with_reducible refine Below.drew ?_ | with_reducible refine below_drewN ?_ _))⟩
set_option maxRecDepth 100000 in
set_option maxHeartbeats 400000 in
theorem checkCone_any (c : Cone) (w : World) :
    Calls Tryz.prog 106 #[.agg #[.int .i64 c.x, .int .i64 c.y, .int .i64 c.z, .int .i64 c.u, .int .i64 c.d]] w fun e w' => e = .returned (.int .i64 (coneErr c)) ∧ Below w.heap.size w w' := by
  obtain ⟨x, y, z, u, d⟩ := c
  unfold coneErr
  simp only
  have HA := Lib.hid (fun W => checkAxis_any x y z W)
  by_cases ha : axErr x y z = 0
  · rw [if_pos ha]
    rw [ha] at HA
    clear ha
    cases hd : wi d 1 100
    all_goals cases hu : wi u 0 d
    all_goals
      simp only [Bool.and_true, Bool.and_false, if_true, if_false, Bool.false_eq_true]
      go_enter Tryz.func106, Tryz.ntmps106
      go_wp2_with (first | (go_at_call 105; (with_reducible refine Calls.mono (HA.out _) ?_); rintro e w1 ⟨rfl, hb1⟩; have B1 := belowT (show Below w.heap.size w _ by (repeat (first | with_reducible exact Below.refl _ _ | with_reducible assumption | with_reducible refine Below.alloc ?_ (by first | (simp; done) | (simp; omega) | omega) _ | with_reducible refine Below.setCell ?_ (by first | (simp; done) | (simp; omega) | omega) _ | with_reducible refine Below.drew ?_ | with_reducible refine below_drewN ?_ _))) hb1; have k3 := keep hb1 (b := w.heap.size) (o := 3) (v := .int .i64 u) (by simp [go_sem]); have k4 := keep hb1 (b := w.heap.size) (o := 4) (v := .int .i64 d) (by simp [go_sem]); clear hb1) | (go_at_call 48; refine (within_any _ _ _ _).mono ?_; rintro e w' ⟨rfl, rfl⟩))
      go_ret
      exact ⟨rfl, by (repeat (first | with_reducible exact Below.refl _ _ | with_reducible assumption | with_reducible refine Below.alloc ?_ (by first | (simp; done) | (simp; omega) | omega) _ | with_reducible refine Below.setCell ?_ (by first | (simp; done) | (simp; omega) | omega) _ | with_reducible refine Below.drew ?_ | with_reducible refine below_drewN ?_ _))⟩
  · rw [if_neg ha]
    have hq : (axErr x y z != 0) = true := by simpa using ha
    clear ha
    generalize axErr x y z = E at HA hq
    go_enter Tryz.func106, Tryz.ntmps106
    go_wp2_with (first | (go_at_call 105; (with_reducible refine Calls.mono (HA.out _) ?_); rintro e w1 ⟨rfl, hb1⟩; have B1 := belowT (show Below w.heap.size w _ by (repeat (first | with_reducible exact Below.refl _ _ | with_reducible assumption | with_reducible refine Below.alloc ?_ (by first | (simp; done) | (simp; omega) | omega) _ | with_reducible refine Below.setCell ?_ (by first | (simp; done) | (simp; omega) | omega) _ | with_reducible refine Below.drew ?_ | with_reducible refine below_drewN ?_ _))) hb1; clear hb1))
    go_ret
    exact ⟨rfl, by (repeat (first | with_reducible exact Below.refl _ _ | with_reducible assumption | with_reducible refine Below.alloc ?_ (by first | (simp; done) | (simp; omega) | omega) _ | with_reducible refine Below.setCell ?_ (by first | (simp; done) | (simp; omega) | omega) _ | with_reducible refine Below.drew ?_ | with_reducible refine below_drewN ?_ _))⟩
/-! ### the cones of a site in memory, and the site's error -/
def KCt (w : World) (b off n : Nat) (k : Nat → Cone) : Prop :=
  b < w.heap.size ∧ ∀ i, i < n → w.cell? ⟨b, off + i * 5, none⟩ = some (.int .i64 (k i).x) ∧ w.cell? ⟨b, off + i * 5 + 1, none⟩ = some (.int .i64 (k i).y) ∧ w.cell? ⟨b, off + i * 5 + 2, none⟩ = some (.int .i64 (k i).z) ∧ w.cell? ⟨b, off + i * 5 + 3, none⟩ = some (.int .i64 (k i).u) ∧ w.cell? ⟨b, off + i * 5 + 4, none⟩ = some (.int .i64 (k i).d)
theorem KCt.below {w w' : World} {B b off n : Nat} {k : Nat → Cone} (h : KCt w b off n k) (hb : Below B w w') (hB : b < B) : KCt w' b off n k :=
  ⟨Nat.lt_of_lt_of_le h.1 hb.size, fun i hi => by
    rw [hb.cell (p := ⟨b, off + i * 5, none⟩) hB, hb.cell (p := ⟨b, off + i * 5 + 1, none⟩) hB, hb.cell (p := ⟨b, off + i * 5 + 2, none⟩) hB, hb.cell (p := ⟨b, off + i * 5 + 3, none⟩) hB, hb.cell (p := ⟨b, off + i * 5 + 4, none⟩) hB]
    exact h.2 i hi⟩
def KC (w : World) (A : Option Addr) (n : Nat) (k : Nat → Cone) : Prop := 0 < n → ∃ b off, A = some ⟨b, off, none⟩ ∧ KCt w b off n k
theorem KC.bel {w w' : World} {A : Option Addr} {n : Nat} {k : Nat → Cone} (h : KC w A n k) (hb : Below w.heap.size w w') : KC w' A n k := fun h0 => by
  obtain ⟨b, off, e, hk⟩ := h h0
  exact ⟨b, off, e, hk.below hb hk.1⟩
def coFrom (k : Nat → Cone) (i : Nat) : Nat → Option (Nat × Int)
  | 0 => none
  | n + 1 => if coneErr (k i) = 0 then coFrom k (i + 1) n else some (i, coneErr (k i))
def coRes : Option (Nat × Int) → Int × Int
  | some q => ((q.1 : Int), q.2)
  | none => (0, 0)
def siteRes (x y z : Int) (n : Nat) (k : Nat → Cone) : Int × Int :=
  if axErr x y z = 0 then (if 4 < n then (0, 8) else coRes (coFrom k 0 n)) else (0, axErr x y z)
end Go.Proofs.YtjncjoaohonmjaaGreat
