/- Helpers: the law of RG for a statement that also stores once, into memory that it makes itself. No condition but the hypotheses that each theorem names. -/
import Derived.Test.YtjncjoaohonmjaaGreatB01
import Derived.Test.YtjncjoaohonmjaaGreatB04
import Derived.IntWalk
import Derived.Deep.RegionWith
import Derived.Deep.RegionHeld3
namespace Go.Proofs.YtjncjoaohonmjaaGreat
open Go.RowKit
def rgDeps (o : Oper) : List Nat := (o.after.toList.filter fun e => Region.binds .any e).map fun e => e.on
def rgAnc (ops : Array Oper) : Nat → List Nat → List Nat
  | 0, l => l
  | f + 1, l => l ++ rgAnc ops f (l.flatMap fun i => match ops[i]? with | some o => rgDeps o | none => [])
def RClosed (ops : Array Oper) (listed : Array Bool) : Prop := ∀ (i : Nat) (o : Oper), ops[i]? = some o → listed.getD i false = true → ∀ j ∈ rgDeps o, listed.getD j false = true
theorem rgAnc_listed {ops : Array Oper} {listed : Array Bool} (hc : RClosed ops listed) : ∀ (f : Nat) (l : List Nat), (∀ i ∈ l, listed.getD i false = true) → ∀ i ∈ rgAnc ops f l, listed.getD i false = true
  | 0, _, h => h
  | f + 1, l, h => by
    intro i hi
    rcases List.mem_append.1 hi with hi | hi
    · exact h i hi
    · refine rgAnc_listed hc f _ ?_ i hi
      intro j hj
      obtain ⟨k, hk, hjk⟩ := List.mem_flatMap.1 hj
      cases ho : ops[k]? with
      | none => rw [ho] at hjk; cases hjk
      | some o => rw [ho] at hjk; exact hc k o ho (h k hk) j hjk
def PDeps (ops : Array Oper) (ψ : Nat → Value → Prop) (a' : Act) (o : Oper) : Prop :=
  ∀ e ∈ o.after, Region.binds .any e = true → ∀ (o' : Oper) (d : Nat), ops[e.on]? = some o' → o'.dst = some d → ψ e.on (a'.tmps.getD d undef)
structure SInv (ops : Array Oper) (φ : Nat → Value → World → Prop) (ψ : Nat → Value → Prop) (ω : Value → World → Prop) (s dA : Nat) (a : Act) (w : World) (listed : Array Bool) (a' : Act) (w' : World) : Prop where
  sz : listed.size = ops.size
  below : Below w.heap.size w w'
  tsize : a'.tmps.size = a.tmps.size
  defs : a'.defers = a.defers
  rest : ∀ t, (∀ (i : Nat) (o : Oper), ops[i]? = some o → o.dst ≠ some t) → a'.tmps[t]? = a.tmps[t]?
  closed : RClosed ops listed
  pure : ∀ (i : Nat) (o : Oper) (d : Nat), ops[i]? = some o → o.dst = some d → listed.getD i false = true → ψ i (a'.tmps.getD d undef)
  pre : listed.getD s false = false → ∀ (i : Nat) (o : Oper) (d : Nat), ops[i]? = some o → o.dst = some d → listed.getD i false = true → φ i (a'.tmps.getD d undef) w'
  post : listed.getD s false = true → ω (a'.tmps.getD dA undef) w'
def rsLow (ops : Array Oper) (n s : Nat) : Prop := ∀ (i : Nat) (o : Oper), ops[i]? = some o → o.guard = none ∧ (∀ e ∈ o.after, Region.binds .any e = true → e.on < i) ∧ (i = s → o.dst = none) ∧ (i ≠ s → ∃ d, o.dst = some d ∧ d < n ∧ ∀ (j : Nat) (o' : Oper), ops[j]? = some o' → j ≠ i → o'.dst ≠ some d)
theorem getD_of_ready {listed : Array Bool} {i n : Nat} (hs : i < n) (hz : listed.size = n) (h : (!listed.getD i true) = true) : listed.getD i false = false := by
  have hsz : i < listed.size := by omega
  simp [Array.getD, hsz] at h ⊢
  exact h
theorem getD_set {listed : Array Bool} {i j : Nat} (h : (listed.setIfInBounds i true).getD j false = true) : j = i ∨ listed.getD j false = true := by
  by_cases hji : j = i
  · exact .inl hji
  · refine .inr ?_
    simp only [Array.getD_eq_getD_getElem?, Array.getElem?_setIfInBounds] at h ⊢
    rw [if_neg (fun e => hji e.symm)] at h
    exact h
theorem getD_set_mono {listed : Array Bool} {i j : Nat} (h : listed.getD j false = true) : (listed.setIfInBounds i true).getD j false = true := by
  simp only [Array.getD_eq_getD_getElem?, Array.getElem?_setIfInBounds] at h ⊢
  by_cases hji : i = j
  · subst hji
    have : i < listed.size := by
      rcases Nat.lt_or_ge i listed.size with q | q
      · exact q
      · rw [Array.getElem?_eq_none q] at h; cases h
    simp [this]
  · rw [if_neg hji]; exact h
theorem getD_set_ne {listed : Array Bool} {i j : Nat} (h : j ≠ i) : (listed.setIfInBounds i true).getD j false = listed.getD j false := by
  simp only [Array.getD_eq_getD_getElem?, Array.getElem?_setIfInBounds]
  rw [if_neg (fun e => h e.symm)]
theorem wpAny_st {P : Program} {ops : Array Oper} {Q : Exit → Act → World → Prop} (φ : Nat → Value → World → Prop) (ψ : Nat → Value → Prop) (ω : Value → World → Prop) (s kA dA f : Nat) (a : Act) (w : World) (hl : rsLow ops a.tmps.size s) (hs : s < ops.size)
    (hA : kA ∈ rgAnc ops f [s]) (hkA : kA ≠ s) (hdA : ∀ oA, ops[kA]? = some oA → oA.dst = some dA)
    (hmono : ∀ i v w1 w2, φ i v w1 → Below w1.heap.size w1 w2 → φ i v w2) (hω : ∀ v w1 w2, ω v w1 → Below w1.heap.size w1 w2 → ω v w2)
    (hstep : ∀ (i : Nat) (o : Oper), ops[i]? = some o → i ≠ s → ∀ a' w', Below w.heap.size w w' → RSame ops a a' → (i ∈ rgAnc ops f [s] → RDeps ops φ a' w' o) → PDeps ops ψ a' o → o.wp P a' w' (fun a'' w'' => ∃ v, a'' = a'.put o.dst v ∧ Below w'.heap.size w' w'' ∧ φ i v w'' ∧ ψ i v) Q)
    (hstore : ∀ o, ops[s]? = some o → ∀ a' w', Below w.heap.size w w' → RSame ops a a' → RDeps ops φ a' w' o → o.wp P a' w' (fun a'' w'' => a'' = a' ∧ Below w.heap.size w w'' ∧ ω (a'.tmps.getD dA undef) w'') Q)
    (hend : ∀ a' w', Below w.heap.size w w' → RSame ops a a' → (∀ (i : Nat) (o : Oper) (d : Nat), ops[i]? = some o → o.dst = some d → ψ i (a'.tmps.getD d undef)) → ω (a'.tmps.getD dA undef) w' → Q .normal a' w') :
    ∀ (fuel : Nat) (listed : Array Bool) (a' : Act) (w' : World), SInv ops φ ψ ω s dA a w listed a' w' → rgMissing listed ops.size ≤ fuel → wpAny P .any ops Q fuel listed a' w' := by
  have full : ∀ (listed : Array Bool) (a' : Act) (w' : World), SInv ops φ ψ ω s dA a w listed a' w' → Region.ready .any ops listed = [] → Q .normal a' w' := by
    intro listed a' w' h hr
    have all : ∀ n i, i < n → i < ops.size → listed.getD i false = true := by
      intro n
      induction n with
      | zero => intro i hi; omega
      | succ n ih =>
        intro i hi hs
        rcases Nat.lt_or_eq_of_le (Nat.le_of_lt_succ hi) with h1 | rfl
        · exact ih i h1 hs
        · have ho : ops[i]? = some ops[i] := Array.getElem?_eq_getElem hs
          cases hc : listed.getD i false with
          | true => rfl
          | false =>
            exfalso
            have hm : i ∈ Region.ready .any ops listed := by
              unfold Region.ready
              refine List.mem_filter.2 ⟨List.mem_range.2 hs, ?_⟩
              have h2 : listed.getD i true = false := by
                have hsz : i < listed.size := by rw [h.sz]; exact hs
                simp [Array.getD, hsz] at hc ⊢
                exact hc
              rw [h2, ho]
              simp only [Bool.not_false, Bool.true_and, Option.map_some, Option.getD_some]
              rw [Array.all_eq_true_iff_forall_mem]
              intro e he
              cases hbd : Region.binds .any e with
              | false => simp
              | true =>
                have := ih e.on ((hl i _ ho).2.1 e he hbd) (by have := (hl i _ ho).2.1 e he hbd; omega)
                simp [this]
            rw [hr] at hm
            cases hm
    refine hend a' w' h.below ⟨h.tsize, h.defs, h.rest⟩ (fun i o d ho hd => h.pure i o d ho hd ?_) (h.post (all (s + 1) s (by omega) hs))
    have hs : i < ops.size := by
      rcases Nat.lt_or_ge i ops.size with q | q
      · exact q
      · rw [Array.getElem?_eq_none q] at ho; cases ho
    exact all (i + 1) i (by omega) hs
  intro fuel
  induction fuel with
  | zero =>
    intro listed a' w' h hm
    have hr : Region.ready .any ops listed = [] := by
      rcases hq : Region.ready .any ops listed with _ | ⟨i, l⟩
      · rfl
      · exfalso
        have hi : i ∈ Region.ready .any ops listed := by rw [hq]; simp
        unfold Region.ready at hi
        obtain ⟨h1, h2⟩ := List.mem_filter.1 hi
        have h3 : (!listed.getD i true) = true := by
          simp only [Bool.and_eq_true] at h2
          exact h2.1
        have : i ∈ (List.range ops.size).filter fun i => !listed.getD i true := List.mem_filter.2 ⟨h1, h3⟩
        have := List.length_pos_of_mem this
        unfold rgMissing at hm
        omega
    exact ⟨hr, full _ _ _ h hr⟩
  | succ fuel ih =>
    intro listed a' w' h hm
    refine ⟨fun hr => full _ _ _ h hr, fun i hi => ?_⟩
    unfold Region.ready at hi
    obtain ⟨h1, h2⟩ := List.mem_filter.1 hi
    simp only [Bool.and_eq_true] at h2
    obtain ⟨h3, h4⟩ := h2
    have hsi : i < ops.size := List.mem_range.1 h1
    have ho : ops[i]? = some ops[i] := Array.getElem?_eq_getElem hsi
    have hun := getD_of_ready hsi h.sz h3
    obtain ⟨hg, hlow, hds, hdn⟩ := hl i _ ho
    rw [ho] at h4
    simp only [Option.map_some, Option.getD_some] at h4
    rw [Array.all_eq_true_iff_forall_mem] at h4
    have hsz : i < listed.size := by rw [h.sz]; exact hsi
    have hmiss : rgMissing (listed.setIfInBounds i true) ops.size ≤ fuel := by
      have : rgMissing (listed.setIfInBounds i true) ops.size < rgMissing listed ops.size := by
        refine filter_len_lt (i := i) ?_ h3 ?_ h1
        · intro x hx
          simp only [Array.getD_eq_getD_getElem?, Array.getElem?_setIfInBounds] at hx ⊢
          by_cases hxi : i = x
          · subst hxi
            simp [hsz] at hx
          · rw [if_neg hxi] at hx
            exact hx
        · simp [Array.getD_eq_getD_getElem?, hsz]
      omega
    have hclosed : RClosed ops (listed.setIfInBounds i true) := by
      intro j o' ho' hj k hk
      rcases getD_set hj with rfl | hj
      · rw [ho] at ho'
        cases ho'
        obtain ⟨e, he, rfl⟩ := List.mem_map.1 hk
        obtain ⟨he1, he2⟩ := List.mem_filter.1 he
        have := h4 e (by simpa using he1)
        rw [he2] at this
        exact getD_set_mono (by simpa using this)
      · exact getD_set_mono (h.closed j o' ho' hj k hk)
    have hp : PDeps ops ψ a' ops[i] := by
      intro e he hb o' d' ho' hd'
      have := h4 e he
      rw [hb] at this
      exact h.pure _ _ _ ho' hd' (by simpa using this)
    have hdeps : listed.getD s false = false → RDeps ops φ a' w' ops[i] := by
      intro hns e he hb o' d' ho' hd'
      have := h4 e he
      rw [hb] at this
      exact h.pre hns _ _ _ ho' hd' (by simpa using this)
    have hwant : Region.wanted ops[i] (yielded ops a'.tmps) = true := by simp [Region.wanted, hg]
    unfold wpOp
    rw [ho]
    simp only [hwant, if_true]
    by_cases his : i = s
    · subst his
      refine .inl (Oper.wp_mono ?_ (hstore _ ho a' w' h.below ⟨h.tsize, h.defs, h.rest⟩ (hdeps hun)))
      rintro a'' w'' ⟨rfl, hb, hv⟩
      refine ih _ _ _ ⟨by simp [h.sz], hb, h.tsize, h.defs, h.rest, hclosed, ?_, ?_, fun _ => hv⟩ hmiss
      · intro j o' d' ho' hd' hj
        rcases getD_set hj with rfl | hj
        · rw [ho] at ho'
          cases ho'
          rw [hds rfl] at hd'
          cases hd'
        · exact h.pure j o' d' ho' hd' hj
      · intro hns
        exfalso
        simp [Array.getD_eq_getD_getElem?, hsz] at hns
    · obtain ⟨d, hd, hdl, hdi⟩ := hdn his
      have hanc : i ∈ rgAnc ops f [s] → listed.getD s false = false := by
        intro hi
        cases hc : listed.getD s false with
        | false => rfl
        | true =>
          have := rgAnc_listed h.closed f [s] (by intro j hj; simp at hj; subst hj; exact hc) i hi
          rw [hun] at this
          cases this
      refine .inl (Oper.wp_mono ?_ (hstep i _ ho his a' w' h.below ⟨h.tsize, h.defs, h.rest⟩ (fun hi => hdeps (hanc hi)) hp))
      rintro a'' w'' ⟨v, rfl, hb, hv, hψ⟩
      rw [hd]
      refine ih _ _ _ ⟨by simp [h.sz], belowT h.below hb, by rw [← h.tsize]; simp [Act.put], by rw [← h.defs]; rfl, ?_, hclosed, ?_, ?_, ?_⟩ hmiss
      · intro t ht
        rw [rg_put_get (by intro e; exact ht i _ ho (by rw [hd, e]))]
        exact h.rest t ht
      · intro j o' d' ho' hd' hj
        by_cases hji : j = i
        · subst hji
          rw [ho] at ho'
          cases ho'
          rw [hd] at hd'
          cases hd'
          rw [rg_put_own (by rw [h.tsize]; exact hdl)]
          exact hψ
        · rw [rg_put_getD (by intro e; exact hdi j o' ho' hji (by rw [hd', e]))]
          exact h.pure j o' d' ho' hd' ((getD_set hj).resolve_left hji)
      · intro hns j o' d' ho' hd' hj
        rw [getD_set_ne (fun e => his e.symm)] at hns
        by_cases hji : j = i
        · subst hji
          rw [ho] at ho'
          cases ho'
          rw [hd] at hd'
          cases hd'
          rw [rg_put_own (by rw [h.tsize]; exact hdl)]
          exact hv
        · rw [rg_put_getD (by intro e; exact hdi j o' ho' hji (by rw [hd', e]))]
          exact hmono _ _ _ _ (h.pre hns j o' d' ho' hd' ((getD_set hj).resolve_left hji)) hb
      · intro hsl
        rw [getD_set_ne (fun e => his e.symm)] at hsl
        have hkl := rgAnc_listed h.closed f [s] (by intro j hj; simp at hj; subst hj; exact hsl) kA hA
        have hki : kA ≠ i := by
          intro e
          rw [e, hun] at hkl
          cases hkl
        have hks : kA < ops.size := by
          rcases Nat.lt_or_ge kA ops.size with q | q
          · exact q
          · have : listed.size ≤ kA := by rw [h.sz]; exact q
            simp [Array.getD_eq_getD_getElem?, Array.getElem?_eq_none this] at hkl
        have hoA : ops[kA]? = some ops[kA] := Array.getElem?_eq_getElem hks
        rw [rg_put_getD (by intro e; exact hdi kA _ hoA hki (by rw [hdA _ hoA, e]))]
        exact hω _ _ _ (h.post hsl) hb
def rsCheck (n s : Nat) : Nat → List Oper → Bool
  | _, [] => true
  | i, o :: l => o.guard.isNone && o.after.toList.all (fun e => !Region.binds .any e || Nat.blt e.on i) && (match o.dst with | some d => !(Nat.beq i s) && Nat.blt d n && l.all (fun o' => match o'.dst with | some d' => !(Nat.beq d d') | none => true) | none => Nat.beq i s) && rsCheck n s (i + 1) l
theorem rsCheck_of : ∀ (n s k : Nat) (l : List Oper), rsCheck n s k l = true → ∀ (i : Nat) (o : Oper), l[i]? = some o → o.guard = none ∧ (∀ e ∈ o.after, Region.binds .any e = true → e.on < k + i) ∧ (k + i = s → o.dst = none) ∧ (k + i ≠ s → ∃ d, o.dst = some d ∧ d < n) ∧ ∀ d, o.dst = some d → ∀ (j : Nat) (o' : Oper), l[j]? = some o' → i < j → o'.dst ≠ some d
  | n, s, k, [], _, i, o, h => by simp at h
  | n, s, k, x :: l, hc, 0, o, h => by
    simp at h
    subst h
    simp only [rsCheck, Bool.and_eq_true] at hc
    obtain ⟨⟨⟨h1, h2⟩, h3⟩, h4⟩ := hc
    refine ⟨by simpa using h1, fun e he hbd => ?_, ?_⟩
    · have := List.all_eq_true.1 h2 e (by simpa using he)
      rw [hbd] at this
      simpa [Nat.blt_eq] using this
    · cases hd : x.dst with
      | none =>
        rw [hd] at h3
        have h3 : k = s := Nat.eq_of_beq_eq_true (by simpa using h3)
        exact ⟨fun _ => rfl, fun hne => absurd h3 (by simpa using hne), fun d hd' => by cases hd'⟩
      | some d =>
        rw [hd] at h3
        simp only [Bool.and_eq_true, Nat.blt_eq] at h3
        obtain ⟨⟨h5, h6⟩, h7⟩ := h3
        refine ⟨fun e => ?_, fun _ => ⟨d, rfl, h6⟩, fun d' hd' j o' hj hij => ?_⟩
        · have e : k = s := by simpa using e
          rw [e] at h5
          simp at h5
        · cases hd'
          obtain ⟨j, rfl⟩ : ∃ j', j = j' + 1 := ⟨j - 1, by omega⟩
          have hm : o' ∈ l := List.mem_of_getElem? (by simpa using hj)
          have := List.all_eq_true.1 h7 o' hm
          intro e
          rw [e] at this
          simp at this
  | n, s, k, x :: l, hc, i + 1, o, h => by
    simp only [rsCheck, Bool.and_eq_true] at hc
    obtain ⟨g1, g2, g3, g4, g5⟩ := rsCheck_of n s (k + 1) l hc.2 i o (by simpa using h)
    refine ⟨g1, fun e he hbd => by have := g2 e he hbd; omega, fun e => g3 (by omega), fun e => g4 (by omega), fun d hd j o' hj hij => ?_⟩
    obtain ⟨j, rfl⟩ : ∃ j', j = j' + 1 := ⟨j - 1, by omega⟩
    exact g5 d hd j o' (by simpa using hj) (by omega)
theorem rsLow_of {ops : Array Oper} {n s : Nat} (h : rsCheck n s 0 ops.toList = true) : rsLow ops n s := by
  intro i o ho
  have ho' : ops.toList[i]? = some o := by rw [Array.getElem?_toList]; exact ho
  obtain ⟨g1, g2, g3, g4, g5⟩ := rsCheck_of n s 0 ops.toList h i o ho'
  refine ⟨g1, fun e he hbd => by have := g2 e he hbd; omega, fun e => g3 (by omega), fun e => ?_⟩
  obtain ⟨d, hd, hdn⟩ := g4 (by omega)
  refine ⟨d, hd, hdn, fun j o' hj hne => ?_⟩
  have hj' : ops.toList[j]? = some o' := by rw [Array.getElem?_toList]; exact hj
  rcases Nat.lt_or_gt_of_ne hne with hlt | hgt
  · obtain ⟨_, _, _, _, k5⟩ := rsCheck_of n s 0 ops.toList h j o' hj'
    intro e
    exact k5 d e i o ho' hlt hd
  · exact g5 d hd j o' hj' hgt
def rsDsts (ops : List Oper) : List Nat := ops.filterMap fun o => o.dst
theorem act_of_st {ops : Array Oper} {a a' : Act} (h : RSame ops a a') : a' = (rsDsts ops.toList).foldl (fun b d => b.put (some d) (a'.tmps.getD d undef)) a := by
  have e1 := foldl_put_size (fun d => a'.tmps.getD d undef) (rsDsts ops.toList) a
  have ht : a'.tmps = ((rsDsts ops.toList).foldl (fun b d => b.put (some d) (a'.tmps.getD d undef)) a).tmps := by
    refine Array.ext_getElem? fun t => ?_
    by_cases hs : t < a.tmps.size
    · by_cases hm : t ∈ rsDsts ops.toList
      · rw [foldl_put_in _ _ _ t hm hs, rg_getD]
        have : t < a'.tmps.size := by rw [h.1]; exact hs
        rw [Array.getElem?_eq_getElem this]
        rfl
      · rw [foldl_put_out _ _ _ t hm]
        refine h.2.2 t fun i o ho e => hm ?_
        exact List.mem_filterMap.2 ⟨o, List.mem_of_getElem? (i := i) (by rw [Array.getElem?_toList]; exact ho), e⟩
    · rw [Array.getElem?_eq_none (by rw [h.1]; omega), Array.getElem?_eq_none (by rw [e1.1]; omega)]
  have hd : a'.defers = ((rsDsts ops.toList).foldl (fun b d => b.put (some d) (a'.tmps.getD d undef)) a).defers := by rw [e1.2, h.2.1]
  generalize (rsDsts ops.toList).foldl (fun b d => b.put (some d) (a'.tmps.getD d undef)) a = z at ht hd
  cases a'
  cases z
  simp only at ht hd
  rw [ht, hd]
def ppAt (l : List (Value → Prop)) (i : Nat) : Value → Prop := l.getD i fun _ => True
theorem PDeps.get {ops : Array Oper} {ψ : Nat → Value → Prop} {a : Act} {o : Oper} (h : PDeps ops ψ a o) (j d : Nat) (hj : (o.after.toList.any fun e => Nat.beq e.on j && Region.binds .any e) = true) (ho : (ops[j]?).bind (·.dst) = some d) : ψ j (a.eval (.tmp d)) := by
  show ψ j (a.tmps.getD d undef)
  obtain ⟨e, he, h2⟩ := List.any_eq_true.1 hj
  obtain ⟨h3, h4⟩ := (Bool.and_eq_true _ _).mp h2
  replace h3 := Nat.eq_of_beq_eq_true h3
  subst h3
  cases ho' : ops[e.on]? with
  | none => rw [ho'] at ho; cases ho
  | some o' =>
    rw [ho'] at ho
    exact h e (by simpa using he) h4 o' d ho' ho
/-- The law. s: the store's number; kA, dA: the number and the slot of what is stored into. -/
theorem wp_region_st {P : Program} {id : Nat} {ops : Array Oper} {Q : Exit → Act → World → Prop} {a : Act} {w : World} (m : List Bool) (hmask : maskOf (rsDsts ops.toList) a.tmps.size = m) (Φ : List MP) (Ψ : List (Value → Prop)) (Ω : MP) (s kA dA : Nat) (hm : P.follows .mixedOrders = true) (hl : rsCheck a.tmps.size s 0 ops.toList = true)
    (hs : Nat.blt s ops.size = true) (hA : ((rgAnc ops ops.size [s]).contains kA && !(Nat.beq kA s)) = true) (hdA : (ops[kA]?).bind (·.dst) = some dA)
    (hstep : AllOps (fun i o => (i ≠ s → ∀ a' w', Below w.heap.size w w' → RSame ops a a' → ((rgAnc ops ops.size [s]).contains i = true → RDeps ops (fun i => (mpAt Φ i).p) a' w' o) → PDeps ops (ppAt Ψ) a' o → o.wp P a' w' (fun a'' w'' => ∃ v, a'' = a'.put o.dst v ∧ Below w'.heap.size w' w'' ∧ (mpAt Φ i).p v w'' ∧ ppAt Ψ i v) Q) ∧
      (i = s → ∀ a' w', Below w.heap.size w w' → RSame ops a a' → RDeps ops (fun i => (mpAt Φ i).p) a' w' o → o.wp P a' w' (fun a'' w'' => a'' = a' ∧ Below w.heap.size w w'' ∧ Ω.p (a'.eval (.tmp dA)) w'') Q)) 0 ops.toList)
    (hend : ∀ (V : Nat → Value) (w' : World), Below w.heap.size w w' → AllOps (fun i o => i ≠ s → ppAt Ψ i (V (o.dst.getD 0))) 0 ops.toList → Ω.p (V dA) w' → Q .normal ⟨(maskPut V 0 m a.tmps.toList).toArray, a.defers⟩ w') :
    (Code.region id ops true).wp P Q a w := by
  refine wp_region_any hm ?_
  have low := rsLow_of hl
  have hs' : s < ops.size := by simpa [Nat.blt_eq] using hs
  have hA1 : kA ∈ rgAnc ops ops.size [s] := by
    have := (Bool.and_eq_true _ _).mp hA
    simpa using this.1
  have hA2 : kA ≠ s := by
    have := (Bool.and_eq_true _ _).mp hA
    intro e
    rw [e] at this
    simp at this
  refine wpAny_st (fun i => (mpAt Φ i).p) (ppAt Ψ) Ω.p s kA dA ops.size a w low hs' hA1 hA2 (fun oA hoA => by rw [hoA] at hdA; exact hdA) (fun i v w1 w2 => (mpAt Φ i).on v w1 w2) Ω.on ?_ (fun o ho => (allOps_of hstep s o ho).2 rfl) ?_ ops.size (Array.replicate ops.size false) a _ ⟨by simp, (Below.refl _ _).drew, rfl, rfl, fun _ _ => rfl, ?_, ?_, ?_, ?_⟩ ?_
  · intro i o ho hi a' w' hb hsm hd hp
    exact (allOps_of hstep i o ho).1 hi a' w' hb hsm (fun hc => hd (by simpa using hc)) hp
  · intro a' w' hb hsm hf hω
    have := hend (fun d => a'.tmps.getD d undef) w' hb (allOps_mk fun i o ho hi => by
      obtain ⟨d, hd, _⟩ := (low i o ho).2.2.2 hi
      rw [hd]
      exact hf i o d ho hd) hω
    rw [act_of_st hsm, act_mask _ _ a m hmask]
    exact this
  · intro i o ho h
    exfalso
    simp only [Array.getD_eq_getD_getElem?, Array.getElem?_replicate] at h
    split at h <;> cases h
  · intro i o d ho _ h
    exfalso
    simp only [Array.getD_eq_getD_getElem?, Array.getElem?_replicate] at h
    split at h <;> cases h
  · intro _ i o d ho _ h
    exfalso
    simp only [Array.getD_eq_getD_getElem?, Array.getElem?_replicate] at h
    split at h <;> cases h
  · intro h
    exfalso
    simp only [Array.getD_eq_getD_getElem?, Array.getElem?_replicate] at h
    split at h <;> cases h
  · unfold rgMissing
    refine Nat.le_trans (List.length_filter_le _ _) ?_
    simp
theorem rs_not {i s : Nat} {p q : Prop} (hi : Nat.beq i s = false) (h : p) : (i ≠ s → p) ∧ (i = s → q) := ⟨fun _ => h, fun e => by rw [e] at hi; simp at hi⟩
theorem rs_is {i s : Nat} {p q : Prop} (hi : Nat.beq i s = true) (h : q) : (i ≠ s → p) ∧ (i = s → q) := ⟨fun e => absurd (Nat.eq_of_beq_eq_true hi) e, fun _ => h⟩
theorem rs_st {P : Program} {ω : Value → World → Prop} {Q : Exit → Act → World → Prop} {o : Oper} {a : Act} {w W : World} {d : Nat} (hd : o.dst = none) (h : ∀ K : Act → World → Prop, (∀ w', Below W.heap.size W w' → ω (a.eval (.tmp d)) w' → K (a.put o.dst undef) w') → o.wp P a w K Q) :
    o.wp P a w (fun a'' w'' => a'' = a ∧ Below W.heap.size W w'' ∧ ω (a.eval (.tmp d)) w'') Q := h _ fun w' hb hv => ⟨by rw [hd]; rfl, hb, hv⟩
theorem rs_op {P : Program} {φ : Value → World → Prop} {ψ : Value → Prop} {Q : Exit → Act → World → Prop} {o : Oper} {a : Act} {w : World} (h : ∀ K : Act → World → Prop, (∀ v w', Below w.heap.size w w' → φ v w' → ψ v → K (a.put o.dst v) w') → o.wp P a w K Q) :
    o.wp P a w (fun a'' w'' => ∃ v, a'' = a.put o.dst v ∧ Below w.heap.size w w'' ∧ φ v w'' ∧ ψ v) Q := h _ fun v _ hb hv hp => ⟨v, rfl, hb, hv, hp⟩
theorem rs_fn {P : Program} {φ : Value → World → Prop} {ψ : Value → Prop} {Q : Exit → Act → World → Prop} {dst : Option Tmp} {f : Operand} {args : Array Operand} {ats : Array TypeId} {ty : TypeId} {pos : String} {after : Array Edge} {guard : Option (Nat × Bool)} {g : FuncId} {x y : Array Value} {a : Act} {w : World} {vs : Array Value}
    (hf : a.eval f = .func (.func g) x y) (he : ∀ args w, (callFunc g args).run P w = .ok (.enter g args) w) (hv : x ++ args.map a.eval ++ y = vs) (hc : Calls P g vs w fun e w' => ∃ v, e = .returned v ∧ Below w.heap.size w w' ∧ φ v w' ∧ ψ v) :
    Oper.wp P ⟨dst, .call { callee := .value f, args, argTypes := ats }, ty, pos, after, guard⟩ a w (fun a'' w'' => ∃ v, a'' = a.put dst v ∧ Below w.heap.size w w'' ∧ φ v w'' ∧ ψ v) Q := by
  subst hv
  unfold Oper.wp
  rw [rg_run_call hf he]
  refine hc.mono ?_
  rintro e w' ⟨v, rfl, hb, hv⟩
  exact ⟨v, rfl, hb, hv⟩
end Go.Proofs.YtjncjoaohonmjaaGreat
namespace Go.Proofs.YtjncjoaohonmjaaGreat
open Go.RowKit Go.Shelf Go.Sort
attribute [local go_sem] idx3_0 idx3_1 idx3_2 old1 fro1 old2 fro2 old3 fro3 old4 fro4 old5 fro5 old6 fro6 old7 fro7 old8 fro8 old9 fro9 old10 fro10 old11 fro11 old12 fro12
set_option maxRecDepth 100000 in
set_option maxHeartbeats 400000 in
theorem lastTime_any (b off n c : Nat) (d t : Int) (w : World) (hn : 0 < n) (hn2 : n ≤ 100) (h : w.cell? ⟨b, off + (n - 1) * 4, none⟩ = some (.int .i64 t)) :
    Calls Tryz.prog 54 #[.agg #[.slice (some ⟨b, off, none⟩) n c, .int .i64 d]] w fun e w' => e = .returned (.int .i64 t) ∧ ∃ o1, w' = w.alloc o1 := by
  go_enter Tryz.func54, Tryz.ntmps54
  go_wp2
  go_ret
  exact ⟨rfl, _, rfl⟩
set_option maxRecDepth 100000 in
set_option maxHeartbeats 400000 in
theorem firstTime_any (b off n c : Nat) (d t : Int) (w : World) (hn : 0 < n) (_ : n ≤ 100) (h : w.cell? ⟨b, off, none⟩ = some (.int .i64 t)) :
    Calls Tryz.prog 68 #[.agg #[.slice (some ⟨b, off, none⟩) n c, .int .i64 d]] w fun e w' => e = .returned (.int .i64 t) ∧ ∃ o1, w' = w.alloc o1 := by
  go_enter Tryz.func68, Tryz.ntmps68
  go_wp2
  go_ret
  exact ⟨rfl, _, rfl⟩
/-- The first knot that has an error, from a knot on: its index and the error; or none. -/
def ctFrom (k : Nat → Knot) : Nat → Nat → Option (Nat × Int)
  | _, 0 => none
  | i, n + 1 => if knotErr k i = 0 then ctFrom k (i + 1) n else some (i, knotErr k i)
def ctRes (k : Nat → Knot) (n : Nat) (d : Int) : Int × Int :=
  if n = 0 then (0, 10) else if 12 < n then (0, 8) else match ctFrom k 0 n with
  | some (i, e) => ((i : Int), e)
  | none => if wi d 0 1000 then (0, 0) else (0, 2)
def KA (w : World) (A : Option Addr) (n : Nat) (k : Nat → Knot) : Prop := 0 < n → ∃ b off, A = some ⟨b, off, none⟩ ∧ KAt w b off n k
theorem knotErr_ok {k : Nat → Knot} {i : Nat} (h : knotErr k i = 0) : (k i).ok := by
  unfold knotErr at h
  by_cases hok : (k i).ok
  · exact hok
  · rw [if_pos hok] at h; cases h
set_option maxRecDepth 100000 in
set_option maxHeartbeats 400000 in
theorem checkTrack_0 (A : Option Addr) (c : Nat) (d : Int) (w : World) :
    Calls Tryz.prog 64 #[.agg #[.slice A 0 c, .int .i64 d]] w fun e w' => e = .returned (.tuple #[.int .i64 0, .int .i64 10]) ∧ Below w.heap.size w w' := by
  go_enter Tryz.func64, Tryz.ntmps64
  go_wp2
  go_ret2
  exact ⟨rfl, by (repeat (first | with_reducible exact Below.refl _ _ | with_reducible assumption | with_reducible refine Below.alloc ?_ (by first | (simp; done) | (simp; omega) | omega) _ | with_reducible refine Below.setCell ?_ (by first | (simp; done) | (simp; omega) | omega) _ | with_reducible refine Below.drew ?_ | with_reducible refine below_drewN ?_ _))⟩
set_option maxRecDepth 100000 in
set_option maxHeartbeats 400000 in
theorem checkTrack_l (A : Option Addr) (n c : Nat) (d : Int) (w : World) (h : 12 < n) (hn : n ≤ 9223372036854775807) :
    Calls Tryz.prog 64 #[.agg #[.slice A n c, .int .i64 d]] w fun e w' => e = .returned (.tuple #[.int .i64 0, .int .i64 8]) ∧ Below w.heap.size w w' := by
  have hz : ((n : Int) == 0) = false := by simp; omega
  go_enter Tryz.func64, Tryz.ntmps64
  go_wp2
  go_ret2
  exact ⟨rfl, by (repeat (first | with_reducible exact Below.refl _ _ | with_reducible assumption | with_reducible refine Below.alloc ?_ (by first | (simp; done) | (simp; omega) | omega) _ | with_reducible refine Below.setCell ?_ (by first | (simp; done) | (simp; omega) | omega) _ | with_reducible refine Below.drew ?_ | with_reducible refine below_drewN ?_ _))⟩
set_option maxRecDepth 100000 in
set_option maxHeartbeats 800000 in
theorem checkTrack_m (b off n c : Nat) (d : Int) (w : World) (k : Nat → Knot) (h0 : 0 < n) (h : n ≤ 12) (hk : KAt w b off n k) :
    Calls Tryz.prog 64 #[.agg #[.slice (some ⟨b, off, none⟩) n c, .int .i64 d]] w fun e w' => e = .returned (.tuple #[.int .i64 (ctRes k n d).1, .int .i64 (ctRes k n d).2]) ∧ Below w.heap.size w w' := by
  have hz : ((n : Int) == 0) = false := by simp; omega
  have HK := Lib.hid hk
  have hb := hk.1
  clear hk
  go_enter Tryz.func64, Tryz.ntmps64
  go_wp2_with fail
  go_loopw [17] (fun i wr => ∃ j : Nat, j ≤ n ∧ i = .int .i64 j ∧ Below w.heap.size w wr ∧ w.heap.size < wr.heap.size ∧ wr.cell? ⟨w.heap.size, 0, none⟩ = some (.slice (some ⟨b, off, none⟩) n c) ∧ wr.cell? ⟨w.heap.size, 1, none⟩ = some (.int .i64 d) ∧
    Hid (∀ q, q < j → knotErr k q = 0) ∧ Hid (ctFrom k 0 n = ctFrom k j (n - j))) (fun i _ => n - (intOf i).toNat)
  case atStart => exact ⟨0, Nat.zero_le _, rfl, by (repeat (first | with_reducible exact Below.refl _ _ | with_reducible assumption | with_reducible refine Below.alloc ?_ (by first | (simp; done) | (simp; omega) | omega) _ | with_reducible refine Below.setCell ?_ (by first | (simp; done) | (simp; omega) | omega) _ | with_reducible refine Below.drew ?_ | with_reducible refine below_drewN ?_ _)), by simp, by simp [go_sem], by simp [go_sem], fun q hq => absurd hq (Nat.not_lt_zero _), rfl⟩
  case round =>
    obtain ⟨j, hj, rfl, hbel, hsz, p0, p1, H, H2⟩ := hrel
    have HS : j < n → Hid (ctFrom k j (n - j) = if knotErr k j = 0 then ctFrom k (j + 1) (n - (j + 1)) else some (j, knotErr k j)) := by
      intro hlt
      rw [show n - j = (n - (j + 1)) + 1 from by omega]; rfl
    by_cases hlt : j < n
    · have HS := HS hlt
      have hcon := checkKnot_any b off n c j wr k hlt (by omega) (HK.out.below hbel hb) (fun h0 => knotErr_ok (H.out (j - 1) (by omega)))
      have hws := hbel.size
      have HB := Lib.hid hbel
      clear hbel
      by_cases hz0 : knotErr k j = 0
      · rw [hz0] at hcon
        have HZ := Lib.hid hz0
        have HC := Lib.hid hcon
        clear hz0 hcon
        go_wp2_with (go_at_call 103; refine HC.out.mono ?_; rintro e w1 ⟨rfl, hb1⟩)
        go_roundw
        case rel => exact ⟨j + 1, by omega, by go_num, HB.out.trans (hb1.mono hws), Nat.lt_of_lt_of_le hsz hb1.size, (hb1.cell (p := ⟨w.heap.size, 0, none⟩) hsz).trans p0, (hb1.cell (p := ⟨w.heap.size, 1, none⟩) hsz).trans p1, fun q hq => (by
          rcases Nat.lt_or_eq_of_le (Nat.le_of_lt_succ hq) with h | h
          · exact H.out q h
          · rw [h]; exact HZ.out), (by show ctFrom k 0 n = _; rw [H2.out, HS.out, if_pos HZ.out])⟩
        case measure => simp [intOf]; omega
      · have HZ := Lib.hid hz0
        have hq : (knotErr k j != 0) = true := by simpa using hz0
        have HC := Lib.hid hcon
        clear hz0 hcon
        have hv : ctRes k n d = ((j : Int), knotErr k j) := by
          unfold ctRes
          rw [if_neg (by omega), if_neg (by omega), H2.out, HS.out, if_neg HZ.out]
        have HV := Lib.hid hv
        clear hv
        generalize knotErr k j = ek at hq HC HV
        go_wp2_with (go_at_call 103; refine HC.out.mono ?_; rintro e w1 ⟨rfl, hb1⟩)
        go_ret2
        exact ⟨by rw [HV.out]; rfl, HB.out.trans (hb1.mono hws)⟩
    · obtain rfl : j = n := by omega
      clear HS
      have HB := Lib.hid hbel
      clear hbel
      have hv : ctRes k j d = if wi d 0 1000 then (0, 0) else (0, 2) := by
        unfold ctRes
        rw [if_neg (by omega), if_neg (by omega), H2.out, Nat.sub_self]; rfl
      have HV := Lib.hid hv
      clear hv
      cases hd : wi d 0 1000
      all_goals
        rw [hd] at HV
        go_wp2_with (go_at_call 48; refine (within_any _ _ _ _).mono ?_; rintro e w' ⟨rfl, rfl⟩)
        go_ret2
        exact ⟨by rw [HV.out]; rfl, HB.out⟩
theorem checkTrack_any (A : Option Addr) (n c : Nat) (d : Int) (w : World) (k : Nat → Knot) (hn : n ≤ 9223372036854775807) (hk : KA w A n k) :
    Calls Tryz.prog 64 #[.agg #[.slice A n c, .int .i64 d]] w fun e w' => e = .returned (.tuple #[.int .i64 (ctRes k n d).1, .int .i64 (ctRes k n d).2]) ∧ Below w.heap.size w w' := by
  by_cases h0 : n = 0
  · subst h0
    exact checkTrack_0 A c d w
  · by_cases h12 : 12 < n
    · have e : ctRes k n d = (0, 8) := by unfold ctRes; rw [if_neg h0, if_pos h12]
      rw [e]
      exact checkTrack_l A n c d w h12 hn
    · obtain ⟨b, off, rfl, hk2⟩ := hk (by omega)
      exact checkTrack_m b off n c d w k (by omega) (by omega) hk2
def ctErr (k : Nat → Knot) (n : Nat) (d : Int) : Int := (ctRes k n d).2
/-! ### the checks as closures -/
set_option maxRecDepth 100000 in
set_option maxHeartbeats 400000 in
theorem trackCheck1_any (A : Option Addr) (n c bp : Nat) (d : Int) (w : World) (k : Nat → Knot) (hn : n ≤ 9223372036854775807) (hk : KA w A n k)
    (p0 : w.cell? ⟨bp, 0, none⟩ = some (.slice A n c)) (p1 : w.cell? ⟨bp, 1, none⟩ = some (.int .i64 d)) :
    Calls Tryz.prog 63 #[.pointer (some ⟨bp, 0, none⟩)] w fun e w' => e = .returned (.int .i64 (ctErr k n d)) ∧ Below w.heap.size w w' := by
  have HC := Lib.hid (checkTrack_any A n c d w k hn hk)
  have HE : Hid (ctErr k n d = (ctRes k n d).2) := rfl
  clear hk
  generalize (ctRes k n d).2 = e2 at HC HE
  generalize (ctRes k n d).1 = e1 at HC
  go_enter Tryz.func63, Tryz.ntmps63
  go_wp2_with (go_at_call 64; refine HC.out.mono ?_; rintro e w1 ⟨rfl, hb1⟩)
  go_ret
  exact ⟨ret_int HE.out.symm, hb1⟩
set_option maxRecDepth 100000 in
set_option maxHeartbeats 400000 in
theorem trackCheck_any (A : Option Addr) (n c : Nat) (d : Int) (w : World) :
    Calls Tryz.prog 30 #[.agg #[.slice A n c, .int .i64 d]] w fun e w' => e = .returned (.func (.func 63) #[] #[.pointer (some ⟨w.heap.size, 0, none⟩)]) ∧
      w' = w.alloc (.cells #[.slice A n c, .int .i64 d] 29) := by
  go_enter Tryz.func30, Tryz.ntmps30
  go_wp2
  go_ret
  exact ⟨rfl, rfl⟩
def outside (time : Int) (k : Nat → Knot) (n : Nat) : Bool := !wi time (k 0).t (k (n - 1)).t
set_option maxRecDepth 100000 in
set_option maxHeartbeats 400000 in
theorem timeIn_any (b off n c bt : Nat) (d time : Int) (w : World) (k : Nat → Knot) (hn : 0 < n) (hn2 : n ≤ 100) (hk : KAt w b off n k) (ht : w.cell? ⟨bt, 0, none⟩ = some (.int .i64 time)) :
    Calls Tryz.prog 67 #[.agg #[.slice (some ⟨b, off, none⟩) n c, .int .i64 d], .pointer (some ⟨bt, 0, none⟩)] w fun e w' => e = .returned (.bool (outside time k n)) ∧ Below w.heap.size w w' := by
  obtain ⟨hb, hkk⟩ := hk
  have c1 := (hkk 0 hn).1
  have c2 := (hkk (n - 1) (by omega)).1
  rw [show off + 0 * 4 = off by omega] at c1
  clear hkk
  unfold outside
  generalize (k 0).t = t0 at c1 ⊢
  generalize (k (n - 1)).t = t1 at c2 ⊢
  go_enter Tryz.func67, Tryz.ntmps67
  go_wp2_with fail
  go_region_held3 (fun w' => w'.cell? ⟨bt, 0, none⟩ = some (.int .i64 time) ∧ w'.cell? ⟨w.heap.size, 0, none⟩ = some (.slice (some ⟨b, off, none⟩) n c) ∧ w'.cell? ⟨w.heap.size, 1, none⟩ = some (.int .i64 d)) (simp [go_sem, *])
    (first | (go_at_call 68; go_must (refine (firstTime_any b off n c d t0 _ hn hn2 (by simp [go_sem, *])).mono ?_); rintro e w2 ⟨rfl, o3, rfl⟩) | (go_at_call 54; refine (lastTime_any b off n c d t1 _ hn hn2 (by simp [go_sem, *])).mono ?_; rintro e w2 ⟨rfl, o3, rfl⟩) | (go_at_call 48; (with_reducible refine (within_any _ _ _ _).mono ?_); rintro e w' ⟨rfl, rfl⟩))
  all_goals
    go_wp2
    go_ret
    exact ⟨rfl, by (repeat (first | with_reducible exact Below.refl _ _ | with_reducible assumption | with_reducible refine Below.alloc ?_ (by first | (simp; done) | (simp; omega) | omega) _ | with_reducible refine Below.setCell ?_ (by first | (simp; done) | (simp; omega) | omega) _ | with_reducible refine Below.drew ?_ | with_reducible refine below_drewN ?_ _))⟩
set_option maxRecDepth 100000 in
set_option maxHeartbeats 400000 in
theorem indexFunc_track (g : Nat) (cb : Array Value) (n c : Nat) (b off : Nat) (sv : Nat → Value) (sd : Nat → Int) (p : Nat → Bool) (w : World) (eg : ∀ args w, (callFunc g args).run Tryz.prog w = .ok (.enter g args) w) (hn : n ≤ 1000000)
    (hb : b < w.heap.size) (hv : ∀ i, i < n → ∃ A q r, sv i = .slice A q r) (hc : ∀ i, i < n → w.cell? ⟨b, off + i * 2, none⟩ = some (sv i) ∧ w.cell? ⟨b, off + i * 2 + 1, none⟩ = some (.int .i64 (sd i)))
    (hf : ∀ (i : Nat) (w1 : World), i < n → Below w.heap.size w w1 → Calls Tryz.prog g (#[.agg #[sv i, .int .i64 (sd i)]] ++ cb) w1 fun e w' => e = .returned (.bool (p i)) ∧ Below w1.heap.size w1 w') :
    Calls Tryz.prog 104 #[.slice (some ⟨b, off, none⟩) n c, .func (.func g) #[] cb] w fun e w' => e = .returned (.int .i64 (fidx p n)) ∧ Below w.heap.size w w' := by
  have HF := Lib.hid hf
  have HV := Lib.hid hv
  clear hv
  have HC := Lib.hid hc
  clear hf hc
  go_enter Tryz.func104, Tryz.ntmps104
  go_wp2
  go_loopw [8] (fun i wr => ∃ k : Nat, k ≤ n ∧ i = .int .i64 k ∧ Below w.heap.size w wr ∧ Hid (∀ j, j < k → p j = false)) (fun i _ => n - (intOf i).toNat)
  case atStart => exact ⟨0, Nat.zero_le _, rfl, Below.refl _ _, fun j hj => absurd hj (Nat.not_lt_zero _)⟩
  case round =>
    obtain ⟨k, hk, rfl, hbel, H⟩ := hrel
    by_cases hlt : k < n
    · obtain ⟨e1, e2⟩ := HC.out k hlt
      rw [← hbel.cell (p := ⟨b, off + k * 2, none⟩) hb] at e1
      rw [← hbel.cell (p := ⟨b, off + k * 2 + 1, none⟩) hb] at e2
      have hcon := HF.out k wr hlt hbel
      obtain ⟨A, q, r, hs⟩ := HV.out k hlt
      rw [hs] at e1 hcon
      clear hs
      have hsz := hbel.size
      have HB := Lib.hid hbel
      clear hbel
      cases hp : p k <;> rw [hp] at hcon <;> have HP := Lib.hid hp <;> clear hp
      · go_wp2_with (go_at_fn g; refine hcon.mono ?_; rintro e w1 ⟨rfl, hb1⟩)
        go_roundw
        case rel => exact ⟨k + 1, by omega, by go_num, HB.out.trans (hb1.mono hsz), fun j hj => (by
          rcases Nat.lt_or_eq_of_le (Nat.le_of_lt_succ hj) with h | h
          · exact H.out j h
          · rw [h]; exact HP.out)⟩
        case measure => simp [intOf]; omega
      · go_wp2_with (go_at_fn g; refine hcon.mono ?_; rintro e w1 ⟨rfl, hb1⟩)
        go_ret
        exact ⟨ret_int (fidx_hit hlt HP.out H.out).symm, HB.out.trans (hb1.mono hsz)⟩
    · obtain rfl : k = n := by omega
      have HB := Lib.hid hbel
      clear hbel
      go_wp2
      go_ret
      exact ⟨ret_int (fidx_miss H.out).symm, HB.out⟩
set_option maxRecDepth 100000 in
set_option maxHeartbeats 400000 in
theorem containsFunc_track (g : Nat) (cb : Array Value) (n c : Nat) (b off : Nat) (sv : Nat → Value) (sd : Nat → Int) (p : Nat → Bool) (w : World) (eg : ∀ args w, (callFunc g args).run Tryz.prog w = .ok (.enter g args) w) (hn : n ≤ 1000000)
    (hb : b < w.heap.size) (hv : ∀ i, i < n → ∃ A q r, sv i = .slice A q r) (hc : ∀ i, i < n → w.cell? ⟨b, off + i * 2, none⟩ = some (sv i) ∧ w.cell? ⟨b, off + i * 2 + 1, none⟩ = some (.int .i64 (sd i)))
    (hf : ∀ (i : Nat) (w1 : World), i < n → Below w.heap.size w w1 → Calls Tryz.prog g (#[.agg #[sv i, .int .i64 (sd i)]] ++ cb) w1 fun e w' => e = .returned (.bool (p i)) ∧ Below w1.heap.size w1 w') :
    Calls Tryz.prog 66 #[.slice (some ⟨b, off, none⟩) n c, .func (.func g) #[] cb] w fun e w' => e = .returned (.bool ((List.range n).any p)) ∧ Below w.heap.size w w' := by
  have HC := Lib.hid (indexFunc_track g cb n c b off sv sd p w eg hn hb hv hc hf)
  clear hf hc eg hv
  generalize hr : fidx p n = r at HC
  have HR := Lib.hid hr
  clear hr
  go_enter Tryz.func66, Tryz.ntmps66
  go_wp2_with (go_at_call 104; refine HC.out.mono ?_; rintro e w1 ⟨rfl, hb1⟩)
  go_ret
  exact ⟨ret_bool (by rw [← fidx_nn, HR.out]), hb1⟩
/-- A track in memory: the slice of its knots, and its doubt. -/
structure Trk where
  b : Nat
  off : Nat
  n : Nat
  c : Nat
  k : Nat → Knot
  d : Int
def Trk.v (t : Trk) : Value := .slice (some ⟨t.b, t.off, none⟩) t.n t.c
def Trk.At (t : Trk) (w : World) : Prop := 0 < t.n ∧ t.n ≤ 100 ∧ KAt w t.b t.off t.n t.k
theorem Trk.At.below {t : Trk} {w w' : World} (h : t.At w) (hb : Below w.heap.size w w') : t.At w' := ⟨h.1, h.2.1, h.2.2.below hb h.2.2.1⟩
set_option maxRecDepth 100000 in
set_option maxHeartbeats 400000 in
theorem timeCheck1_any (m tb bs bt : Nat) (T : Nat → Trk) (time : Int) (w : World) (hm : m ≤ 100) (hs : w.cell? ⟨bs, 0, none⟩ = some (.slice (some ⟨tb, 0, none⟩) m m)) (ht : w.cell? ⟨bt, 0, none⟩ = some (.int .i64 time)) (htb : tb < w.heap.size) (hbt : bt < w.heap.size)
    (hc : ∀ i, i < m → w.cell? ⟨tb, 0 + i * 2, none⟩ = some (T i).v ∧ w.cell? ⟨tb, 0 + i * 2 + 1, none⟩ = some (.int .i64 (T i).d)) (hT : ∀ i, i < m → (T i).At w) :
    Calls Tryz.prog 65 #[.pointer (some ⟨bs, 0, none⟩), .pointer (some ⟨bt, 0, none⟩)] w fun e w' => e = .returned (.bool (!(List.range m).any fun i => outside time (T i).k (T i).n)) ∧ Below w.heap.size w w' := by
  have HC := Lib.hid (containsFunc_track 67 #[.pointer (some ⟨bt, 0, none⟩)] m m tb 0 (fun i => (T i).v) (fun i => (T i).d) (fun i => outside time (T i).k (T i).n) w (enters_of Tryz.func67 (by kernel_rfl) rfl) (by omega) htb (fun i _ => ⟨_, _, _, rfl⟩) hc
    (fun i w1 hi hb => timeIn_any (T i).b (T i).off (T i).n (T i).c bt (T i).d time w1 (T i).k (hT i hi).1 (hT i hi).2.1 ((hT i hi).below hb).2.2 ((hb.cell (p := ⟨bt, 0, none⟩) hbt).trans ht)))
  clear hc hT
  generalize (List.range m).any (fun i => outside time (T i).k (T i).n) = r at HC ⊢
  go_enter Tryz.func65, Tryz.ntmps65
  go_wp2_with (go_at_call 66; refine HC.out.mono ?_; rintro e w1 ⟨rfl, hb1⟩)
  go_ret
  exact ⟨rfl, hb1⟩
set_option maxRecDepth 100000 in
set_option maxHeartbeats 400000 in
theorem timeCheck_any (time : Int) (sv : Value) (S : Option Addr) (q r : Nat) (hs : sv = .slice S q r) (w : World) :
    Calls Tryz.prog 31 #[.int .i64 time, sv] w fun e w' => e = .returned (.func (.func 97) #[] #[.pointer (some ⟨w.heap.size + 1 + 1 + 1, 0, none⟩), .pointer (some ⟨w.heap.size + 1 + 1, 0, none⟩)]) ∧
      w' = ((((w.alloc (.cells #[.int .i64 time] 3)).alloc (.cells #[sv] 108)).alloc (.cells #[.int .i64 2] 44)).alloc (.cells #[.func (.func 65) #[] #[.pointer (some ⟨w.heap.size + 1, 0, none⟩), .pointer (some ⟨w.heap.size, 0, none⟩)]] 37)) := by
  subst hs
  go_enter Tryz.func31, Tryz.ntmps31
  go_wp2_with (go_at_call 46; refine (require_any _ _ _ _).mono ?_; rintro e w1 ⟨rfl, rfl⟩)
  go_ret
  exact ⟨rfl, rfl⟩
end Go.Proofs.YtjncjoaohonmjaaGreat
