/- Helpers: the law of RG for a statement that also stores once, into memory that it makes itself. No condition but the hypotheses that each theorem names. -/
import Derived.Test.YtmhcmiajikffpaaB18
import Derived.Test.YtmhcmiajikffpaaB09
import Derived.Test.YtmhcmiajikffpaaB15
import Derived.Test.YtmhcmiajikffpaaB17
import Derived.Test.YtmhcmiajikffpaaB07
namespace Go.Proofs.Ytmhcmiajikffpaa
open Go.RowKit
def rgDeps (o : Oper) : List Nat := (o.after.toList.filter fun e => Region.binds .any e).map fun e => e.on
def rgAnc (ops : Array Oper) : Nat → List Nat → List Nat
  | 0, l => l
  | f + 1, l => l ++ rgAnc ops f (l.flatMap fun i => match ops[i]? with | some o => rgDeps o | none => [])
def RClosed (ops : Array Oper) (listed : Array Bool) : Prop := ∀ (i : Nat) (o : Oper), ops[i]? = some o → listed.getD i false = true → ∀ j ∈ rgDeps o, listed.getD j false = true
theorem rgAnc_listed {ops : Array Oper} {listed : Array Bool} (hc : RClosed ops listed) : ∀ (f : Nat) (l : List Nat), (∀ i ∈ l, listed.getD i false = true) → ∀ i ∈ rgAnc ops f l, listed.getD i false = true
  | 0, _, h => h
  | f + 1, l, h => by
    intro i hi
    rcases List.mem_append.1 hi with hi | hi
    · exact h i hi
    · refine rgAnc_listed hc f _ ?_ i hi
      intro j hj
      obtain ⟨k, hk, hjk⟩ := List.mem_flatMap.1 hj
      cases ho : ops[k]? with
      | none => rw [ho] at hjk; cases hjk
      | some o => rw [ho] at hjk; exact hc k o ho (h k hk) j hjk
def PDeps (ops : Array Oper) (ψ : Nat → Value → Prop) (a' : Act) (o : Oper) : Prop :=
  ∀ e ∈ o.after, Region.binds .any e = true → ∀ (o' : Oper) (d : Nat), ops[e.on]? = some o' → o'.dst = some d → ψ e.on (a'.tmps.getD d undef)
structure SInv (ops : Array Oper) (φ : Nat → Value → World → Prop) (ψ : Nat → Value → Prop) (ω : Value → World → Prop) (s dA : Nat) (a : Act) (w : World) (listed : Array Bool) (a' : Act) (w' : World) : Prop where
  sz : listed.size = ops.size
  below : Below w.heap.size w w'
  tsize : a'.tmps.size = a.tmps.size
  defs : a'.defers = a.defers
  rest : ∀ t, (∀ (i : Nat) (o : Oper), ops[i]? = some o → o.dst ≠ some t) → a'.tmps[t]? = a.tmps[t]?
  closed : RClosed ops listed
  pure : ∀ (i : Nat) (o : Oper) (d : Nat), ops[i]? = some o → o.dst = some d → listed.getD i false = true → ψ i (a'.tmps.getD d undef)
  pre : listed.getD s false = false → ∀ (i : Nat) (o : Oper) (d : Nat), ops[i]? = some o → o.dst = some d → listed.getD i false = true → φ i (a'.tmps.getD d undef) w'
  post : listed.getD s false = true → ω (a'.tmps.getD dA undef) w'
def rsLow (ops : Array Oper) (n s : Nat) : Prop := ∀ (i : Nat) (o : Oper), ops[i]? = some o → o.guard = none ∧ (∀ e ∈ o.after, Region.binds .any e = true → e.on < i) ∧ (i = s → o.dst = none) ∧ (i ≠ s → ∃ d, o.dst = some d ∧ d < n ∧ ∀ (j : Nat) (o' : Oper), ops[j]? = some o' → j ≠ i → o'.dst ≠ some d)
theorem getD_of_ready {listed : Array Bool} {i n : Nat} (hs : i < n) (hz : listed.size = n) (h : (!listed.getD i true) = true) : listed.getD i false = false := by
  have hsz : i < listed.size := by omega
  simp [Array.getD, hsz] at h ⊢
  exact h
theorem getD_set {listed : Array Bool} {i j : Nat} (h : (listed.setIfInBounds i true).getD j false = true) : j = i ∨ listed.getD j false = true := by
  by_cases hji : j = i
  · exact .inl hji
  · refine .inr ?_
    simp only [Array.getD_eq_getD_getElem?, Array.getElem?_setIfInBounds] at h ⊢
    rw [if_neg (fun e => hji e.symm)] at h
    exact h
theorem getD_set_mono {listed : Array Bool} {i j : Nat} (h : listed.getD j false = true) : (listed.setIfInBounds i true).getD j false = true := by
  simp only [Array.getD_eq_getD_getElem?, Array.getElem?_setIfInBounds] at h ⊢
  by_cases hji : i = j
  · subst hji
    have : i < listed.size := by
      rcases Nat.lt_or_ge i listed.size with q | q
      · exact q
      · rw [Array.getElem?_eq_none q] at h; cases h
    simp [this]
  · rw [if_neg hji]; exact h
theorem getD_set_ne {listed : Array Bool} {i j : Nat} (h : j ≠ i) : (listed.setIfInBounds i true).getD j false = listed.getD j false := by
  simp only [Array.getD_eq_getD_getElem?, Array.getElem?_setIfInBounds]
  rw [if_neg (fun e => h e.symm)]
theorem wpAny_st {P : Program} {ops : Array Oper} {Q : Exit → Act → World → Prop} (φ : Nat → Value → World → Prop) (ψ : Nat → Value → Prop) (ω : Value → World → Prop) (s kA dA f : Nat) (a : Act) (w : World) (hl : rsLow ops a.tmps.size s) (hs : s < ops.size)
    (hA : kA ∈ rgAnc ops f [s]) (hkA : kA ≠ s) (hdA : ∀ oA, ops[kA]? = some oA → oA.dst = some dA)
    (hmono : ∀ i v w1 w2, φ i v w1 → Below w1.heap.size w1 w2 → φ i v w2) (hω : ∀ v w1 w2, ω v w1 → Below w1.heap.size w1 w2 → ω v w2)
    (hstep : ∀ (i : Nat) (o : Oper), ops[i]? = some o → i ≠ s → ∀ a' w', Below w.heap.size w w' → RSame ops a a' → (i ∈ rgAnc ops f [s] → RDeps ops φ a' w' o) → PDeps ops ψ a' o → o.wp P a' w' (fun a'' w'' => ∃ v, a'' = a'.put o.dst v ∧ Below w'.heap.size w' w'' ∧ φ i v w'' ∧ ψ i v) Q)
    (hstore : ∀ o, ops[s]? = some o → ∀ a' w', Below w.heap.size w w' → RSame ops a a' → RDeps ops φ a' w' o → o.wp P a' w' (fun a'' w'' => a'' = a' ∧ Below w.heap.size w w'' ∧ ω (a'.tmps.getD dA undef) w'') Q)
    (hend : ∀ a' w', Below w.heap.size w w' → RSame ops a a' → (∀ (i : Nat) (o : Oper) (d : Nat), ops[i]? = some o → o.dst = some d → ψ i (a'.tmps.getD d undef)) → ω (a'.tmps.getD dA undef) w' → Q .normal a' w') :
    ∀ (fuel : Nat) (listed : Array Bool) (a' : Act) (w' : World), SInv ops φ ψ ω s dA a w listed a' w' → rgMissing listed ops.size ≤ fuel → wpAny P .any ops Q fuel listed a' w' := by
  have full : ∀ (listed : Array Bool) (a' : Act) (w' : World), SInv ops φ ψ ω s dA a w listed a' w' → Region.ready .any ops listed = [] → Q .normal a' w' := by
    intro listed a' w' h hr
    have all : ∀ n i, i < n → i < ops.size → listed.getD i false = true := by
      intro n
      induction n with
      | zero => intro i hi; omega
      | succ n ih =>
        intro i hi hs
        rcases Nat.lt_or_eq_of_le (Nat.le_of_lt_succ hi) with h1 | rfl
        · exact ih i h1 hs
        · have ho : ops[i]? = some ops[i] := Array.getElem?_eq_getElem hs
          cases hc : listed.getD i false with
          | true => rfl
          | false =>
            exfalso
            have hm : i ∈ Region.ready .any ops listed := by
              unfold Region.ready
              refine List.mem_filter.2 ⟨List.mem_range.2 hs, ?_⟩
              have h2 : listed.getD i true = false := by
                have hsz : i < listed.size := by rw [h.sz]; exact hs
                simp [Array.getD, hsz] at hc ⊢
                exact hc
              rw [h2, ho]
              simp only [Bool.not_false, Bool.true_and, Option.map_some, Option.getD_some]
              rw [Array.all_eq_true_iff_forall_mem]
              intro e he
              cases hbd : Region.binds .any e with
              | false => simp
              | true =>
                have := ih e.on ((hl i _ ho).2.1 e he hbd) (by have := (hl i _ ho).2.1 e he hbd; omega)
                simp [this]
            rw [hr] at hm
            cases hm
    refine hend a' w' h.below ⟨h.tsize, h.defs, h.rest⟩ (fun i o d ho hd => h.pure i o d ho hd ?_) (h.post (all (s + 1) s (by omega) hs))
    have hs : i < ops.size := by
      rcases Nat.lt_or_ge i ops.size with q | q
      · exact q
      · rw [Array.getElem?_eq_none q] at ho; cases ho
    exact all (i + 1) i (by omega) hs
  intro fuel
  induction fuel with
  | zero =>
    intro listed a' w' h hm
    have hr : Region.ready .any ops listed = [] := by
      rcases hq : Region.ready .any ops listed with _ | ⟨i, l⟩
      · rfl
      · exfalso
        have hi : i ∈ Region.ready .any ops listed := by rw [hq]; simp
        unfold Region.ready at hi
        obtain ⟨h1, h2⟩ := List.mem_filter.1 hi
        have h3 : (!listed.getD i true) = true := by
          simp only [Bool.and_eq_true] at h2
          exact h2.1
        have : i ∈ (List.range ops.size).filter fun i => !listed.getD i true := List.mem_filter.2 ⟨h1, h3⟩
        have := List.length_pos_of_mem this
        unfold rgMissing at hm
        omega
    exact ⟨hr, full _ _ _ h hr⟩
  | succ fuel ih =>
    intro listed a' w' h hm
    refine ⟨fun hr => full _ _ _ h hr, fun i hi => ?_⟩
    unfold Region.ready at hi
    obtain ⟨h1, h2⟩ := List.mem_filter.1 hi
    simp only [Bool.and_eq_true] at h2
    obtain ⟨h3, h4⟩ := h2
    have hsi : i < ops.size := List.mem_range.1 h1
    have ho : ops[i]? = some ops[i] := Array.getElem?_eq_getElem hsi
    have hun := getD_of_ready hsi h.sz h3
    obtain ⟨hg, hlow, hds, hdn⟩ := hl i _ ho
    rw [ho] at h4
    simp only [Option.map_some, Option.getD_some] at h4
    rw [Array.all_eq_true_iff_forall_mem] at h4
    have hsz : i < listed.size := by rw [h.sz]; exact hsi
    have hmiss : rgMissing (listed.setIfInBounds i true) ops.size ≤ fuel := by
      have : rgMissing (listed.setIfInBounds i true) ops.size < rgMissing listed ops.size := by
        refine filter_len_lt (i := i) ?_ h3 ?_ h1
        · intro x hx
          simp only [Array.getD_eq_getD_getElem?, Array.getElem?_setIfInBounds] at hx ⊢
          by_cases hxi : i = x
          · subst hxi
            simp [hsz] at hx
          · rw [if_neg hxi] at hx
            exact hx
        · simp [Array.getD_eq_getD_getElem?, hsz]
      omega
    have hclosed : RClosed ops (listed.setIfInBounds i true) := by
      intro j o' ho' hj k hk
      rcases getD_set hj with rfl | hj
      · rw [ho] at ho'
        cases ho'
        obtain ⟨e, he, rfl⟩ := List.mem_map.1 hk
        obtain ⟨he1, he2⟩ := List.mem_filter.1 he
        have := h4 e (by simpa using he1)
        rw [he2] at this
        exact getD_set_mono (by simpa using this)
      · exact getD_set_mono (h.closed j o' ho' hj k hk)
    have hp : PDeps ops ψ a' ops[i] := by
      intro e he hb o' d' ho' hd'
      have := h4 e he
      rw [hb] at this
      exact h.pure _ _ _ ho' hd' (by simpa using this)
    have hdeps : listed.getD s false = false → RDeps ops φ a' w' ops[i] := by
      intro hns e he hb o' d' ho' hd'
      have := h4 e he
      rw [hb] at this
      exact h.pre hns _ _ _ ho' hd' (by simpa using this)
    have hwant : Region.wanted ops[i] (yielded ops a'.tmps) = true := by simp [Region.wanted, hg]
    unfold wpOp
    rw [ho]
    simp only [hwant, if_true]
    by_cases his : i = s
    · subst his
      refine .inl (Oper.wp_mono ?_ (hstore _ ho a' w' h.below ⟨h.tsize, h.defs, h.rest⟩ (hdeps hun)))
      rintro a'' w'' ⟨rfl, hb, hv⟩
      refine ih _ _ _ ⟨by simp [h.sz], hb, h.tsize, h.defs, h.rest, hclosed, ?_, ?_, fun _ => hv⟩ hmiss
      · intro j o' d' ho' hd' hj
        rcases getD_set hj with rfl | hj
        · rw [ho] at ho'
          cases ho'
          rw [hds rfl] at hd'
          cases hd'
        · exact h.pure j o' d' ho' hd' hj
      · intro hns
        exfalso
        simp [Array.getD_eq_getD_getElem?, hsz] at hns
    · obtain ⟨d, hd, hdl, hdi⟩ := hdn his
      have hanc : i ∈ rgAnc ops f [s] → listed.getD s false = false := by
        intro hi
        cases hc : listed.getD s false with
        | false => rfl
        | true =>
          have := rgAnc_listed h.closed f [s] (by intro j hj; simp at hj; subst hj; exact hc) i hi
          rw [hun] at this
          cases this
      refine .inl (Oper.wp_mono ?_ (hstep i _ ho his a' w' h.below ⟨h.tsize, h.defs, h.rest⟩ (fun hi => hdeps (hanc hi)) hp))
      rintro a'' w'' ⟨v, rfl, hb, hv, hψ⟩
      rw [hd]
      refine ih _ _ _ ⟨by simp [h.sz], belowT h.below hb, by rw [← h.tsize]; simp [Act.put], by rw [← h.defs]; rfl, ?_, hclosed, ?_, ?_, ?_⟩ hmiss
      · intro t ht
        rw [rg_put_get (by intro e; exact ht i _ ho (by rw [hd, e]))]
        exact h.rest t ht
      · intro j o' d' ho' hd' hj
        by_cases hji : j = i
        · subst hji
          rw [ho] at ho'
          cases ho'
          rw [hd] at hd'
          cases hd'
          rw [rg_put_own (by rw [h.tsize]; exact hdl)]
          exact hψ
        · rw [rg_put_getD (by intro e; exact hdi j o' ho' hji (by rw [hd', e]))]
          exact h.pure j o' d' ho' hd' ((getD_set hj).resolve_left hji)
      · intro hns j o' d' ho' hd' hj
        rw [getD_set_ne (fun e => his e.symm)] at hns
        by_cases hji : j = i
        · subst hji
          rw [ho] at ho'
          cases ho'
          rw [hd] at hd'
          cases hd'
          rw [rg_put_own (by rw [h.tsize]; exact hdl)]
          exact hv
        · rw [rg_put_getD (by intro e; exact hdi j o' ho' hji (by rw [hd', e]))]
          exact hmono _ _ _ _ (h.pre hns j o' d' ho' hd' ((getD_set hj).resolve_left hji)) hb
      · intro hsl
        rw [getD_set_ne (fun e => his e.symm)] at hsl
        have hkl := rgAnc_listed h.closed f [s] (by intro j hj; simp at hj; subst hj; exact hsl) kA hA
        have hki : kA ≠ i := by
          intro e
          rw [e, hun] at hkl
          cases hkl
        have hks : kA < ops.size := by
          rcases Nat.lt_or_ge kA ops.size with q | q
          · exact q
          · have : listed.size ≤ kA := by rw [h.sz]; exact q
            simp [Array.getD_eq_getD_getElem?, Array.getElem?_eq_none this] at hkl
        have hoA : ops[kA]? = some ops[kA] := Array.getElem?_eq_getElem hks
        rw [rg_put_getD (by intro e; exact hdi kA _ hoA hki (by rw [hdA _ hoA, e]))]
        exact hω _ _ _ (h.post hsl) hb
def rsCheck (n s : Nat) : Nat → List Oper → Bool
  | _, [] => true
  | i, o :: l => o.guard.isNone && o.after.toList.all (fun e => !Region.binds .any e || Nat.blt e.on i) && (match o.dst with | some d => !(Nat.beq i s) && Nat.blt d n && l.all (fun o' => match o'.dst with | some d' => !(Nat.beq d d') | none => true) | none => Nat.beq i s) && rsCheck n s (i + 1) l
theorem rsCheck_of : ∀ (n s k : Nat) (l : List Oper), rsCheck n s k l = true → ∀ (i : Nat) (o : Oper), l[i]? = some o → o.guard = none ∧ (∀ e ∈ o.after, Region.binds .any e = true → e.on < k + i) ∧ (k + i = s → o.dst = none) ∧ (k + i ≠ s → ∃ d, o.dst = some d ∧ d < n) ∧ ∀ d, o.dst = some d → ∀ (j : Nat) (o' : Oper), l[j]? = some o' → i < j → o'.dst ≠ some d
  | n, s, k, [], _, i, o, h => by simp at h
  | n, s, k, x :: l, hc, 0, o, h => by
    simp at h
    subst h
    simp only [rsCheck, Bool.and_eq_true] at hc
    obtain ⟨⟨⟨h1, h2⟩, h3⟩, h4⟩ := hc
    refine ⟨by simpa using h1, fun e he hbd => ?_, ?_⟩
    · have := List.all_eq_true.1 h2 e (by simpa using he)
      rw [hbd] at this
      simpa [Nat.blt_eq] using this
    · cases hd : x.dst with
      | none =>
        rw [hd] at h3
        have h3 : k = s := Nat.eq_of_beq_eq_true (by simpa using h3)
        exact ⟨fun _ => rfl, fun hne => absurd h3 (by simpa using hne), fun d hd' => by cases hd'⟩
      | some d =>
        rw [hd] at h3
        simp only [Bool.and_eq_true, Nat.blt_eq] at h3
        obtain ⟨⟨h5, h6⟩, h7⟩ := h3
        refine ⟨fun e => ?_, fun _ => ⟨d, rfl, h6⟩, fun d' hd' j o' hj hij => ?_⟩
        · have e : k = s := by simpa using e
          rw [e] at h5
          simp at h5
        · cases hd'
          obtain ⟨j, rfl⟩ : ∃ j', j = j' + 1 := ⟨j - 1, by omega⟩
          have hm : o' ∈ l := List.mem_of_getElem? (by simpa using hj)
          have := List.all_eq_true.1 h7 o' hm
          intro e
          rw [e] at this
          simp at this
  | n, s, k, x :: l, hc, i + 1, o, h => by
    simp only [rsCheck, Bool.and_eq_true] at hc
    obtain ⟨g1, g2, g3, g4, g5⟩ := rsCheck_of n s (k + 1) l hc.2 i o (by simpa using h)
    refine ⟨g1, fun e he hbd => by have := g2 e he hbd; omega, fun e => g3 (by omega), fun e => g4 (by omega), fun d hd j o' hj hij => ?_⟩
    obtain ⟨j, rfl⟩ : ∃ j', j = j' + 1 := ⟨j - 1, by omega⟩
    exact g5 d hd j o' (by simpa using hj) (by omega)
theorem rsLow_of {ops : Array Oper} {n s : Nat} (h : rsCheck n s 0 ops.toList = true) : rsLow ops n s := by
  intro i o ho
  have ho' : ops.toList[i]? = some o := by rw [Array.getElem?_toList]; exact ho
  obtain ⟨g1, g2, g3, g4, g5⟩ := rsCheck_of n s 0 ops.toList h i o ho'
  refine ⟨g1, fun e he hbd => by have := g2 e he hbd; omega, fun e => g3 (by omega), fun e => ?_⟩
  obtain ⟨d, hd, hdn⟩ := g4 (by omega)
  refine ⟨d, hd, hdn, fun j o' hj hne => ?_⟩
  have hj' : ops.toList[j]? = some o' := by rw [Array.getElem?_toList]; exact hj
  rcases Nat.lt_or_gt_of_ne hne with hlt | hgt
  · obtain ⟨_, _, _, _, k5⟩ := rsCheck_of n s 0 ops.toList h j o' hj'
    intro e
    exact k5 d e i o ho' hlt hd
  · exact g5 d hd j o' hj' hgt
def rsDsts (ops : List Oper) : List Nat := ops.filterMap fun o => o.dst
theorem act_of_st {ops : Array Oper} {a a' : Act} (h : RSame ops a a') : a' = (rsDsts ops.toList).foldl (fun b d => b.put (some d) (a'.tmps.getD d undef)) a := by
  have e1 := foldl_put_size (fun d => a'.tmps.getD d undef) (rsDsts ops.toList) a
  have ht : a'.tmps = ((rsDsts ops.toList).foldl (fun b d => b.put (some d) (a'.tmps.getD d undef)) a).tmps := by
    refine Array.ext_getElem? fun t => ?_
    by_cases hs : t < a.tmps.size
    · by_cases hm : t ∈ rsDsts ops.toList
      · rw [foldl_put_in _ _ _ t hm hs, rg_getD]
        have : t < a'.tmps.size := by rw [h.1]; exact hs
        rw [Array.getElem?_eq_getElem this]
        rfl
      · rw [foldl_put_out _ _ _ t hm]
        refine h.2.2 t fun i o ho e => hm ?_
        exact List.mem_filterMap.2 ⟨o, List.mem_of_getElem? (i := i) (by rw [Array.getElem?_toList]; exact ho), e⟩
    · rw [Array.getElem?_eq_none (by rw [h.1]; omega), Array.getElem?_eq_none (by rw [e1.1]; omega)]
  have hd : a'.defers = ((rsDsts ops.toList).foldl (fun b d => b.put (some d) (a'.tmps.getD d undef)) a).defers := by rw [e1.2, h.2.1]
  generalize (rsDsts ops.toList).foldl (fun b d => b.put (some d) (a'.tmps.getD d undef)) a = z at ht hd
  cases a'
  cases z
  simp only at ht hd
  rw [ht, hd]
def ppAt (l : List (Value → Prop)) (i : Nat) : Value → Prop := l.getD i fun _ => True
theorem PDeps.get {ops : Array Oper} {ψ : Nat → Value → Prop} {a : Act} {o : Oper} (h : PDeps ops ψ a o) (j d : Nat) (hj : (o.after.toList.any fun e => Nat.beq e.on j && Region.binds .any e) = true) (ho : (ops[j]?).bind (·.dst) = some d) : ψ j (a.eval (.tmp d)) := by
  show ψ j (a.tmps.getD d undef)
  obtain ⟨e, he, h2⟩ := List.any_eq_true.1 hj
  obtain ⟨h3, h4⟩ := (Bool.and_eq_true _ _).mp h2
  replace h3 := Nat.eq_of_beq_eq_true h3
  subst h3
  cases ho' : ops[e.on]? with
  | none => rw [ho'] at ho; cases ho
  | some o' =>
    rw [ho'] at ho
    exact h e (by simpa using he) h4 o' d ho' ho
/-- The law. s: the store's number; kA, dA: the number and the slot of what is stored into. -/
theorem wp_region_st {P : Program} {id : Nat} {ops : Array Oper} {Q : Exit → Act → World → Prop} {a : Act} {w : World} (m : List Bool) (hmask : maskOf (rsDsts ops.toList) a.tmps.size = m) (Φ : List MP) (Ψ : List (Value → Prop)) (Ω : MP) (s kA dA : Nat) (hm : P.follows .mixedOrders = true) (hl : rsCheck a.tmps.size s 0 ops.toList = true)
    (hs : Nat.blt s ops.size = true) (hA : ((rgAnc ops ops.size [s]).contains kA && !(Nat.beq kA s)) = true) (hdA : (ops[kA]?).bind (·.dst) = some dA)
    (hstep : AllOps (fun i o => (i ≠ s → ∀ a' w', Below w.heap.size w w' → RSame ops a a' → ((rgAnc ops ops.size [s]).contains i = true → RDeps ops (fun i => (mpAt Φ i).p) a' w' o) → PDeps ops (ppAt Ψ) a' o → o.wp P a' w' (fun a'' w'' => ∃ v, a'' = a'.put o.dst v ∧ Below w'.heap.size w' w'' ∧ (mpAt Φ i).p v w'' ∧ ppAt Ψ i v) Q) ∧
      (i = s → ∀ a' w', Below w.heap.size w w' → RSame ops a a' → RDeps ops (fun i => (mpAt Φ i).p) a' w' o → o.wp P a' w' (fun a'' w'' => a'' = a' ∧ Below w.heap.size w w'' ∧ Ω.p (a'.eval (.tmp dA)) w'') Q)) 0 ops.toList)
    (hend : ∀ (V : Nat → Value) (w' : World), Below w.heap.size w w' → AllOps (fun i o => i ≠ s → ppAt Ψ i (V (o.dst.getD 0))) 0 ops.toList → Ω.p (V dA) w' → Q .normal ⟨(maskPut V 0 m a.tmps.toList).toArray, a.defers⟩ w') :
    (Code.region id ops true).wp P Q a w := by
  refine wp_region_any hm ?_
  have low := rsLow_of hl
  have hs' : s < ops.size := by simpa [Nat.blt_eq] using hs
  have hA1 : kA ∈ rgAnc ops ops.size [s] := by
    have := (Bool.and_eq_true _ _).mp hA
    simpa using this.1
  have hA2 : kA ≠ s := by
    have := (Bool.and_eq_true _ _).mp hA
    intro e
    rw [e] at this
    simp at this
  refine wpAny_st (fun i => (mpAt Φ i).p) (ppAt Ψ) Ω.p s kA dA ops.size a w low hs' hA1 hA2 (fun oA hoA => by rw [hoA] at hdA; exact hdA) (fun i v w1 w2 => (mpAt Φ i).on v w1 w2) Ω.on ?_ (fun o ho => (allOps_of hstep s o ho).2 rfl) ?_ ops.size (Array.replicate ops.size false) a _ ⟨by simp, (Below.refl _ _).drew, rfl, rfl, fun _ _ => rfl, ?_, ?_, ?_, ?_⟩ ?_
  · intro i o ho hi a' w' hb hsm hd hp
    exact (allOps_of hstep i o ho).1 hi a' w' hb hsm (fun hc => hd (by simpa using hc)) hp
  · intro a' w' hb hsm hf hω
    have := hend (fun d => a'.tmps.getD d undef) w' hb (allOps_mk fun i o ho hi => by
      obtain ⟨d, hd, _⟩ := (low i o ho).2.2.2 hi
      rw [hd]
      exact hf i o d ho hd) hω
    rw [act_of_st hsm, act_mask _ _ a m hmask]
    exact this
  · intro i o ho h
    exfalso
    simp only [Array.getD_eq_getD_getElem?, Array.getElem?_replicate] at h
    split at h <;> cases h
  · intro i o d ho _ h
    exfalso
    simp only [Array.getD_eq_getD_getElem?, Array.getElem?_replicate] at h
    split at h <;> cases h
  · intro _ i o d ho _ h
    exfalso
    simp only [Array.getD_eq_getD_getElem?, Array.getElem?_replicate] at h
    split at h <;> cases h
  · intro h
    exfalso
    simp only [Array.getD_eq_getD_getElem?, Array.getElem?_replicate] at h
    split at h <;> cases h
  · unfold rgMissing
    refine Nat.le_trans (List.length_filter_le _ _) ?_
    simp
theorem rs_not {i s : Nat} {p q : Prop} (hi : Nat.beq i s = false) (h : p) : (i ≠ s → p) ∧ (i = s → q) := ⟨fun _ => h, fun e => by rw [e] at hi; simp at hi⟩
theorem rs_is {i s : Nat} {p q : Prop} (hi : Nat.beq i s = true) (h : q) : (i ≠ s → p) ∧ (i = s → q) := ⟨fun e => absurd (Nat.eq_of_beq_eq_true hi) e, fun _ => h⟩
theorem rs_st {P : Program} {ω : Value → World → Prop} {Q : Exit → Act → World → Prop} {o : Oper} {a : Act} {w W : World} {d : Nat} (hd : o.dst = none) (h : ∀ K : Act → World → Prop, (∀ w', Below W.heap.size W w' → ω (a.eval (.tmp d)) w' → K (a.put o.dst undef) w') → o.wp P a w K Q) :
    o.wp P a w (fun a'' w'' => a'' = a ∧ Below W.heap.size W w'' ∧ ω (a.eval (.tmp d)) w'') Q := h _ fun w' hb hv => ⟨by rw [hd]; rfl, hb, hv⟩
theorem rs_op {P : Program} {φ : Value → World → Prop} {ψ : Value → Prop} {Q : Exit → Act → World → Prop} {o : Oper} {a : Act} {w : World} (h : ∀ K : Act → World → Prop, (∀ v w', Below w.heap.size w w' → φ v w' → ψ v → K (a.put o.dst v) w') → o.wp P a w K Q) :
    o.wp P a w (fun a'' w'' => ∃ v, a'' = a.put o.dst v ∧ Below w.heap.size w w'' ∧ φ v w'' ∧ ψ v) Q := h _ fun v _ hb hv hp => ⟨v, rfl, hb, hv, hp⟩
theorem rs_fn {P : Program} {φ : Value → World → Prop} {ψ : Value → Prop} {Q : Exit → Act → World → Prop} {dst : Option Tmp} {f : Operand} {args : Array Operand} {ats : Array TypeId} {ty : TypeId} {pos : String} {after : Array Edge} {guard : Option (Nat × Bool)} {g : FuncId} {x y : Array Value} {a : Act} {w : World} {vs : Array Value}
    (hf : a.eval f = .func (.func g) x y) (he : ∀ args w, (callFunc g args).run P w = .ok (.enter g args) w) (hv : x ++ args.map a.eval ++ y = vs) (hc : Calls P g vs w fun e w' => ∃ v, e = .returned v ∧ Below w.heap.size w w' ∧ φ v w' ∧ ψ v) :
    Oper.wp P ⟨dst, .call { callee := .value f, args, argTypes := ats }, ty, pos, after, guard⟩ a w (fun a'' w'' => ∃ v, a'' = a.put dst v ∧ Below w.heap.size w w'' ∧ φ v w'' ∧ ψ v) Q := by
  subst hv
  unfold Oper.wp
  rw [rg_run_call hf he]
  refine hc.mono ?_
  rintro e w' ⟨v, rfl, hb, hv⟩
  exact ⟨v, rfl, hb, hv⟩
end Go.Proofs.Ytmhcmiajikffpaa
namespace Go.Proofs.Ytmhcmiajikffpaa
open Go.RowKit Go.Shelf Go.Sort
attribute [local go_sem] idx3_0 idx3_1 idx3_2 old1 fro1 old2 fro2 old3 fro3 old4 fro4 old5 fro5 old6 fro6 old7 fro7 old8 fro8 old9 fro9 old10 fro10 old11 fro11 old12 fro12
def Entr (g : Nat) : Prop := ∀ args w, (callFunc g args).run Try.prog w = .ok (.enter g args) w
/-- the value is a closure that answers the error er in each later world, if what it relies on holds -/
def Chk (pre : Prop) (er : Int) (v : Value) (w : World) : Prop := ∃ g cb, v = .func (.func g) #[] cb ∧ Entr g ∧ ∀ w1, Below w.heap.size w w1 → pre → Calls Try.prog g cb w1 fun e w' => e = .returned (.int .i64 er) ∧ Below w1.heap.size w1 w'
/-- .. that answers the Bool b -/
def Cnd (pre : Prop) (b : Bool) (v : Value) (w : World) : Prop := ∃ g cb, v = .func (.func g) #[] cb ∧ Entr g ∧ ∀ w1, Below w.heap.size w w1 → pre → Calls Try.prog g cb w1 fun e w' => e = .returned (.bool b) ∧ Below w1.heap.size w1 w'
theorem Chk.on {pre : Prop} {er : Int} {v : Value} {w w2 : World} (h : Chk pre er v w) (hb : Below w.heap.size w w2) : Chk pre er v w2 := by
  obtain ⟨g, cb, hv, he, hc⟩ := h
  exact ⟨g, cb, hv, he, fun w1 h1 hp => hc w1 (belowT hb h1) hp⟩
theorem Cnd.on {pre : Prop} {b : Bool} {v : Value} {w w2 : World} (h : Cnd pre b v w) (hb : Below w.heap.size w w2) : Cnd pre b v w2 := by
  obtain ⟨g, cb, hv, he, hc⟩ := h
  exact ⟨g, cb, hv, he, fun w1 h1 hp => hc w1 (belowT hb h1) hp⟩
theorem Chk.imp {pre pre' : Prop} {er : Int} {v : Value} {w : World} (h : Chk pre er v w) (hp : pre' → pre) : Chk pre' er v w := by
  obtain ⟨g, cb, hv, he, hc⟩ := h
  exact ⟨g, cb, hv, he, fun w1 h1 h2 => hc w1 h1 (hp h2)⟩
def Chks (n : Nat) (er : Nat → Int) (v : Value) (w : World) : Prop := ∃ L, v = .slice (some ⟨L, 0, none⟩) n n ∧ ∃ F : Nat → Value, (∀ i, i < n → w.cell? ⟨L, 0 + i, none⟩ = some (F i)) ∧ ∀ i, i < n → Chk (∀ j, j < i → er j = 0) (er i) (F i) w
theorem Chks.on {n : Nat} {er : Nat → Int} {v : Value} {w w2 : World} (h : Chks n er v w) (hb : Below w.heap.size w w2) : Chks n er v w2 := by
  obtain ⟨L, hv, F, hF, hC⟩ := h
  exact ⟨L, hv, F, fun i hi => keep hb (hF i hi), fun i hi => (hC i hi).on hb⟩
theorem first_chks {n : Nat} {er : Nat → Int} {v : Value} {w : World} (hn : n ≤ 100) (h0 : 0 < n) (h : Chks n er v w) :
    Calls Try.prog 38 #[v] w fun e w' => e = .returned (.int .i64 (ferr er 0 n)) ∧ Below w.heap.size w w' := by
  obtain ⟨L, rfl, F, hF, hC⟩ := h
  have h1 : ∀ i, ∃ q : Nat × Array Value, i < n → F i = .func (.func q.1) #[] q.2 ∧ Entr q.1 ∧ ∀ w1, Below w.heap.size w w1 → (∀ j, j < i → er j = 0) → Calls Try.prog q.1 q.2 w1 fun e w' => e = .returned (.int .i64 (er i)) ∧ Below w1.heap.size w1 w' := by
    intro i
    by_cases hi : i < n
    · obtain ⟨g, cb, hv⟩ := hC i hi
      exact ⟨(g, cb), fun _ => hv⟩
    · exact ⟨(0, #[]), fun h => absurd h hi⟩
  obtain ⟨q, hq⟩ := Classical.skolem.1 h1
  exact firstError_any L n (fun i => (q i).1) (fun i => (q i).2) er w hn (lt_of (hF 0 h0)) (fun i hi => by rw [hF i hi, (hq i hi).1]) (fun i hi => (hq i hi).2.1) (fun i w1 hi hz hb => (hq i hi).2.2 w1 hb hz)
def Two (A B : TV) (v : Value) (w : World) : Prop := ∃ b, v = .slice (some ⟨b, 0, none⟩) 2 2 ∧ w.cell? ⟨b, 0, none⟩ = some (.slice A.a A.n A.c) ∧ w.cell? ⟨b, 1, none⟩ = some (.int .i64 A.d) ∧ w.cell? ⟨b, 2, none⟩ = some (.slice B.a B.n B.c) ∧ w.cell? ⟨b, 3, none⟩ = some (.int .i64 B.d)
theorem Two.on {A B : TV} {v : Value} {w w2 : World} (h : Two A B v w) (hb : Below w.heap.size w w2) : Two A B v w2 := by
  obtain ⟨b, hv, h0, h1, h2, h3⟩ := h
  exact ⟨b, hv, keep hb h0, keep hb h1, keep hb h2, keep hb h3⟩
def mpChk (pre : Prop) (er : Int) : MP := ⟨Chk pre er, fun _ _ _ h hb => h.on hb⟩
def mpCnd (pre : Prop) (b : Bool) : MP := ⟨Cnd pre b, fun _ _ _ h hb => h.on hb⟩
def mpChks (n : Nat) (er : Nat → Int) : MP := ⟨Chks n er, fun _ _ _ h hb => h.on hb⟩
def mpTwo (A B : TV) : MP := ⟨Two A B, fun _ _ _ h hb => h.on hb⟩
def TV.v (A : TV) : Value := .agg #[.slice A.a A.n A.c, .int .i64 A.d]
theorem trackCheck_chk (A : TV) (w : World) (hA : A.At w) :
    Calls Try.prog 39 #[.agg #[.slice A.a A.n A.c, .int .i64 A.d]] w fun e w' => ∃ v, e = .returned v ∧ Below w.heap.size w w' ∧ Chk True A.err v w' := by
  refine (trackCheck_any A.a A.n A.c A.d w).mono ?_
  rintro e w' ⟨rfl, rfl⟩
  have hb : Below w.heap.size w (w.alloc (.cells #[.slice A.a A.n A.c, .int .i64 A.d] 24)) := (Below.refl _ _).alloc (Nat.le_refl _) _
  exact ⟨_, rfl, hb, _, _, rfl, (enters_of Try.func64 (by kernel_rfl) rfl), fun w1 h1 _ => trackCheck1_any A.a A.n A.c w.heap.size A.d w1 A.k hA.2 (hA.below (belowT hb h1)).1 (keep h1 (by simp [go_sem])) (keep h1 (by simp [go_sem]))⟩
theorem tc_item (A B : TV) (time : Int) (q1 q2 s t TB : Nat) (W w1 : World) (hb : Below W.heap.size W w1) (hA : A.At W) (hB : B.At W) (hA0 : A.err = 0) (hB0 : B.err = 0)
    (c0 : W.cell? ⟨q1, 0, none⟩ = some (.func (.func 66) #[] #[.pointer (some ⟨s, 0, none⟩), .pointer (some ⟨t, 0, none⟩)])) (c1 : W.cell? ⟨q2, 0, none⟩ = some (.int .i64 2))
    (s0 : W.cell? ⟨s, 0, none⟩ = some (.slice (some ⟨TB, 0, none⟩) 2 2)) (t0 : W.cell? ⟨t, 0, none⟩ = some (.int .i64 time))
    (e0 : W.cell? ⟨TB, 0, none⟩ = some (.slice A.a A.n A.c)) (e1 : W.cell? ⟨TB, 1, none⟩ = some (.int .i64 A.d)) (e2 : W.cell? ⟨TB, 2, none⟩ = some (.slice B.a B.n B.c)) (e3 : W.cell? ⟨TB, 3, none⟩ = some (.int .i64 B.d)) :
    Calls Try.prog 79 #[.pointer (some ⟨q1, 0, none⟩), .pointer (some ⟨q2, 0, none⟩)] w1 fun e w' => e = .returned (.int .i64 (timesErr A B time)) ∧ Below w1.heap.size w1 w' := by
  obtain ⟨ba, oa, ea, ha⟩ := TV.valid (hA.below hb) hA0
  obtain ⟨bb, ob, eb, hbb⟩ := TV.valid (hB.below hb) hB0
  rw [ea] at e0
  rw [eb] at e2
  have hc := timeCheck1_any 2 TB s t (fun i => if i = 0 then ⟨ba, oa, A.n, A.c, A.k, A.d⟩ else ⟨bb, ob, B.n, B.c, B.k, B.d⟩) time w1 (by omega) (keep hb s0) (keep hb t0) (lt_of (keep hb e0)) (lt_of (keep hb t0))
    (fun i hi => by
      rcases (by omega : i = 0 ∨ i = 1) with rfl | rfl
      · exact ⟨keep hb e0, keep hb e1⟩
      · exact ⟨keep hb e2, keep hb e3⟩)
    (fun i hi => by
      rcases (by omega : i = 0 ∨ i = 1) with rfl | rfl
      · exact ha
      · exact hbb)
  have hreq := require1_any q1 q2 66 #[.pointer (some ⟨s, 0, none⟩), .pointer (some ⟨t, 0, none⟩)] 2 _ w1 (keep hb c0) (keep hb c1) (lt_of (keep hb c1)) (enters_of Try.func66 (by kernel_rfl) rfl) hc
  refine hreq.mono ?_
  rintro e w' ⟨rfl, hw⟩
  refine ⟨ret_int ?_, hw⟩
  simp only [timesErr]
  simp [List.range, List.range.loop]
  cases outside time A.k A.n <;> cases outside time B.k B.n <;> simp
theorem timeCheck_chk (A B : TV) (time : Int) (v : Value) (w : World) (hA : A.At w) (hB : B.At w) (h : Two A B v w) :
    Calls Try.prog 40 #[.int .i64 time, v] w fun e w' => ∃ v', e = .returned v' ∧ Below w.heap.size w w' ∧ Chk (A.err = 0 ∧ B.err = 0) (timesErr A B time) v' w' := by
  obtain ⟨b, rfl, e0, e1, e2, e3⟩ := h
  refine (timeCheck_any time _ _ _ _ rfl w).mono ?_
  rintro e w' ⟨rfl, rfl⟩
  have hb : Below w.heap.size w ((((w.alloc (.cells #[.int .i64 time] 3)).alloc (.cells #[.slice (some ⟨b, 0, none⟩) 2 2] 112)).alloc (.cells #[.int .i64 2] 37)).alloc (.cells #[.func (.func 66) #[] #[.pointer (some ⟨w.heap.size + 1, 0, none⟩), .pointer (some ⟨w.heap.size, 0, none⟩)]] 26)) := by (repeat (first | with_reducible exact Below.refl _ _ | with_reducible assumption | with_reducible refine Below.alloc ?_ (by first | (simp; done) | (simp; omega) | omega) _ | with_reducible refine Below.setCell ?_ (by first | (simp; done) | (simp; omega) | omega) _ | with_reducible refine Below.drew ?_ | with_reducible refine below_drewN ?_ _))
  have k0 := keep hb e0
  have k1 := keep hb e1
  have k2 := keep hb e2
  have k3 := keep hb e3
  exact ⟨_, rfl, hb, _, _, rfl, (enters_of Try.func79 (by kernel_rfl) rfl), fun w1 h1 hp => tc_item A B time (w.heap.size + 1 + 1 + 1) (w.heap.size + 1 + 1) (w.heap.size + 1) w.heap.size b _ w1 h1 (hA.below hb) (hB.below hb) hp.1 hp.2 (by simp [go_sem]) (by simp [go_sem]) (by simp [go_sem]) (by simp [go_sem]) k0 k1 k2 k3⟩
theorem require_chk {pre : Prop} {b : Bool} (er : Int) (v : Value) (w : World) (h : Cnd pre b v w) :
    Calls Try.prog 47 #[.int .i64 er, v] w fun e w' => ∃ v', e = .returned v' ∧ Below w.heap.size w w' ∧ Chk pre (if b then 0 else er) v' w' := by
  obtain ⟨g, cb, rfl, he, hc⟩ := h
  refine (require_any er g cb w).mono ?_
  rintro e w' ⟨rfl, rfl⟩
  have hb : Below w.heap.size w ((w.alloc (.cells #[.int .i64 er] 37)).alloc (.cells #[.func (.func g) #[] cb] 26)) := by (repeat (first | with_reducible exact Below.refl _ _ | with_reducible assumption | with_reducible refine Below.alloc ?_ (by first | (simp; done) | (simp; omega) | omega) _ | with_reducible refine Below.setCell ?_ (by first | (simp; done) | (simp; omega) | omega) _ | with_reducible refine Below.drew ?_ | with_reducible refine below_drewN ?_ _))
  exact ⟨_, rfl, hb, _, _, rfl, (enters_of Try.func79 (by kernel_rfl) rfl), fun w1 h1 hp => require1_any (w.heap.size + 1) w.heap.size g cb er b w1 (keep h1 (by simp [go_sem])) (keep h1 (by simp [go_sem])) (lt_of (keep h1 (b := w.heap.size) (o := 0) (v := .int .i64 er) (by simp [go_sem]))) he (hc w1 (belowT hb h1) hp)⟩
end Go.Proofs.Ytmhcmiajikffpaa
namespace Go.Proofs.Ytmhcmiajikffpaa
open Go.RowKit Go.Shelf Go.Sort
attribute [local go_sem] idx3_0 idx3_1 idx3_2 old1 fro1 old2 fro2 old3 fro3 old4 fro4 old5 fro5 old6 fro6 old7 fro7 old8 fro8 old9 fro9 old10 fro10 old11 fro11 old12 fro12
set_option maxRecDepth 100000 in
set_option maxHeartbeats 400000 in
theorem btick_any (x : Int) (w : World) : Calls Try.prog 95 #[.int .i64 x] w fun e w' => e = .returned (.bool (wi x 0 1000000000000)) ∧ w = w' := by
  go_enter Try.func95, Try.ntmps95
  go_wp2_with (go_at_call 13; (with_reducible refine (bwithin_any _ _ _ _).mono ?_); rintro e w' ⟨rfl, rfl⟩)
  go_ret
  exact ⟨rfl, rfl⟩
set_option maxRecDepth 100000 in
set_option maxHeartbeats 800000 in
theorem bminus_any (x y z x0 y0 z0 : Int) (a1 : -1000000 ≤ x) (a2 : x ≤ 1000000) (a3 : -1000000 ≤ y) (a4 : y ≤ 1000000) (a5 : -1000000 ≤ z) (a6 : z ≤ 1000000) (b1 : -1000000 ≤ x0) (b2 : x0 ≤ 1000000) (b3 : -1000000 ≤ y0) (b4 : y0 ≤ 1000000) (b5 : -1000000 ≤ z0) (b6 : z0 ≤ 1000000) (w : World) :
    Calls Try.prog 97 #[.agg #[.int .i64 x, .int .i64 y, .int .i64 z], .agg #[.int .i64 x0, .int .i64 y0, .int .i64 z0]] w fun e w' => e = .returned (.agg #[.int .i64 (x - x0), .int .i64 (y - y0), .int .i64 (z - z0)]) ∧ Below w.heap.size w w' := by
  have u1 : IntKind.i64.wrap (x - x0) = x - x0 := IntWalk.i64_in _ (by omega)
  have u2 : IntKind.i64.wrap (y - y0) = y - y0 := IntWalk.i64_in _ (by omega)
  have u3 : IntKind.i64.wrap (z - z0) = z - z0 := IntWalk.i64_in _ (by omega)
  go_enter Try.func97, Try.ntmps97
  go_wp2_with fail
  refine bodyPost_ret (v := .agg #[.int .i64 (x - x0), .int .i64 (y - y0), .int .i64 (z - z0)]) (by simp [results, Try.results97, go_sem]) rfl ⟨rfl, by (repeat (first | with_reducible exact Below.refl _ _ | with_reducible assumption | with_reducible refine Below.alloc ?_ (by first | (simp; done) | (simp; omega) | omega) _ | with_reducible refine Below.setCell ?_ (by first | (simp; done) | (simp; omega) | omega) _ | with_reducible refine Below.drew ?_ | with_reducible refine below_drewN ?_ _))⟩
def sq3 (x y z : Int) : Int := x * x + y * y + z * z
theorem sq3_bd {x y z : Int} (a1 : -2000000 ≤ x) (a2 : x ≤ 2000000) (a3 : -2000000 ≤ y) (a4 : y ≤ 2000000) (a5 : -2000000 ≤ z) (a6 : z ≤ 2000000) : (0 ≤ x * x ∧ x * x ≤ 4000000000000) ∧ (0 ≤ y * y ∧ y * y ≤ 4000000000000) ∧ (0 ≤ z * z ∧ z * z ≤ 4000000000000) :=
  ⟨⟨sq_nn x, by have := sq_bd a1 a2; omega⟩, ⟨sq_nn y, by have := sq_bd a3 a4; omega⟩, ⟨sq_nn z, by have := sq_bd a5 a6; omega⟩⟩
set_option maxRecDepth 100000 in
set_option maxHeartbeats 800000 in
theorem bdot_any (x y z : Int) (a1 : -2000000 ≤ x) (a2 : x ≤ 2000000) (a3 : -2000000 ≤ y) (a4 : y ≤ 2000000) (a5 : -2000000 ≤ z) (a6 : z ≤ 2000000) (w : World) :
    Calls Try.prog 105 #[.agg #[.int .i64 x, .int .i64 y, .int .i64 z], .agg #[.int .i64 x, .int .i64 y, .int .i64 z]] w fun e w' => e = .returned (.int .i64 (sq3 x y z)) ∧ Below w.heap.size w w' := by
  obtain ⟨⟨p1, p2⟩, ⟨p3, p4⟩, ⟨p5, p6⟩⟩ := sq3_bd a1 a2 a3 a4 a5 a6
  have u1 : IntKind.i64.wrap (x * x) = x * x := IntWalk.i64_in _ (by omega)
  have u2 : IntKind.i64.wrap (y * y) = y * y := IntWalk.i64_in _ (by omega)
  have u3 : IntKind.i64.wrap (z * z) = z * z := IntWalk.i64_in _ (by omega)
  have u4 : IntKind.i64.wrap (x * x + y * y) = x * x + y * y := IntWalk.i64_in _ (by omega)
  have u5 : IntKind.i64.wrap (x * x + y * y + z * z) = x * x + y * y + z * z := IntWalk.i64_in _ (by omega)
  clear p1 p2 p3 p4 p5 p6
  go_enter Try.func105, Try.ntmps105
  go_wp2_with fail
  go_ret
  exact ⟨rfl, by (repeat (first | with_reducible exact Below.refl _ _ | with_reducible assumption | with_reducible refine Below.alloc ?_ (by first | (simp; done) | (simp; omega) | omega) _ | with_reducible refine Below.setCell ?_ (by first | (simp; done) | (simp; omega) | omega) _ | with_reducible refine Below.drew ?_ | with_reducible refine below_drewN ?_ _))⟩
set_option maxRecDepth 100000 in
set_option maxHeartbeats 800000 in
theorem bsquare_any (x y z : Int) (a1 : -2000000 ≤ x) (a2 : x ≤ 2000000) (a3 : -2000000 ≤ y) (a4 : y ≤ 2000000) (a5 : -2000000 ≤ z) (a6 : z ≤ 2000000) (w : World) :
    Calls Try.prog 96 #[.agg #[.int .i64 x, .int .i64 y, .int .i64 z]] w fun e w' => e = .returned (.int .i64 (sq3 x y z)) ∧ Below w.heap.size w w' := by
  go_enter Try.func96, Try.ntmps96
  go_wp2_with (go_at_call 105; (with_reducible refine Calls.mono (bdot_any x y z a1 a2 a3 a4 a5 a6 _) ?_); rintro e w1 ⟨rfl, hb1⟩; have B1 := thenB (show Below w.heap.size w _ by (repeat (first | with_reducible exact Below.refl _ _ | with_reducible assumption | with_reducible refine Below.alloc ?_ (by first | (simp; done) | (simp; omega) | omega) _ | with_reducible refine Below.setCell ?_ (by first | (simp; done) | (simp; omega) | omega) _ | with_reducible refine Below.drew ?_ | with_reducible refine below_drewN ?_ _))) hb1)
  go_ret
  exact ⟨rfl, B1⟩
theorem psum_sq3 (x y z x0 y0 z0 : Int) : psum x y z x0 y0 z0 3 = 4 * sq3 (x - x0) (y - y0) (z - z0) := by
  simp only [psum, sq3, show (0 : Int) < 3 by decide, show (1 : Int) < 3 by decide, show (2 : Int) < 3 by decide, if_true]
  generalize x - x0 = a
  generalize y - y0 = b
  generalize z - z0 = c
  rw [show 2 * a * (2 * a) = 4 * (a * a) by rw [Int.mul_assoc, Int.mul_left_comm a 2 a, ← Int.mul_assoc]; rfl, show 2 * b * (2 * b) = 4 * (b * b) by rw [Int.mul_assoc, Int.mul_left_comm b 2 b, ← Int.mul_assoc]; rfl, show 2 * c * (2 * c) = 4 * (c * c) by rw [Int.mul_assoc, Int.mul_left_comm c 2 c, ← Int.mul_assoc]; rfl]
  omega
end Go.Proofs.Ytmhcmiajikffpaa
