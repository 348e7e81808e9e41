/- Helpers: the law of RG for a statement that also stores once, into memory that it makes itself. No condition but the hypotheses that each theorem names. -/
import Derived.Test.YtmhcmiajikffpaaB22
import Derived.Test.YtmhcmiajikffpaaB21
namespace Go.Proofs.Ytmhcmiajikffpaa
open Go.RowKit
def rgDeps (o : Oper) : List Nat := (o.after.toList.filter fun e => Region.binds .any e).map fun e => e.on
def rgAnc (ops : Array Oper) : Nat → List Nat → List Nat
  | 0, l => l
  | f + 1, l => l ++ rgAnc ops f (l.flatMap fun i => match ops[i]? with | some o => rgDeps o | none => [])
def RClosed (ops : Array Oper) (listed : Array Bool) : Prop := ∀ (i : Nat) (o : Oper), ops[i]? = some o → listed.getD i false = true → ∀ j ∈ rgDeps o, listed.getD j false = true
theorem rgAnc_listed {ops : Array Oper} {listed : Array Bool} (hc : RClosed ops listed) : ∀ (f : Nat) (l : List Nat), (∀ i ∈ l, listed.getD i false = true) → ∀ i ∈ rgAnc ops f l, listed.getD i false = true
  | 0, _, h => h
  | f + 1, l, h => by
    intro i hi
    rcases List.mem_append.1 hi with hi | hi
    · exact h i hi
    · refine rgAnc_listed hc f _ ?_ i hi
      intro j hj
      obtain ⟨k, hk, hjk⟩ := List.mem_flatMap.1 hj
      cases ho : ops[k]? with
      | none => rw [ho] at hjk; cases hjk
      | some o => rw [ho] at hjk; exact hc k o ho (h k hk) j hjk
def PDeps (ops : Array Oper) (ψ : Nat → Value → Prop) (a' : Act) (o : Oper) : Prop :=
  ∀ e ∈ o.after, Region.binds .any e = true → ∀ (o' : Oper) (d : Nat), ops[e.on]? = some o' → o'.dst = some d → ψ e.on (a'.tmps.getD d undef)
structure SInv (ops : Array Oper) (φ : Nat → Value → World → Prop) (ψ : Nat → Value → Prop) (ω : Value → World → Prop) (s dA : Nat) (a : Act) (w : World) (listed : Array Bool) (a' : Act) (w' : World) : Prop where
  sz : listed.size = ops.size
  below : Below w.heap.size w w'
  tsize : a'.tmps.size = a.tmps.size
  defs : a'.defers = a.defers
  rest : ∀ t, (∀ (i : Nat) (o : Oper), ops[i]? = some o → o.dst ≠ some t) → a'.tmps[t]? = a.tmps[t]?
  closed : RClosed ops listed
  pure : ∀ (i : Nat) (o : Oper) (d : Nat), ops[i]? = some o → o.dst = some d → listed.getD i false = true → ψ i (a'.tmps.getD d undef)
  pre : listed.getD s false = false → ∀ (i : Nat) (o : Oper) (d : Nat), ops[i]? = some o → o.dst = some d → listed.getD i false = true → φ i (a'.tmps.getD d undef) w'
  post : listed.getD s false = true → ω (a'.tmps.getD dA undef) w'
def rsLow (ops : Array Oper) (n s : Nat) : Prop := ∀ (i : Nat) (o : Oper), ops[i]? = some o → o.guard = none ∧ (∀ e ∈ o.after, Region.binds .any e = true → e.on < i) ∧ (i = s → o.dst = none) ∧ (i ≠ s → ∃ d, o.dst = some d ∧ d < n ∧ ∀ (j : Nat) (o' : Oper), ops[j]? = some o' → j ≠ i → o'.dst ≠ some d)
theorem getD_of_ready {listed : Array Bool} {i n : Nat} (hs : i < n) (hz : listed.size = n) (h : (!listed.getD i true) = true) : listed.getD i false = false := by
  have hsz : i < listed.size := by omega
  simp [Array.getD, hsz] at h ⊢
  exact h
theorem getD_set {listed : Array Bool} {i j : Nat} (h : (listed.setIfInBounds i true).getD j false = true) : j = i ∨ listed.getD j false = true := by
  by_cases hji : j = i
  · exact .inl hji
  · refine .inr ?_
    simp only [Array.getD_eq_getD_getElem?, Array.getElem?_setIfInBounds] at h ⊢
    rw [if_neg (fun e => hji e.symm)] at h
    exact h
theorem getD_set_mono {listed : Array Bool} {i j : Nat} (h : listed.getD j false = true) : (listed.setIfInBounds i true).getD j false = true := by
  simp only [Array.getD_eq_getD_getElem?, Array.getElem?_setIfInBounds] at h ⊢
  by_cases hji : i = j
  · subst hji
    have : i < listed.size := by
      rcases Nat.lt_or_ge i listed.size with q | q
      · exact q
      · rw [Array.getElem?_eq_none q] at h; cases h
    simp [this]
  · rw [if_neg hji]; exact h
theorem getD_set_ne {listed : Array Bool} {i j : Nat} (h : j ≠ i) : (listed.setIfInBounds i true).getD j false = listed.getD j false := by
  simp only [Array.getD_eq_getD_getElem?, Array.getElem?_setIfInBounds]
  rw [if_neg (fun e => h e.symm)]
theorem wpAny_st {P : Program} {ops : Array Oper} {Q : Exit → Act → World → Prop} (φ : Nat → Value → World → Prop) (ψ : Nat → Value → Prop) (ω : Value → World → Prop) (s kA dA f : Nat) (a : Act) (w : World) (hl : rsLow ops a.tmps.size s) (hs : s < ops.size)
    (hA : kA ∈ rgAnc ops f [s]) (hkA : kA ≠ s) (hdA : ∀ oA, ops[kA]? = some oA → oA.dst = some dA)
    (hmono : ∀ i v w1 w2, φ i v w1 → Below w1.heap.size w1 w2 → φ i v w2) (hω : ∀ v w1 w2, ω v w1 → Below w1.heap.size w1 w2 → ω v w2)
    (hstep : ∀ (i : Nat) (o : Oper), ops[i]? = some o → i ≠ s → ∀ a' w', Below w.heap.size w w' → RSame ops a a' → (i ∈ rgAnc ops f [s] → RDeps ops φ a' w' o) → PDeps ops ψ a' o → o.wp P a' w' (fun a'' w'' => ∃ v, a'' = a'.put o.dst v ∧ Below w'.heap.size w' w'' ∧ φ i v w'' ∧ ψ i v) Q)
    (hstore : ∀ o, ops[s]? = some o → ∀ a' w', Below w.heap.size w w' → RSame ops a a' → RDeps ops φ a' w' o → o.wp P a' w' (fun a'' w'' => a'' = a' ∧ Below w.heap.size w w'' ∧ ω (a'.tmps.getD dA undef) w'') Q)
    (hend : ∀ a' w', Below w.heap.size w w' → RSame ops a a' → (∀ (i : Nat) (o : Oper) (d : Nat), ops[i]? = some o → o.dst = some d → ψ i (a'.tmps.getD d undef)) → ω (a'.tmps.getD dA undef) w' → Q .normal a' w') :
    ∀ (fuel : Nat) (listed : Array Bool) (a' : Act) (w' : World), SInv ops φ ψ ω s dA a w listed a' w' → rgMissing listed ops.size ≤ fuel → wpAny P .any ops Q fuel listed a' w' := by
  have full : ∀ (listed : Array Bool) (a' : Act) (w' : World), SInv ops φ ψ ω s dA a w listed a' w' → Region.ready .any ops listed = [] → Q .normal a' w' := by
    intro listed a' w' h hr
    have all : ∀ n i, i < n → i < ops.size → listed.getD i false = true := by
      intro n
      induction n with
      | zero => intro i hi; omega
      | succ n ih =>
        intro i hi hs
        rcases Nat.lt_or_eq_of_le (Nat.le_of_lt_succ hi) with h1 | rfl
        · exact ih i h1 hs
        · have ho : ops[i]? = some ops[i] := Array.getElem?_eq_getElem hs
          cases hc : listed.getD i false with
          | true => rfl
          | false =>
            exfalso
            have hm : i ∈ Region.ready .any ops listed := by
              unfold Region.ready
              refine List.mem_filter.2 ⟨List.mem_range.2 hs, ?_⟩
              have h2 : listed.getD i true = false := by
                have hsz : i < listed.size := by rw [h.sz]; exact hs
                simp [Array.getD, hsz] at hc ⊢
                exact hc
              rw [h2, ho]
              simp only [Bool.not_false, Bool.true_and, Option.map_some, Option.getD_some]
              rw [Array.all_eq_true_iff_forall_mem]
              intro e he
              cases hbd : Region.binds .any e with
              | false => simp
              | true =>
                have := ih e.on ((hl i _ ho).2.1 e he hbd) (by have := (hl i _ ho).2.1 e he hbd; omega)
                simp [this]
            rw [hr] at hm
            cases hm
    refine hend a' w' h.below ⟨h.tsize, h.defs, h.rest⟩ (fun i o d ho hd => h.pure i o d ho hd ?_) (h.post (all (s + 1) s (by omega) hs))
    have hs : i < ops.size := by
      rcases Nat.lt_or_ge i ops.size with q | q
      · exact q
      · rw [Array.getElem?_eq_none q] at ho; cases ho
    exact all (i + 1) i (by omega) hs
  intro fuel
  induction fuel with
  | zero =>
    intro listed a' w' h hm
    have hr : Region.ready .any ops listed = [] := by
      rcases hq : Region.ready .any ops listed with _ | ⟨i, l⟩
      · rfl
      · exfalso
        have hi : i ∈ Region.ready .any ops listed := by rw [hq]; simp
        unfold Region.ready at hi
        obtain ⟨h1, h2⟩ := List.mem_filter.1 hi
        have h3 : (!listed.getD i true) = true := by
          simp only [Bool.and_eq_true] at h2
          exact h2.1
        have : i ∈ (List.range ops.size).filter fun i => !listed.getD i true := List.mem_filter.2 ⟨h1, h3⟩
        have := List.length_pos_of_mem this
        unfold rgMissing at hm
        omega
    exact ⟨hr, full _ _ _ h hr⟩
  | succ fuel ih =>
    intro listed a' w' h hm
    refine ⟨fun hr => full _ _ _ h hr, fun i hi => ?_⟩
    unfold Region.ready at hi
    obtain ⟨h1, h2⟩ := List.mem_filter.1 hi
    simp only [Bool.and_eq_true] at h2
    obtain ⟨h3, h4⟩ := h2
    have hsi : i < ops.size := List.mem_range.1 h1
    have ho : ops[i]? = some ops[i] := Array.getElem?_eq_getElem hsi
    have hun := getD_of_ready hsi h.sz h3
    obtain ⟨hg, hlow, hds, hdn⟩ := hl i _ ho
    rw [ho] at h4
    simp only [Option.map_some, Option.getD_some] at h4
    rw [Array.all_eq_true_iff_forall_mem] at h4
    have hsz : i < listed.size := by rw [h.sz]; exact hsi
    have hmiss : rgMissing (listed.setIfInBounds i true) ops.size ≤ fuel := by
      have : rgMissing (listed.setIfInBounds i true) ops.size < rgMissing listed ops.size := by
        refine filter_len_lt (i := i) ?_ h3 ?_ h1
        · intro x hx
          simp only [Array.getD_eq_getD_getElem?, Array.getElem?_setIfInBounds] at hx ⊢
          by_cases hxi : i = x
          · subst hxi
            simp [hsz] at hx
          · rw [if_neg hxi] at hx
            exact hx
        · simp [Array.getD_eq_getD_getElem?, hsz]
      omega
    have hclosed : RClosed ops (listed.setIfInBounds i true) := by
      intro j o' ho' hj k hk
      rcases getD_set hj with rfl | hj
      · rw [ho] at ho'
        cases ho'
        obtain ⟨e, he, rfl⟩ := List.mem_map.1 hk
        obtain ⟨he1, he2⟩ := List.mem_filter.1 he
        have := h4 e (by simpa using he1)
        rw [he2] at this
        exact getD_set_mono (by simpa using this)
      · exact getD_set_mono (h.closed j o' ho' hj k hk)
    have hp : PDeps ops ψ a' ops[i] := by
      intro e he hb o' d' ho' hd'
      have := h4 e he
      rw [hb] at this
      exact h.pure _ _ _ ho' hd' (by simpa using this)
    have hdeps : listed.getD s false = false → RDeps ops φ a' w' ops[i] := by
      intro hns e he hb o' d' ho' hd'
      have := h4 e he
      rw [hb] at this
      exact h.pre hns _ _ _ ho' hd' (by simpa using this)
    have hwant : Region.wanted ops[i] (yielded ops a'.tmps) = true := by simp [Region.wanted, hg]
    unfold wpOp
    rw [ho]
    simp only [hwant, if_true]
    by_cases his : i = s
    · subst his
      refine .inl (Oper.wp_mono ?_ (hstore _ ho a' w' h.below ⟨h.tsize, h.defs, h.rest⟩ (hdeps hun)))
      rintro a'' w'' ⟨rfl, hb, hv⟩
      refine ih _ _ _ ⟨by simp [h.sz], hb, h.tsize, h.defs, h.rest, hclosed, ?_, ?_, fun _ => hv⟩ hmiss
      · intro j o' d' ho' hd' hj
        rcases getD_set hj with rfl | hj
        · rw [ho] at ho'
          cases ho'
          rw [hds rfl] at hd'
          cases hd'
        · exact h.pure j o' d' ho' hd' hj
      · intro hns
        exfalso
        simp [Array.getD_eq_getD_getElem?, hsz] at hns
    · obtain ⟨d, hd, hdl, hdi⟩ := hdn his
      have hanc : i ∈ rgAnc ops f [s] → listed.getD s false = false := by
        intro hi
        cases hc : listed.getD s false with
        | false => rfl
        | true =>
          have := rgAnc_listed h.closed f [s] (by intro j hj; simp at hj; subst hj; exact hc) i hi
          rw [hun] at this
          cases this
      refine .inl (Oper.wp_mono ?_ (hstep i _ ho his a' w' h.below ⟨h.tsize, h.defs, h.rest⟩ (fun hi => hdeps (hanc hi)) hp))
      rintro a'' w'' ⟨v, rfl, hb, hv, hψ⟩
      rw [hd]
      refine ih _ _ _ ⟨by simp [h.sz], belowT h.below hb, by rw [← h.tsize]; simp [Act.put], by rw [← h.defs]; rfl, ?_, hclosed, ?_, ?_, ?_⟩ hmiss
      · intro t ht
        rw [rg_put_get (by intro e; exact ht i _ ho (by rw [hd, e]))]
        exact h.rest t ht
      · intro j o' d' ho' hd' hj
        by_cases hji : j = i
        · subst hji
          rw [ho] at ho'
          cases ho'
          rw [hd] at hd'
          cases hd'
          rw [rg_put_own (by rw [h.tsize]; exact hdl)]
          exact hψ
        · rw [rg_put_getD (by intro e; exact hdi j o' ho' hji (by rw [hd', e]))]
          exact h.pure j o' d' ho' hd' ((getD_set hj).resolve_left hji)
      · intro hns j o' d' ho' hd' hj
        rw [getD_set_ne (fun e => his e.symm)] at hns
        by_cases hji : j = i
        · subst hji
          rw [ho] at ho'
          cases ho'
          rw [hd] at hd'
          cases hd'
          rw [rg_put_own (by rw [h.tsize]; exact hdl)]
          exact hv
        · rw [rg_put_getD (by intro e; exact hdi j o' ho' hji (by rw [hd', e]))]
          exact hmono _ _ _ _ (h.pre hns j o' d' ho' hd' ((getD_set hj).resolve_left hji)) hb
      · intro hsl
        rw [getD_set_ne (fun e => his e.symm)] at hsl
        have hkl := rgAnc_listed h.closed f [s] (by intro j hj; simp at hj; subst hj; exact hsl) kA hA
        have hki : kA ≠ i := by
          intro e
          rw [e, hun] at hkl
          cases hkl
        have hks : kA < ops.size := by
          rcases Nat.lt_or_ge kA ops.size with q | q
          · exact q
          · have : listed.size ≤ kA := by rw [h.sz]; exact q
            simp [Array.getD_eq_getD_getElem?, Array.getElem?_eq_none this] at hkl
        have hoA : ops[kA]? = some ops[kA] := Array.getElem?_eq_getElem hks
        rw [rg_put_getD (by intro e; exact hdi kA _ hoA hki (by rw [hdA _ hoA, e]))]
        exact hω _ _ _ (h.post hsl) hb
def rsCheck (n s : Nat) : Nat → List Oper → Bool
  | _, [] => true
  | i, o :: l => o.guard.isNone && o.after.toList.all (fun e => !Region.binds .any e || Nat.blt e.on i) && (match o.dst with | some d => !(Nat.beq i s) && Nat.blt d n && l.all (fun o' => match o'.dst with | some d' => !(Nat.beq d d') | none => true) | none => Nat.beq i s) && rsCheck n s (i + 1) l
theorem rsCheck_of : ∀ (n s k : Nat) (l : List Oper), rsCheck n s k l = true → ∀ (i : Nat) (o : Oper), l[i]? = some o → o.guard = none ∧ (∀ e ∈ o.after, Region.binds .any e = true → e.on < k + i) ∧ (k + i = s → o.dst = none) ∧ (k + i ≠ s → ∃ d, o.dst = some d ∧ d < n) ∧ ∀ d, o.dst = some d → ∀ (j : Nat) (o' : Oper), l[j]? = some o' → i < j → o'.dst ≠ some d
  | n, s, k, [], _, i, o, h => by simp at h
  | n, s, k, x :: l, hc, 0, o, h => by
    simp at h
    subst h
    simp only [rsCheck, Bool.and_eq_true] at hc
    obtain ⟨⟨⟨h1, h2⟩, h3⟩, h4⟩ := hc
    refine ⟨by simpa using h1, fun e he hbd => ?_, ?_⟩
    · have := List.all_eq_true.1 h2 e (by simpa using he)
      rw [hbd] at this
      simpa [Nat.blt_eq] using this
    · cases hd : x.dst with
      | none =>
        rw [hd] at h3
        have h3 : k = s := Nat.eq_of_beq_eq_true (by simpa using h3)
        exact ⟨fun _ => rfl, fun hne => absurd h3 (by simpa using hne), fun d hd' => by cases hd'⟩
      | some d =>
        rw [hd] at h3
        simp only [Bool.and_eq_true, Nat.blt_eq] at h3
        obtain ⟨⟨h5, h6⟩, h7⟩ := h3
        refine ⟨fun e => ?_, fun _ => ⟨d, rfl, h6⟩, fun d' hd' j o' hj hij => ?_⟩
        · have e : k = s := by simpa using e
          rw [e] at h5
          simp at h5
        · cases hd'
          obtain ⟨j, rfl⟩ : ∃ j', j = j' + 1 := ⟨j - 1, by omega⟩
          have hm : o' ∈ l := List.mem_of_getElem? (by simpa using hj)
          have := List.all_eq_true.1 h7 o' hm
          intro e
          rw [e] at this
          simp at this
  | n, s, k, x :: l, hc, i + 1, o, h => by
    simp only [rsCheck, Bool.and_eq_true] at hc
    obtain ⟨g1, g2, g3, g4, g5⟩ := rsCheck_of n s (k + 1) l hc.2 i o (by simpa using h)
    refine ⟨g1, fun e he hbd => by have := g2 e he hbd; omega, fun e => g3 (by omega), fun e => g4 (by omega), fun d hd j o' hj hij => ?_⟩
    obtain ⟨j, rfl⟩ : ∃ j', j = j' + 1 := ⟨j - 1, by omega⟩
    exact g5 d hd j o' (by simpa using hj) (by omega)
theorem rsLow_of {ops : Array Oper} {n s : Nat} (h : rsCheck n s 0 ops.toList = true) : rsLow ops n s := by
  intro i o ho
  have ho' : ops.toList[i]? = some o := by rw [Array.getElem?_toList]; exact ho
  obtain ⟨g1, g2, g3, g4, g5⟩ := rsCheck_of n s 0 ops.toList h i o ho'
  refine ⟨g1, fun e he hbd => by have := g2 e he hbd; omega, fun e => g3 (by omega), fun e => ?_⟩
  obtain ⟨d, hd, hdn⟩ := g4 (by omega)
  refine ⟨d, hd, hdn, fun j o' hj hne => ?_⟩
  have hj' : ops.toList[j]? = some o' := by rw [Array.getElem?_toList]; exact hj
  rcases Nat.lt_or_gt_of_ne hne with hlt | hgt
  · obtain ⟨_, _, _, _, k5⟩ := rsCheck_of n s 0 ops.toList h j o' hj'
    intro e
    exact k5 d e i o ho' hlt hd
  · exact g5 d hd j o' hj' hgt
def rsDsts (ops : List Oper) : List Nat := ops.filterMap fun o => o.dst
theorem act_of_st {ops : Array Oper} {a a' : Act} (h : RSame ops a a') : a' = (rsDsts ops.toList).foldl (fun b d => b.put (some d) (a'.tmps.getD d undef)) a := by
  have e1 := foldl_put_size (fun d => a'.tmps.getD d undef) (rsDsts ops.toList) a
  have ht : a'.tmps = ((rsDsts ops.toList).foldl (fun b d => b.put (some d) (a'.tmps.getD d undef)) a).tmps := by
    refine Array.ext_getElem? fun t => ?_
    by_cases hs : t < a.tmps.size
    · by_cases hm : t ∈ rsDsts ops.toList
      · rw [foldl_put_in _ _ _ t hm hs, rg_getD]
        have : t < a'.tmps.size := by rw [h.1]; exact hs
        rw [Array.getElem?_eq_getElem this]
        rfl
      · rw [foldl_put_out _ _ _ t hm]
        refine h.2.2 t fun i o ho e => hm ?_
        exact List.mem_filterMap.2 ⟨o, List.mem_of_getElem? (i := i) (by rw [Array.getElem?_toList]; exact ho), e⟩
    · rw [Array.getElem?_eq_none (by rw [h.1]; omega), Array.getElem?_eq_none (by rw [e1.1]; omega)]
  have hd : a'.defers = ((rsDsts ops.toList).foldl (fun b d => b.put (some d) (a'.tmps.getD d undef)) a).defers := by rw [e1.2, h.2.1]
  generalize (rsDsts ops.toList).foldl (fun b d => b.put (some d) (a'.tmps.getD d undef)) a = z at ht hd
  cases a'
  cases z
  simp only at ht hd
  rw [ht, hd]
def ppAt (l : List (Value → Prop)) (i : Nat) : Value → Prop := l.getD i fun _ => True
theorem PDeps.get {ops : Array Oper} {ψ : Nat → Value → Prop} {a : Act} {o : Oper} (h : PDeps ops ψ a o) (j d : Nat) (hj : (o.after.toList.any fun e => Nat.beq e.on j && Region.binds .any e) = true) (ho : (ops[j]?).bind (·.dst) = some d) : ψ j (a.eval (.tmp d)) := by
  show ψ j (a.tmps.getD d undef)
  obtain ⟨e, he, h2⟩ := List.any_eq_true.1 hj
  obtain ⟨h3, h4⟩ := (Bool.and_eq_true _ _).mp h2
  replace h3 := Nat.eq_of_beq_eq_true h3
  subst h3
  cases ho' : ops[e.on]? with
  | none => rw [ho'] at ho; cases ho
  | some o' =>
    rw [ho'] at ho
    exact h e (by simpa using he) h4 o' d ho' ho
/-- The law. s: the store's number; kA, dA: the number and the slot of what is stored into. -/
theorem wp_region_st {P : Program} {id : Nat} {ops : Array Oper} {Q : Exit → Act → World → Prop} {a : Act} {w : World} (m : List Bool) (hmask : maskOf (rsDsts ops.toList) a.tmps.size = m) (Φ : List MP) (Ψ : List (Value → Prop)) (Ω : MP) (s kA dA : Nat) (hm : P.follows .mixedOrders = true) (hl : rsCheck a.tmps.size s 0 ops.toList = true)
    (hs : Nat.blt s ops.size = true) (hA : ((rgAnc ops ops.size [s]).contains kA && !(Nat.beq kA s)) = true) (hdA : (ops[kA]?).bind (·.dst) = some dA)
    (hstep : AllOps (fun i o => (i ≠ s → ∀ a' w', Below w.heap.size w w' → RSame ops a a' → ((rgAnc ops ops.size [s]).contains i = true → RDeps ops (fun i => (mpAt Φ i).p) a' w' o) → PDeps ops (ppAt Ψ) a' o → o.wp P a' w' (fun a'' w'' => ∃ v, a'' = a'.put o.dst v ∧ Below w'.heap.size w' w'' ∧ (mpAt Φ i).p v w'' ∧ ppAt Ψ i v) Q) ∧
      (i = s → ∀ a' w', Below w.heap.size w w' → RSame ops a a' → RDeps ops (fun i => (mpAt Φ i).p) a' w' o → o.wp P a' w' (fun a'' w'' => a'' = a' ∧ Below w.heap.size w w'' ∧ Ω.p (a'.eval (.tmp dA)) w'') Q)) 0 ops.toList)
    (hend : ∀ (V : Nat → Value) (w' : World), Below w.heap.size w w' → AllOps (fun i o => i ≠ s → ppAt Ψ i (V (o.dst.getD 0))) 0 ops.toList → Ω.p (V dA) w' → Q .normal ⟨(maskPut V 0 m a.tmps.toList).toArray, a.defers⟩ w') :
    (Code.region id ops true).wp P Q a w := by
  refine wp_region_any hm ?_
  have low := rsLow_of hl
  have hs' : s < ops.size := by simpa [Nat.blt_eq] using hs
  have hA1 : kA ∈ rgAnc ops ops.size [s] := by
    have := (Bool.and_eq_true _ _).mp hA
    simpa using this.1
  have hA2 : kA ≠ s := by
    have := (Bool.and_eq_true _ _).mp hA
    intro e
    rw [e] at this
    simp at this
  refine wpAny_st (fun i => (mpAt Φ i).p) (ppAt Ψ) Ω.p s kA dA ops.size a w low hs' hA1 hA2 (fun oA hoA => by rw [hoA] at hdA; exact hdA) (fun i v w1 w2 => (mpAt Φ i).on v w1 w2) Ω.on ?_ (fun o ho => (allOps_of hstep s o ho).2 rfl) ?_ ops.size (Array.replicate ops.size false) a _ ⟨by simp, (Below.refl _ _).drew, rfl, rfl, fun _ _ => rfl, ?_, ?_, ?_, ?_⟩ ?_
  · intro i o ho hi a' w' hb hsm hd hp
    exact (allOps_of hstep i o ho).1 hi a' w' hb hsm (fun hc => hd (by simpa using hc)) hp
  · intro a' w' hb hsm hf hω
    have := hend (fun d => a'.tmps.getD d undef) w' hb (allOps_mk fun i o ho hi => by
      obtain ⟨d, hd, _⟩ := (low i o ho).2.2.2 hi
      rw [hd]
      exact hf i o d ho hd) hω
    rw [act_of_st hsm, act_mask _ _ a m hmask]
    exact this
  · intro i o ho h
    exfalso
    simp only [Array.getD_eq_getD_getElem?, Array.getElem?_replicate] at h
    split at h <;> cases h
  · intro i o d ho _ h
    exfalso
    simp only [Array.getD_eq_getD_getElem?, Array.getElem?_replicate] at h
    split at h <;> cases h
  · intro _ i o d ho _ h
    exfalso
    simp only [Array.getD_eq_getD_getElem?, Array.getElem?_replicate] at h
    split at h <;> cases h
  · intro h
    exfalso
    simp only [Array.getD_eq_getD_getElem?, Array.getElem?_replicate] at h
    split at h <;> cases h
  · unfold rgMissing
    refine Nat.le_trans (List.length_filter_le _ _) ?_
    simp
theorem rs_not {i s : Nat} {p q : Prop} (hi : Nat.beq i s = false) (h : p) : (i ≠ s → p) ∧ (i = s → q) := ⟨fun _ => h, fun e => by rw [e] at hi; simp at hi⟩
theorem rs_is {i s : Nat} {p q : Prop} (hi : Nat.beq i s = true) (h : q) : (i ≠ s → p) ∧ (i = s → q) := ⟨fun e => absurd (Nat.eq_of_beq_eq_true hi) e, fun _ => h⟩
theorem rs_st {P : Program} {ω : Value → World → Prop} {Q : Exit → Act → World → Prop} {o : Oper} {a : Act} {w W : World} {d : Nat} (hd : o.dst = none) (h : ∀ K : Act → World → Prop, (∀ w', Below W.heap.size W w' → ω (a.eval (.tmp d)) w' → K (a.put o.dst undef) w') → o.wp P a w K Q) :
    o.wp P a w (fun a'' w'' => a'' = a ∧ Below W.heap.size W w'' ∧ ω (a.eval (.tmp d)) w'') Q := h _ fun w' hb hv => ⟨by rw [hd]; rfl, hb, hv⟩
theorem rs_op {P : Program} {φ : Value → World → Prop} {ψ : Value → Prop} {Q : Exit → Act → World → Prop} {o : Oper} {a : Act} {w : World} (h : ∀ K : Act → World → Prop, (∀ v w', Below w.heap.size w w' → φ v w' → ψ v → K (a.put o.dst v) w') → o.wp P a w K Q) :
    o.wp P a w (fun a'' w'' => ∃ v, a'' = a.put o.dst v ∧ Below w.heap.size w w'' ∧ φ v w'' ∧ ψ v) Q := h _ fun v _ hb hv hp => ⟨v, rfl, hb, hv, hp⟩
theorem rs_fn {P : Program} {φ : Value → World → Prop} {ψ : Value → Prop} {Q : Exit → Act → World → Prop} {dst : Option Tmp} {f : Operand} {args : Array Operand} {ats : Array TypeId} {ty : TypeId} {pos : String} {after : Array Edge} {guard : Option (Nat × Bool)} {g : FuncId} {x y : Array Value} {a : Act} {w : World} {vs : Array Value}
    (hf : a.eval f = .func (.func g) x y) (he : ∀ args w, (callFunc g args).run P w = .ok (.enter g args) w) (hv : x ++ args.map a.eval ++ y = vs) (hc : Calls P g vs w fun e w' => ∃ v, e = .returned v ∧ Below w.heap.size w w' ∧ φ v w' ∧ ψ v) :
    Oper.wp P ⟨dst, .call { callee := .value f, args, argTypes := ats }, ty, pos, after, guard⟩ a w (fun a'' w'' => ∃ v, a'' = a.put dst v ∧ Below w.heap.size w w'' ∧ φ v w'' ∧ ψ v) Q := by
  subst hv
  unfold Oper.wp
  rw [rg_run_call hf he]
  refine hc.mono ?_
  rintro e w' ⟨v, rfl, hb, hv⟩
  exact ⟨v, rfl, hb, hv⟩
end Go.Proofs.Ytmhcmiajikffpaa
namespace Go.Proofs.Ytmhcmiajikffpaa
open Go.RowKit
/-- the slots' values behind an operation -/
def upd (V : Nat → Value) (d : Option Nat) (v : Value) : Nat → Value := fun t => match d with | none => V t | some k => bif Nat.beq t k then v else V t
theorem upd_put {a : Act} {d : Option Nat} {v : Value} (h : ∀ k, d = some k → k < a.tmps.size) : (fun t => (a.put d v).tmps.getD t undef) = upd (fun t => a.tmps.getD t undef) d v := by
  funext t
  cases d with
  | none => rfl
  | some k =>
    show _ = bif Nat.beq t k then v else a.tmps.getD t undef
    cases hb : Nat.beq t k with
    | true =>
      have e := Nat.eq_of_beq_eq_true hb
      subst e
      exact rg_put_own (h t rfl)
    | false => exact rg_put_getD (fun q => by rw [← q, Nat.beq_refl] at hb; cases hb)
def riLow (ops : Array Oper) (n : Nat) : Prop := ∀ (i : Nat) (o : Oper), ops[i]? = some o → o.guard = none ∧ (∀ e ∈ o.after, Region.binds .any e = true → e.on < i) ∧ ∀ d, o.dst = some d → d < n
structure JInv (ops : Array Oper) (J : (Nat → Bool) → (Nat → Value) → World → Prop) (a : Act) (listed : Array Bool) (a' : Act) (w' : World) : Prop where
  sz : listed.size = ops.size
  same : RSame ops a a'
  inv : J (fun i => listed.getD i false) (fun t => a'.tmps.getD t undef) w'
theorem listed_set {listed : Array Bool} {i : Nat} (h : i < listed.size) : (fun j => (listed.setIfInBounds i true).getD j false) = fun j => Nat.beq j i || listed.getD j false := by
  funext j
  by_cases e : j = i
  · subst e
    simp [Array.getD_eq_getD_getElem?, h, Nat.beq_refl]
  · rw [getD_set_ne e]
    have : Nat.beq j i = false := by
      cases hb : Nat.beq j i with
      | false => rfl
      | true => exact absurd (Nat.eq_of_beq_eq_true hb) e
    rw [this, Bool.false_or]
theorem wpAny_inv {P : Program} {ops : Array Oper} {Q : Exit → Act → World → Prop} (J : (Nat → Bool) → (Nat → Value) → World → Prop) (a : Act) (hl : riLow ops a.tmps.size)
    (hstep : ∀ (i : Nat) (o : Oper), ops[i]? = some o → ∀ L a' w', L i = false → (∀ e ∈ o.after, Region.binds .any e = true → L e.on = true) → RSame ops a a' → J L (fun t => a'.tmps.getD t undef) w' → o.wp P a' w' (fun a'' w'' => ∃ v, a'' = a'.put o.dst v ∧ J (fun j => Nat.beq j i || L j) (upd (fun t => a'.tmps.getD t undef) o.dst v) w'') Q)
    (hend : ∀ L a' w', (∀ i, i < ops.size → L i = true) → RSame ops a a' → J L (fun t => a'.tmps.getD t undef) w' → Q .normal a' w') :
    ∀ (fuel : Nat) (listed : Array Bool) (a' : Act) (w' : World), JInv ops J a listed a' w' → rgMissing listed ops.size ≤ fuel → wpAny P .any ops Q fuel listed a' w' := by
  have full : ∀ (listed : Array Bool) (a' : Act) (w' : World), JInv ops J a listed a' w' → Region.ready .any ops listed = [] → Q .normal a' w' := by
    intro listed a' w' h hr
    have all : ∀ n i, i < n → i < ops.size → listed.getD i false = true := by
      intro n
      induction n with
      | zero => intro i hi; omega
      | succ n ih =>
        intro i hi hs
        rcases Nat.lt_or_eq_of_le (Nat.le_of_lt_succ hi) with h1 | rfl
        · exact ih i h1 hs
        · have ho : ops[i]? = some ops[i] := Array.getElem?_eq_getElem hs
          cases hc : listed.getD i false with
          | true => rfl
          | false =>
            exfalso
            have hm : i ∈ Region.ready .any ops listed := by
              unfold Region.ready
              refine List.mem_filter.2 ⟨List.mem_range.2 hs, ?_⟩
              have h2 : listed.getD i true = false := by
                have hsz : i < listed.size := by rw [h.sz]; exact hs
                simp [Array.getD, hsz] at hc ⊢
                exact hc
              rw [h2, ho]
              simp only [Bool.not_false, Bool.true_and, Option.map_some, Option.getD_some]
              rw [Array.all_eq_true_iff_forall_mem]
              intro e he
              cases hbd : Region.binds .any e with
              | false => simp
              | true =>
                have := ih e.on ((hl i _ ho).2.1 e he hbd) (by have := (hl i _ ho).2.1 e he hbd; omega)
                simp [this]
            rw [hr] at hm
            cases hm
    exact hend _ a' w' (fun i hi => all (i + 1) i (by omega) hi) h.same h.inv
  intro fuel
  induction fuel with
  | zero =>
    intro listed a' w' h hm
    have hr : Region.ready .any ops listed = [] := by
      rcases hq : Region.ready .any ops listed with _ | ⟨i, l⟩
      · rfl
      · exfalso
        have hi : i ∈ Region.ready .any ops listed := by rw [hq]; simp
        unfold Region.ready at hi
        obtain ⟨h1, h2⟩ := List.mem_filter.1 hi
        have h3 : (!listed.getD i true) = true := by
          simp only [Bool.and_eq_true] at h2
          exact h2.1
        have : i ∈ (List.range ops.size).filter fun i => !listed.getD i true := List.mem_filter.2 ⟨h1, h3⟩
        have := List.length_pos_of_mem this
        unfold rgMissing at hm
        omega
    exact ⟨hr, full _ _ _ h hr⟩
  | succ fuel ih =>
    intro listed a' w' h hm
    refine ⟨fun hr => full _ _ _ h hr, fun i hi => ?_⟩
    unfold Region.ready at hi
    obtain ⟨h1, h2⟩ := List.mem_filter.1 hi
    simp only [Bool.and_eq_true] at h2
    obtain ⟨h3, h4⟩ := h2
    have hsi : i < ops.size := List.mem_range.1 h1
    have ho : ops[i]? = some ops[i] := Array.getElem?_eq_getElem hsi
    have hun := getD_of_ready hsi h.sz h3
    obtain ⟨hg, hlow, hdl⟩ := hl i _ ho
    rw [ho] at h4
    simp only [Option.map_some, Option.getD_some] at h4
    rw [Array.all_eq_true_iff_forall_mem] at h4
    have hsz : i < listed.size := by rw [h.sz]; exact hsi
    have hmiss : rgMissing (listed.setIfInBounds i true) ops.size ≤ fuel := by
      have : rgMissing (listed.setIfInBounds i true) ops.size < rgMissing listed ops.size := by
        refine filter_len_lt (i := i) ?_ h3 ?_ h1
        · intro x hx
          simp only [Array.getD_eq_getD_getElem?, Array.getElem?_setIfInBounds] at hx ⊢
          by_cases hxi : i = x
          · subst hxi
            simp [hsz] at hx
          · rw [if_neg hxi] at hx
            exact hx
        · simp [Array.getD_eq_getD_getElem?, hsz]
      omega
    have hdeps : ∀ e ∈ (ops[i]).after, Region.binds .any e = true → listed.getD e.on false = true := by
      intro e he hb
      have := h4 e he
      rw [hb] at this
      simpa using this
    have hwant : Region.wanted ops[i] (yielded ops a'.tmps) = true := by simp [Region.wanted, hg]
    unfold wpOp
    rw [ho]
    simp only [hwant, if_true]
    refine .inl (Oper.wp_mono ?_ (hstep i _ ho (fun j => listed.getD j false) a' w' hun hdeps h.same h.inv))
    rintro a'' w'' ⟨v, rfl, hv⟩
    refine ih _ _ _ ⟨by simp [h.sz], ⟨?_, ?_, ?_⟩, ?_⟩ hmiss
    · rw [← h.same.1]
      cases (ops[i]).dst <;> simp [Act.put]
    · rw [← h.same.2.1]
      cases (ops[i]).dst <;> rfl
    · intro t ht
      rw [← h.same.2.2 t ht]
      cases hd : (ops[i]).dst with
      | none => rfl
      | some d => exact rg_put_get (by intro e; exact ht i _ ho (by rw [hd, e]))
    · rw [listed_set hsz, upd_put (fun k hk => by rw [h.same.1]; exact hdl k hk)]
      exact hv
def riCheck (n : Nat) : Nat → List Oper → Bool
  | _, [] => true
  | i, o :: l => (o.guard.isNone && o.after.toList.all (fun e => !Region.binds .any e || Nat.blt e.on i) && (match o.dst with | some d => Nat.blt d n | none => true)) && riCheck n (i + 1) l
theorem riCheck_of : ∀ (n k : Nat) (l : List Oper), riCheck n k l = true → ∀ (i : Nat) (o : Oper), l[i]? = some o → o.guard = none ∧ (∀ e ∈ o.after, Region.binds .any e = true → e.on < k + i) ∧ ∀ d, o.dst = some d → d < n
  | n, k, [], _, i, o, h => by simp at h
  | n, k, x :: l, hc, 0, o, h => by
    simp at h
    subst h
    simp only [riCheck, Bool.and_eq_true] at hc
    obtain ⟨⟨⟨h1, h2⟩, h3⟩, _⟩ := hc
    refine ⟨by simpa using h1, fun e he hb => ?_, fun d hd => ?_⟩
    · have := List.all_eq_true.1 h2 e (by simpa using he)
      rw [hb] at this
      simpa [Nat.blt_eq] using this
    · rw [hd] at h3
      simpa [Nat.blt_eq] using h3
  | n, k, x :: l, hc, i + 1, o, h => by
    simp only [riCheck, Bool.and_eq_true] at hc
    have := riCheck_of n (k + 1) l hc.2 i o (by simpa using h)
    rwa [show k + 1 + i = k + (i + 1) from by omega] at this
/-- the law: J holds ahead, each operation keeps it, J of all operations suffices behind -/
theorem wp_region_inv {P : Program} {id : Nat} {ops : Array Oper} {Q : Exit → Act → World → Prop} {a : Act} {w : World} (m : List Bool) (hmask : maskOf (rsDsts ops.toList) a.tmps.size = m) (J : (Nat → Bool) → (Nat → Value) → World → Prop) (hm : P.follows .mixedOrders = true) (hl : riCheck a.tmps.size 0 ops.toList = true)
    (h0 : J (fun _ => false) (fun t => a.tmps.getD t undef) w.drew)
    (hstep : AllOps (fun i o => ∀ L a' w', L i = false → (∀ e ∈ o.after, Region.binds .any e = true → L e.on = true) → RSame ops a a' → J L (fun t => a'.tmps.getD t undef) w' → ∀ K : Act → World → Prop, (∀ v w'', J (fun j => Nat.beq j i || L j) (upd (fun t => a'.tmps.getD t undef) o.dst v) w'' → K (a'.put o.dst v) w'') → o.wp P a' w' K Q) 0 ops.toList)
    (hend : ∀ (L : Nat → Bool) (V : Nat → Value) (w' : World), (∀ i, Nat.blt i ops.size = true → L i = true) → J L V w' → Q .normal ⟨(maskPut V 0 m a.tmps.toList).toArray, a.defers⟩ w') :
    (Code.region id ops true).wp P Q a w := by
  refine wp_region_any hm ?_
  have low : riLow ops a.tmps.size := fun i o ho => by
    have := riCheck_of _ 0 ops.toList hl i o (by rw [Array.getElem?_toList]; exact ho)
    rwa [Nat.zero_add] at this
  refine wpAny_inv J a low ?_ ?_ ops.size (Array.replicate ops.size false) a _ ⟨by simp, ⟨rfl, rfl, fun _ _ => rfl⟩, ?_⟩ ?_
  · intro i o ho L a' w' h1 h2 h3 h4
    exact allOps_of hstep i o ho L a' w' h1 h2 h3 h4 _ fun v w'' hj => ⟨v, rfl, hj⟩
  · intro L a' w' hall hsm hj
    have := hend L (fun t => a'.tmps.getD t undef) w' (fun i hi => hall i (by simpa [Nat.blt_eq] using hi)) hj
    rw [act_of_st hsm, act_mask _ _ a m hmask]
    exact this
  · have e : (fun i => (Array.replicate ops.size false).getD i false) = fun _ => false := by
      funext i
      simp only [Array.getD_eq_getD_getElem?, Array.getElem?_replicate]
      split <;> rfl
    rw [e]
    exact h0
  · unfold rgMissing
    refine Nat.le_trans (List.length_filter_le _ _) ?_
    simp
end Go.Proofs.Ytmhcmiajikffpaa
namespace Go.Proofs.Ytmhcmiajikffpaa
open Go.RowKit Go.Shelf Go.Sort
attribute [local go_sem] idx3_0 idx3_1 idx3_2 old1 fro1 old2 fro2 old3 fro3 old4 fro4 old5 fro5 old6 fro6 old7 fro7 old8 fro8 old9 fro9 old10 fro10 old11 fro11 old12 fro12
def ob : Option Addr → Nat
  | some a => a.block
  | none => 0
theorem KA.lt {W : World} {X : Option Addr} {n : Nat} {k : Nat → Knot} (h : KA W X n k) (h0 : 0 < n) : ob X < W.heap.size := by
  obtain ⟨b, off, rfl, h2⟩ := h h0
  exact h2.1
theorem KA.far {W : World} {X : Option Addr} {n p i : Nat} {v : Value} {k : Nat → Knot} (h : KA W X n k) (hp : 0 < n → ob X ≠ p) : KA (W.setCell ⟨p, i, none⟩ v) X n k := by
  intro h0
  obtain ⟨b, off, rfl, h2⟩ := h h0
  exact ⟨b, off, rfl, kat_set h2 (fun e => hp h0 e.symm)⟩
/-- a new variable of a track at the block p -/
structure NV (B p : Nat) (v : Value) (W : World) : Prop where
  val : v = .pointer (some ⟨p, 0, none⟩)
  new : B ≤ p
  lt : p < W.heap.size
  f0 : W.frozen? ⟨p, 0, none⟩ = false
  f1 : W.frozen? ⟨p, 1, none⟩ = false
  c0 : (W.cell? ⟨p, 0, none⟩).isSome = true
  c1 : (W.cell? ⟨p, 1, none⟩).isSome = true
theorem keepS {W W1 : World} {b o : Nat} (hb : Below W.heap.size W W1) (h : (W.cell? ⟨b, o, none⟩).isSome = true) : (W1.cell? ⟨b, o, none⟩).isSome = true := by
  obtain ⟨v, hv⟩ := Option.isSome_iff_exists.1 h
  rw [keep hb hv]
  rfl
theorem NV.below {B p : Nat} {v : Value} {W W1 : World} (h : NV B p v W) (hb : Below W.heap.size W W1) : NV B p v W1 :=
  ⟨h.val, h.new, Nat.lt_of_lt_of_le h.lt hb.size, (hb.frozen (p := ⟨p, 0, none⟩) h.lt).trans h.f0, (hb.frozen (p := ⟨p, 1, none⟩) h.lt).trans h.f1, keepS hb h.c0, keepS hb h.c1⟩
theorem someS {W : World} {a b : Addr} {v : Value} (h : (W.cell? a).isSome = true) : ((W.setCell b v).cell? a).isSome = true := by
  by_cases e : b = a
  · subst e
    rw [World.cell?_setCell_same' _ _ _ h]
    rfl
  · rw [World.cell?_setCell_other _ _ _ _ e]
    exact h
theorem NV.set {B p : Nat} {v u : Value} {W : World} {a : Addr} (h : NV B p v W) : NV B p v (W.setCell a u) :=
  ⟨h.val, h.new, by simpa [World.setCell] using h.lt, (World.frozen?_setCell _ _ _ _).trans h.f0, (World.frozen?_setCell _ _ _ _).trans h.f1, someS h.c0, someS h.c1⟩
structure TwoV (B : Nat) (na nb : Nat) (da db : Int) (ka kb : Nat → Knot) (lc le lp lq ls lt : Bool) (vc ve vp vq : Value) (X Y : Option Addr) (c e p q : Nat) (W : World) : Prop where
  cA : lc = true → vc = .agg #[.slice X na c, .int .i64 da] ∧ KA W X na ka
  cB : le = true → ve = .agg #[.slice Y nb e, .int .i64 db] ∧ KA W Y nb kb
  nA : lp = true → NV B p vp W
  nB : lq = true → NV B q vq W
  sA : ls = true → lc = true ∧ lp = true ∧ W.cell? ⟨p, 0, none⟩ = some (.slice X na c) ∧ W.cell? ⟨p, 1, none⟩ = some (.int .i64 da)
  sB : lt = true → le = true ∧ lq = true ∧ W.cell? ⟨q, 0, none⟩ = some (.slice Y nb e) ∧ W.cell? ⟨q, 1, none⟩ = some (.int .i64 db)
  xp : lc = true → lp = true → 0 < na → ob X ≠ p
  xq : lc = true → lq = true → 0 < na → ob X ≠ q
  yp : le = true → lp = true → 0 < nb → ob Y ≠ p
  yq : le = true → lq = true → 0 < nb → ob Y ≠ q
  pq : lp = true → lq = true → p ≠ q
section
variable {B na nb : Nat} {da db : Int} {ka kb : Nat → Knot} {lc le lp lq ls lt : Bool} {vc ve vp vq : Value} {X Y : Option Addr} {c e p q : Nat} {W : World}
theorem TwoV.swap (h : TwoV B na nb da db ka kb lc le lp lq ls lt vc ve vp vq X Y c e p q W) : TwoV B nb na db da kb ka le lc lq lp lt ls ve vc vq vp Y X e c q p W :=
  ⟨h.cB, h.cA, h.nB, h.nA, h.sB, h.sA, h.yq, h.yp, h.xq, h.xp, fun a b => (h.pq b a).symm⟩
theorem TwoV.start : TwoV B na nb da db ka kb false false false false false false vc ve vp vq X Y c e p q W :=
  ⟨nofun, nofun, nofun, nofun, nofun, nofun, nofun, nofun, nofun, nofun, nofun⟩
theorem TwoV.below {W1 : World} (h : TwoV B na nb da db ka kb lc le lp lq ls lt vc ve vp vq X Y c e p q W) (hb : Below W.heap.size W W1) : TwoV B na nb da db ka kb lc le lp lq ls lt vc ve vp vq X Y c e p q W1 :=
  ⟨fun l => ⟨(h.cA l).1, (h.cA l).2.bel hb⟩, fun l => ⟨(h.cB l).1, (h.cB l).2.bel hb⟩, fun l => (h.nA l).below hb, fun l => (h.nB l).below hb, fun l => ⟨(h.sA l).1, (h.sA l).2.1, keep hb (h.sA l).2.2.1, keep hb (h.sA l).2.2.2⟩, fun l => ⟨(h.sB l).1, (h.sB l).2.1, keep hb (h.sB l).2.2.1, keep hb (h.sB l).2.2.2⟩, h.xp, h.xq, h.yp, h.yq, h.pq⟩
theorem TwoV.copyA {W1 : World} {X1 : Option Addr} {c1 : Nat} (hl : lc = false) (h : TwoV B na nb da db ka kb lc le lp lq ls lt vc ve vp vq X Y c e p q W) (hb : Below W.heap.size W W1) (hk : KA W1 X1 na ka) (hn : 0 < na → W.heap.size ≤ ob X1) :
    TwoV B na nb da db ka kb true le lp lq ls lt (.agg #[.slice X1 na c1, .int .i64 da]) ve vp vq X1 Y c1 e p q W1 := by
  subst hl
  have g := h.below hb
  exact ⟨fun _ => ⟨rfl, hk⟩, g.cB, g.nA, g.nB, fun l => absurd (g.sA l).1 (by simp), g.sB, fun _ l h0 => by have := (h.nA l).lt; have := hn h0; omega, fun _ l h0 => by have := (h.nB l).lt; have := hn h0; omega, g.yp, g.yq, g.pq⟩
theorem TwoV.newA {T : TypeId} (hl : lp = false) (hB : B ≤ W.heap.size) (h : TwoV B na nb da db ka kb lc le lp lq ls lt vc ve vp vq X Y c e p q W) :
    TwoV B na nb da db ka kb lc le true lq ls lt vc ve (.pointer (some ⟨W.heap.size, 0, none⟩)) vq X Y c e W.heap.size q (W.alloc (.cells #[.slice none 0 0, .int .i64 0] T)) := by
  subst hl
  have g := h.below ((Below.refl W.heap.size W).alloc (Nat.le_refl _) (.cells #[.slice none 0 0, .int .i64 0] T))
  exact ⟨g.cA, g.cB, fun _ => ⟨rfl, hB, by simp, by simp [go_sem], by simp [go_sem], by simp [go_sem], by simp [go_sem]⟩, g.nB, fun l => absurd (g.sA l).2.1 (by simp), g.sB, fun l _ h0 => by have := (h.cA l).2.lt h0; omega, g.xq, fun l _ h0 => by have := (h.cB l).2.lt h0; omega, g.yq, fun _ l => by have := (h.nB l).lt; omega⟩
theorem TwoV.stoA (hc : lc = true) (hp : lp = true) (h : TwoV B na nb da db ka kb lc le lp lq ls lt vc ve vp vq X Y c e p q W) :
    TwoV B na nb da db ka kb lc le lp lq true lt vc ve vp vq X Y c e p q ((W.setCell ⟨p, 0, none⟩ (.slice X na c)).setCell ⟨p, 1, none⟩ (.int .i64 da)) := by
  subst hc hp
  have k0 := h.nA rfl
  refine ⟨fun l => ⟨(h.cA l).1, ((h.cA l).2.far (h.xp rfl rfl)).far (h.xp rfl rfl)⟩, fun l => ⟨(h.cB l).1, ((h.cB l).2.far (h.yp l rfl)).far (h.yp l rfl)⟩, fun l => (h.nA l).set.set, fun l => (h.nB l).set.set, fun _ => ⟨rfl, rfl, ?_, World.cell?_setCell_same' _ _ _ (someS k0.c1)⟩, fun l => ?_, h.xp, h.xq, h.yp, h.yq, h.pq⟩
  · rw [World.cell?_setCell_other _ _ _ _ (fun e => by injection e with _ e2; cases e2)]
    exact World.cell?_setCell_same' _ _ _ k0.c0
  · obtain ⟨a1, a2, a3, a4⟩ := h.sB l
    have hne := h.pq rfl a2
    exact ⟨a1, a2, by rw [World.cell?_setCell_far _ _ _ _ hne, World.cell?_setCell_far _ _ _ _ hne]; exact a3, by rw [World.cell?_setCell_far _ _ _ _ hne, World.cell?_setCell_far _ _ _ _ hne]; exact a4⟩
theorem TwoV.copyB {W1 : World} {Y1 : Option Addr} {e1 : Nat} (hl : le = false) (h : TwoV B na nb da db ka kb lc le lp lq ls lt vc ve vp vq X Y c e p q W) (hb : Below W.heap.size W W1) (hk : KA W1 Y1 nb kb) (hn : 0 < nb → W.heap.size ≤ ob Y1) :
    TwoV B na nb da db ka kb lc true lp lq ls lt vc (.agg #[.slice Y1 nb e1, .int .i64 db]) vp vq X Y1 c e1 p q W1 := (h.swap.copyA hl hb hk hn).swap
theorem TwoV.newB {T : TypeId} (hl : lq = false) (hB : B ≤ W.heap.size) (h : TwoV B na nb da db ka kb lc le lp lq ls lt vc ve vp vq X Y c e p q W) :
    TwoV B na nb da db ka kb lc le lp true ls lt vc ve vp (.pointer (some ⟨W.heap.size, 0, none⟩)) X Y c e p W.heap.size (W.alloc (.cells #[.slice none 0 0, .int .i64 0] T)) := (h.swap.newA hl hB).swap
theorem TwoV.stoB (hc : le = true) (hp : lq = true) (h : TwoV B na nb da db ka kb lc le lp lq ls lt vc ve vp vq X Y c e p q W) :
    TwoV B na nb da db ka kb lc le lp lq ls true vc ve vp vq X Y c e p q ((W.setCell ⟨q, 0, none⟩ (.slice Y nb e)).setCell ⟨q, 1, none⟩ (.int .i64 db)) := (h.swap.stoA hc hp).swap
theorem TwoV.zero {V0 : World} (hc : lc = true) (he : le = true) (hp : lp = true) (hq : lq = true) (hs : ls = true) (ht : lt = true) (hb : Below B V0 W) (h : TwoV B na nb da db ka kb lc le lp lq ls lt vc ve vp vq X Y c e p q W) :
    ∃ W', W' = (W.setCell ⟨p, 1, none⟩ (.int .i64 0)).setCell ⟨q, 1, none⟩ (.int .i64 0) ∧ KA W' X na ka ∧ KA W' Y nb kb ∧ W'.cell? ⟨p, 0, none⟩ = some (.slice X na c) ∧ W'.cell? ⟨p, 1, none⟩ = some (.int .i64 0) ∧ W'.cell? ⟨q, 0, none⟩ = some (.slice Y nb e) ∧ W'.cell? ⟨q, 1, none⟩ = some (.int .i64 0) ∧ Below B V0 W' := by
  have n1 := h.nA hp
  have n2 := h.nB hq
  have hne := h.pq hp hq
  obtain ⟨_, _, a3, a4⟩ := h.sA hs
  obtain ⟨_, _, b3, b4⟩ := h.sB ht
  refine ⟨_, rfl, ((h.cA hc).2.far (h.xp hc hp)).far (h.xq hc hq), ((h.cB he).2.far (h.yp he hp)).far (h.yq he hq), ?_, ?_, ?_, ?_, (hb.setCell n1.new _).setCell n2.new _⟩
  · rw [World.cell?_setCell_far _ _ _ _ hne.symm, World.cell?_setCell_other _ _ _ _ (fun e => by injection e with _ e2; cases e2)]
    exact a3
  · rw [World.cell?_setCell_far _ _ _ _ hne.symm]
    exact World.cell?_setCell_same' _ _ _ n1.c1
  · rw [World.cell?_setCell_other _ _ _ _ (fun e => by injection e with _ e2; cases e2), World.cell?_setCell_far _ _ _ _ hne]
    exact b3
  · exact World.cell?_setCell_same' _ _ _ (someS n2.c1)
end
theorem dep_of {o : Oper} {L : Nat → Bool} (h : ∀ e ∈ o.after, Region.binds .any e = true → L e.on = true) (j : Nat) (hj : (o.after.toList.any fun e => Nat.beq e.on j && Region.binds .any e) = true) : L j = true := by
  obtain ⟨e, he, h2⟩ := List.any_eq_true.1 hj
  obtain ⟨h3, h4⟩ := (Bool.and_eq_true _ _).mp h2
  replace h3 := Nat.eq_of_beq_eq_true h3
  subst h3
  exact h e (by simpa using he) h4
theorem copyT_new (A : Option Addr) (n c : Nat) (d : Int) (k : Nat → Knot) (w : World) (hn : n ≤ 4398046510976) (h0 : A = none → n = 0 ∧ c = 0) (hk : KA w A n k) :
    Calls Try.prog 14 #[.agg #[.slice A n c, .int .i64 d]] w fun e w' => ∃ X c1, e = .returned (.agg #[.slice X n c1, .int .i64 d]) ∧ KA w' X n k ∧ (0 < n → w.heap.size ≤ ob X) ∧ Below w.heap.size w w' := by
  rcases Nat.eq_zero_or_pos n with e | e
  · subst e
    exact (copyT_0 A c d w (fun q => (h0 q).2)).mono fun e w' ⟨A', c', he, hb⟩ => ⟨A', c', he, fun h => absurd h (Nat.lt_irrefl 0), fun h => absurd h (Nat.lt_irrefl 0), hb⟩
  · obtain ⟨b, off, rfl, hk2⟩ := hk e
    exact (copyT_own b off n c d k w e hn hk2).mono fun e w' ⟨g, c', he, h1, h2, _, _, hb⟩ => ⟨some ⟨g, 0, none⟩, c', he, fun _ => ⟨g, 0, rfl, h1⟩, fun _ => h2, hb⟩
theorem shifted_new (A : Option Addr) (n c : Nat) (x y z d : Int) (k : Nat → Knot) (w : World) (h0 : 0 < n) (hn : n ≤ 12) (hk : KA w A n k)
    (hv : ∀ i, i < n → (-1000000 ≤ (k i).x ∧ (k i).x ≤ 1000000) ∧ (-1000000 ≤ (k i).y ∧ (k i).y ≤ 1000000) ∧ (-1000000 ≤ (k i).z ∧ (k i).z ≤ 1000000))
    (hx : -1000 ≤ x ∧ x ≤ 1000) (hy : -1000 ≤ y ∧ y ≤ 1000) (hz : -1000 ≤ z ∧ z ≤ 1000) :
    Calls Try.prog 29 #[.agg #[.slice A n c, .int .i64 0], .agg #[.int .i64 x, .int .i64 y, .int .i64 z], .int .i64 d] w fun e w' => ∃ X c1, e = .returned (.agg #[.slice X n c1, .int .i64 d]) ∧ KA w' X n (shK k x y z) ∧ (0 < n → w.heap.size ≤ ob X) ∧ Below w.heap.size w w' := by
  obtain ⟨b, off, rfl, hk2⟩ := hk h0
  exact (pathShifted_some b off n c 0 x y z d k w h0 hn hk2 hv hx hy hz).mono fun e w' ⟨g, c', he, h1, h2, hb⟩ => ⟨some ⟨g, 0, none⟩, c', he, fun _ => ⟨g, 0, rfl, h1⟩, fun _ => h2, hb⟩
end Go.Proofs.Ytmhcmiajikffpaa
