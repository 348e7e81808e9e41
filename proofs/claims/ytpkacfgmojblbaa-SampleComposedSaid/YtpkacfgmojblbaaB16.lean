/- Helpers: the law of RL2 where the last operation but one gives a value (an append). No condition but the hypotheses that each theorem names. -/
import Derived.Test.YtpkacfgmojblbaaB06
import Derived.Test.YtpkacfgmojblbaaB00
import Derived.Test.YtpkacfgmojblbaaB15
import Derived.Test.YtpkacfgmojblbaaB11
import Derived.Laws.AppendOwn
namespace Go.Proofs.Ytpkacfgmojblbaa
open Go.RowKit
/-- as before: the slots that no operation but the last writes -/
def RSameX (ops : Array Oper) (tt : Nat) (a a' : Act) : Prop := a'.tmps.size = a.tmps.size ∧ a'.defers = a.defers ∧ ∀ t, (∀ (i : Nat) (o : Oper), ops[i]? = some o → i ≠ tt → o.dst ≠ some t) → a'.tmps[t]? = a.tmps[t]?
def freeX (tt u : Nat) : Nat → List Oper → Bool
  | _, [] => true
  | i, o :: l => (Nat.beq i tt || match o.dst with | some d => !(Nat.beq d u) | none => true) && freeX tt u (i + 1) l
theorem freeX_of {tt u : Nat} : ∀ {k : Nat} {l : List Oper}, freeX tt u k l = true → ∀ (i : Nat) (o : Oper), l[i]? = some o → k + i ≠ tt → o.dst ≠ some u
  | k, [], _, i, o, h, _ => by simp at h
  | k, x :: l, hc, 0, o, h, hi => by
    simp at h
    subst h
    simp only [freeX, Bool.and_eq_true, Bool.or_eq_true] at hc
    intro e
    rcases hc.1 with h1 | h1
    · exact hi (Nat.eq_of_beq_eq_true h1)
    · rw [e] at h1
      simp at h1
  | k, x :: l, hc, i + 1, o, h, hi => by
    simp only [freeX, Bool.and_eq_true] at hc
    exact freeX_of hc.2 i o (by simpa using h) (by omega)
theorem RSameX.get {ops : Array Oper} {tt : Nat} {a a' : Act} (h : RSameX ops tt a a') (t : Nat) (hc : freeX tt t 0 ops.toList = true) : a'.eval (.tmp t) = a.eval (.tmp t) := by
  show a'.tmps.getD t undef = a.tmps.getD t undef
  rw [rg_getD, rg_getD, h.2.2 t fun i o ho hi e => freeX_of hc i o (by rw [Array.getElem?_toList]; exact ho) (by omega) e]
structure AInv (ops : Array Oper) (φ : Nat → Value → World → Prop) (s tt : Nat) (a : Act) (w : World) (listed : Array Bool) (a' : Act) (w' : World) : Prop where
  sz : listed.size = ops.size
  below : Below w.heap.size w w'
  tsize : a'.tmps.size = a.tmps.size
  defs : a'.defers = a.defers
  rest : ∀ t, (∀ (i : Nat) (o : Oper), ops[i]? = some o → i ≠ tt → o.dst ≠ some t) → a'.tmps[t]? = a.tmps[t]?
  closed : RClosed ops listed
  open' : listed.getD s false = false
  pre : ∀ (i : Nat) (o : Oper) (d : Nat), ops[i]? = some o → o.dst = some d → listed.getD i false = true → φ i (a'.tmps.getD d undef) w'
theorem wpAny_app {P : Program} {ops : Array Oper} {Q : Exit → Act → World → Prop} (φ : Nat → Value → World → Prop) (s t f : Nat) (a : Act) (w : World) (hl : rgLow ops a.tmps.size) (hs : s < ops.size) (ht : t < ops.size) (hst : t ≠ s)
    (hA : ∀ i, i < ops.size → i ∈ rgAnc ops f (rgDeps ops[s]) ∨ i = s ∨ i = t) (hT : s ∈ rgAnc ops f (rgDeps ops[t]))
    (hmono : ∀ i v w1 w2, φ i v w1 → Below w1.heap.size w1 w2 → φ i v w2)
    (hstep : ∀ (i : Nat) (o : Oper), ops[i]? = some o → i ≠ s → i ≠ t → ∀ a' w', Below w.heap.size w w' → RSameX ops t a a' → RDeps ops φ a' w' o → o.wp P a' w' (fun a'' w'' => ∃ v, a'' = a'.put o.dst v ∧ Below w'.heap.size w' w'' ∧ φ i v w'') Q)
    (hlast : ∀ a' w', Below w.heap.size w w' → RSameX ops t a a' → (∀ (i : Nat) (o : Oper) (d : Nat), ops[i]? = some o → i ≠ s → i ≠ t → o.dst = some d → φ i (a'.tmps.getD d undef) w') → ops[s].wp P a' w' (fun a'' w'' => ops[t].wp P a'' w'' (Q .normal) Q) Q) :
    ∀ (fuel : Nat) (listed : Array Bool) (a' : Act) (w' : World), AInv ops φ s t a w listed a' w' → rgMissing listed ops.size ≤ fuel → wpAny P .any ops Q fuel listed a' w' := by
  have notnil : ∀ (listed : Array Bool) (a' : Act) (w' : World), AInv ops φ s t a w listed a' w' → Region.ready .any ops listed = [] → False := by
    intro listed a' w' h hr
    have all : ∀ n i, i < n → i < ops.size → listed.getD i false = true := by
      intro n
      induction n with
      | zero => intro i hi; omega
      | succ n ih =>
        intro i hi hs
        rcases Nat.lt_or_eq_of_le (Nat.le_of_lt_succ hi) with h1 | rfl
        · exact ih i h1 hs
        · have ho : ops[i]? = some ops[i] := Array.getElem?_eq_getElem hs
          cases hc : listed.getD i false with
          | true => rfl
          | false =>
            exfalso
            have hm : i ∈ Region.ready .any ops listed := by
              unfold Region.ready
              refine List.mem_filter.2 ⟨List.mem_range.2 hs, ?_⟩
              have h2 : listed.getD i true = false := by
                have hsz : i < listed.size := by rw [h.sz]; exact hs
                simp [Array.getD, hsz] at hc ⊢
                exact hc
              rw [h2, ho]
              simp only [Bool.not_false, Bool.true_and, Option.map_some, Option.getD_some]
              rw [Array.all_eq_true_iff_forall_mem]
              intro e he
              cases hbd : Region.binds .any e with
              | false => simp
              | true =>
                have := ih e.on ((hl i _ ho).2.1 e he hbd) (by have := (hl i _ ho).2.1 e he hbd; omega)
                simp [this]
            rw [hr] at hm
            cases hm
    have := all (s + 1) s (by omega) hs
    rw [h.open'] at this
    cases this
  intro fuel
  induction fuel with
  | zero =>
    intro listed a' w' h hm
    have hr : Region.ready .any ops listed = [] := by
      rcases hq : Region.ready .any ops listed with _ | ⟨i, l⟩
      · rfl
      · exfalso
        have hi : i ∈ Region.ready .any ops listed := by rw [hq]; simp
        unfold Region.ready at hi
        obtain ⟨h1, h2⟩ := List.mem_filter.1 hi
        have h3 : (!listed.getD i true) = true := by
          simp only [Bool.and_eq_true] at h2
          exact h2.1
        have : i ∈ (List.range ops.size).filter fun i => !listed.getD i true := List.mem_filter.2 ⟨h1, h3⟩
        have := List.length_pos_of_mem this
        unfold rgMissing at hm
        omega
    exact (notnil _ _ _ h hr).elim
  | succ fuel ih =>
    intro listed a' w' h hm
    refine ⟨fun hr => (notnil _ _ _ h hr).elim, fun i hi => ?_⟩
    unfold Region.ready at hi
    obtain ⟨h1, h2⟩ := List.mem_filter.1 hi
    simp only [Bool.and_eq_true] at h2
    obtain ⟨h3, h4⟩ := h2
    have hsi : i < ops.size := List.mem_range.1 h1
    have ho : ops[i]? = some ops[i] := Array.getElem?_eq_getElem hsi
    have hun := getD_of_ready hsi h.sz h3
    obtain ⟨hg, hlow, hdn⟩ := hl i _ ho
    rw [ho] at h4
    simp only [Option.map_some, Option.getD_some] at h4
    rw [Array.all_eq_true_iff_forall_mem] at h4
    have hsz : i < listed.size := by rw [h.sz]; exact hsi
    have hmiss : rgMissing (listed.setIfInBounds i true) ops.size ≤ fuel := by
      have : rgMissing (listed.setIfInBounds i true) ops.size < rgMissing listed ops.size := by
        refine filter_len_lt (i := i) ?_ h3 ?_ h1
        · intro x hx
          simp only [Array.getD_eq_getD_getElem?, Array.getElem?_setIfInBounds] at hx ⊢
          by_cases hxi : i = x
          · subst hxi
            simp [hsz] at hx
          · rw [if_neg hxi] at hx
            exact hx
        · simp [Array.getD_eq_getD_getElem?, hsz]
      omega
    have hon : ∀ e ∈ ops[i].after, Region.binds .any e = true → listed.getD e.on false = true := by
      intro e he hb
      have := h4 e he
      rw [hb] at this
      simpa using this
    have hclosed : RClosed ops (listed.setIfInBounds i true) := by
      intro j o' ho' hj k hk
      rcases getD_set hj with rfl | hj
      · rw [ho] at ho'
        cases ho'
        obtain ⟨e, he, rfl⟩ := List.mem_map.1 hk
        obtain ⟨he1, he2⟩ := List.mem_filter.1 he
        exact getD_set_mono (hon e (by simpa using he1) he2)
      · exact getD_set_mono (h.closed j o' ho' hj k hk)
    have hdeps : RDeps ops φ a' w' ops[i] := fun e he hb o' d' ho' hd' => h.pre _ _ _ ho' hd' (hon e he hb)
    have hwant : Region.wanted ops[i] (yielded ops a'.tmps) = true := by simp [Region.wanted, hg]
    unfold wpOp
    rw [ho]
    simp only [hwant, if_true]
    by_cases his : i = s
    · subst his
      have hall : ∀ j, j < ops.size → j ≠ i → j ≠ t → listed.getD j false = true := fun j hj hji hjt =>
        rgAnc_listed h.closed f (rgDeps ops[i]) (fun k hk => by
          obtain ⟨e, he, rfl⟩ := List.mem_map.1 hk
          obtain ⟨he1, he2⟩ := List.mem_filter.1 he
          exact hon e (by simpa using he1) he2) j (((hA j hj).resolve_right (fun q => q.elim hji hjt)))
      have htu : listed.getD t false = false := by
        cases hc : listed.getD t false with
        | false => rfl
        | true =>
          have h5 : ∀ k ∈ rgDeps ops[t], listed.getD k false = true := fun k hk => h.closed t ops[t] (Array.getElem?_eq_getElem ht) hc k hk
          have := rgAnc_listed h.closed f (rgDeps ops[t]) h5 i hT
          rw [hun] at this
          cases this
      have htu2 : (listed.setIfInBounds i true).getD t false = false := by rw [getD_set_ne hst]; exact htu
      have htu3 : (listed.setIfInBounds i true).getD t true = false := by
        have hsz2 : t < (listed.setIfInBounds i true).size := by simp [h.sz]; exact ht
        simp [Array.getD] at htu2 ⊢
        exact ⟨by rw [h.sz]; exact ht, htu2 (by rw [h.sz]; exact ht)⟩
      have hall2 : ∀ j, j < ops.size → j ≠ t → (listed.setIfInBounds i true).getD j false = true := fun j hj hjt => by
        by_cases hji : j = i
        · subst hji
          simp [Array.getD_eq_getD_getElem?, hsz]
        · exact getD_set_mono (hall j hj hji hjt)
      have hto : ops[t]? = some ops[t] := Array.getElem?_eq_getElem ht
      have htr : t ∈ Region.ready .any ops (listed.setIfInBounds i true) := by
        unfold Region.ready
        refine List.mem_filter.2 ⟨List.mem_range.2 ht, ?_⟩
        rw [htu3, hto]
        simp only [Bool.not_false, Bool.true_and, Option.map_some, Option.getD_some]
        rw [Array.all_eq_true_iff_forall_mem]
        intro e he
        cases hbd : Region.binds .any e with
        | false => simp
        | true =>
          have hlo := (hl t _ hto).2.1 e he hbd
          have := hall2 e.on (by omega) (by omega)
          simp [this]
      have hpos : 0 < rgMissing (listed.setIfInBounds i true) ops.size := by
        have : t ∈ (List.range ops.size).filter fun i' => !(listed.setIfInBounds i true).getD i' true := List.mem_filter.2 ⟨List.mem_range.2 ht, by rw [htu3]; rfl⟩
        exact List.length_pos_of_mem this
      refine .inl (Oper.wp_mono ?_ (hlast a' w' h.below ⟨h.tsize, h.defs, h.rest⟩ fun j o' d' ho' hji hjt hd' => h.pre j o' d' ho' hd' (hall j ?_ hji hjt)))
      · intro a'' w'' hq
        cases fuel with
        | zero => omega
        | succ n =>
          refine ⟨fun hr => (by rw [hr] at htr; cases htr), fun j hj => ?_⟩
          unfold Region.ready at hj
          obtain ⟨j1, j2⟩ := List.mem_filter.1 hj
          simp only [Bool.and_eq_true] at j2
          have hjs := List.mem_range.1 j1
          have hju := getD_of_ready hjs (by simp [h.sz]) j2.1
          have hjt : j = t := by
            rcases Nat.lt_trichotomy j t with q | q | q
            · rw [hall2 j hjs (by omega)] at hju; cases hju
            · exact q
            · rw [hall2 j hjs (by omega)] at hju; cases hju
          subst hjt
          unfold wpOp
          rw [hto]
          have hwant2 : Region.wanted ops[j] (yielded ops a''.tmps) = true := by simp [Region.wanted, (hl j _ hto).1]
          simp only [hwant2, if_true]
          refine .inl (Oper.wp_mono ?_ hq)
          intro a3 w3 hq3
          have hrn : Region.ready .any ops ((listed.setIfInBounds i true).setIfInBounds j true) = [] := by
            refine rg_nil_listed (by simp [h.sz]) fun x hx => ?_
            by_cases hxj : x = j
            · subst hxj
              have hsz2 : x < listed.size := by rw [h.sz]; exact ht
              simp [Array.getD_eq_getD_getElem?, hsz2]
            · exact getD_set_mono (hall2 x hx hxj)
          cases n with
          | zero => exact ⟨hrn, hq3⟩
          | succ n => exact ⟨fun _ => hq3, fun x hx => by rw [hrn] at hx; cases hx⟩
      · rcases Nat.lt_or_ge j ops.size with q | q
        · exact q
        · rw [Array.getElem?_eq_none q] at ho'; cases ho'
    · have hit : i ≠ t := by
        intro e
        subst e
        have := rgAnc_listed h.closed f (rgDeps ops[i]) (fun k hk => by
          obtain ⟨e, he, rfl⟩ := List.mem_map.1 hk
          obtain ⟨he1, he2⟩ := List.mem_filter.1 he
          exact hon e (by simpa using he1) he2) s hT
        rw [h.open'] at this
        cases this
      obtain ⟨d, hd, hdl, hdi⟩ := hdn
      refine .inl (Oper.wp_mono ?_ (hstep i _ ho his hit a' w' h.below ⟨h.tsize, h.defs, h.rest⟩ hdeps))
      rintro a'' w'' ⟨v, rfl, hb, hv⟩
      rw [hd]
      refine ih _ _ _ ⟨by simp [h.sz], belowT h.below hb, by rw [← h.tsize]; simp [Act.put], by rw [← h.defs]; rfl, ?_, hclosed, ?_, ?_⟩ hmiss
      · intro u hu
        rw [rg_put_get (by intro e; exact hu i _ ho hit (by rw [hd, e]))]
        exact h.rest u hu
      · rw [getD_set_ne (fun e => his e.symm)]
        exact h.open'
      · intro j o' d' ho' hd' hj
        by_cases hji : j = i
        · subst hji
          rw [ho] at ho'
          cases ho'
          rw [hd] at hd'
          cases hd'
          rw [rg_put_own (by rw [h.tsize]; exact hdl)]
          exact hv
        · rw [rg_put_getD (by intro e; exact hdi j o' ho' hji (by rw [hd', e]))]
          exact hmono _ _ _ _ (h.pre j o' d' ho' hd' ((getD_set hj).resolve_left hji)) hb
/-- The law. s: the number of the last operation but one, t: that of the last. -/
theorem wp_region_app {P : Program} {id : Nat} {ops : Array Oper} {Q : Exit → Act → World → Prop} {a : Act} {w : World} (Φ : List MP) (s t : Nat) (m : List Bool) (hmask : maskOf (rsDsts ops.toList) a.tmps.size = m) (hm : P.follows .mixedOrders = true) (hl : rgCheck a.tmps.size 0 ops.toList = true)
    {o o2 : Oper} (hso : ops[s]? = some o) (hto : ops[t]? = some o2) (hts : Nat.beq t s = false) (hA : ((List.range ops.size).all fun i => (rgAnc ops ops.size (rgDeps o)).contains i || Nat.beq i s || Nat.beq i t) = true) (hT : (rgAnc ops ops.size (rgDeps o2)).contains s = true)
    (hstep : AllOps (fun i o => i ≠ s → i ≠ t → ∀ a' w', Below w.heap.size w w' → RSameX ops t a a' → RDeps ops (fun i => (mpAt Φ i).p) a' w' o → o.wp P a' w' (fun a'' w'' => ∃ v, a'' = a'.put o.dst v ∧ Below w'.heap.size w' w'' ∧ (mpAt Φ i).p v w'') Q) 0 ops.toList)
    (hlast : ∀ (V : Nat → Value) (w' : World), Below w.heap.size w w' → AllOps (fun i o => i ≠ s → i ≠ t → (mpAt Φ i).p (V (o.dst.getD 0)) w') 0 ops.toList → ∀ K : Act → World → Prop, (∀ a'' w'', o2.wp P a'' w'' (Q .normal) Q → K a'' w'') → o.wp P ⟨(maskPut V 0 m a.tmps.toList).toArray, a.defers⟩ w' K Q) :
    (Code.region id ops true).wp P Q a w := by
  refine wp_region_any hm ?_
  have low := rgLow_of hl
  have hs : s < ops.size := (Array.getElem?_eq_some_iff.1 hso).1
  have hos : ops[s] = o := (Array.getElem?_eq_some_iff.1 hso).2
  have ht : t < ops.size := (Array.getElem?_eq_some_iff.1 hto).1
  have hot : ops[t] = o2 := (Array.getElem?_eq_some_iff.1 hto).2
  refine wpAny_app (fun i => (mpAt Φ i).p) s t ops.size a w low hs ht (fun e => by rw [e] at hts; simp at hts) (fun i hi => ?_) (by rw [hot]; simpa using hT) (fun i v w1 w2 => (mpAt Φ i).on v w1 w2) (allOps_of hstep) ?_ ops.size (Array.replicate ops.size false) a _ ⟨by simp, (Below.refl _ _).drew, rfl, rfl, fun _ _ => rfl, ?_, ?_, ?_⟩ ?_
  · have := List.all_eq_true.1 hA i (List.mem_range.2 hi)
    rw [hos]
    rcases (Bool.or_eq_true _ _).mp this with h | h
    · rcases (Bool.or_eq_true _ _).mp h with h | h
      · exact .inl (by simpa using h)
      · exact .inr (.inl (Nat.eq_of_beq_eq_true h))
    · exact .inr (.inr (Nat.eq_of_beq_eq_true h))
  · intro a' w' hb hsm hf
    have := hlast (fun d => a'.tmps.getD d undef) w' hb (allOps_mk fun i o ho hi hit => by
      obtain ⟨d, hd, _⟩ := (low i o ho).2.2
      rw [hd]
      exact hf i o d ho hi hit hd) _ (fun _ _ h => h)
    rw [hos, hot, act_of_st (ops := ops) (a := a) (a' := a') ⟨hsm.1, hsm.2.1, fun u hu => hsm.2.2 u fun i o ho _ => hu i o ho⟩, act_mask _ _ a m hmask]
    exact this
  · intro i o ho h
    exfalso
    simp only [Array.getD_eq_getD_getElem?, Array.getElem?_replicate] at h
    split at h <;> cases h
  · simp only [Array.getD_eq_getD_getElem?, Array.getElem?_replicate]
    split <;> rfl
  · intro i o d ho _ h
    exfalso
    simp only [Array.getD_eq_getD_getElem?, Array.getElem?_replicate] at h
    split at h <;> cases h
  · unfold rgMissing
    refine Nat.le_trans (List.length_filter_le _ _) ?_
    simp
end Go.Proofs.Ytpkacfgmojblbaa
namespace Go.Proofs.Ytpkacfgmojblbaa
open Go.RowKit
attribute [local go_sem] old1 fro1 old2 fro2 old3 fro3 old4 fro4 old5 fro5 old6 fro6 old7 fro7 old8 fro8 old9 fro9 old10 fro10 old11 fro11 old12 fro12
def pc0 : List Bool := [false, false, false, false, false, false, false, false, false, false, false, false, false, false, true, true, true, true, true, true, true, true, true, true, true, true, false]
def pc1 : List Bool := [false, false, false, false, false, false, false, true, false, false, false, false, false, false, false, true, true, true, true, true, true, true, true, true, true, true, true, true, true, false]
/-- a pair is stored -/
theorem op_stG {op : Oper} {a : Act} {w : World} {K : Act → World → Prop} {Q : Exit → Act → World → Prop} {x y : Operand} (ho : op.op = .store 23 x y) {q o : Nat} {u v u0 v0 : Int} (hx : a.eval x = .pointer (some ⟨q, o, none⟩)) (hy : a.eval y = .agg #[.int .i64 u, .int .i64 v]) (c0 : w.cell? ⟨q, o, none⟩ = some (.int .i64 u0)) (c1 : w.cell? ⟨q, o + 1, none⟩ = some (.int .i64 v0)) (f0 : w.frozen? ⟨q, o, none⟩ = false) (f1 : w.frozen? ⟨q, o + 1, none⟩ = false)
    (h : K (a.put op.dst undef) ((w.setCell ⟨q, o, none⟩ (.int .i64 u)).setCell ⟨q, o + 1, none⟩ (.int .i64 v))) : op.wp Try.prog a w K Q := by
  unfold Oper.wp execOp
  simp only [ho, hx, hy]
  simp [go_sem, c0, c1, f0, f1]
  exact h
theorem app_bel2 {w w1 : World} {B e sz n : Nat} {v : Value} {xs : List Value} (hB : B ≤ w.heap.size) (hown : w.ownsRow B e sz v n xs) (hg : w.grownBy w1 v.ownBlock) : Below B w w1 :=
  (Below.refl B w).grown hg hB fun k hk => (hown.lt k hk).1
/-- a new row of one pair -/
def mpNG (B : Nat) (x y : Int) : MP := ⟨fun v w => ∃ q, v = .slice (some ⟨q, 0, none⟩) 1 1 ∧ B ≤ q ∧ w.cell? ⟨q, 0, none⟩ = some (.int .i64 x) ∧ w.cell? ⟨q, 1, none⟩ = some (.int .i64 y),
  fun _ _ _ ⟨q, hv, hB, h0, h1⟩ hb => ⟨q, hv, hB, keep hb h0, keep hb h1⟩⟩
theorem news_2 {w : World} {q : Nat} {x y : Int} (h0 : w.cell? ⟨q, 0, none⟩ = some (.int .i64 x)) (h1 : w.cell? ⟨q, 1, none⟩ = some (.int .i64 y)) : ∀ j u, [Value.int .i64 x, .int .i64 y][j]? = some u → w.cell? ((⟨q, 0, none⟩ : Addr).add j) = some u := by
  intro j u hj
  match j, hj with
  | 0, hj => simp at hj; subst hj; simpa [Addr.add] using h0
  | 1, hj => simp at hj; subst hj; simpa [Addr.add] using h1
  | j + 2, hj => simp at hj
theorem gmulQ (m : Int) (g : Int × Int) (h : (-1000000 ≤ g.1 ∧ g.1 ≤ 1000000) ∧ -1000000 ≤ g.2 ∧ g.2 ≤ 1000000) (W : World) :
    Calls Try.prog 71 #[.agg #[.int .i64 g.1, .int .i64 g.2], .agg #[.int .i64 (qRe m), .int .i64 (qIm m)]] W fun e w' => e = .returned (.agg #[.int .i64 (rt m g).1, .int .i64 (rt m g).2]) ∧ Below W.heap.size W w' := by
  obtain ⟨⟨a1, a2⟩, b1, b2⟩ := h
  refine gmul_any g.1 g.2 (qRe m) (qIm m) a1 a2 b1 b2 ?_ ?_ ?_ ?_ W <;>
    rcases q_cases m with ⟨_, r1, r2⟩ | ⟨_, r1, r2⟩ | ⟨_, r1, r2⟩ | ⟨_, r1, r2⟩ <;> first | (rw [r1]; decide) | (rw [r2]; decide)
def pr2 (x y : Int) (i : Nat) : Int := if i = 0 then x else y
set_option maxRecDepth 100000 in
set_option maxHeartbeats 2000000 in
theorem binOfR_any (A : Option Addr) (n c : Nat) (g : Nat → Int × Int) (q : Int) (w : World) (hn : n ≤ 1000) (hA : GA w A n g) (q1 : -3 ≤ q) (q2 : q ≤ 3) (hg : ∀ i, i < n → (-8000 ≤ (g i).1 ∧ (g i).1 ≤ 8000) ∧ -8000 ≤ (g i).2 ∧ (g i).2 ≤ 8000) :
    Calls Try.prog 78 #[.slice A n c, .int .i64 q] w fun e w' => e = .returned (.agg #[.int .i64 (bnS (-q) g n).1, .int .i64 (bnS (-q) g n).2]) ∧ Below w.heap.size w w' := by
  have HG := Lib.hid hg
  have HA := Lib.hid hA
  clear hg hA
  obtain ⟨s, hs⟩ : ∃ s, -q = s := ⟨_, rfl⟩
  have wq : IntKind.i64.wrap (-q) = s := by rw [← hs]; exact IntWalk.i64_in _ (by omega)
  rw [hs]
  have s1 : -3 ≤ s := by omega
  have s2 : s ≤ 3 := by omega
  have HPW := Lib.hid (fun m W => power_any m W)
  go_enter Try.func78, Try.ntmps78
  go_wp2_with fail
  go_loopw [6] (fun s6 wr => ∃ k : Nat, k ≤ n ∧ s6 = .int .i64 k ∧ Hid (Below w.heap.size w wr) ∧ Hid (IM wr (w.heap.size + 1) 2 (pr2 (bnS s g k).1 (bnS s g k).2)) ∧ Hid (IM wr w.heap.size 2 (fun _ => 0))) (fun i _ => n - (intOf i).toNat)
  case atStart => exact ⟨0, Nat.zero_le _, rfl, by show Below w.heap.size w _; (repeat (first | with_reducible exact Below.refl _ _ | with_reducible assumption | with_reducible refine Below.alloc ?_ (by first | (simp; done) | (simp; omega) | omega) _ | with_reducible refine Below.setCell ?_ (by first | (simp; done) | (simp; omega) | omega) _ | with_reducible refine Below.drew ?_ | with_reducible refine below_drewN ?_ _)), ⟨by simp, fun i hi => (by rcases (by omega : i = 0 ∨ i = 1) with rfl | rfl <;> exact ⟨by simp [go_sem, pr2, bnS], by simp [go_sem]⟩)⟩, ⟨by simp; omega, fun i hi => (by rcases (by omega : i = 0 ∨ i = 1) with rfl | rfl <;> exact ⟨by simp [go_sem], by simp [go_sem]⟩)⟩⟩
  case round =>
    obtain ⟨k, hk, rfl, HB, HI, HZ⟩ := hrel
    have c0 := (HI.out.2 0 (by omega)).1
    have c1 := (HI.out.2 1 (by omega)).1
    have z0 := (HI.out.2 0 (by omega)).2
    have z1 := (HI.out.2 1 (by omega)).2
    replace c0 : wr.cell? ⟨w.heap.size + 1, 0, none⟩ = some (.int .i64 (bnS s g k).1) := c0
    replace c1 : wr.cell? ⟨w.heap.size + 1, 1, none⟩ = some (.int .i64 (bnS s g k).2) := c1
    by_cases hlt : k < n
    · obtain ⟨bA, oA, rfl, hA2⟩ := HA.out (by omega)
      have x0 := keep HB.out (hA2 k hlt).1
      have x1 := keep HB.out (hA2 k hlt).2
      have hgk := HG.out k hlt
      have HMU := Lib.hid (fun W => gmulQ (s * k) (g k) (by omega) W)
      have hsk := mbd (a := s) (b := k) (A := 3) (B := 1000) (by omega) (by omega) (by omega) (by omega)
      have wk : IntKind.i64.wrap (s * k) = s * k := IntWalk.i64_in _ (by omega)
      obtain ⟨⟨⟨t1, t2⟩, t3, t4⟩, _⟩ := rt_bd (m := s * k) (M := 8000) hgk.1.1 hgk.1.2 hgk.2.1 hgk.2.2
      obtain ⟨⟨S1, S2⟩, S3, S4⟩ := bn_bd (s := s) (M := 8000) (by omega) HG.out k hk
      have HS : Hid (bnS s g (k + 1) = ((bnS s g k).1 + (rt (s * k) (g k)).1, (bnS s g k).2 + (rt (s * k) (g k)).2)) := rfl
      have HAD := Lib.hid (fun W => gadd_any (bnS s g k).1 (bnS s g k).2 (rt (s * k) (g k)).1 (rt (s * k) (g k)).2 (by omega) (by omega) (by omega) (by omega) (by show _ ≤ rtR (s * k) (g k); omega) (by show rtR (s * k) (g k) ≤ _; omega) (by show _ ≤ rtI (s * k) (g k); omega) (by show rtI (s * k) (g k) ≤ _; omega) W)
      have g1 : (0 : Int) ≤ (k : Int) := by omega
      have g2 : (k : Int) < (n : Int) := by omega
      clear hA2 hgk hsk t1 t2 t3 t4 S1 S2 S3 S4
      generalize hgx : (g k).1 = gx at *
      generalize hgy : (g k).2 = gy at *
      generalize hX : (bnS s g k).1 = X at *
      generalize hY : (bnS s g k).2 = Y at *
      generalize hU : (rt (s * k) (g k)).1 = U at *
      generalize hV : (rt (s * k) (g k)).2 = Z at *
      go_wp2_with fail
      refine wp_region_last [mpEq (.agg #[.int .i64 X, .int .i64 Y]), mpEq (.slice (some ⟨bA, oA, none⟩) n c), mpEq (.int .i64 k), mpEq (.pointer (some ⟨bA, oA + k * 2, none⟩)), mpEq (.agg #[.int .i64 gx, .int .i64 gy]), mpEq (.int .i64 q), mpEq (.int .i64 s), mpEq (.int .i64 k), mpEq (.int .i64 (s * k)), mpEq (.agg #[.int .i64 (qRe (s * k)), .int .i64 (qIm (s * k))]), mpEq (.agg #[.int .i64 U, .int .i64 Z]), mpEq (.agg #[.int .i64 (X + U), .int .i64 (Y + Z)])] 12 pc0 (by kernel_rfl) (by kernel_rfl) (by kernel_rfl) rfl (by kernel_rfl) (
            allOps_cons (fun _ a' w' hb hs hd => rg_op fun K hK => by
          have e0 := (hs.get 5 (by kernel_rfl)).trans (show _ = .pointer (some ⟨w.heap.size + 1, 0, none⟩) from rfl)
          have ec : ∀ v, a'.eval (.const v) = v := fun _ => rfl
          have c0 := keep hb c0
          have c1 := keep hb c1
          clear hs hd
          unfold Oper.wp
          generalize a'.eval = ρ at e0 ec ⊢
          simp [go_sem, e0, c0, c1]
          exact hK _ _ (Below.refl _ _) rfl) <|
            allOps_cons (fun _ a' w' hb hs hd => rg_op fun K hK => by
          have e0 := (hs.get 0 (by kernel_rfl)).trans (show _ = .slice (some ⟨bA, oA, none⟩) n c from rfl)
          have ec : ∀ v, a'.eval (.const v) = v := fun _ => rfl
          clear hs hd
          unfold Oper.wp
          generalize a'.eval = ρ at e0 ec ⊢
          simp [go_sem, e0]
          exact hK _ _ (Below.refl _ _) rfl) <|
            allOps_cons (fun _ a' w' hb hs hd => rg_op fun K hK => by
          have e0 := (hs.get 6 (by kernel_rfl)).trans (show _ = .int .i64 k from rfl)
          have ec : ∀ v, a'.eval (.const v) = v := fun _ => rfl
          clear hs hd
          unfold Oper.wp
          generalize a'.eval = ρ at e0 ec ⊢
          simp [go_sem, e0]
          exact hK _ _ (Below.refl _ _) rfl) <|
            allOps_cons (fun _ a' w' hb hs hd => rg_op fun K hK => by
          have e0 := (show a'.eval (.tmp 15) = .slice (some ⟨bA, oA, none⟩) n c from hd.get 1 15 (by kernel_rfl) (by kernel_rfl))
          have e1 := (show a'.eval (.tmp 16) = .int .i64 k from hd.get 2 16 (by kernel_rfl) (by kernel_rfl))
          have ec : ∀ v, a'.eval (.const v) = v := fun _ => rfl
          clear hs hd
          unfold Oper.wp
          generalize a'.eval = ρ at e0 e1 ec ⊢
          simp [go_sem, e0, e1, g1, g2]
          exact hK _ _ (Below.refl _ _) rfl) <|
            allOps_cons (fun _ a' w' hb hs hd => rg_op fun K hK => by
          have e0 := (show a'.eval (.tmp 17) = .pointer (some ⟨bA, oA + k * 2, none⟩) from hd.get 3 17 (by kernel_rfl) (by kernel_rfl))
          have ec : ∀ v, a'.eval (.const v) = v := fun _ => rfl
          have c0 := keep hb x0
          have c1 := keep hb x1
          clear hs hd
          unfold Oper.wp
          generalize a'.eval = ρ at e0 ec ⊢
          simp [go_sem, e0, c0, c1]
          exact hK _ _ (Below.refl _ _) rfl) <|
            allOps_cons (fun _ a' w' hb hs hd => rg_op fun K hK => by
          have e0 := (hs.get 1 (by kernel_rfl)).trans (show _ = .int .i64 q from rfl)
          have ec : ∀ v, a'.eval (.const v) = v := fun _ => rfl
          clear hs hd
          unfold Oper.wp
          generalize a'.eval = ρ at e0 ec ⊢
          simp [go_sem, e0]
          exact hK _ _ (Below.refl _ _) rfl) <|
            allOps_cons (fun _ a' w' hb hs hd => rg_op fun K hK => by
          have e0 := (show a'.eval (.tmp 19) = .int .i64 q from hd.get 5 19 (by kernel_rfl) (by kernel_rfl))
          have ec : ∀ v, a'.eval (.const v) = v := fun _ => rfl
          clear hs hd
          unfold Oper.wp
          generalize a'.eval = ρ at e0 ec ⊢
          simp [go_sem, e0, wq]
          exact hK _ _ (Below.refl _ _) rfl) <|
            allOps_cons (fun _ a' w' hb hs hd => rg_op fun K hK => by
          have e0 := (hs.get 6 (by kernel_rfl)).trans (show _ = .int .i64 k from rfl)
          have ec : ∀ v, a'.eval (.const v) = v := fun _ => rfl
          clear hs hd
          unfold Oper.wp
          generalize a'.eval = ρ at e0 ec ⊢
          simp [go_sem, e0]
          exact hK _ _ (Below.refl _ _) rfl) <|
            allOps_cons (fun _ a' w' hb hs hd => rg_op fun K hK => by
          have e0 := (show a'.eval (.tmp 20) = .int .i64 s from hd.get 6 20 (by kernel_rfl) (by kernel_rfl))
          have e1 := (show a'.eval (.tmp 21) = .int .i64 k from hd.get 7 21 (by kernel_rfl) (by kernel_rfl))
          have ec : ∀ v, a'.eval (.const v) = v := fun _ => rfl
          clear hs hd
          unfold Oper.wp
          generalize a'.eval = ρ at e0 e1 ec ⊢
          simp [go_sem, e0, e1, wk]
          exact hK _ _ (Below.refl _ _) rfl) <|
            allOps_cons (fun _ a' w' hb hs hd => by
          exact rg_fn (φ := (mpEq (.agg #[.int .i64 (qRe (s * k)), .int .i64 (qIm (s * k))])).p) (vs := #[.int .i64 (s * k)]) rfl (enters_of Try.func112 (by kernel_rfl) rfl) (by simp [(show a'.eval (.tmp 22) = .int .i64 (s * k) from hd.get 8 22 (by kernel_rfl) (by kernel_rfl))]) ((HPW.out (s * k) w').mono (by rintro e w1 ⟨rfl, h1⟩; exact ⟨_, rfl, h1, rfl⟩))) <|
            allOps_cons (fun _ a' w' hb hs hd => by
          exact rg_fn (φ := (mpEq (.agg #[.int .i64 U, .int .i64 Z])).p) (vs := #[.agg #[.int .i64 gx, .int .i64 gy], .agg #[.int .i64 (qRe (s * k)), .int .i64 (qIm (s * k))]]) rfl (enters_of Try.func71 (by kernel_rfl) rfl) (by simp [(show a'.eval (.tmp 18) = .agg #[.int .i64 gx, .int .i64 gy] from hd.get 4 18 (by kernel_rfl) (by kernel_rfl)), (show a'.eval (.tmp 23) = .agg #[.int .i64 (qRe (s * k)), .int .i64 (qIm (s * k))] from hd.get 9 23 (by kernel_rfl) (by kernel_rfl))]) ((HMU.out w').mono (by rintro e w1 ⟨rfl, h1⟩; exact ⟨_, rfl, h1, rfl⟩))) <|
            allOps_cons (fun _ a' w' hb hs hd => by
          exact rg_fn (φ := (mpEq (.agg #[.int .i64 (X + U), .int .i64 (Y + Z)])).p) (vs := #[.agg #[.int .i64 X, .int .i64 Y], .agg #[.int .i64 U, .int .i64 Z]]) rfl (enters_of Try.func122 (by kernel_rfl) rfl) (by simp [(show a'.eval (.tmp 14) = .agg #[.int .i64 X, .int .i64 Y] from hd.get 0 14 (by kernel_rfl) (by kernel_rfl)), (show a'.eval (.tmp 24) = .agg #[.int .i64 U, .int .i64 Z] from hd.get 10 24 (by kernel_rfl) (by kernel_rfl))]) ((HAD.out w').mono (by rintro e w1 ⟨rfl, h1⟩; exact ⟨_, rfl, h1, rfl⟩))) <| allOps_cons (fun h => absurd rfl h) <| allOps_nil) (fun V v1 hv1 hall K hK => ?_)
      have h25 : V 25 = .agg #[.int .i64 (X + U), .int .i64 (Y + Z)] := hall.get 11 rfl (by decide)
      clear hall
      have HI1 := Lib.hid (HI.out.on hv1)
      have HZ1 := Lib.hid (HZ.out.on hv1)
      refine op_stG (q := w.heap.size + 1) (o := 0) rfl rfl h25 (HI1.out.2 0 (by omega)).1 (HI1.out.2 1 (by omega)).1 (HI1.out.2 0 (by omega)).2 (HI1.out.2 1 (by omega)).2 ?_
      refine hK _ _ ?_
      simp only [pc0, maskPut, Nat.reduceAdd]
      have HB1 := Lib.hid (belowT HB.out hv1)
      clear h25 hK hv1
      go_wp2
      go_roundw
      case rel =>
        refine ⟨k + 1, by omega, by go_num, (HB1.out.setCell (by simp) _).setCell (by simp) _, ((HI1.out.set (k := 0) (by omega) _).set (k := 1) (by omega) _).same (fun i hi => ?_), ⟨by simpa using HZ1.out.1, fun i hi => ⟨?_, ?_⟩⟩⟩
        · rw [HS.out]
          rcases (by omega : i = 0 ∨ i = 1) with rfl | rfl <;> rfl
        · exact (World.cell?_setCell_far _ _ _ _ (by simp)).trans ((World.cell?_setCell_far _ _ _ _ (by simp)).trans (HZ1.out.2 i hi).1)
        · exact (World.frozen?_setCell _ _ _ _).trans ((World.frozen?_setCell _ _ _ _).trans (HZ1.out.2 i hi).2)
      case measure => simp [intOf]; omega
    · obtain rfl : k = n := by omega
      have r0 := (HZ.out.2 0 (by omega)).1
      have r1 := (HZ.out.2 1 (by omega)).1
      have y0 := (HZ.out.2 0 (by omega)).2
      have y1 := (HZ.out.2 1 (by omega)).2
      generalize hX : (bnS s g k).1 = X at *
      generalize hY : (bnS s g k).2 = Y at *
      go_wp2
      refine bodyPost_ret (v := .agg #[.int .i64 X, .int .i64 Y]) (by simp [results, Try.results78, go_sem, *]) rfl ⟨rfl, by have Bq := HB.out; (repeat (first | with_reducible exact Below.refl _ _ | with_reducible assumption | with_reducible refine Below.alloc ?_ (by first | (simp; done) | (simp; omega) | omega) _ | with_reducible refine Below.setCell ?_ (by first | (simp; done) | (simp; omega) | omega) _ | with_reducible refine Below.drew ?_ | with_reducible refine below_drewN ?_ _))⟩
set_option maxRecDepth 100000 in
set_option maxHeartbeats 2000000 in
theorem mixedR_any (ph inc ch : Int) (A : Option Addr) (n c : Nat) (g : Nat → Int × Int) (s : Int) (w : World) (hp : prgE ph inc ch = 0) (hn : n ≤ 1000) (hA : GA w A n g) (q1 : -3 ≤ s) (q2 : s ≤ 3) (hg : ∀ i, i < n → (-8000 ≤ (g i).1 ∧ (g i).1 ≤ 8000) ∧ -8000 ≤ (g i).2 ∧ (g i).2 ≤ 8000) :
    Calls Try.prog 56 #[.agg #[.int .i64 ph, .int .i64 inc, .int .i64 ch], .slice A n c, .int .i64 s] w fun e w' => ∃ v, e = .returned v ∧ Below w.heap.size w w' ∧ GS w' v n (mxS s ph inc ch g) := by
  have HG := Lib.hid hg
  have HA := Lib.hid hA
  obtain ⟨i0, hi0, hz0, hz1, hz2⟩ := info_parts infoG
  have HPW := Lib.hid (fun m W => power_any m W)
  have HTA := Lib.hid (fun (j : Nat) (hj : j < n) W => turnAtR_any ph inc ch j (prg_0 hp) (by omega) (by omega) W)
  clear hg hA hp
  go_enter Try.func56, Try.ntmps56
  go_wp2_with fail
  go_loopw [7, 8] (fun s7 s8 wr => ∃ k : Nat, k ≤ n ∧ s8 = .int .i64 k ∧ Hid (Below w.heap.size w wr) ∧ Hid (wr.cell? ⟨w.heap.size, 0, none⟩ = some (.int .i64 ph) ∧ wr.cell? ⟨w.heap.size, 1, none⟩ = some (.int .i64 inc) ∧ wr.cell? ⟨w.heap.size, 2, none⟩ = some (.int .i64 ch)) ∧ Hid (wr.ownsRow (w.heap.size + 1) 23 2 s7 k (gV k (mxS s ph inc ch g)))) (fun _ i _ => n - (intOf i).toNat)
  case atStart => exact ⟨0, Nat.zero_le _, rfl, by show Below w.heap.size w _; (repeat (first | with_reducible exact Below.refl _ _ | with_reducible assumption | with_reducible refine Below.alloc ?_ (by first | (simp; done) | (simp; omega) | omega) _ | with_reducible refine Below.setCell ?_ (by first | (simp; done) | (simp; omega) | omega) _ | with_reducible refine Below.drew ?_ | with_reducible refine below_drewN ?_ _)), ⟨by simp [go_sem], by simp [go_sem], by simp [go_sem]⟩, World.ownsRow_nil _ _ _ _⟩
  case round =>
    obtain ⟨k, hk, rfl, HB, HL, HO⟩ := hrel
    by_cases hlt : k < n
    · obtain ⟨bA, oA, rfl, hA2⟩ := HA.out (by omega)
      have x0 := keep HB.out (hA2 k hlt).1
      have x1 := keep HB.out (hA2 k hlt).2
      have l0 := HL.out.1
      have l1 := HL.out.2.1
      have l2 := HL.out.2.2
      have hwl := lt_of l0
      have hgk := HG.out k hlt
      have hT := trn_bd ph inc ch k
      have HT := Lib.hid (HTA.out k hlt)
      have HMU := Lib.hid (fun W => gmulQ (s * trn ph inc ch k) (g k) (by omega) W)
      have hsk := mbd (a := s) (b := trn ph inc ch k) (A := 3) (B := 3) (by omega) (by omega) (by omega) (by omega)
      have wk : IntKind.i64.wrap (s * trn ph inc ch k) = s * trn ph inc ch k := IntWalk.i64_in _ (by omega)
      have HS : Hid (gV (k + 1) (mxS s ph inc ch g) = gV k (mxS s ph inc ch g) ++ [.int .i64 (rt (s * trn ph inc ch k) (g k)).1, .int .i64 (rt (s * trn ph inc ch k) (g k)).2]) := rfl
      have g1 : (0 : Int) ≤ (k : Int) := by omega
      have g2 : (k : Int) < (n : Int) := by omega
      clear hA2 hgk hsk hT
      generalize hgx : (g k).1 = gx at *
      generalize hgy : (g k).2 = gy at *
      generalize trn ph inc ch k = tr at *
      generalize (rt (s * tr) (g k)).1 = U at *
      generalize (rt (s * tr) (g k)).2 = Z at *
      go_wp2_with fail
      refine wp_region_app [mpEq (u7), mpEq (.slice (some ⟨bA, oA, none⟩) n c), mpEq (.int .i64 k), mpEq (.pointer (some ⟨bA, oA + k * 2, none⟩)), mpEq (.agg #[.int .i64 gx, .int .i64 gy]), mpEq (.int .i64 s), mpEq (.agg #[.int .i64 ph, .int .i64 inc, .int .i64 ch]), mpEq (.int .i64 k), mpEq (.int .i64 tr), mpEq (.int .i64 (s * tr)), mpEq (.agg #[.int .i64 (qRe (s * tr)), .int .i64 (qIm (s * tr))]), mpEq (.agg #[.int .i64 U, .int .i64 Z]), mpNG wr.heap.size U Z] 13 14 pc1 (by kernel_rfl) (by kernel_rfl) (by kernel_rfl) rfl rfl rfl (by kernel_rfl) (by kernel_rfl) (
            allOps_cons (fun _ _ a' w' hb hs hd => rg_op fun K hK => by
          have e0 := (hs.get 7 (by kernel_rfl)).trans (show _ = u7 from rfl)
          have ec : ∀ v, a'.eval (.const v) = v := fun _ => rfl
          clear hs hd
          unfold Oper.wp
          generalize a'.eval = ρ at e0 ec ⊢
          simp [go_sem, e0]
          exact hK _ _ (Below.refl _ _) rfl) <|
            allOps_cons (fun _ _ a' w' hb hs hd => rg_op fun K hK => by
          have e0 := (hs.get 1 (by kernel_rfl)).trans (show _ = .slice (some ⟨bA, oA, none⟩) n c from rfl)
          have ec : ∀ v, a'.eval (.const v) = v := fun _ => rfl
          clear hs hd
          unfold Oper.wp
          generalize a'.eval = ρ at e0 ec ⊢
          simp [go_sem, e0]
          exact hK _ _ (Below.refl _ _) rfl) <|
            allOps_cons (fun _ _ a' w' hb hs hd => rg_op fun K hK => by
          have e0 := (hs.get 8 (by kernel_rfl)).trans (show _ = .int .i64 k from rfl)
          have ec : ∀ v, a'.eval (.const v) = v := fun _ => rfl
          clear hs hd
          unfold Oper.wp
          generalize a'.eval = ρ at e0 ec ⊢
          simp [go_sem, e0]
          exact hK _ _ (Below.refl _ _) rfl) <|
            allOps_cons (fun _ _ a' w' hb hs hd => rg_op fun K hK => by
          have e0 := (show a'.eval (.tmp 16) = .slice (some ⟨bA, oA, none⟩) n c from hd.get 1 16 (by kernel_rfl) (by kernel_rfl))
          have e1 := (show a'.eval (.tmp 17) = .int .i64 k from hd.get 2 17 (by kernel_rfl) (by kernel_rfl))
          have ec : ∀ v, a'.eval (.const v) = v := fun _ => rfl
          clear hs hd
          unfold Oper.wp
          generalize a'.eval = ρ at e0 e1 ec ⊢
          simp [go_sem, e0, e1, g1, g2]
          exact hK _ _ (Below.refl _ _) rfl) <|
            allOps_cons (fun _ _ a' w' hb hs hd => rg_op fun K hK => by
          have e0 := (show a'.eval (.tmp 18) = .pointer (some ⟨bA, oA + k * 2, none⟩) from hd.get 3 18 (by kernel_rfl) (by kernel_rfl))
          have ec : ∀ v, a'.eval (.const v) = v := fun _ => rfl
          have c0 := keep hb x0
          have c1 := keep hb x1
          clear hs hd
          unfold Oper.wp
          generalize a'.eval = ρ at e0 ec ⊢
          simp [go_sem, e0, c0, c1]
          exact hK _ _ (Below.refl _ _) rfl) <|
            allOps_cons (fun _ _ a' w' hb hs hd => rg_op fun K hK => by
          have e0 := (hs.get 2 (by kernel_rfl)).trans (show _ = .int .i64 s from rfl)
          have ec : ∀ v, a'.eval (.const v) = v := fun _ => rfl
          clear hs hd
          unfold Oper.wp
          generalize a'.eval = ρ at e0 ec ⊢
          simp [go_sem, e0]
          exact hK _ _ (Below.refl _ _) rfl) <|
            allOps_cons (fun _ _ a' w' hb hs hd => rg_op fun K hK => by
          have e0 := (hs.get 3 (by kernel_rfl)).trans (show _ = .pointer (some ⟨w.heap.size, 0, none⟩) from rfl)
          have ec : ∀ v, a'.eval (.const v) = v := fun _ => rfl
          have c0 := keep hb l0
          have c1 := keep hb l1
          have c2 := keep hb l2
          clear hs hd
          unfold Oper.wp
          generalize a'.eval = ρ at e0 ec ⊢
          simp [go_sem, e0, c0, c1, c2]
          exact hK _ _ (Below.refl _ _) rfl) <|
            allOps_cons (fun _ _ a' w' hb hs hd => rg_op fun K hK => by
          have e0 := (hs.get 8 (by kernel_rfl)).trans (show _ = .int .i64 k from rfl)
          have ec : ∀ v, a'.eval (.const v) = v := fun _ => rfl
          clear hs hd
          unfold Oper.wp
          generalize a'.eval = ρ at e0 ec ⊢
          simp [go_sem, e0]
          exact hK _ _ (Below.refl _ _) rfl) <|
            allOps_cons (fun _ _ a' w' hb hs hd => by
          exact rg_fn (φ := (mpEq (.int .i64 tr)).p) (vs := #[.agg #[.int .i64 ph, .int .i64 inc, .int .i64 ch], .int .i64 k]) rfl (enters_of Try.func43 (by kernel_rfl) rfl) (by simp [(show a'.eval (.tmp 21) = .agg #[.int .i64 ph, .int .i64 inc, .int .i64 ch] from hd.get 6 21 (by kernel_rfl) (by kernel_rfl)), (show a'.eval (.tmp 22) = .int .i64 k from hd.get 7 22 (by kernel_rfl) (by kernel_rfl))]) ((HT.out w').mono (by rintro e w1 ⟨rfl, h1⟩; exact ⟨_, rfl, h1, rfl⟩))) <|
            allOps_cons (fun _ _ a' w' hb hs hd => rg_op fun K hK => by
          have e0 := (show a'.eval (.tmp 20) = .int .i64 s from hd.get 5 20 (by kernel_rfl) (by kernel_rfl))
          have e1 := (show a'.eval (.tmp 23) = .int .i64 tr from hd.get 8 23 (by kernel_rfl) (by kernel_rfl))
          have ec : ∀ v, a'.eval (.const v) = v := fun _ => rfl
          clear hs hd
          unfold Oper.wp
          generalize a'.eval = ρ at e0 e1 ec ⊢
          simp [go_sem, e0, e1, wk]
          exact hK _ _ (Below.refl _ _) rfl) <|
            allOps_cons (fun _ _ a' w' hb hs hd => by
          exact rg_fn (φ := (mpEq (.agg #[.int .i64 (qRe (s * tr)), .int .i64 (qIm (s * tr))])).p) (vs := #[.int .i64 (s * tr)]) rfl (enters_of Try.func112 (by kernel_rfl) rfl) (by simp [(show a'.eval (.tmp 24) = .int .i64 (s * tr) from hd.get 9 24 (by kernel_rfl) (by kernel_rfl))]) ((HPW.out (s * tr) w').mono (by rintro e w1 ⟨rfl, h1⟩; exact ⟨_, rfl, h1, rfl⟩))) <|
            allOps_cons (fun _ _ a' w' hb hs hd => by
          exact rg_fn (φ := (mpEq (.agg #[.int .i64 U, .int .i64 Z])).p) (vs := #[.agg #[.int .i64 gx, .int .i64 gy], .agg #[.int .i64 (qRe (s * tr)), .int .i64 (qIm (s * tr))]]) rfl (enters_of Try.func71 (by kernel_rfl) rfl) (by simp [(show a'.eval (.tmp 19) = .agg #[.int .i64 gx, .int .i64 gy] from hd.get 4 19 (by kernel_rfl) (by kernel_rfl)), (show a'.eval (.tmp 25) = .agg #[.int .i64 (qRe (s * tr)), .int .i64 (qIm (s * tr))] from hd.get 10 25 (by kernel_rfl) (by kernel_rfl))]) ((HMU.out w').mono (by rintro e w1 ⟨rfl, h1⟩; exact ⟨_, rfl, h1, rfl⟩))) <|
            allOps_cons (fun _ _ a' w' hb hs hd => rg_op fun K hK => by
          have e0 := (show a'.eval (.tmp 26) = .agg #[.int .i64 U, .int .i64 Z] from hd.get 11 26 (by kernel_rfl) (by kernel_rfl))
          have hz := hb.size
          clear hs hd
          unfold Oper.wp
          generalize a'.eval = ρ at e0 hz ⊢
          simp [go_sem, e0]
          exact hK _ _ ((Below.refl _ _).alloc (Nat.le_refl _) _) ⟨_, rfl, hz, by simp [go_sem], by simp [go_sem]⟩) <| allOps_cons (fun h => absurd rfl h) <| allOps_cons (fun _ h => absurd rfl h) <| allOps_nil) (fun V v1 hv1 hall K hK => ?_)
      have h15 : V 15 = u7 := hall.get 0 rfl (by decide) (by decide)
      have h27 : (mpNG wr.heap.size U Z).p (V 27) v1 := hall.get 12 rfl (by decide) (by decide)
      clear hall
      obtain ⟨qn, hq27, hqn, n0, n1⟩ := h27
      have HO1 := own_bel HO.out hv1
      refine wp_append_own _ (.tmp 15) (.tmp 27) 42 rfl (w.heap.size + 1) 23 i0 _ 2 16 undGs hi0 hz0 hz1 hz2 rfl (by decide) u7 k (gV k (mxS s ph inc ch g)) h15 HO1 ⟨qn, 0, none⟩ 1 1 [.int .i64 U, .int .i64 Z] hq27 rfl (news_2 n0 n1) (by simp [Value.oneCell']) (by unfold maxLen; omega) (by omega) (by have := hv1.size; omega) ?_
      intro v' w6 hown' hgrow _
      rw [← HS.out] at hown'
      have HB6 : Hid (Below (w.heap.size + 1) wr w6) := Lib.hid ((hv1.mono (by omega)).trans (app_bel2 (by have := hv1.size; omega) HO1 hgrow))
      have HO6 := Lib.hid hown'
      refine hK _ _ ?_
      simp only [pc1, maskPut, Nat.reduceAdd]
      have hcell : ∀ o v, wr.cell? ⟨w.heap.size, o, none⟩ = some v → w6.cell? ⟨w.heap.size, o, none⟩ = some v := fun o v h => (HB6.out.cell (p := ⟨w.heap.size, o, none⟩) (by show w.heap.size < _; omega)).trans h
      have HL6 := Lib.hid (show _ ∧ _ ∧ _ from ⟨hcell 0 _ l0, hcell 1 _ l1, hcell 2 _ l2⟩)
      have HB7 := Lib.hid (HB.out.trans (HB6.out.mono (by omega)))
      clear hcell hK hv1 hown' hgrow HO1 n0 n1 hq27 hqn h15 l0 l1 l2
      go_wp2
      go_roundw
      case rel => exact ⟨k + 1, by omega, by go_num, HB7.out, HL6.out, HO6.out⟩
      case measure => simp [intOf]; omega
    · obtain rfl : k = n := by omega
      have HGS := Lib.hid (own_GS HO.out)
      go_wp2
      go_ret
      exact ⟨_, rfl, HB.out, HGS.out⟩
end Go.Proofs.Ytpkacfgmojblbaa
