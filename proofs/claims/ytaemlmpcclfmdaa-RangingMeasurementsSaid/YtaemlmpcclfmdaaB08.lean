/- Helpers: statements that leave their order open. No condition but the hypotheses that each theorem names. -/
import Derived.Test.YtaemlmpcclfmdaaB07
import Derived.Laws.Rows
namespace Go.Proofs.Ytaemlmpcclfmdaa
open Go.RowKit
def apA (d : Option Nat) (ao : AO) (σ : ASt) : ASt := ⟨dstU σ.slot d ao.val, nmw σ.name ao.wr⟩
def stL (D : Nat → Option Nat) (A : Nat → AO) (L : Nat → Bool) : Nat → ASt → ASt
  | 0, σ => σ
  | n + 1, σ => bif L n then apA (D n) (A n) (stL D A L n σ) else stL D A L n σ
section
variable {D : Nat → Option Nat} {A : Nat → AO} {L M : Nat → Bool} {σ : ASt}
theorem stL_slot {t : Nat} : ∀ n, (∀ j, j < n → D j = some t → L j = M j) → (stL D A L n σ).slot t = (stL D A M n σ).slot t
  | 0, _ => rfl
  | n + 1, h => by
    have ih := stL_slot n fun j hj => h j (by omega)
    have hn := h n (Nat.lt_succ_self n)
    have key : ∀ b (s : ASt), D n ≠ some t → (bif b then apA (D n) (A n) s else s).slot t = s.slot t := by
      intro b s hne
      cases b with
      | false => rfl
      | true =>
        show dstU s.slot (D n) (A n).val t = s.slot t
        cases hd : D n with
        | none => rfl
        | some d => exact upd_ne _ _ (fun e => hne (by rw [hd, e]))
    unfold stL
    by_cases hd : D n = some t
    · rw [hn hd]
      cases M n with
      | false => exact ih
      | true =>
        show dstU _ (D n) _ t = dstU _ (D n) _ t
        rw [hd]
        show upd _ t _ t = upd _ t _ t
        rw [upd_own, upd_own]
    · rw [key _ _ hd, key _ _ hd]
      exact ih
theorem stL_name {k : Nat} : ∀ n, (∀ j, j < n → k ∈ (A j).wr.map (·.1) → L j = M j) → (stL D A L n σ).name k = (stL D A M n σ).name k
  | 0, _ => rfl
  | n + 1, h => by
    have ih := stL_name n fun j hj => h j (by omega)
    have hn := h n (Nat.lt_succ_self n)
    unfold stL
    by_cases hd : k ∈ (A n).wr.map (·.1)
    · rw [hn hd]
      cases M n with
      | false => exact ih
      | true => exact nmw_in _ _ _ _ (.inr hd)
    · have key : ∀ b (s : ASt), (bif b then apA (D n) (A n) s else s).name k = s.name k := by
        intro b s
        cases b with
        | false => rfl
        | true => exact nmw_out _ _ _ hd
      rw [key, key]
      exact ih
theorem stL_ext : ∀ n, (∀ j, j < n → L j = M j) → stL D A L n σ = stL D A M n σ
  | 0, _ => rfl
  | n + 1, h => by
    unfold stL
    rw [stL_ext n fun j hj => h j (by omega), h n (Nat.lt_succ_self n)]
theorem stL_succ {n : Nat} : stL D A L (n + 1) σ = bif L n then apA (D n) (A n) (stL D A L n σ) else stL D A L n σ := rfl
theorem stL_trunc {i : Nat} : ∀ n, i ≤ n → (∀ j, i ≤ j → j < n → L j = false) → stL D A L n σ = stL D A L i σ
  | 0, hi, _ => by rw [show i = 0 from by omega]
  | n + 1, hi, h => by
    by_cases e : i = n + 1
    · rw [e]
    · rw [stL_succ, h n (by omega) (Nat.lt_succ_self n)]
      exact stL_trunc n (by omega) fun j h1 h2 => h j h1 (by omega)
end
def aoN : AO := ⟨[], [], .dead, []⟩
def rgAOs (P : Program) (hints : Nat → HT) (nx : Nat) (ops : Array Oper) : Nat → List Oper → ASt → List AO
  | _, [], _ => []
  | i, o :: l, σ => match opFull P (hints i) ((nx + i) * 16) σ.slot σ.name ops o with
    | some ao => ao :: rgAOs P hints nx ops (i + 1) l (apA o.dst ao σ)
    | none => []
theorem rgAOs_of {P : Program} {N : Nat} {hints : Nat → HT} {nx : Nat} {ops : Array Oper} : ∀ (l : List Oper) (i : Nat) (σ σ' : ASt) (ps : List Ob), rgRun P N hints nx ops i l σ = some (ps, σ') → 
    (allP ps → ∀ j, j < l.length → allP ((rgAOs P hints nx ops i l σ).getD j aoN).pre) ∧ (∀ j o, l[j]? = some o → okDst N o.dst = true ∧ opFull P (hints (i + j)) ((nx + (i + j)) * 16) (stL (fun j => (l[j]?).bind (·.dst)) (fun j => (rgAOs P hints nx ops i l σ).getD j aoN) (fun _ => true) j σ).slot (stL (fun j => (l[j]?).bind (·.dst)) (fun j => (rgAOs P hints nx ops i l σ).getD j aoN) (fun _ => true) j σ).name ops o = some ((rgAOs P hints nx ops i l σ).getD j aoN)) ∧
    σ' = stL (fun j => (l[j]?).bind (·.dst)) (fun j => (rgAOs P hints nx ops i l σ).getD j aoN) (fun _ => true) l.length σ
  | [], i, σ, σ', ps, e => by
    cases e
    exact ⟨fun _ j hj => absurd hj (Nat.not_lt_zero _), fun j o hj => by simp at hj, rfl⟩
  | o :: l, i, σ, σ', ps, e => by
    unfold rgRun at e
    split at e
    case h_2 => cases e
    rename_i ao hao
    cases hd : okDst N o.dst with
    | false => rw [hd] at e; cases e
    | true =>
    rw [hd] at e
    simp only [cond_true] at e
    split at e
    case h_2 => cases e
    rename_i ps2 σ2 hr
    cases e
    obtain ⟨g1, g2, g3⟩ := rgAOs_of l (i + 1) _ _ _ hr
    have hE : rgAOs P hints nx ops i (o :: l) σ = ao :: rgAOs P hints nx ops (i + 1) l (apA o.dst ao σ) := by
      show (match opFull P (hints i) ((nx + i) * 16) σ.slot σ.name ops o with | some ao => _ | none => _) = _
      rw [hao]
    have hst : ∀ j, stL (fun j => ((o :: l)[j]?).bind (·.dst)) (fun j => (rgAOs P hints nx ops i (o :: l) σ).getD j aoN) (fun _ => true) (j + 1) σ = stL (fun j => (l[j]?).bind (·.dst)) (fun j => (rgAOs P hints nx ops (i + 1) l (apA o.dst ao σ)).getD j aoN) (fun _ => true) j (apA o.dst ao σ) := by
      intro j
      induction j with
      | zero =>
        rw [hE]
        rfl
      | succ j ih =>
        unfold stL
        rw [ih, hE]
        rfl
    refine ⟨fun hp j hj => ?_, fun j o' hj => ?_, ?_⟩
    · obtain ⟨p1, p2⟩ := allP_app hp
      rw [hE]
      cases j with
      | zero => exact p1
      | succ j => exact g1 p2 j (by simpa using hj)
    · cases j with
      | zero =>
        cases hj
        rw [hE]
        exact ⟨hd, hao⟩
      | succ j =>
        have := g2 j o' hj
        rw [hst, hE]
        refine ⟨this.1, ?_⟩
        have h3 := this.2
        rw [show i + 1 + j = i + (j + 1) from by omega] at h3
        exact h3
    · rw [show (o :: l).length = l.length + 1 from rfl, hst]
      exact g3
/-- whom an operation waits for -/
def axDeps (o : Oper) : List Nat := (o.after.toList.filter fun e => Region.binds .any e).map fun e => e.on
def axAnc (ops : Array Oper) : Nat → List Nat → List Nat
  | 0, l => l
  | f + 1, l => l ++ axAnc ops f (l.flatMap fun i => match ops[i]? with | some o => axDeps o | none => [])
def sreads (ops : Array Oper) (o : Oper) : List Nat := tmpsOf o.op ++ (match o.guard with | some (j, _) => (match (ops[j]?).bind (·.dst) with | some d => [d] | none => []) | none => [])
def meet (l m : List Nat) : Bool := l.any (has m)
theorem meet_of {l m : List Nat} {x : Nat} (h1 : x ∈ l) (h2 : x ∈ m) : meet l m = true := List.any_eq_true.2 ⟨x, h1, has_iff.2 h2⟩
def dl (o : Oper) : List Nat := match o.dst with | some d => [d] | none => []
def wl (ao : AO) : List Nat := ao.wr.map (·.1)
def confl (ops : Array Oper) (o : Oper) (ao : AO) (o' : Oper) (ao' : AO) : Bool :=
  meet (dl o) (sreads ops o' ++ dl o') || meet (dl o') (sreads ops o) || meet (wl ao) (ao'.rd ++ wl ao') || meet (wl ao') ao.rd
def okDraw (ops : Array Oper) (aos : List AO) : Bool :=
  allN ops.size (fun j => match ops[j]? with
    | some oj => let anc := axAnc ops ops.size (axDeps oj)
      allN j (fun i => match ops[i]? with | some oi => !confl ops oi (aos.getD i aoN) oj (aos.getD j aoN) || has anc i | none => true)
    | none => true)
def conflS (ops : Array Oper) (o o' : Oper) : Bool := meet (dl o) (sreads ops o' ++ dl o') || meet (dl o') (sreads ops o)
def conflN (ao ao' : AO) : Bool := meet (wl ao) (ao'.rd ++ wl ao') || meet (wl ao') ao.rd
theorem confl_or (ops : Array Oper) (o : Oper) (ao : AO) (o' : Oper) (ao' : AO) : confl ops o ao o' ao' = (conflS ops o o' || conflN ao ao') := by simp [confl, conflS, conflN, Bool.or_assoc]
/-- what of it the code alone says -/
def okDrawS (ops : Array Oper) : Bool :=
  allN ops.size (fun j => match ops[j]? with
    | some oj => let anc := axAnc ops ops.size (axDeps oj)
      allN j (fun i => match ops[i]? with | some oi => !conflS ops oi oj || has anc i | none => true)
    | none => true)
def isE (l : List (Nat × AB)) : Bool := match l with | [] => true | _ => false
def okDrawN (ops : Array Oper) (aos : List AO) : Bool :=
  aos.all (fun ao => isE ao.wr) || allN ops.size (fun j => match ops[j]? with
    | some oj => let anc := axAnc ops ops.size (axDeps oj)
      allN j (fun i => match ops[i]? with | some _ => !conflN (aos.getD i aoN) (aos.getD j aoN) || has anc i | none => true)
    | none => true)
theorem isE_wl {ao : AO} (h : isE ao.wr = true) : wl ao = [] := by
  unfold isE at h
  split at h
  · rename_i q; simp [wl, q]
  · cases h
theorem getD_wl {aos : List AO} (h : aos.all (fun ao => isE ao.wr) = true) (i : Nat) : wl (aos.getD i aoN) = [] := by
  rcases Nat.lt_or_ge i aos.length with q | q
  · rw [List.getD_eq_getElem?_getD, List.getElem?_eq_getElem q]
    exact isE_wl (List.all_eq_true.1 h _ (List.getElem_mem q))
  · rw [List.getD_eq_getElem?_getD, List.getElem?_eq_none q]; rfl
theorem okDraw_mk {ops : Array Oper} {aos : List AO} (h1 : okDrawS ops = true) (h2 : okDrawN ops aos = true) : okDraw ops aos = true := by
  unfold okDrawN at h2
  refine List.all_eq_true.2 fun j hj => ?_
  have g1 := allN_iff h1 j (List.mem_range.1 hj)
  cases hoj : ops[j]? with
  | none => rfl
  | some oj =>
    rw [hoj] at g1
    simp only at g1 ⊢
    refine List.all_eq_true.2 fun i hi => ?_
    have g2 := allN_iff g1 i (List.mem_range.1 hi)
    cases hoi : ops[i]? with
    | none => rfl
    | some oi =>
      rw [hoi] at g2
      simp only at g2 ⊢
      rw [confl_or]
      have g3 : (!conflN (aos.getD i aoN) (aos.getD j aoN) || has (axAnc ops ops.size (axDeps oj)) i) = true := by
        rcases (Bool.or_eq_true _ _).mp h2 with q | q
        · have : conflN (aos.getD i aoN) (aos.getD j aoN) = false := by unfold conflN; rw [getD_wl q, getD_wl q]; rfl
          rw [this]; rfl
        · have q1 := allN_iff q j (List.mem_range.1 hj)
          rw [hoj] at q1
          have q2 := allN_iff q1 i (List.mem_range.1 hi)
          rw [hoi] at q2
          exact q2
      cases c1 : conflS ops oi oj <;> cases c2 : conflN (aos.getD i aoN) (aos.getD j aoN) <;> simp_all
def lowDeps (ops : Array Oper) : Bool := allN ops.size (fun i => match ops[i]? with | some o => (axDeps o).all (fun j => Nat.blt j i) | none => true)
def dwOkA (ops : Array Oper) (aos : List AO) : Bool := lowDeps ops && okDrawS ops && okDrawN ops aos && aos.all (fun ao => !has ao.rd magN)
theorem okDraw_of {ops : Array Oper} {aos : List AO} (h : okDraw ops aos = true) {i j : Nat} {oi oj : Oper} (hij : i < j) (hi : ops[i]? = some oi) (hj : ops[j]? = some oj) (hc : confl ops oi (aos.getD i aoN) oj (aos.getD j aoN) = true) : i ∈ axAnc ops ops.size (axDeps oj) := by
  have hjs : j < ops.size := by
    rcases Nat.lt_or_ge j ops.size with q | q
    · exact q
    · rw [Array.getElem?_eq_none q] at hj; cases hj
  have h1 := allN_iff h j hjs
  simp only [hj] at h1
  have h2 := allN_iff h1 i hij
  simp only [hi, hc, Bool.not_true, Bool.false_or] at h2
  exact has_iff.1 h2
def AClosed (ops : Array Oper) (L : Nat → Bool) : Prop := ∀ (i : Nat) (o : Oper), ops[i]? = some o → L i = true → ∀ j ∈ axDeps o, L j = true
theorem axAnc_in {ops : Array Oper} {L : Nat → Bool} (hc : AClosed ops L) : ∀ (f : Nat) (l : List Nat), (∀ i ∈ l, L i = true) → ∀ i ∈ axAnc ops f l, L i = true
  | 0, _, h => h
  | f + 1, l, h => by
    intro i hi
    rcases List.mem_append.1 hi with hi | hi
    · exact h i hi
    · refine axAnc_in hc f _ ?_ i hi
      intro j hj
      obtain ⟨k, hk, hjk⟩ := List.mem_flatMap.1 hj
      cases ho : ops[k]? with
      | none => rw [ho] at hjk; cases hjk
      | some o => rw [ho] at hjk; exact hc k o ho (h k hk) j hjk
theorem opFull_loc {P : Program} {hint : HT} {nm : Nat} {s s' : Nat → AV} {ν ν' : Nat → AB} {ops : Array Oper} {o : Oper} {ao : AO} (hs : ∀ t, t ∈ sreads ops o → s' t = s t) (e : opFull P hint nm s ν ops o = some ao) (hm : has ao.rd magN = false) (h : Agree ν ν' ao.rd) : opFull P hint nm s' ν' ops o = some ao := by
  have h1 : ∀ ν, opI P hint nm s' ν o.op = opI P hint nm s ν o.op := fun ν => opI_slots (opv_agree fun t ht => hs t (List.mem_append.2 (.inl ht)))
  unfold opFull at e ⊢
  have key : ∀ c, grdO c (opI P hint nm s ν o.op) = some ao → grdO c (opI P hint nm s' ν' o.op) = some ao := by
    intro c e
    rw [h1]
    cases hr : opI P hint nm s ν o.op with
    | none =>
      rw [hr] at e
      cases c with
      | true => cases e
      | false => cases e; exact absurd hm (by simp [noA, has])
    | some ao0 =>
      rw [hr] at e
      have hrd : ao.rd = ao0.rd := by
        simp only [grdO, grd] at e
        split at e
        · cases e; rfl
        · cases c with
          | true => simp only [cond_true] at e; cases e; rfl
          | false => simp only [cond_false] at e; cases e; rfl
      rw [opI_loc hr (by rw [← hrd]; exact h)]
      exact e
  cases hg : o.guard with
  | none =>
    rw [hg] at e
    simp only at e ⊢
    rw [h1]
    exact opI_loc e h
  | some g =>
    obtain ⟨j, want⟩ := g
    rw [hg] at e
    simp only at e ⊢
    cases hd : (ops[j]?).bind (·.dst) with
    | none => rw [hd] at e; cases e
    | some d =>
      rw [hd] at e
      simp only at e ⊢
      rw [hs d (List.mem_append.2 (.inr (by rw [hg]; simp only [hd]; simp)))]
      cases hv : s d with
      | v x =>
        rw [hv] at e
        cases x <;> first | exact key _ e | cases e
      | gd b x =>
        rw [hv] at e
        have hno : (bif b then none else some noA) = some ao → False := by
          intro e
          cases b with
          | true => cases e
          | false => cases e; exact absurd hm (by simp [noA, has])
        cases x with
        | v y => cases y <;> first | exact key _ e | exact (hno e).elim
        | _ => exact (hno e).elim
      | _ => rw [hv] at e; cases e
theorem allTrue_listed {ops : Array Oper} {listed : Array Bool} (hsz : listed.size = ops.size) (hlow : ∀ (i : Nat) (o : Oper), ops[i]? = some o → ∀ j ∈ axDeps o, j < i) (hr : Region.ready .any ops listed = []) : ∀ n i, i < n → i < ops.size → listed.getD i false = true := by
  intro n
  induction n with
  | zero => intro i hi; omega
  | succ n ih =>
    intro i hi hs
    rcases Nat.lt_or_eq_of_le (Nat.le_of_lt_succ hi) with h1 | rfl
    · exact ih i h1 hs
    · have ho : ops[i]? = some ops[i] := Array.getElem?_eq_getElem hs
      cases hc : listed.getD i false with
      | true => rfl
      | false =>
        exfalso
        have hm : i ∈ Region.ready .any ops listed := by
          unfold Region.ready
          refine List.mem_filter.2 ⟨List.mem_range.2 hs, ?_⟩
          have h2 : listed.getD i true = false := by
            have hz : i < listed.size := by omega
            simp [Array.getD, hz] at hc ⊢
            exact hc
          rw [h2, ho]
          simp only [Bool.not_false, Bool.true_and, Option.map_some, Option.getD_some]
          rw [Array.all_eq_true_iff_forall_mem]
          intro e he
          cases hbd : Region.binds .any e with
          | false => simp
          | true =>
            have hj := hlow i _ ho e.on (List.mem_map.2 ⟨e, List.mem_filter.2 ⟨by simpa using he, hbd⟩, rfl⟩)
            have := ih e.on hj (by omega)
            simp [this]
        rw [hr] at hm
        cases hm
theorem lowDeps_of {ops : Array Oper} (h : lowDeps ops = true) : ∀ (i : Nat) (o : Oper), ops[i]? = some o → ∀ j ∈ axDeps o, j < i := by
  intro i o ho j hj
  have his : i < ops.size := by
    rcases Nat.lt_or_ge i ops.size with q | q
    · exact q
    · rw [Array.getElem?_eq_none q] at ho; cases ho
  have := allN_iff h i his
  simp only [ho] at this
  exact blt_iff (List.all_eq_true.1 this j hj)
def dwOk (P : Program) (hints : Nat → HT) (nx : Nat) (ops : Array Oper) (σ : ASt) : Bool := dwOkA ops (rgAOs P hints nx ops 0 ops.toList σ)
theorem filter_len_lt' {p q : Nat → Bool} {i : Nat} (hpq : ∀ x, q x = true → p x = true) (hp : p i = true) (hq : q i = false) : ∀ {l : List Nat}, i ∈ l → (l.filter q).length < (l.filter p).length
  | [], h => by cases h
  | x :: l, h => by
    have le : ∀ l : List Nat, (l.filter q).length ≤ (l.filter p).length := by
      intro l
      induction l with
      | nil => simp
      | cons y l ih =>
        cases hy : q y with
        | true => simp [hy, hpq y hy]; exact ih
        | false =>
          cases hz : p y with
          | true => simp [hy, hz]; omega
          | false => simp [hy, hz]; exact ih
    rcases List.mem_cons.1 h with rfl | h
    · simp [hp, hq]
      have := le l
      omega
    · have ih := filter_len_lt' hpq hp hq h
      cases hy : q x with
      | true => simp [hy, hpq x hy]; exact ih
      | false =>
        cases hz : p x with
        | true => simp [hy, hz]; omega
        | false => simp [hy, hz]; exact ih
section
variable {P : Program} {S0 : Addr → Prop} {mm : Nat} {w0 : Bs mm} {N : Nat} {Q : Exit → Act → World → Prop}
theorem draw_any {ro : Option Nat} {hints : Nat → HT} {nx : Nat} {ops : Array Oper} {σ σ' : ASt} {ps : List Ob} (hr : rgRun P N hints nx ops 0 ops.toList σ = some (ps, σ')) (hp : allP ps) (hok : dwOk P hints nx ops σ = true)
    (hq : ∀ a w, Rel S0 w0 N (fun k => k < (nx + ops.size) * 16) σ' a w → Q .normal a w) : ∀ (fuel : Nat) (listed : Array Bool) (a : Act) (w : World), listed.size = ops.size → AClosed ops (fun i => listed.getD i false) →
      Rel S0 w0 N (fun k => k < nx * 16 ∨ ∃ i, i < ops.size ∧ listed.getD i false = true ∧ nmR ((nx + i) * 16) k) (stL (fun j => (ops.toList[j]?).bind (·.dst)) (fun j => (rgAOs P hints nx ops 0 ops.toList σ).getD j aoN) (fun i => listed.getD i false) ops.size σ) a w →
      ((List.range ops.size).filter fun i => !listed.getD i true).length ≤ fuel → wpAnyIn (fnc ro) 0 P .any ops Q fuel listed a w := by
  obtain ⟨g1, g2, g3⟩ := rgAOs_of _ _ _ _ _ hr
  simp only [dwOk, dwOkA, Bool.and_eq_true] at hok
  obtain ⟨⟨⟨hlow0, hdr1⟩, hdr2⟩, hmag⟩ := hok
  have hdr := okDraw_mk hdr1 hdr2
  have hlow := lowDeps_of hlow0
  have g1' := g1 hp
  have hlen : ops.toList.length = ops.size := by simp
  generalize hA : (fun j : Nat => (rgAOs P hints nx ops 0 ops.toList σ).getD j aoN) = A at *
  generalize hD : (fun j : Nat => (ops.toList[j]?).bind (fun o : Oper => o.dst)) = D at *
  have hDi : ∀ i o, ops[i]? = some o → D i = o.dst := by
    intro i o ho
    rw [← hD]
    simp [ho]
  have full : ∀ (listed : Array Bool) (a : Act) (w : World), listed.size = ops.size → Rel S0 w0 N (fun k => k < nx * 16 ∨ ∃ i, i < ops.size ∧ listed.getD i false = true ∧ nmR ((nx + i) * 16) k) (stL D A (fun i => listed.getD i false) ops.size σ) a w → Region.ready .any ops listed = [] → Q .normal a w := by
    rintro listed a w hsz ⟨S, κ, h⟩ hrd
    have hall := allTrue_listed hsz hlow hrd
    refine hq a w ⟨S, κ, ?_⟩
    rw [g3, hlen, ← stL_ext (L := fun i => listed.getD i false) ops.size (fun j hj => hall (j + 1) j (by omega) hj)]
    exact h.more fun k hk => by rcases hk with q | ⟨i, q1, _, q3, q4⟩ <;> omega
  intro fuel
  induction fuel with
  | zero =>
    intro listed a w hsz hcl h hm
    have hrd : Region.ready .any ops listed = [] := by
      rcases hq : Region.ready .any ops listed with _ | ⟨i, l⟩
      · rfl
      · exfalso
        have hi : i ∈ Region.ready .any ops listed := by rw [hq]; simp
        unfold Region.ready at hi
        obtain ⟨h1, h2⟩ := List.mem_filter.1 hi
        have h3 : (!listed.getD i true) = true := by
          simp only [Bool.and_eq_true] at h2
          exact h2.1
        have : i ∈ (List.range ops.size).filter fun i => !listed.getD i true := List.mem_filter.2 ⟨h1, h3⟩
        have := List.length_pos_of_mem this
        omega
    exact ⟨hrd, full _ _ _ hsz h hrd⟩
  | succ fuel ih =>
    intro listed a w hsz hcl h hm
    refine ⟨fun hrd => full _ _ _ hsz h hrd, fun i hi => ?_⟩
    unfold Region.ready at hi
    obtain ⟨h1, h2⟩ := List.mem_filter.1 hi
    simp only [Bool.and_eq_true] at h2
    obtain ⟨h3, h4⟩ := h2
    have hsi : i < ops.size := List.mem_range.1 h1
    have ho : ops[i]? = some ops[i] := Array.getElem?_eq_getElem hsi
    generalize ops[i] = o at ho
    rw [ho] at h4
    simp only [Option.map_some, Option.getD_some] at h4
    rw [Array.all_eq_true_iff_forall_mem] at h4
    have hzi : i < listed.size := by omega
    have hun : listed.getD i false = false := by
      simp [Array.getD, hzi] at h3 ⊢
      exact h3
    have hdeps : ∀ j ∈ axDeps o, listed.getD j false = true := by
      intro j hj
      obtain ⟨e, he, rfl⟩ := List.mem_map.1 hj
      obtain ⟨he1, he2⟩ := List.mem_filter.1 he
      have := h4 e (by simpa using he1)
      rw [he2] at this
      simpa using this
    have hanc : ∀ j ∈ axAnc ops ops.size (axDeps o), listed.getD j false = true := axAnc_in (L := fun i => listed.getD i false) hcl _ _ hdeps
    have hancj : ∀ j oj, ops[j]? = some oj → listed.getD j false = true → ∀ k ∈ axAnc ops ops.size (axDeps oj), listed.getD k false = true := fun j oj hj hl => axAnc_in (L := fun i => listed.getD i false) hcl _ _ (hcl j oj hj hl)
    have hol : ops.toList[i]? = some o := by simpa using ho
    obtain ⟨hod, hfull⟩ := g2 i o hol
    simp only [Nat.zero_add] at hfull
    rw [show (rgAOs P hints nx ops 0 ops.toList σ).getD i aoN = A i from congrFun hA i] at hfull
    have hAi : (rgAOs P hints nx ops 0 ops.toList σ).getD i aoN = A i := congrFun hA i
    have hAj : ∀ j, (rgAOs P hints nx ops 0 ops.toList σ).getD j aoN = A j := fun j => congrFun hA j
    have hmg : has (A i).rd magN = false := by
      rw [← hAi]
      rcases Nat.lt_or_ge i (rgAOs P hints nx ops 0 ops.toList σ).length with q | q
      · have := List.all_eq_true.1 hmag _ (List.getElem_mem q)
        rw [List.getD_eq_getElem?_getD, List.getElem?_eq_getElem q]
        simpa using this
      · rw [List.getD_eq_getElem?_getD, List.getElem?_eq_none q]; rfl
    -- who may conflict
    have hconf : ∀ j oj, j ≠ i → ops[j]? = some oj → (confl ops oj (A j) o (A i) = true ∧ j < i → listed.getD j false = true) ∧ (confl ops o (A i) oj (A j) = true ∧ i < j → listed.getD j false = false) := by
      intro j oj hji hj
      refine ⟨fun ⟨hc, hlt⟩ => hanc j (okDraw_of hdr hlt hj ho (by rw [hAj, hAj]; exact hc)), fun ⟨hc, hlt⟩ => ?_⟩
      cases hl : listed.getD j false with
      | false => rfl
      | true =>
        have := hancj j oj hj hl i (okDraw_of hdr hlt ho hj (by rw [hAj, hAj]; exact hc))
        rw [hun] at this
        cases this
    have hsome : ∀ j, j < ops.size → ∃ oj, ops[j]? = some oj := fun j hj => ⟨ops[j], Array.getElem?_eq_getElem hj⟩
    have hpre : stL D A (fun _ => true) i σ = stL D A (fun j => decide (j < i)) ops.size σ := by
      rw [stL_trunc (i := i) ops.size (by omega) (fun j h1 _ => by simp; omega)]
      exact stL_ext i (fun j hj => by simp [hj])
    have hfl : opFull P (hints i) ((nx + i) * 16) (stL D A (fun i => listed.getD i false) ops.size σ).slot (stL D A (fun i => listed.getD i false) ops.size σ).name ops o = some (A i) := by
      refine opFull_loc (s := (stL D A (fun _ => true) i σ).slot) (ν := (stL D A (fun _ => true) i σ).name) ?_ hfull hmg ?_
      · intro t ht
        rw [hpre]
        refine stL_slot ops.size fun j hj hd => ?_
        obtain ⟨oj, hoj⟩ := hsome j hj
        have hdj : oj.dst = some t := by rw [← hDi j oj hoj]; exact hd
        by_cases hji : j = i
        · subst hji; simp [hun]
        · have hdl : t ∈ dl oj := by unfold dl; rw [hdj]; simp
          rcases Nat.lt_or_gt_of_ne hji with q | q
          · rw [(hconf j oj hji hoj).1 ⟨by unfold confl; rw [meet_of hdl (List.mem_append.2 (.inl ht))]; simp, q⟩]
            simp [q]
          · rw [(hconf j oj hji hoj).2 ⟨by unfold confl; rw [meet_of hdl ht]; simp, q⟩]
            simp; omega
      · intro k hk
        rw [hpre]
        refine stL_name ops.size fun j hj hd => ?_
        obtain ⟨oj, hoj⟩ := hsome j hj
        by_cases hji : j = i
        · subst hji; simp [hun]
        · rcases Nat.lt_or_gt_of_ne hji with q | q
          · rw [(hconf j oj hji hoj).1 ⟨by unfold confl; rw [meet_of (show k ∈ wl (A j) from hd) (List.mem_append.2 (.inl hk))]; simp, q⟩]
            simp [q]
          · rw [(hconf j oj hji hoj).2 ⟨by unfold confl; rw [meet_of (show k ∈ wl (A j) from hd) hk]; simp, q⟩]
            simp; omega
    have hset : ∀ j, (listed.setIfInBounds i true).getD j false = (decide (j = i) || listed.getD j false) := by
      intro j
      by_cases e : j = i
      · subst e; simp [Array.getD_eq_getD_getElem?, hzi]
      · simp [Array.getD_eq_getD_getElem?, Ne.symm e, e]
    -- the state behind it
    have hnew : apA o.dst (A i) (stL D A (fun i => listed.getD i false) ops.size σ) = stL D A (fun j => (listed.setIfInBounds i true).getD j false) ops.size σ := by
      have hsl : ∀ t, (apA o.dst (A i) (stL D A (fun i => listed.getD i false) ops.size σ)).slot t = (stL D A (fun j => (listed.setIfInBounds i true).getD j false) ops.size σ).slot t := by
        intro t
        by_cases hdt : o.dst = some t
        · have h5 : (stL D A (fun j => (listed.setIfInBounds i true).getD j false) ops.size σ).slot t = (stL D A (fun j => decide (j < i + 1)) ops.size σ).slot t := by
            refine stL_slot ops.size fun j hj hd => ?_
            rw [hset]
            obtain ⟨oj, hoj⟩ := hsome j hj
            have hdj : oj.dst = some t := by rw [← hDi j oj hoj]; exact hd
            by_cases hji : j = i
            · subst hji; simp
            · have hdl : t ∈ dl oj := by unfold dl; rw [hdj]; simp
              have hdl2 : t ∈ dl o := by unfold dl; rw [hdt]; simp
              rcases Nat.lt_or_gt_of_ne hji with q | q
              · rw [(hconf j oj hji hoj).1 ⟨by unfold confl; rw [meet_of hdl (List.mem_append.2 (.inr hdl2))]; simp, q⟩]
                simp [hji]; omega
              · rw [(hconf j oj hji hoj).2 ⟨by unfold confl; rw [meet_of hdl2 (List.mem_append.2 (.inr hdl))]; simp, q⟩]
                simp [hji]; omega
          have h8 : stL D A (fun j => decide (j < i + 1)) ops.size σ = stL D A (fun j => decide (j < i + 1)) (i + 1) σ := stL_trunc ops.size (by omega) (fun j h1 _ => by simp; omega)
          rw [h5, h8, stL_succ, show decide (i < i + 1) = true from by simp]
          show dstU _ o.dst _ t = dstU _ (D i) _ t
          rw [hDi i o ho, hdt]
          show upd _ t _ t = upd _ t _ t
          rw [upd_own, upd_own]
        · have h5 : (apA o.dst (A i) (stL D A (fun i => listed.getD i false) ops.size σ)).slot t = (stL D A (fun i => listed.getD i false) ops.size σ).slot t := by
            show dstU _ o.dst _ t = _
            cases hd : o.dst with
            | none => rfl
            | some d => exact upd_ne _ _ (fun e => hdt (by rw [hd, e]))
          rw [h5]
          refine stL_slot ops.size fun j hj hd => ?_
          rw [hset]
          by_cases hji : j = i
          · subst hji
            rw [hDi j o ho] at hd
            exact absurd hd hdt
          · simp [hji]
      have hnm : ∀ k, (apA o.dst (A i) (stL D A (fun i => listed.getD i false) ops.size σ)).name k = (stL D A (fun j => (listed.setIfInBounds i true).getD j false) ops.size σ).name k := by
        intro k
        by_cases hdk : k ∈ (A i).wr.map (·.1)
        · have h5 : (stL D A (fun j => (listed.setIfInBounds i true).getD j false) ops.size σ).name k = (stL D A (fun j => decide (j < i + 1)) ops.size σ).name k := by
            refine stL_name ops.size fun j hj hd => ?_
            rw [hset]
            obtain ⟨oj, hoj⟩ := hsome j hj
            by_cases hji : j = i
            · subst hji; simp
            · rcases Nat.lt_or_gt_of_ne hji with q | q
              · rw [(hconf j oj hji hoj).1 ⟨by unfold confl; rw [meet_of (show k ∈ wl (A j) from hd) (List.mem_append.2 (.inr (show k ∈ wl (A i) from hdk)))]; simp, q⟩]
                simp [hji]; omega
              · rw [(hconf j oj hji hoj).2 ⟨by unfold confl; rw [meet_of (show k ∈ wl (A i) from hdk) (List.mem_append.2 (.inr (show k ∈ wl (A j) from hd)))]; simp, q⟩]
                simp [hji]; omega
          have h8 : stL D A (fun j => decide (j < i + 1)) ops.size σ = stL D A (fun j => decide (j < i + 1)) (i + 1) σ := stL_trunc ops.size (by omega) (fun j h1 _ => by simp; omega)
          rw [h5, h8, stL_succ, show decide (i < i + 1) = true from by simp]
          exact nmw_in _ _ _ _ (.inr hdk)
        · rw [show (apA o.dst (A i) (stL D A (fun i => listed.getD i false) ops.size σ)).name k = (stL D A (fun i => listed.getD i false) ops.size σ).name k from nmw_out _ _ _ hdk]
          refine stL_name ops.size fun j hj hd => ?_
          rw [hset]
          by_cases hji : j = i
          · subst hji; exact absurd hd hdk
          · simp [hji]
      have h6 := funext hsl
      have h7 := funext hnm
      calc _ = (⟨(apA o.dst (A i) (stL D A (fun i => listed.getD i false) ops.size σ)).slot, (apA o.dst (A i) (stL D A (fun i => listed.getD i false) ops.size σ)).name⟩ : ASt) := rfl
        _ = _ := by rw [h6, h7]
    obtain ⟨S, κ, h⟩ := h
    have hk : ∀ k, nmR ((nx + i) * 16) k → κ k = none := by
      intro k hk0
      cases hκ : κ k with
      | none => rfl
      | some q =>
        have hk1 := hk0.1
        have hk2 := hk0.2
        rcases h.used k (by rw [hκ]; exact fun q => by cases q) with q | ⟨j, q1, q2, q3, q4⟩
        · omega
        · obtain rfl : j = i := by omega
          rw [hun] at q2
          cases q2
    have hd' : ∀ t, o.dst = some t → t < N := by
      intro t ht
      rw [ht] at hod
      exact blt_iff hod
    have hgo := opFull_ok (ro := ro) (P := P) (Q := Q) h hk hd' hfl (show allP (A i).pre from (by have := g1' i (by omega); rw [show (rgAOs P hints nx ops 0 ops.toList σ).getD i aoN = A i from congrFun hA i] at this; exact this))
    have hmiss : ((List.range ops.size).filter fun j => !(listed.setIfInBounds i true).getD j true).length ≤ fuel := by
      have : ((List.range ops.size).filter fun j => !(listed.setIfInBounds i true).getD j true).length < ((List.range ops.size).filter fun j => !listed.getD j true).length := by
        refine filter_len_lt' (i := i) ?_ h3 ?_ h1
        · intro x hx
          by_cases hxi : i = x
          · subst hxi
            simp [Array.getD_eq_getD_getElem?, hzi] at hx
          · simpa [Array.getD_eq_getD_getElem?, Array.getElem?_setIfInBounds, hxi] using hx
        · simp [Array.getD_eq_getD_getElem?, hzi]
      omega
    have hrest : ∀ a' w', Aft S0 w0 N (fun k => k < nx * 16 ∨ ∃ i, i < ops.size ∧ listed.getD i false = true ∧ nmR ((nx + i) * 16) k) (stL D A (fun i => listed.getD i false) ops.size σ) ((nx + i) * 16) o.dst (A i).val (A i).wr a' w' → wpAnyIn (fnc ro) 0 P .any ops Q fuel (listed.setIfInBounds i true) a' w' := by
      rintro a' w' ⟨S', κ', h'⟩
      refine ih _ a' w' (by simp [hsz]) ?_ ?_ hmiss
      · intro j oj hj hl k hk
        simp only [hset] at hl ⊢
        by_cases hji : j = i
        · subst hji
          rw [ho] at hj
          cases hj
          simp [hdeps k hk]
        · have hl2 : listed.getD j false = true := by
            rw [show decide (j = i) = false from by simp [hji], Bool.false_or] at hl
            exact hl
          have := hcl j oj hj hl2 k hk
          simp only at this
          rw [this, Bool.or_true]
      · rw [← hnew]
        refine ⟨S', κ', h'.more ?_⟩
        rintro k ((q | ⟨j, q1, q2, q3⟩) | q)
        · exact .inl q
        · exact .inr ⟨j, q1, by rw [hset, q2]; simp, q3⟩
        · exact .inr ⟨i, hsi, by rw [hset]; simp, q⟩
    unfold wpOpIn
    rw [ho]
    simp only
    unfold Does at hgo
    by_cases hw : Region.wanted o (yielded ops a.tmps) = true
    · rw [if_pos hw] at hgo ⊢
      exact wpIn_op_mono hrest hgo
    · rw [if_neg hw] at hgo ⊢
      exact ⟨fun _ _ => trivial, hrest _ _ hgo⟩
theorem rg_draw {ro : Option Nat} {hints : Nat → HT} {nx : Nat} {ops : Array Oper} {σ : ASt} {a : Act} {w : World} (hm : P.follows .mixedOrders = true) (hp : rgPre P N hints nx ops σ) (hok : dwOk P hints nx ops σ = true) (h : Rel S0 w0 N (fun k => k < nx * 16) σ a w)
    (hq : ∀ a w, Rel S0 w0 N (fun k => k < (nx + ops.size) * 16) (rgSt P N hints nx ops σ) a w → Q .normal a w) (id : Nat) : (Code.region id ops true).wpIn (fnc ro) 0 P Q a w := by
  refine wpIn_region_any hm ?_
  unfold rgPre at hp
  unfold rgSt at hq
  split at hp
  · rename_i ps σ' hr
    simp only [hr] at hq
    obtain ⟨S, κ, h⟩ := h
    have hrep : ∀ i, (Array.replicate ops.size false).getD i false = false := by
      intro i
      rw [Array.getD_eq_getD_getElem?, Array.getElem?_replicate]
      split <;> rfl
    have hdrew : RelX S0 w0 N (fun k => k < nx * 16) σ a { w with drawn := w.drawn + 1 } S κ :=
      h.step (nm := σ.name) (U' := fun k => k < nx * 16) ⟨rfl, rfl, rfl, Nat.le_refl _, fun _ _ _ => rfl⟩ (fun _ h => h) (fun _ h => .inl h) h.dfn (fun _ _ h => h) h.used (fun _ _ => rfl) h.inj (fun k => RdB.keep (h.names k) (fun _ h => h) (fun _ _ h => h) (fun _ _ => rfl) (fun _ _ => ⟨rfl, fun _ h => h⟩)) (fun _ _ h => h)
    refine draw_any hr hp hok hq ops.size _ a _ (by simp) (fun i o _ hl => absurd ((hrep i).symm.trans hl) (by simp)) ⟨S, κ, ?_⟩ ?_
    · rw [stL_ext (M := fun _ => false) ops.size (fun j _ => hrep j), stL_trunc (i := 0) ops.size (Nat.zero_le _) (fun _ _ _ => rfl)]
      exact hdrew.more fun k hk => .inl hk
    · have := List.length_filter_le (fun i => !(Array.replicate ops.size false).getD i true) (List.range ops.size)
      simpa using this
  · exact hp.elim
end
section
variable {P : Program} {S0 : Addr → Prop} {mm : Nat} {w0 : Bs mm} {N : Nat} {nx : Nat} {σ : ASt} {K : AK}
theorem AW.draw {id : Nat} {ops : Array Oper} (hm : P.follows .mixedOrders = true) (hints : Nat → AV) (hok : dwOk P (hA hints) nx ops σ = true) (hp : RPre P N (hA hints) nx ops σ) (h : K .normal (nx + ops.size) (rgSt P N (hA hints) nx ops σ)) : AW P S0 w0 N (.region id ops true) nx σ K :=
  ⟨fun _ _ _ _ hr => rg_draw hm hp.out hok hr (fun _ _ hr' => ⟨_, _, h, hr'⟩) id⟩
theorem AW.drawM {id : Nat} {ops : Array Oper} (hm : P.follows .mixedOrders = true) (hints : Nat → HT) (hok : dwOk P hints nx ops σ = true) (hp : RPre P N hints nx ops σ) (h : K .normal (nx + ops.size) (rgSt P N hints nx ops σ)) : AW P S0 w0 N (.region id ops true) nx σ K :=
  ⟨fun _ _ _ _ hr => rg_draw hm hp.out hok hr (fun _ _ hr' => ⟨_, _, h, hr'⟩) id⟩
end
def iv (n : Int) : AV := .v (.int .i64 n)
def bv (b : Bool) : AV := .v (.bool b)
def noH : Nat → AV := fun _ => .dead
/-- rows of whole numbers -/
def zv (z : Nat) (q : Nat → Int) : AV := .agg z (vec (lst z fun j => iv (q j)))
def zsl (z n : Nat) (p : Nat → Nat → Int) : AV := .sl z n (fun i j => iv (p i j))
/-- numbers, pairs of numbers -/
def isl (n : Nat) (a : Nat → Int) : AV := .sl 1 n (fun i _ => iv (a i))
def joinK (S0 : Addr → Prop) {mm : Nat} (w0 : Bs mm) (N : Nat) (nx0 : Nat) (J : ASt → Prop) (K : AK) : AK := fun e nx σ => match e with | .normal => ∃ σ', J σ' ∧ Wk S0 w0 N nx σ nx0 σ' | e => K e nx σ
section
variable {P : Program} {S0 : Addr → Prop} {mm : Nat} {w0 : Bs mm} {N : Nat} {nx : Nat} {σ : ASt} {K : AK}
/-- all ways meet -/
theorem AW.cut {x y : Code} (J : ASt → Prop) (nx0 : Nat) (h1 : AW P S0 w0 N x nx σ (joinK S0 w0 N nx0 J K)) (h2 : ∀ σ, J σ → AW P S0 w0 N y nx0 σ K) : AW P S0 w0 N (.seq x y) nx σ K := by
  refine AW.seq (AW.mono h1 ?_)
  intro e nx' σ' hk
  cases e with
  | normal =>
    obtain ⟨σ2, g1, g2⟩ := hk
    exact AW.weak g2 (h2 σ2 g1)
  | exit id => exact hk
  | goto l => exact hk
  | ret => exact hk
  | panic c => exact hk
  | outgrown => exact hk
end
/-- one more element behind the others -/
theorem ABle.app1 {z n : Nat} {g gs g' : Nat → Nat → AV} {sd : Bool} (e : lst z (gs 0) = lst z (g' n)) (hg : ∀ i, i < n → ∀ j, j < z → g i j = g' i j) : ABle (.own z (n + 1) (appG n 1 g gs) sd) (.own z (n + 1) g' sd) := by
  refine ABle.own fun i hi j hj => le_eq ?_
  unfold appG
  by_cases h : i < n
  · rw [blt_t h]; exact hg i h j hj
  · obtain rfl : i = n := by omega
    rw [blt_f (Nat.le_refl _)]
    have h1 := congrArg (fun l => l.getD j AV.dead) e
    simp only [lst_getD hj] at h1
    exact h1
theorem le_aggL {n : Nat} {h h' : Nat → AV} (e : lst n h = lst n h') : AV.le (.agg n h) (.agg n h') := AV.le_agg fun i hi => le_eq (by
  have h1 := congrArg (fun l => l.getD i AV.dead) e
  simp only [lst_getD hi] at h1
  exact h1)
def LeL : List AV → List AV → Prop
  | [], [] => True
  | x :: l, y :: m => AV.le x y ∧ LeL l m
  | _, _ => False
theorem LeL.of : ∀ {l m : List AV}, LeL l m → m.length = l.length ∧ ∀ i, i < l.length → AV.le (l.getD i .dead) (m.getD i .dead)
  | [], [], _ => ⟨rfl, fun i hi => absurd hi (Nat.not_lt_zero _)⟩
  | x :: l, y :: m, h => by
    obtain ⟨h1, h2⟩ := LeL.of h.2
    refine ⟨by simp [h1], fun i hi => ?_⟩
    cases i with
    | zero => exact h.1
    | succ i => exact h2 i (by simpa using hi)
  | [], _ :: _, h => h.elim
  | _ :: _, [], h => h.elim
theorem PC.w {P : Program} {f : FuncId} {ds ds' : List AV} {r r' : AV} (h : PC P f ds' r') (hd : LeL ds ds') (hr : AV.le r' r) : PC P f ds r := PC.weak h (LeL.of hd).1 (LeL.of hd).2 hr
theorem bif_and {p q : Prop} [Decidable p] [Decidable q] : (bif decide p then decide q else false) = decide (p ∧ q) := by by_cases h : p <;> simp [h]
theorem bif_or {p q : Prop} [Decidable p] [Decidable q] : (bif decide p then true else decide q) = decide (p ∨ q) := by by_cases h : p <;> simp [h]
theorem le_bv {a b : Bool} (h : a = b) : AV.le (bv a) (bv b) := by rw [h]; exact AV.le.refl _
theorem le_iv {a b : Int} (h : a = b) : AV.le (iv a) (iv b) := by rw [h]; exact AV.le.refl _
/-- pairs of numbers -/
def gsl (n : Nat) (g : Nat → Int × Int) : AV := .sl 2 n (fun i j => vec [iv (g i).1, iv (g i).2] j)
def gv (x : Int × Int) : AV := .agg 2 (vec [iv x.1, iv x.2])
theorem leBox {n : Nat} {h h' : Nat → AV} (e : lst n h = lst n h') : ∀ i, i < n → AV.le (h i) (h' i) := fun i hi => le_eq (by
  have h1 := congrArg (fun l => l.getD i AV.dead) e
  simp only [lst_getD hi] at h1
  exact h1)
section
variable {P : Program} {S0 : Addr → Prop} {mm : Nat} {w0 : Bs mm} {N : Nat} {nx : Nat} {σ : ASt} {K : AK}
theorem thenN {y : Code} (h : AW P S0 w0 N y nx σ K) : thenK P S0 w0 N y K .normal nx σ := h
theorem thenE {y : Code} {id : Nat} (h : K (.exit id) nx σ) : thenK P S0 w0 N y K (.exit id) nx σ := h
theorem thenR {y : Code} (h : K .ret nx σ) : thenK P S0 w0 N y K .ret nx σ := h
theorem blockN {id : Nat} (h : K .normal nx σ) : blockK id K .normal nx σ := h
theorem blockH {id : Nat} (h : K .normal nx σ) : blockK id K (.exit id) nx σ := by
  show bif Nat.beq id id then K .normal nx σ else K (.exit id) nx σ
  rw [Nat.beq_refl]
  exact h
theorem blockE {id id' : Nat} (hn : Nat.beq id' id = false) (h : K (.exit id') nx σ) : blockK id K (.exit id') nx σ := by
  show bif Nat.beq id' id then K .normal nx σ else K (.exit id') nx σ
  rw [hn]
  exact h
theorem blockR {id : Nat} (h : K .ret nx σ) : blockK id K .ret nx σ := h
theorem loopN' {nx0 : Nat} {I : Nat → ASt → Prop} {m : Nat} (h : ∃ m' σ', m' < m ∧ I m' σ' ∧ Wk S0 w0 N nx σ nx0 σ') : loopK S0 w0 N nx0 I m K .normal nx σ := h
theorem loopE {nx0 : Nat} {I : Nat → ASt → Prop} {m id : Nat} (h : K (.exit id) nx σ) : loopK S0 w0 N nx0 I m K (.exit id) nx σ := h
theorem loopR {nx0 : Nat} {I : Nat → ASt → Prop} {m : Nat} (h : K .ret nx σ) : loopK S0 w0 N nx0 I m K .ret nx σ := h
theorem joinN {nx0 : Nat} {J : ASt → Prop} (h : ∃ σ', J σ' ∧ Wk S0 w0 N nx σ nx0 σ') : joinK S0 w0 N nx0 J K .normal nx σ := h
theorem joinE {nx0 : Nat} {J : ASt → Prop} {id : Nat} (h : K (.exit id) nx σ) : joinK S0 w0 N nx0 J K (.exit id) nx σ := h
theorem joinR {nx0 : Nat} {J : ASt → Prop} (h : K .ret nx σ) : joinK S0 w0 N nx0 J K .ret nx σ := h
theorem retN {fn : Func} {r : AV} (y : AV) (h1 : retSee P fn σ = some y) (h2 : AV.le y r) : retK P fn r .ret nx σ := ⟨.inl rfl, y, h1, h2⟩
theorem retE {fn : Func} {r : AV} (y : AV) (h1 : retSee P fn σ = some y) (h2 : AV.le y r) : retK P fn r .normal nx σ := ⟨.inr rfl, y, h1, h2⟩
end
end Go.Proofs.Ytaemlmpcclfmdaa
namespace Go.Proofs.Ytaemlmpcclfmdaa
open Go.RowKit
/-- the cells that are there -/
def there (w : World) : Addr → Prop := fun x => x.block < w.heap.size
/-- a law that returns true -/
theorem PC.any {P : Program} {f : FuncId} {ds : List AV} (h : PC P f ds (bv true)) (w : World) (args : Array Value) (hl : args.size = ds.length) (hr : ∀ i, i < ds.length → Rd (there w) (fun _ => none) w (ds.getD i .dead) (args.getD i undef)) : Calls P f args w fun e w' => e = .returned (.bool true) ∧ Below w.heap.size w w' :=
  (h.2 w (there w) args (fun _ h => h) hl hr).mono fun _ _ ⟨v, _, e, bel, _, _, _, hv⟩ => ⟨by rw [e, show v = .bool true from hv], bel⟩
/-- arguments one after another -/
def RdL (w : World) : List AV → List Value → Prop
  | [], [] => True
  | d :: ds, v :: vs => Rd (there w) (fun _ => none) w d v ∧ RdL w ds vs
  | _, _ => False
theorem RdL.len {w : World} : ∀ {ds : List AV} {vs : List Value}, RdL w ds vs → vs.length = ds.length
  | [], [], _ => rfl
  | _ :: _, _ :: _, h => by simp [RdL.len h.2]
  | [], _ :: _, h => h.elim
  | _ :: _, [], h => h.elim
theorem RdL.get {w : World} : ∀ {ds : List AV} {vs : List Value}, RdL w ds vs → ∀ i, i < ds.length → Rd (there w) (fun _ => none) w (ds.getD i .dead) (vs.getD i undef)
  | [], _, _, i, hi => absurd hi (Nat.not_lt_zero _)
  | _ :: _, _ :: _, h, 0, _ => h.1
  | _ :: ds, _ :: _, h, i + 1, hi => RdL.get h.2 i (by simpa using hi)
  | _ :: _, [], h, _, _ => h.elim
theorem PC.law {P : Program} {f : FuncId} {ds : List AV} (h : PC P f ds (bv true)) (w : World) (vs : List Value) (hr : RdL w ds vs) : Calls P f vs.toArray w fun e w' => e = .returned (.bool true) ∧ Below w.heap.size w w' :=
  h.any w vs.toArray (by simp [hr.len]) (fun i hi => by rw [getD_arr]; exact hr.get i hi)
theorem rdV {w : World} (x : Value) : Rd (there w) (fun _ => none) w (.v x) x := rfl
/-- a row of values -/
theorem rdAgg {w : World} {ds : List AV} {vs : List Value} (h : RdL w ds vs) {n : Nat} (hn : ds.length = n) : Rd (there w) (fun _ => none) w (.agg n (vec ds)) (.agg vs.toArray) :=
  ⟨_, rfl, by simp [h.len, hn], fun i hi => by rw [getD_arr]; exact h.get i (by omega)⟩
/-- a slice whose cells are known -/
theorem rdSl {w : World} {A : Option Addr} {z n c : Nat} {g : Nat → Nat → AV} (hc : n ≤ c) (hA : A = none → c = 0) (h : 0 < n → ∃ b o, A = some ⟨b, o, none⟩ ∧ ∀ i, i < n → ∀ j, j < z → ∃ x, w.cell? ⟨b, o + i * z + j, none⟩ = some x ∧ x.oneCell' = true ∧ Rd (there w) (fun _ => none) w (g i j) x) : Rd (there w) (fun _ => none) w (.sl z n g) (.slice A n c) := by
  refine ⟨A, c, rfl, ⟨hc, hA⟩, fun hn => ?_⟩
  obtain ⟨b, o, e, k⟩ := h (by omega)
  refine ⟨b, o, e, fun i hi j hj => ?_⟩
  obtain ⟨x, h1, h2, h3⟩ := k i hi j hj
  exact ⟨block_lt_of_cell h1, x, h1, h2, h3⟩
/-- ints -/
theorem rdInts {w : World} {A : Option Addr} {n c : Nat} {xs : Nat → Int} (hc : n ≤ c) (hA : A = none → c = 0) (h : 0 < n → ∃ b off, A = some ⟨b, off, none⟩ ∧ ∀ i, i < n → w.cell? ⟨b, off + i, none⟩ = some (.int .i64 (xs i))) : Rd (there w) (fun _ => none) w (isl n xs) (.slice A n c) :=
  rdSl hc hA fun hn => by
    obtain ⟨b, o, e, k⟩ := h hn
    refine ⟨b, o, e, fun i hi j hj => ?_⟩
    obtain rfl : j = 0 := by omega
    exact ⟨_, by rw [show o + i * 1 + 0 = o + i from by omega]; exact k i hi, rfl, rfl⟩
/-- an elder contract, of a function that returns one value -/
theorem PC.of {P : Program} {f : FuncId} {ds : List AV} {v : Value} (hent : ∀ args w, (callFunc f args).run P w = .ok (.enter f args) w) (h : ∀ (w : World) (S : Addr → Prop) (args : Array Value), (∀ x, S x → x.block < w.heap.size) → args.size = ds.length → (∀ i, i < ds.length → Rd S (fun _ => none) w (ds.getD i .dead) (args.getD i undef)) → Calls P f args w fun e w' => e = .returned v ∧ Below w.heap.size w w') : PC P f ds (.v v) :=
  ⟨hent, fun w S args h1 h2 h3 => (h w S args h1 h2 h3).mono fun _ _ ⟨he, bel⟩ => ⟨v, S, he, bel, fun _ h => h, fun _ h => .inl h, fun x hx => Nat.lt_of_lt_of_le (h1 x hx) bel.size, rfl⟩⟩
/-- the same without arguments -/
theorem PC.of0 {P : Program} {f : FuncId} {v : Value} (hent : ∀ args w, (callFunc f args).run P w = .ok (.enter f args) w) (h : ∀ w : World, Calls P f #[] w fun e w' => e = .returned v ∧ Below w.heap.size w w') : PC P f [] (.v v) :=
  PC.of hent fun w S args _ h2 _ => by
    have : args = #[] := Array.eq_empty_of_size_eq_zero h2
    subst this
    exact h w
end Go.Proofs.Ytaemlmpcclfmdaa
