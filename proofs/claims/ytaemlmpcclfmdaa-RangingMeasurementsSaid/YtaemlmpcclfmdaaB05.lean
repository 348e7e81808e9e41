/- Helpers: all operations, and statements in the order of the text. No condition but the hypotheses that each theorem names. -/
import Derived.Test.YtaemlmpcclfmdaaB04
import Derived.CallsIn
import Derived.ControlIn
import Derived.OrdersIn
import Derived.LoopNIn
import Derived.RangeFuncIn
import Derived.RangeFuncRecord
import Derived.RangeFuncLeaves
namespace Go.Proofs.Ytaemlmpcclfmdaa
open Go.RowKit
def wob (l : List AV) (r : Option AO) : Option AO :=
  match r with
  | some ao => some ⟨l.flatMap obl ++ ao.pre, ao.rd, ao.val, ao.wr⟩
  | none => none
theorem wob_of {l : List AV} {r : Option AO} {ao : AO} (h : wob l r = some ao) : ∃ p, r = some ⟨p, ao.rd, ao.val, ao.wr⟩ ∧ ao.pre = l.flatMap obl ++ p := by
  cases r with
  | none => cases h
  | some r => cases h; exact ⟨r.pre, rfl, rfl⟩
/-- what is told of an operation ahead: a call's result; what is lent to it, and what it leaves there -/
structure HT where
  r : AV
  m : Bool
  fp : List Nat
  wr : List (Nat × AB)
def hA (h : Nat → AV) : Nat → HT := fun i => ⟨h i, false, [], []⟩
def hR (x : AV) : HT := ⟨x, false, [], []⟩
def opOut (P : Program) (hint : HT) (nm : Nat) (s : Nat → AV) (ν : Nat → AB) (o : Op) : Option AO :=
  match o with
  | .move x | .assign x => some ⟨[], [], opv s x, []⟩
  | .pick c x y => oPick (opv s c) (opv s x) (opv s y)
  | .alloc t => oAlloc P nm t
  | .box _ x => wob [opv s x] (oBox nm (strp (opv s x)))
  | .build t ps => wob (ps.toList.map fun p => opv s p.2) (oBuild P t ((ps.toList.map (·.1)).zip (ps.toList.map fun p => strp (opv s p.2))))
  | .buildSlice t len ps => wob (ps.toList.map fun p => opv s p.2) (oBuildSlice P ν nm t len (ps.toList.map (·.1)) (ps.toList.map fun p => strp (opv s p.2)))
  | .load t x => wob [opv s x] (oLoad P ν t (strp (opv s x)))
  | .store t x y => wob [opv s x, opv s y] (oStore P ν t (strp (opv s x)) (strp (opv s y)))
  | .nilCheck x => wob [opv s x] (oNil (strp (opv s x)))
  | .binOp op t x y _ => wob [opv s x, opv s y] (oBinN P ν op t (strp (opv s x)) (strp (opv s y)))
  | .unOp op _ x => wob [opv s x] (oUn2 op (strp (opv s x)))
  | .convert a b x => wob [opv s x] (oConv2 P a b (strp (opv s x)))
  | .makeFunc f fi ca => wob ((fi.toList ++ ca.toList).map (opv s)) (bif hint.m then oMakeFuncM f (fi.toList.map fun x => strp (opv s x)) (ca.toList.map fun x => strp (opv s x)) else oMakeFunc ν f (fi.toList.map fun x => strp (opv s x)) (ca.toList.map fun x => strp (opv s x)))
  | .makeSlice t l c => wob [opv s l, opv s c] (oMakeSlice P nm t (strp (opv s l)) (strp (opv s c)))
  | .fieldAddr t x f => wob [opv s x] (oFieldAddr P t f (strp (opv s x)))
  | .field t x f => wob [opv s x] (oField P t f (strp (opv s x)))
  | .indexAddr t x i => wob [opv s x, opv s i] (oIndexAddr P ν t (strp (opv s x)) (strp (opv s i)))
  | .index t x i => wob [opv s x, opv s i] (oIndex P t (strp (opv s x)) (strp (opv s i)))
  | .slice t x lo hi none => wob (opv s x :: ((lo.toList ++ hi.toList).map (opv s))) (oSlice P ν t (strp (opv s x)) (lo.map fun x => strp (opv s x)) (hi.map fun x => strp (opv s x)))
  | .extract x i => wob [opv s x] (oExtract (strp (opv s x)) i)
  | .call c => match c.callee with
    | .value f => wob (opv s f :: c.args.toList.map (opv s)) (bif hint.m then oCallM P nm ν hint.fp hint.wr hint.r (strp (opv s f)) (c.args.toList.map fun x => strp (opv s x)) else oCall P ν hint.r (strp (opv s f)) (c.args.toList.map fun x => strp (opv s x)))
    | .builtin .len => match c.args.toList, c.argTypes.toList with
      | [x], [t] => wob [opv s x] (oLen P ν t (strp (opv s x)))
      | _, _ => none
    | .builtin .append => match c.args.toList, c.argTypes.toList with
      | [x, y], [t, tx] => wob [opv s x, opv s y] (oApp P ν nm t tx (strp (opv s x)) (strp (opv s y)))
      | _, _ => none
    | .builtin .min => wob (c.args.toList.map (opv s)) (oMM false (c.args.toList.map fun x => strp (opv s x)))
    | .builtin .max => wob (c.args.toList.map (opv s)) (oMM true (c.args.toList.map fun x => strp (opv s x)))
    | .builtin .complex => wob (c.args.toList.map (opv s)) (oCx .complex (c.args.toList.map fun x => strp (opv s x)))
    | .builtin .real => wob (c.args.toList.map (opv s)) (oCx .real (c.args.toList.map fun x => strp (opv s x)))
    | .builtin .imag => wob (c.args.toList.map (opv s)) (oCx .imag (c.args.toList.map fun x => strp (opv s x)))
    | _ => none
  | _ => none
section
variable {P : Program} {S0 : Addr → Prop} {mm : Nat} {w0 : Bs mm} {N : Nat} {U U' : Nat → Prop} {σ : ASt} {a : Act} {w w' : World} {S S' : Addr → Prop} {κ κ' : Nat → Option Hdr} {o : Oper} {Q : Exit → Act → World → Prop} {nm : Nat}
theorem flat_obl : ∀ {l : List AV} {p : List Ob}, allP (l.flatMap obl ++ p) → (∀ x, x ∈ l → allP (obl x)) ∧ allP p
  | [], _, h => ⟨fun _ hx => (by cases hx), h⟩
  | x :: l, p, h => by
    rw [List.flatMap_cons, List.append_assoc] at h
    obtain ⟨h1, h2⟩ := allP_app h
    obtain ⟨h3, h4⟩ := flat_obl h2
    refine ⟨fun y hy => ?_, h4⟩
    rcases List.mem_cons.1 hy with rfl | hy
    · exact h1
    · exact h3 y hy
theorem RelX.ev (h : RelX S0 w0 N U σ a w S κ) {x : Operand} (ho : allP (obl (opv σ.slot x))) : Rd S κ w (strp (opv σ.slot x)) (a.eval x) := strp_rd (h.eval x) ho
theorem evs (h : RelX S0 w0 N U σ a w S κ) {xs : Array Operand} (ho : ∀ x, x ∈ xs.toList.map (opv σ.slot) → allP (obl x)) : ∀ i, i < (xs.toList.map fun x => strp (opv σ.slot x)).length → Rd S κ w ((xs.toList.map fun x => strp (opv σ.slot x)).getD i .dead) ((xs.map a.eval).getD i undef) := by
  intro i hi
  have hi' : i < xs.size := by simpa using hi
  have := h.ev (x := xs[i]) (ho _ (List.mem_map.2 ⟨xs[i], by simp, rfl⟩))
  simpa [List.getD_eq_getElem?_getD, Array.getD_eq_getD_getElem?, hi'] using this
theorem evp (h : RelX S0 w0 N U σ a w S κ) {xs : Array (Nat × Operand)} (ho : ∀ x, x ∈ xs.toList.map (fun p => opv σ.slot p.2) → allP (obl x)) : ∀ i, i < (xs.toList.map fun p => strp (opv σ.slot p.2)).length → Rd S κ w ((xs.toList.map fun p => strp (opv σ.slot p.2)).getD i .dead) (((xs.map fun (i, x) => (i, a.eval x)).toList.map (·.2)).getD i undef) := by
  intro i hi
  have hi' : i < xs.size := by simpa using hi
  have := h.ev (x := xs[i].2) (ho _ (List.mem_map.2 ⟨xs[i], by simp, rfl⟩))
  simpa [List.getD_eq_getElem?_getD, List.getElem?_eq_getElem, hi'] using this
theorem opOut_ok (h : RelX S0 w0 N U σ a w S κ) (hK : ∀ k, nmR nm k → κ k = none) (hd : ∀ t, o.dst = some t → t < N) {hint : HT} {ao : AO} (e : opOut P hint nm σ.slot σ.name o.op = some ao) (hp : allP ao.pre) : o.wp P a w (Aft S0 w0 N U σ nm o.dst ao.val ao.wr) Q := by
  have hk := hK nm (nmR.own nm)
  unfold opOut at e
  split at e
  · rename_i x ho
    cases e
    exact sMove (.inl ho) hd h
  · rename_i x ho
    cases e
    exact sMove (.inr ho) hd h
  · rename_i c x y ho
    exact sPick ho hd h e hp
  · rename_i t ho
    exact sAlloc ho hd h hk e
  · rename_i t x ho
    obtain ⟨p, e1, e2⟩ := wob_of e
    rw [e2] at hp
    obtain ⟨h1, h2⟩ := flat_obl hp
    exact sBox (ao := ⟨p, ao.rd, ao.val, ao.wr⟩) ho hd h hk (h.ev (h1 _ (by simp))) e1
  · rename_i t ps ho
    obtain ⟨p, e1, e2⟩ := wob_of e
    rw [e2] at hp
    obtain ⟨h1, h2⟩ := flat_obl hp
    exact sBuild (ao := ⟨p, ao.rd, ao.val, ao.wr⟩) ho hd h (by simp) (evp h h1) e1
  · rename_i t len ps ho
    obtain ⟨p, e1, e2⟩ := wob_of e
    rw [e2] at hp
    obtain ⟨h1, h2⟩ := flat_obl hp
    exact sBuildSlice (ao := ⟨p, ao.rd, ao.val, ao.wr⟩) ho hd h hk (by simp) (evp h h1) e1
  · rename_i t x ho
    obtain ⟨p, e1, e2⟩ := wob_of e
    rw [e2] at hp
    obtain ⟨h1, h2⟩ := flat_obl hp
    exact sLoad (ao := ⟨p, ao.rd, ao.val, ao.wr⟩) ho hd h (h.ev (h1 _ (by simp))) e1 h2
  · rename_i t x y ho
    obtain ⟨p, e1, e2⟩ := wob_of e
    rw [e2] at hp
    obtain ⟨h1, h2⟩ := flat_obl hp
    exact sStore (ao := ⟨p, ao.rd, ao.val, ao.wr⟩) ho hd h (h.ev (h1 _ (by simp))) (h.ev (h1 _ (by simp))) e1 h2
  · rename_i x ho
    obtain ⟨p, e1, e2⟩ := wob_of e
    rw [e2] at hp
    obtain ⟨h1, h2⟩ := flat_obl hp
    exact sNil (ao := ⟨p, ao.rd, ao.val, ao.wr⟩) ho hd h (h.ev (h1 _ (by simp))) e1
  · rename_i op t x y t2 ho
    obtain ⟨p, e1, e2⟩ := wob_of e
    rw [e2] at hp
    obtain ⟨h1, h2⟩ := flat_obl hp
    exact sBinN (ao := ⟨p, ao.rd, ao.val, ao.wr⟩) ho hd h (h.ev (h1 _ (by simp))) (h.ev (h1 _ (by simp))) e1 h2
  · rename_i op t x ho
    obtain ⟨p, e1, e2⟩ := wob_of e
    rw [e2] at hp
    obtain ⟨h1, h2⟩ := flat_obl hp
    exact sUn2 (ao := ⟨p, ao.rd, ao.val, ao.wr⟩) ho hd h (h.ev (h1 _ (by simp))) e1 h2
  · rename_i t u x ho
    obtain ⟨p, e1, e2⟩ := wob_of e
    rw [e2] at hp
    obtain ⟨h1, h2⟩ := flat_obl hp
    exact sConv2 (ao := ⟨p, ao.rd, ao.val, ao.wr⟩) ho hd h (h.ev (h1 _ (by simp))) e1 h2
  · rename_i f fi ca ho
    obtain ⟨p, e1, e2⟩ := wob_of e
    rw [e2] at hp
    obtain ⟨h1, h2⟩ := flat_obl hp
    cases hm : hint.m with
    | false =>
      rw [hm] at e1
      exact sMakeFunc (ao := ⟨p, ao.rd, ao.val, ao.wr⟩) ho hd h (by simp) (by simp) (evs h (fun x hx => h1 x (by rw [List.map_append]; exact List.mem_append.2 (.inl hx)))) (evs h (fun x hx => h1 x (by rw [List.map_append]; exact List.mem_append.2 (.inr hx)))) e1
    | true =>
      rw [hm] at e1
      exact sMakeFuncM (ao := ⟨p, ao.rd, ao.val, ao.wr⟩) ho hd h (by simp) (by simp) (evs h (fun x hx => h1 x (by rw [List.map_append]; exact List.mem_append.2 (.inl hx)))) (evs h (fun x hx => h1 x (by rw [List.map_append]; exact List.mem_append.2 (.inr hx)))) e1
  · rename_i t l c ho
    obtain ⟨p, e1, e2⟩ := wob_of e
    rw [e2] at hp
    obtain ⟨h1, h2⟩ := flat_obl hp
    exact sMakeSlice (ao := ⟨p, ao.rd, ao.val, ao.wr⟩) ho hd h hk (h.ev (h1 _ (by simp))) (h.ev (h1 _ (by simp))) e1 h2
  · rename_i t x f ho
    obtain ⟨p, e1, e2⟩ := wob_of e
    rw [e2] at hp
    obtain ⟨h1, h2⟩ := flat_obl hp
    exact sFieldAddr (ao := ⟨p, ao.rd, ao.val, ao.wr⟩) ho hd h (h.ev (h1 _ (by simp))) e1
  · rename_i t x f ho
    obtain ⟨p, e1, e2⟩ := wob_of e
    rw [e2] at hp
    obtain ⟨h1, h2⟩ := flat_obl hp
    exact sField (ao := ⟨p, ao.rd, ao.val, ao.wr⟩) ho hd h (h.ev (h1 _ (by simp))) e1
  · rename_i t x i ho
    obtain ⟨p, e1, e2⟩ := wob_of e
    rw [e2] at hp
    obtain ⟨h1, h2⟩ := flat_obl hp
    exact sIndexAddr (ao := ⟨p, ao.rd, ao.val, ao.wr⟩) ho hd h (h.ev (h1 _ (by simp))) (h.ev (h1 _ (by simp))) e1 h2
  · rename_i t x i ho
    obtain ⟨p, e1, e2⟩ := wob_of e
    rw [e2] at hp
    obtain ⟨h1, h2⟩ := flat_obl hp
    exact sIndex (ao := ⟨p, ao.rd, ao.val, ao.wr⟩) ho hd h (h.ev (h1 _ (by simp))) (h.ev (h1 _ (by simp))) e1 h2
  · rename_i t x lo hi ho
    obtain ⟨p, e1, e2⟩ := wob_of e
    rw [e2] at hp
    obtain ⟨h1, h2⟩ := flat_obl hp
    have key : ∀ y : Option Operand, (∀ z, z ∈ y.toList.map (opv σ.slot) → allP (obl z)) → RdO S κ w (y.map fun x => strp (opv σ.slot x)) (y.map a.eval) := by
      intro y hy
      cases y with
      | none => trivial
      | some y => exact h.ev (hy _ (by simp))
    exact sSlice (ao := ⟨p, ao.rd, ao.val, ao.wr⟩) ho hd h (h.ev (h1 _ (by simp))) (key lo (fun z hz => h1 z (by simp only [List.map_append, List.mem_cons, List.mem_append]; exact .inr (.inl hz)))) (key hi (fun z hz => h1 z (by simp only [List.map_append, List.mem_cons, List.mem_append]; exact .inr (.inr hz)))) e1 h2
  · rename_i x i ho
    obtain ⟨p, e1, e2⟩ := wob_of e
    rw [e2] at hp
    obtain ⟨h1, h2⟩ := flat_obl hp
    exact sExtract (ao := ⟨p, ao.rd, ao.val, ao.wr⟩) ho hd h (h.ev (h1 _ (by simp))) e1
  · rename_i c ho
    split at e
    · rename_i f hc
      obtain ⟨p, e1, e2⟩ := wob_of e
      rw [e2] at hp
      obtain ⟨h1, h2⟩ := flat_obl hp
      cases hm : hint.m with
      | false =>
        rw [hm] at e1
        exact sCall (ao := ⟨p, ao.rd, ao.val, ao.wr⟩) ho hc hd h (h.ev (h1 _ (by simp))) (by simp) (evs h (fun x hx => h1 x (by simp only [List.mem_cons]; exact .inr hx))) e1 h2
      | true =>
        rw [hm] at e1
        exact sCallM (ao := ⟨p, ao.rd, ao.val, ao.wr⟩) ho hc hd h hK (h.ev (h1 _ (by simp))) (by simp) (evs h (fun x hx => h1 x (by simp only [List.mem_cons]; exact .inr hx))) e1 h2
    · rename_i hc
      split at e
      case h_2 => cases e
      rename_i x t ha ht
      obtain ⟨p, e1, e2⟩ := wob_of e
      rw [e2] at hp
      obtain ⟨h1, h2⟩ := flat_obl hp
      exact sLen (ao := ⟨p, ao.rd, ao.val, ao.wr⟩) ho hc (by rw [← Array.toArray_toList (xs := c.args), ha]) (by rw [← Array.toArray_toList (xs := c.argTypes), ht]) hd h (h.ev (h1 _ (by simp))) e1
    · rename_i hc
      split at e
      case h_2 => cases e
      rename_i x y t tx ha ht
      obtain ⟨p, e1, e2⟩ := wob_of e
      rw [e2] at hp
      obtain ⟨h1, h2⟩ := flat_obl hp
      exact sApp (ao := ⟨p, ao.rd, ao.val, ao.wr⟩) ho hc (by rw [← Array.toArray_toList (xs := c.args), ha]) (by rw [← Array.toArray_toList (xs := c.argTypes), ht]) hd h hk (h.ev (h1 _ (by simp))) (h.ev (h1 _ (by simp))) e1 h2
    · rename_i hc
      obtain ⟨p, e1, e2⟩ := wob_of e
      rw [e2] at hp
      obtain ⟨h1, h2⟩ := flat_obl hp
      exact sMM (ao := ⟨p, ao.rd, ao.val, ao.wr⟩) (mx := false) ho hc hd h (by simp) (evs h h1) e1
    · rename_i hc
      obtain ⟨p, e1, e2⟩ := wob_of e
      rw [e2] at hp
      obtain ⟨h1, h2⟩ := flat_obl hp
      exact sMM (ao := ⟨p, ao.rd, ao.val, ao.wr⟩) (mx := true) ho hc hd h (by simp) (evs h h1) e1
    · rename_i hc
      obtain ⟨p, e1, e2⟩ := wob_of e
      rw [e2] at hp
      obtain ⟨h1, h2⟩ := flat_obl hp
      exact sCx (ao := ⟨p, ao.rd, ao.val, ao.wr⟩) ho hc hd h (by simp) (evs h h1) e1
    · rename_i hc
      obtain ⟨p, e1, e2⟩ := wob_of e
      rw [e2] at hp
      obtain ⟨h1, h2⟩ := flat_obl hp
      exact sCx (ao := ⟨p, ao.rd, ao.val, ao.wr⟩) ho hc hd h (by simp) (evs h h1) e1
    · rename_i hc
      obtain ⟨p, e1, e2⟩ := wob_of e
      rw [e2] at hp
      obtain ⟨h1, h2⟩ := flat_obl hp
      exact sCx (ao := ⟨p, ao.rd, ao.val, ao.wr⟩) ho hc hd h (by simp) (evs h h1) e1
    · cases e
  · cases e
end
end Go.Proofs.Ytaemlmpcclfmdaa
namespace Go.Proofs.Ytaemlmpcclfmdaa
open Go.RowKit
def gc (t want : Bool) : Bool := bif want then t else !t
def grd (c : Bool) (ao : AO) : Option AO :=
  match ao.wr with
  | [] => some ⟨match ao.pre with | [] => [] | p :: l => [⟨c = true → allP (p :: l), !c || allC (p :: l), fun h e => allC_ok (by subst e; exact h)⟩], ao.rd, .gd c ao.val, []⟩
  | w => bif c then some ⟨ao.pre, ao.rd, .gd c ao.val, w⟩ else some ⟨[], ao.rd, .gd c ao.val, []⟩
/-- an operation that is not wanted, whatever it may be -/
def magN : Nat := 1000000007
def noA : AO := ⟨[], [magN], .gd false (.v (.bool false)), []⟩
def grdO (c : Bool) (r : Option AO) : Option AO := match r with | some ao => grd c ao | none => bif c then none else some noA
def yk : AV → Option Nat
  | .yld k => some k
  | _ => none
/-- all operations: calls of yield, too -/
def opI (P : Program) (hint : HT) (nm : Nat) (s : Nat → AV) (ν : Nat → AB) (o : Op) : Option AO :=
  match o with
  | .call c => match c.callee with
    | .value f => match yk (strp (opv s f)) with
      | some k => wob (opv s f :: c.args.toList.map (opv s)) (oYield P nm ν hint.fp hint.wr hint.r k (c.args.toList.map fun x => strp (opv s x)))
      | none => opOut P hint nm s ν (.call c)
    | _ => opOut P hint nm s ν (.call c)
  | o => opOut P hint nm s ν o
def opFull (P : Program) (hint : HT) (nm : Nat) (s : Nat → AV) (ν : Nat → AB) (ops : Array Oper) (o : Oper) : Option AO :=
  match o.guard with
  | none => opI P hint nm s ν o.op
  | some (j, want) => match (ops[j]?).bind (·.dst) with
    | some d => match s d with
      | .v (.bool t) => grdO (gc t want) (opI P hint nm s ν o.op)
      | .gd b x => match x with
        | .v (.bool t) => grdO (b && gc t want) (opI P hint nm s ν o.op)
        | _ => bif b then none else some noA
      | _ => none
    | none => none
section
variable {P : Program} {S0 : Addr → Prop} {mm : Nat} {w0 : Bs mm} {N : Nat} {U U' : Nat → Prop} {σ : ASt} {a : Act} {w w' : World} {S S' : Addr → Prop} {κ κ' : Nat → Option Hdr} {o : Oper} {Q : Exit → Act → World → Prop} {nm : Nat}
theorem RelX.slotle {ν : Nat → AB} {s s' : Nat → AV} (h : RelX S0 w0 N U ⟨s, ν⟩ a w S κ) (hs : ∀ t, AV.le (s t) (s' t)) : RelX S0 w0 N U ⟨s', ν⟩ a w S κ :=
  ⟨h.below, h.sub, h.new, h.keep, h.kap, h.dfn, h.used, h.inj, fun t => hs t _ _ _ _ (h.slots t), h.names, h.dfs, h.size⟩
theorem dstU_le {s : Nat → AV} {d : Option Nat} {v v' : AV} (h : AV.le v v') : ∀ t, AV.le (dstU s d v t) (dstU s d v' t) := by
  intro t
  cases d with
  | none => exact AV.le.refl _
  | some d =>
    by_cases e : t = d
    · subst e
      show AV.le (upd s t v t) (upd s t v' t)
      rw [upd_own, upd_own]; exact h
    · show AV.le (upd s d v t) (upd s d v' t)
      rw [upd_ne _ _ e, upd_ne _ _ e]; exact AV.le.refl _
theorem Aft.le {d : Option Nat} {v v' : AV} {wr : List (Nat × AB)} (h : Aft S0 w0 N U σ nm d v wr a w) (hv : AV.le v v') : Aft S0 w0 N U σ nm d v' wr a w := by
  obtain ⟨S, κ, h⟩ := h
  exact ⟨S, κ, h.slotle (dstU_le hv)⟩
theorem le_gd (c : Bool) (v : AV) (hc : c = true) : AV.le v (.gd c v) := fun _ _ _ _ h => ⟨fun _ => h, fun q => by rw [hc] at q; cases q⟩
/-- in a round of a loop, or in none -/
def fnc (ro : Option Nat) : Fence := { Fence.wide with round := ro }
theorem callsIn_fnc {P : Program} {ro : Option Nat} {n : Nat} {f : FuncId} {args : Array Value} {w : World} {R : Ending → World → Prop} : CallsIn (fnc ro) n P f args w R ↔ Calls P f args w R := callsIn_wide
theorem rowsIn_fnc {P : Program} {ro : Option Nat} {n : Nat} {row : String} {args : Array Value} {w : World} {R : Value → World → Prop} (h : Rows P row args w R) : RowsIn (fnc ro) n P row args w R := fun c cs _ => by
  obtain ⟨v, w', h1, h2⟩ := h c cs
  exact ⟨v, w', h1, stepsIn_wide.2 h2⟩
theorem op_in {P : Program} {ro : Option Nat} {o : Oper} {a : Act} {w : World} {K : Act → World → Prop} {Q : Exit → Act → World → Prop} (h : o.wp P a w K Q) (hd : ∀ c, o.op ≠ .defer c) : o.wpIn (fnc ro) 0 P a w K Q := by
  refine ⟨fun _ _ => trivial, ?_⟩
  rw [show (fnc ro).round = ro from rfl, Oper.semAt_eq _ _ _ hd]
  unfold Oper.wp at h
  generalize (execOp a.eval o).run P w = r at h
  unfold Oper.upon at h
  unfold Oper.uponIn
  split at h
  · exact h
  · exact h
  · exact h
  · exact ⟨(fun q => by cases q), callsIn_fnc.2 (h.mono fun e w h => by cases e <;> exact h)⟩
  · exact ⟨(fun q => by cases q), rowsIn_fnc h⟩
  · exact h
  · exact h.elim
theorem wpIn_op_mono {P : Program} {ro : Option Nat} {o : Oper} {a : Act} {w : World} {K K' : Act → World → Prop} {Q : Exit → Act → World → Prop} (hk : ∀ a w, K a w → K' a w) (h : o.wpIn (fnc ro) 0 P a w K Q) : o.wpIn (fnc ro) 0 P a w K' Q := Oper.wpIn_mono hk h
def notDefer : Op → Bool
  | .defer _ => false
  | _ => true
theorem notDefer_of {o : Op} (h : notDefer o = true) : ∀ c, o ≠ .defer c := fun c q => by rw [q] at h; cases h
theorem opOut_nd {P : Program} {hint : HT} {nm : Nat} {s : Nat → AV} {ν : Nat → AB} {o : Op} {ao : AO} (e : opOut P hint nm s ν o = some ao) : ∀ c, o ≠ .defer c := fun c q => by rw [q] at e; cases e
/-- an operation that is wanted goes, one that is not leaves nothing -/
def Does (ro : Option Nat) (P : Program) (ops : Array Oper) (o : Oper) (K : Act → World → Prop) (Q : Exit → Act → World → Prop) (a : Act) (w : World) : Prop :=
  if Region.wanted o (yielded ops a.tmps) then o.wpIn (fnc ro) 0 P a w K Q else K (a.put o.dst undef) w
theorem getD_bool {l : Array Value} {d : Nat} {t : Bool} (h : l.getD d undef = .bool t) : l[d]? = some (.bool t) := by
  rw [Array.getD_eq_getD_getElem?] at h
  cases hq : l[d]? with
  | none => rw [hq] at h; cases h
  | some v => rw [hq] at h; exact congrArg some h
theorem opI_ok {ro : Option Nat} (h : RelX S0 w0 N U σ a w S κ) (hK : ∀ k, nmR nm k → κ k = none) (hd : ∀ t, o.dst = some t → t < N) {hint : HT} {ao : AO} (e : opI P hint nm σ.slot σ.name o.op = some ao) (hp : allP ao.pre) : o.wpIn (fnc ro) 0 P a w (Aft S0 w0 N U σ nm o.dst ao.val ao.wr) Q := by
  unfold opI at e
  split at e
  · rename_i call ho
    split at e
    · rename_i f hc
      split at e
      · rename_i k hyk
        have hF : strp (opv σ.slot f) = .yld k := by
          unfold yk at hyk
          split at hyk
          · rename_i q; cases hyk; exact q
          · cases hyk
        obtain ⟨p, e1, e2⟩ := wob_of e
        rw [e2] at hp
        obtain ⟨h1, h2⟩ := flat_obl hp
        have hf := h.ev (x := f) (h1 _ (by simp))
        rw [hF] at hf
        have hx := evs h (xs := call.args) (fun x hx => h1 x (by simp only [List.mem_cons]; exact .inr hx))
        unfold oYield at e1
        obtain ⟨hb, q⟩ := bif_some e1
        simp only [AO.mk.injEq] at q
        obtain ⟨rfl, _, q3, q4⟩ := q
        simp only [Bool.and_eq_true] at hb
        obtain ⟨⟨⟨b1, b2⟩, b3⟩, b4⟩ := hb
        have hkk : ∀ k, k ∈ hint.fp → kres hint.fp κ k = κ k := fun k hk => kres_in hk
        have hpc : PCY P k (call.args.toList.map fun x => strp (opv σ.slot x)) nm (restr hint.fp σ.name) hint.fp hint.r hint.wr := h2
        obtain ⟨l, rec, g1, g2, g3, g4⟩ := hpc w S (kres hint.fp κ) (call.args.map a.eval) (h.preM hK b3) (by simp) (fun i hi => by
          refine refsIn_rd _ ?_ hkk (hx i hi)
          have := List.all_eq_true.1 b2 _ (List.getElem_mem hi)
          simpa [List.getD_eq_getElem?_getD, List.getElem?_eq_getElem hi] using this)
        obtain ⟨l', hl', hv⟩ := hf
        rw [kres_in (has_iff.1 b1), hl'] at g1
        cases g1
        refine ⟨fun _ _ => trivial, ?_⟩
        have hnd : ∀ c, o.op ≠ .defer c := fun c q => by rw [ho] at q; cases q
        rw [show (fnc ro).round = ro from rfl, Oper.semAt_eq _ _ _ hnd]
        have hrun : (execOp a.eval o).run P w = .ok (.round l rec.fn ((rec.params.zip (call.args.map a.eval)).foldl (fun t (p, v) => t.setIfInBounds p v) rec.tmps) rec.assign rec.body) w := by
          have hy := run_yield (P := P) (args := call.args.map a.eval) g2 (by simp [g3])
          unfold execOp
          simp [ho, resolve, hc, hv, Deferred.ofValue, invoke, hy]
        rw [hrun]
        refine ⟨(fun q => by cases q), RoundIn.mono (F := Fence.wide) g4 ?_⟩
        rintro e w1 ⟨v, S2, κ1, rfl, k1, k2, k3, k4, k5, k6, k7, k8, k9⟩
        obtain ⟨κ2, q1, q2, _⟩ := h.calledM hK (fun p hp => by
          have := List.all_eq_true.1 b4 p hp
          rw [Bool.or_eq_true] at this
          exact this.imp has_iff.1 nmRb_iff.1) k1 k2 k3 k4 k5 k6 k7 k8
        rw [← q3, ← q4]
        exact ⟨S2, κ2, q1.dst hd (Rd.mono (fun _ h => h) (fun _ _ => rfl) _ q2 _ k9)⟩
      · rw [← ho] at e
        exact op_in (opOut_ok h hK hd e hp) (opOut_nd e)
    · rw [← ho] at e
      exact op_in (opOut_ok h hK hd e hp) (opOut_nd e)
  · exact op_in (opOut_ok h hK hd e hp) (opOut_nd e)
theorem opFull_ok {ro : Option Nat} {ops : Array Oper} (h : RelX S0 w0 N U σ a w S κ) (hk : ∀ k, nmR nm k → κ k = none) (hd : ∀ t, o.dst = some t → t < N) {hint : HT} {ao : AO} (e : opFull P hint nm σ.slot σ.name ops o = some ao) (hp : allP ao.pre) : Does ro P ops o (Aft S0 w0 N U σ nm o.dst ao.val ao.wr) Q a w := by
  unfold opFull at e
  split at e
  · rename_i hg
    unfold Does
    rw [show Region.wanted o (yielded ops a.tmps) = true from by simp [Region.wanted, hg], if_pos rfl]
    exact opI_ok h hk hd e hp
  · rename_i j want hg
    split at e
    case h_2 => cases e
    rename_i d hdst
    have hs := h.slots d
    have hnoA : Region.wanted o (yielded ops a.tmps) = false → Does ro P ops o (Aft S0 w0 N U σ nm o.dst noA.val noA.wr) Q a w := by
      intro hw
      unfold Does
      rw [hw, if_neg (by simp)]
      exact ⟨S, κ, (h.dst hd (v := .gd false (.v (.bool false))) (u := undef) ⟨fun q => (by cases q), fun _ => rfl⟩).more fun _ h => .inl h⟩
    have key : ∀ c : Bool, Region.wanted o (yielded ops a.tmps) = c → grdO c (opI P hint nm σ.slot σ.name o.op) = some ao → Does ro P ops o (Aft S0 w0 N U σ nm o.dst ao.val ao.wr) Q a w := by
      intro c hw e
      cases hr : opI P hint nm σ.slot σ.name o.op with
      | none =>
        rw [hr] at e
        cases c with
        | true => cases e
        | false => cases e; exact hnoA hw
      | some ao0 =>
        rw [hr] at e
        simp only [grdO, grd] at e
        split at e
        case h_2 =>
          cases c with
          | true =>
            simp only [cond_true] at e
            cases e
            unfold Does
            rw [hw, if_pos rfl]
            exact wpIn_op_mono (fun a w h => h.le (le_gd true _ rfl)) (opI_ok (Q := Q) h hk hd hr hp)
          | false =>
            simp only [cond_false] at e
            cases e
            unfold Does
            rw [hw, if_neg (by simp)]
            exact ⟨S, κ, (h.dst hd (v := .gd false ao0.val) (u := undef) ⟨fun q => (by cases q), fun _ => rfl⟩).more fun _ h => .inl h⟩
        rename_i hwr
        cases e
        unfold Does
        rw [hw]
        cases c with
        | true =>
          rw [if_pos rfl]
          have hp0 : allP ao0.pre := by
            simp only at hp
            split at hp
            · rename_i q; rw [q]; trivial
            · rename_i p l q; rw [q]; first | exact hp rfl | exact hp trivial
          have := opI_ok (ro := ro) (Q := Q) h hk hd hr hp0
          rw [hwr] at this
          exact wpIn_op_mono (fun a w h => h.le (le_gd true _ rfl)) this
        | false =>
          rw [if_neg (by simp)]
          exact ⟨S, κ, (h.dst hd (v := .gd false ao0.val) (u := undef) ⟨fun q => (by cases q), fun _ => rfl⟩).more fun _ h => .inl h⟩
    have hwant : Region.wanted o (yielded ops a.tmps) = (yielded ops a.tmps j == some want) := by simp [Region.wanted, hg]
    have hy : ∀ t, a.tmps.getD d undef = .bool t → Region.wanted o (yielded ops a.tmps) = gc t want := by
      intro t ht
      rw [hwant]
      have : yielded ops a.tmps j = some t := by simp [yielded, hdst, getD_bool ht]
      rw [this]
      cases t <;> cases want <;> rfl
    have hun : a.tmps.getD d undef = undef → Region.wanted o (yielded ops a.tmps) = false := by
      intro h2
      rw [hwant]
      have : yielded ops a.tmps j = none := by
        simp only [yielded, hdst, Option.bind_some]
        cases hq : a.tmps[d]? with
        | none => rfl
        | some v =>
          rw [Array.getD_eq_getD_getElem?, hq] at h2
          simp only [Option.getD_some] at h2
          rw [h2]
          rfl
      rw [this]
      rfl
    split at e
    · rename_i t hv
      rw [hv] at hs
      exact key _ (hy t hs) e
    · rename_i b x hv
      rw [hv] at hs
      split at e
      · rename_i t
        cases b with
        | true => exact key _ (by rw [hy t (hs.1 rfl)]; rfl) e
        | false => exact key _ (by rw [Bool.false_and]; exact hun (hs.2 rfl)) e
      · cases b with
        | true => cases e
        | false => cases e; exact hnoA (hun (hs.2 rfl))
    · cases e
end
def okDst (N : Nat) : Option Nat → Bool
  | some d => Nat.blt d N
  | none => true
def rgRun (P : Program) (N : Nat) (hints : Nat → HT) (nx : Nat) (ops : Array Oper) : Nat → List Oper → ASt → Option (List Ob × ASt)
  | _, [], σ => some ([], σ)
  | i, o :: l, σ => match opFull P (hints i) ((nx + i) * 16) σ.slot σ.name ops o with
    | some ao => bif okDst N o.dst then
        match rgRun P N hints nx ops (i + 1) l ⟨dstU σ.slot o.dst ao.val, nmw σ.name ao.wr⟩ with
        | some (ps, σ') => some (ao.pre ++ ps, σ')
        | none => none
      else none
    | none => none
def rgPre (P : Program) (N : Nat) (hints : Nat → HT) (nx : Nat) (ops : Array Oper) (σ : ASt) : Prop := match rgRun P N hints nx ops 0 ops.toList σ with | some (ps, _) => allP ps | none => False
/-- what a statement asks, behind a door that nobody opens by accident -/
inductive RPre (P : Program) (N : Nat) (hints : Nat → HT) (nx : Nat) (ops : Array Oper) (σ : ASt) : Prop where
  | mk (h : rgPre P N hints nx ops σ)
theorem RPre.out {P : Program} {N : Nat} {hints : Nat → HT} {nx : Nat} {ops : Array Oper} {σ : ASt} (h : RPre P N hints nx ops σ) : rgPre P N hints nx ops σ := by cases h; assumption
theorem RPre.of {P : Program} {N : Nat} {hints : Nat → HT} {nx : Nat} {ops : Array Oper} {σ : ASt} {X : Prop} (h : rgPre P N hints nx ops σ = X) (x : X) : RPre P N hints nx ops σ := ⟨by rw [h]; exact x⟩
def rgSt (P : Program) (N : Nat) (hints : Nat → HT) (nx : Nat) (ops : Array Oper) (σ : ASt) : ASt := match rgRun P N hints nx ops 0 ops.toList σ with | some (_, σ') => σ' | none => σ
section
variable {P : Program} {S0 : Addr → Prop} {mm : Nat} {w0 : Bs mm} {N : Nat} {Q : Exit → Act → World → Prop}
theorem rgRun_ok {ro : Option Nat} {hints : Nat → HT} {nx : Nat} {ops : Array Oper} : ∀ (l : List Oper) (i : Nat) (σ σ' : ASt) (ps : List Ob) (a : Act) (w : World), ops.toList.drop i = l → rgRun P N hints nx ops i l σ = some (ps, σ') → allP ps → Rel S0 w0 N (fun k => k < (nx + i) * 16) σ a w →
    (∀ a w, Rel S0 w0 N (fun k => k < (nx + (i + l.length)) * 16) σ' a w → Q .normal a w) → wpOpsIn (fnc ro) 0 P ops Q (List.range' i l.length) a w
  | [], i, σ, σ', ps, a, w, _, e, _, h, hq => by
    cases e
    exact hq a w h
  | o :: l, i, σ, σ', ps, a, w, hl, e, hp, ⟨S, κ, h⟩, hq => by
    have ho : ops[i]? = some o := by
      have h1 : (ops.toList.drop i)[0]? = some o := by rw [hl]; rfl
      rw [List.getElem?_drop] at h1
      simpa using h1
    have hl' : ops.toList.drop (i + 1) = l := by
      rw [← List.drop_drop, hl]; rfl
    unfold rgRun at e
    split at e
    case h_2 => cases e
    rename_i ao hao
    cases hd : okDst N o.dst with
    | false => rw [hd] at e; cases e
    | true =>
    rw [hd] at e
    simp only [cond_true] at e
    split at e
    case h_2 => cases e
    rename_i ps2 σ2 hr
    cases e
    obtain ⟨hp1, hp2⟩ := allP_app hp
    have hk : ∀ k, nmR ((nx + i) * 16) k → κ k = none := by
      intro k hk
      cases hκ : κ k with
      | none => rfl
      | some q => exact absurd (h.used k (by rw [hκ]; exact fun q => by cases q)) (Nat.not_lt.2 hk.1)
    have hd' : ∀ t, o.dst = some t → t < N := by
      intro t ht
      rw [ht] at hd
      exact blt_iff hd
    have hgo := opFull_ok (ro := ro) (P := P) (Q := Q) h hk hd' hao hp1
    have hrest : ∀ a' w', Aft S0 w0 N (fun k => k < (nx + i) * 16) σ ((nx + i) * 16) o.dst ao.val ao.wr a' w' → wpOpsIn (fnc ro) 0 P ops Q (List.range' (i + 1) l.length) a' w' := by
      rintro a' w' ⟨S', κ', h'⟩
      refine rgRun_ok l (i + 1) _ _ _ a' w' hl' hr hp2 ⟨S', κ', h'.more fun k hk => by rcases hk with q | ⟨q1, q2⟩ <;> omega⟩ ?_
      intro a w hr
      refine hq a w ?_
      rw [show i + (o :: l).length = i + 1 + l.length from by simp; omega]
      exact hr
    show wpOpsIn (fnc ro) 0 P ops Q (i :: List.range' (i + 1) l.length) a w
    simp only [wpOpsIn, ho]
    unfold Does at hgo
    by_cases hw : Region.wanted o (yielded ops a.tmps) = true
    · rw [if_pos hw] at hgo ⊢
      exact wpIn_op_mono hrest hgo
    · rw [if_neg hw] at hgo ⊢
      exact ⟨fun _ _ => trivial, hrest _ _ hgo⟩
theorem rg_ok {ro : Option Nat} {hints : Nat → HT} {nx : Nat} {ops : Array Oper} {σ : ASt} {a : Act} {w : World} (hp : rgPre P N hints nx ops σ) (h : Rel S0 w0 N (fun k => k < nx * 16) σ a w) (hq : ∀ a w, Rel S0 w0 N (fun k => k < (nx + ops.size) * 16) (rgSt P N hints nx ops σ) a w → Q .normal a w) (id : Nat) : (Code.region id ops false).wpIn (fnc ro) 0 P Q a w := by
  refine wpIn_region ?_
  unfold rgPre at hp
  unfold rgSt at hq
  split at hp
  · rename_i ps σ' hr
    simp only [hr] at hq
    have := rgRun_ok (ro := ro) (S0 := S0) (w0 := w0) (Q := Q) ops.toList 0 σ σ' ps a w rfl hr hp h (by simpa using hq)
    simpa [List.range_eq_range'] using this
  · exact hp.elim
end
end Go.Proofs.Ytaemlmpcclfmdaa
