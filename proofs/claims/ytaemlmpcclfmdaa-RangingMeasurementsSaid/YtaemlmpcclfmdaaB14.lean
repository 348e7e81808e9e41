/- Helpers: what is known of calls with known arguments, as a table. No condition but the hypotheses that each theorem names. -/
import Derived.Test.YtaemlmpcclfmdaaB13
namespace Go.Proofs.Ytaemlmpcclfmdaa
open Go.RowKit
def eqX : Value → Value → Bool
  | .int k n, .int k' n' => ikb k k' && decide (n = n')
  | .bool a, .bool b => decide (a = b)
  | .slice none 0 0, .slice none 0 0 => true
  | .pointer none, .pointer none => true
  | _, _ => false
theorem eqX_of {x y : Value} (h : eqX x y = true) : x = y := by
  unfold eqX at h
  split at h
  · rename_i k n k' n'
    rw [Bool.and_eq_true] at h
    rw [ikb_iff h.1, of_decide_eq_true h.2]
  · rw [of_decide_eq_true h]
  · rfl
  · rfl
  · cases h
/-- a reading says no less than another one, by a check -/
def leB : AV → AV → Bool
  | .v x, y => match y with
    | .v x' => eqX x x'
    | .sl _ 0 _ => eqX x (.slice none 0 0)
    | .dead => true
    | _ => false
  | .agg n h, y => match y with
    | .agg n' h' => Nat.beq n n' && allN n (fun i => leB (h i) (h' i))
    | .dead => true
    | _ => false
  | .tup n h, y => match y with
    | .tup n' h' => Nat.beq n n' && allN n (fun i => leB (h i) (h' i))
    | .dead => true
    | _ => false
  | .sl z n g, y => match y with
    | .sl z' n' g' => Nat.beq z z' && Nat.beq n n' && allN n (fun i => allN z (fun j => leB (g i j) (g' i j)))
    | .dead => true
    | _ => false
  | .elp m h, y => match y with
    | .elp m' h' => Nat.beq m m' && allN m (fun i => leB (h i) (h' i))
    | .dead => true
    | _ => false
  | _, .dead => true
  | _, _ => false
theorem leB_of : ∀ (x y : AV), leB x y = true → AV.le x y := by
  intro x
  induction x with
  | v x =>
    intro y h
    unfold leB at h
    split at h
    · rw [eqX_of h]; exact AV.le.refl _
    · rw [eqX_of h]; exact AV.le_nil _ _
    · exact AV.le_dead _
    · cases h
  | agg n g ih =>
    intro y h
    unfold leB at h
    split at h
    · rw [Bool.and_eq_true] at h
      obtain rfl := Nat.eq_of_beq_eq_true h.1
      exact AV.le_agg fun i hi => ih i _ (allN_iff h.2 i hi)
    · exact AV.le_dead _
    · cases h
  | tup n g ih =>
    intro y h
    unfold leB at h
    split at h
    · rw [Bool.and_eq_true] at h
      obtain rfl := Nat.eq_of_beq_eq_true h.1
      exact AV.le_tup fun i hi => ih i _ (allN_iff h.2 i hi)
    · exact AV.le_dead _
    · cases h
  | sl z n g ih =>
    intro y h
    unfold leB at h
    split at h
    · simp only [Bool.and_eq_true] at h
      obtain rfl := Nat.eq_of_beq_eq_true h.1.1
      obtain rfl := Nat.eq_of_beq_eq_true h.1.2
      exact AV.le_sl fun i hi j hj => ih i j _ (allN_iff (allN_iff h.2 i hi) j hj)
    · exact AV.le_dead _
    · cases h
  | elp m g ih =>
    intro y h
    unfold leB at h
    split at h
    · rw [Bool.and_eq_true] at h
      obtain rfl := Nat.eq_of_beq_eq_true h.1
      exact AV.le_elp fun i hi => ih i _ (allN_iff h.2 i hi)
    · exact AV.le_dead _
    · cases h
  | _ =>
    intro y h
    cases y <;> first | exact AV.le_dead _ | cases h
def leBs : List AV → List AV → Bool
  | [], [] => true
  | x :: l, y :: m => leB x y && leBs l m
  | _, _ => false
theorem leBs_of : ∀ (l m : List AV), leBs l m = true → m.length = l.length ∧ ∀ i, i < l.length → AV.le (l.getD i .dead) (m.getD i .dead)
  | [], [], _ => ⟨rfl, fun i hi => absurd hi (Nat.not_lt_zero _)⟩
  | x :: l, y :: m, h => by
    simp only [leBs, Bool.and_eq_true] at h
    obtain ⟨h1, h2⟩ := leBs_of l m h.2
    refine ⟨by simp [h1], fun i hi => ?_⟩
    cases i with
    | zero => exact leB_of _ _ h.1
    | succ i => exact h2 i (by simpa using hi)
  | [], _ :: _, h => by cases h
  | _ :: _, [], h => by cases h
/-- calls that are known -/
abbrev Known := List (FuncId × List AV × AV)
def okKn (P : Program) (l : Known) : Prop := ∀ e, e ∈ l → PC P e.1 e.2.1 e.2.2
def knGet (l : Known) (g : FuncId) (ds : List AV) : Option AV := match l with
  | [] => none
  | e :: l => bif Nat.beq e.1 g && leBs ds e.2.1 then some e.2.2 else knGet l g ds
def knT (l : Known) : EvT := fun g => bif l.any (fun e => Nat.beq e.1 g) then some (knGet l g) else none
theorem knGet_ok {P : Program} : ∀ {l : Known}, okKn P l → ∀ {g : FuncId} {ds : List AV} {r : AV}, knGet l g ds = some r → PC P g ds r
  | [], _, _, _, _, h => by cases h
  | e :: l, hk, g, ds, r, h => by
    unfold knGet at h
    cases hb : (Nat.beq e.1 g && leBs ds e.2.1) with
    | true =>
      rw [hb] at h
      cases h
      rw [Bool.and_eq_true] at hb
      obtain ⟨h1, h2⟩ := leBs_of _ _ hb.2
      have := hk e (by simp)
      rw [Nat.eq_of_beq_eq_true hb.1] at this
      exact this.weak h1 h2 (AV.le.refl _)
    | false =>
      rw [hb] at h
      exact knGet_ok (fun e he => hk e (by simp [he])) h
theorem knT_ok {P : Program} {l : Known} (hk : okKn P l) : okT P (knT l) := by
  intro g t ds r h1 h2
  unfold knT at h1
  obtain ⟨_, q⟩ := bif_some h1
  cases q
  exact knGet_ok hk h2
theorem okKn_nil {P : Program} : okKn P [] := fun _ h => by cases h
theorem okKn_cons {P : Program} {f : FuncId} {ds : List AV} {r : AV} {l : Known} (h : PC P f ds r) (k : okKn P l) : okKn P ((f, ds, r) :: l) := fun e he => by
  rcases List.mem_cons.1 he with rfl | q
  · exact h
  · exact k e q
/-- a run that ends somehow: its result is what it comes to -/
noncomputable def evRes (P : Program) (T : EvT) (fuel k : Nat) (f : FuncId) (ds : List AV) : AV := match evTop P T fuel k f ds with | some r => r | none => .dead
noncomputable def evSome (P : Program) (T : EvT) (fuel k : Nat) (f : FuncId) (ds : List AV) : Bool := match evTop P T fuel k f ds with | some _ => true | none => false
theorem evRes_ok {P : Program} (hm : P.follows .mixedOrders = true) {T : EvT} (hT : okT P T) {fuel k : Nat} {f : FuncId} {ds : List AV} (h : evSome P T fuel k f ds = true) : PC P f ds (evRes P T fuel k f ds) := by
  unfold evSome at h
  unfold evRes
  split at h
  · rename_i r hr
    exact evTop_ok hm hT hr
  · cases h
/-- a run whose result is told -/
noncomputable def evLe (P : Program) (T : EvT) (fuel k : Nat) (f : FuncId) (ds : List AV) (r : AV) : Bool := match evTop P T fuel k f ds with | some r' => leB r' r | none => false
theorem evLe_ok {P : Program} (hm : P.follows .mixedOrders = true) {T : EvT} (hT : okT P T) {fuel k : Nat} {f : FuncId} {ds : List AV} {r : AV} (h : evLe P T fuel k f ds r = true) : PC P f ds r := by
  unfold evLe at h
  split at h
  · rename_i r' hr
    exact (evTop_ok hm hT hr).weak rfl (fun i hi => AV.le.refl _) (leB_of _ _ h)
  · cases h
def i64 (n : Int) : AV := .v (.int .i64 n)
/-- rows of numbers -/
def slI (z : Nat) (l : List (List Int)) : AV := .sl z l.length (fun i j => i64 ((l.getD i []).getD j 0))
def agI (l : List Int) : AV := .agg l.length (fun i => i64 (l.getD i 0))
end Go.Proofs.Ytaemlmpcclfmdaa
