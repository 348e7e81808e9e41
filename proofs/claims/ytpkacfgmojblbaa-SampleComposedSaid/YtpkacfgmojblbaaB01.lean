/- Helpers: checks of errors as words of the closures that make them; numbers in memory. No condition but the hypotheses that each theorem names. -/
import Derived.Test.YtpkacfgmojblbaaB00
import Derived.Deep.LoopGhost
import Derived.IntWalk
import Derived.Deep.RegionWith
namespace Go.Proofs.Ytpkacfgmojblbaa
open Go.RowKit
attribute [local go_sem] old1 fro1 old2 fro2 old3 fro3 old4 fro4 old5 fro5 old6 fro6 old7 fro7 old8 fro8 old9 fro9 old10 fro10 old11 fro11 old12 fro12
theorem lt_of {w : World} {b o : Nat} {v : Value} (h : w.cell? ⟨b, o, none⟩ = some v) : b < w.heap.size := World.block_lt_of_cell? _ _ h
theorem keep {w w1 : World} {b o : Nat} {v : Value} (hb : Below w.heap.size w w1) (h : w.cell? ⟨b, o, none⟩ = some v) : w1.cell? ⟨b, o, none⟩ = some v := (hb.cell (p := ⟨b, o, none⟩) (lt_of h)).trans h
theorem grows_of {P : Program} {f : FuncId} {args : Array Value} {w : World} {v : Value} (h : Calls P f args w fun e w' => e = .returned v ∧ w = w') : Calls P f args w fun e w' => e = .returned v ∧ Below w.heap.size w w' :=
  h.mono fun _ _ ⟨h1, h2⟩ => ⟨h1, h2 ▸ Below.refl _ _⟩
def ferr (er : Nat → Int) : Nat → Nat → Int
  | _, 0 => 0
  | i, n + 1 => if er i = 0 then ferr er (i + 1) n else er i
set_option maxRecDepth 100000 in
set_option maxHeartbeats 400000 in
theorem firstError_any (A n : Nat) (g : Nat → Nat) (cb : Nat → Array Value) (er : Nat → Int) (w : World) (hn : n ≤ 100) (hA : A < w.heap.size)
    (hc : ∀ i, i < n → w.cell? ⟨A, 0 + i, none⟩ = some (.func (.func (g i)) #[] (cb i)))
    (eg : ∀ i, i < n → ∀ args w, (callFunc (g i) args).run Try.prog w = .ok (.enter (g i) args) w)
    (hf : ∀ i w1, i < n → (∀ j, j < i → er j = 0) → Below w.heap.size w w1 → Calls Try.prog (g i) (cb i) w1 fun e w' => e = .returned (.int .i64 (er i)) ∧ Below w1.heap.size w1 w') :
    Calls Try.prog 87 #[.slice (some ⟨A, 0, none⟩) n n] w fun e w' => e = .returned (.int .i64 (ferr er 0 n)) ∧ Below w.heap.size w w' := by
  have HF := Lib.hid hf
  have HC := Lib.hid hc
  have HE := Lib.hid eg
  clear hf hc eg
  go_enter Try.func87, Try.ntmps87
  go_wp2
  go_loopw [8] (fun i wr => ∃ k : Nat, k ≤ n ∧ i = .int .i64 k ∧ Below w.heap.size w wr ∧ Hid (∀ j, j < k → er j = 0) ∧ Hid (ferr er 0 n = ferr er k (n - k))) (fun i _ => n - (intOf i).toNat)
  case atStart => exact ⟨0, Nat.zero_le _, rfl, Below.refl _ _, fun j hj => absurd hj (Nat.not_lt_zero _), rfl⟩
  case round =>
    obtain ⟨k, hk, rfl, hbel, H, H2⟩ := hrel
    by_cases hlt : k < n
    · have hcell : wr.cell? ⟨A, k, none⟩ = some (.func (.func (g k)) #[] (cb k)) := by rw [hbel.cell (p := ⟨A, k, none⟩) hA]; have := HC.out k hlt; rwa [Nat.zero_add] at this
      have hcon := HF.out k wr hlt H.out hbel
      have heg := HE.out k hlt
      have hsz := hbel.size
      have HB := Lib.hid hbel
      clear hbel
      have HS : Hid (ferr er k (n - k) = if er k = 0 then ferr er (k + 1) (n - (k + 1)) else er k) := by
        rw [show n - k = (n - (k + 1)) + 1 from by omega]; rfl
      generalize hgk : g k = gk at hcell hcon heg
      clear hgk
      generalize cb k = cbk at hcell hcon
      by_cases hz : er k = 0
      · have HZ := Lib.hid hz
        rw [hz] at hcon
        clear hz
        go_wp2_with (go_at_fn gk; refine hcon.mono ?_; rintro e w1 ⟨rfl, hb1⟩)
        go_roundw
        case rel => exact ⟨k + 1, by omega, by go_num, HB.out.trans (hb1.mono hsz), fun j hj => (by
          rcases Nat.lt_or_eq_of_le (Nat.le_of_lt_succ hj) with h | h
          · exact H.out j h
          · rw [h]; exact HZ.out), (by show ferr er 0 n = _; rw [H2.out, HS.out, if_pos HZ.out])⟩
        case measure => simp [intOf]; omega
      · have HZ := Lib.hid hz
        have hq : (er k != 0) = true := by simpa using hz
        clear hz
        go_wp2_with (go_at_fn gk; refine hcon.mono ?_; rintro e w1 ⟨rfl, hb1⟩)
        go_ret
        exact ⟨ret_int (by rw [H2.out, HS.out, if_neg HZ.out]), HB.out.trans (hb1.mono hsz)⟩
    · obtain rfl : k = n := by omega
      have HB := Lib.hid hbel
      clear hbel
      go_wp2
      go_ret
      exact ⟨ret_int (by rw [H2.out, Nat.sub_self]; rfl), HB.out⟩
set_option maxRecDepth 100000 in
set_option maxHeartbeats 400000 in
theorem require1_any (bc be g : Nat) (cb : Array Value) (er : Int) (b : Bool) (w : World) (h1 : w.cell? ⟨bc, 0, none⟩ = some (.func (.func g) #[] cb)) (h2 : w.cell? ⟨be, 0, none⟩ = some (.int .i64 er)) (h3 : be < w.heap.size)
    (eg : ∀ args w, (callFunc g args).run Try.prog w = .ok (.enter g args) w)
    (hf : Calls Try.prog g cb w fun e w' => e = .returned (.bool b) ∧ Below w.heap.size w w') :
    Calls Try.prog 147 #[.pointer (some ⟨bc, 0, none⟩), .pointer (some ⟨be, 0, none⟩)] w fun e w' => e = .returned (.int .i64 (if b then 0 else er)) ∧ Below w.heap.size w w' := by
  have HF := Lib.hid hf
  clear hf
  cases b
  all_goals
    go_enter Try.func147, Try.ntmps147
    go_wp2_with (go_at_fn g; refine HF.out.mono ?_; rintro e w1 ⟨rfl, hb1⟩; have hv := (hb1.cell (p := ⟨be, 0, none⟩) h3).trans h2; have HB := Lib.hid hb1; clear hb1)
    go_ret
    exact ⟨rfl, HB.out⟩
set_option maxRecDepth 100000 in
set_option maxHeartbeats 400000 in
theorem require_any (er : Int) (g : Nat) (cb : Array Value) (w : World) :
    Calls Try.prog 116 #[.int .i64 er, .func (.func g) #[] cb] w fun e w' => e = .returned (.func (.func 147) #[] #[.pointer (some ⟨w.heap.size + 1, 0, none⟩), .pointer (some ⟨w.heap.size, 0, none⟩)]) ∧
      w' = (w.alloc (.cells #[.int .i64 er] 28)).alloc (.cells #[.func (.func g) #[] cb] 27) := by
  go_enter Try.func116, Try.ntmps116
  go_wp2
  go_ret
  exact ⟨rfl, rfl⟩
theorem thenB {w X Y : World} (h : Below w.heap.size w X) (h2 : Below X.heap.size X Y) : Below w.heap.size w Y := h.trans (h2.mono h.size)
theorem sSome {W : World} {a b : Addr} {v : Value} (h : (W.cell? a).isSome = true) : ((W.setCell b v).cell? a).isSome = true := by
  by_cases e : b = a
  · subst e
    rw [World.cell?_setCell_same' _ _ _ h]
    rfl
  · rw [World.cell?_setCell_other _ _ _ _ e]
    exact h
def sA : Value → Option Addr
  | .slice A _ _ => A
  | _ => none
def sC : Value → Nat
  | .slice _ _ c => c
  | _ => 0
def sG (v : Value) : Nat := ((sA v).map Addr.block).getD 0
theorem own_parts {w : World} {base e sz n : Nat} {v : Value} {xs : List Value} (h : w.ownsRow base e sz v n xs) : v = .slice (sA v) n (sC v) ∧ (0 < n → sA v = some ⟨sG v, 0, none⟩ ∧ v.ownBlock = some (sG v)) := by
  rcases h.2 with ⟨rfl, rfl⟩ | ⟨g, cap, cur, rfl, _⟩
  · exact ⟨rfl, fun h => absurd h (Nat.lt_irrefl 0)⟩
  · exact ⟨rfl, fun _ => ⟨rfl, rfl⟩⟩
/-- Whole numbers in memory. -/
def IA (w : World) (A : Option Addr) (n : Nat) (xs : Nat → Int) : Prop := 0 < n → ∃ b off, A = some ⟨b, off, none⟩ ∧ ∀ i, i < n → w.cell? ⟨b, off + i, none⟩ = some (.int .i64 (xs i))
theorem IA.below {w w1 : World} {A : Option Addr} {n : Nat} {xs : Nat → Int} (h : IA w A n xs) (hb : Below w.heap.size w w1) : IA w1 A n xs := fun h0 => by
  obtain ⟨b, off, e, hc⟩ := h h0
  exact ⟨b, off, e, fun i hi => keep hb (hc i hi)⟩
theorem addr_addI (b o i : Nat) : ((⟨b, o, none⟩ : Addr).add i) = ⟨b, o + i, none⟩ := by simp [Addr.add]
def intsV (n : Nat) (xs : Nat → Int) : List Value := (List.range n).map fun i => .int .i64 (xs i)
theorem intsV_s (n : Nat) (xs : Nat → Int) : intsV (n + 1) xs = intsV n xs ++ [.int .i64 (xs n)] := by simp [intsV, List.range_succ]
theorem intsV_len (n : Nat) (xs : Nat → Int) : (intsV n xs).length = n := by simp [intsV]
theorem own_intsV {w : World} {base e n : Nat} {v : Value} {xs : Nat → Int} (h : w.ownsRow base e 1 v n (intsV n xs)) : v = .slice (sA v) n (sC v) ∧ IA w (sA v) n xs := by
  obtain ⟨h1, h2⟩ := own_parts h
  refine ⟨h1, fun h0 => ?_⟩
  obtain ⟨h3, h4⟩ := h2 h0
  rw [h3] at h1
  rw [h1] at h
  refine ⟨sG v, 0, h3, fun i hi => ?_⟩
  have hc := h.cells (g := sG v) rfl i (.int .i64 (xs i)) (by simp [intsV, hi])
  rwa [addr_addI] at hc
theorem IA.less {w : World} {A : Option Addr} {n m : Nat} {xs : Nat → Int} (h : IA w A n xs) (hm : m ≤ n) : IA w A m xs := fun h0 => by
  obtain ⟨b, off, e, hc⟩ := h (by omega)
  exact ⟨b, off, e, fun i hi => hc i (by omega)⟩
theorem IA.same {w : World} {A : Option Addr} {n : Nat} {xs ys : Nat → Int} (h : IA w A n xs) (he : ∀ i, i < n → xs i = ys i) : IA w A n ys := fun h0 => by
  obtain ⟨b, off, e, hc⟩ := h h0
  exact ⟨b, off, e, fun i hi => by rw [← he i hi]; exact hc i hi⟩
def Entr (g : Nat) : Prop := ∀ args w, (callFunc g args).run Try.prog w = .ok (.enter g args) w
/-- the value is a closure that answers the error er in each later world, if what it relies on holds -/
def Chk (pre : Prop) (er : Int) (v : Value) (w : World) : Prop := ∃ g cb, v = .func (.func g) #[] cb ∧ Entr g ∧ ∀ w1, Below w.heap.size w w1 → pre → Calls Try.prog g cb w1 fun e w' => e = .returned (.int .i64 er) ∧ Below w1.heap.size w1 w'
/-- .. that answers the Bool b -/
def Cnd (pre : Prop) (b : Bool) (v : Value) (w : World) : Prop := ∃ g cb, v = .func (.func g) #[] cb ∧ Entr g ∧ ∀ w1, Below w.heap.size w w1 → pre → Calls Try.prog g cb w1 fun e w' => e = .returned (.bool b) ∧ Below w1.heap.size w1 w'
theorem Chk.on {pre : Prop} {er : Int} {v : Value} {w w2 : World} (h : Chk pre er v w) (hb : Below w.heap.size w w2) : Chk pre er v w2 := by
  obtain ⟨g, cb, hv, he, hc⟩ := h
  exact ⟨g, cb, hv, he, fun w1 h1 hp => hc w1 (belowT hb h1) hp⟩
theorem Cnd.on {pre : Prop} {b : Bool} {v : Value} {w w2 : World} (h : Cnd pre b v w) (hb : Below w.heap.size w w2) : Cnd pre b v w2 := by
  obtain ⟨g, cb, hv, he, hc⟩ := h
  exact ⟨g, cb, hv, he, fun w1 h1 hp => hc w1 (belowT hb h1) hp⟩
theorem Chk.imp {pre pre' : Prop} {er : Int} {v : Value} {w : World} (h : Chk pre er v w) (hp : pre' → pre) : Chk pre' er v w := by
  obtain ⟨g, cb, hv, he, hc⟩ := h
  exact ⟨g, cb, hv, he, fun w1 h1 h2 => hc w1 h1 (hp h2)⟩
def Chks (n : Nat) (er : Nat → Int) (v : Value) (w : World) : Prop := ∃ L, v = .slice (some ⟨L, 0, none⟩) n n ∧ ∃ F : Nat → Value, (∀ i, i < n → w.cell? ⟨L, 0 + i, none⟩ = some (F i)) ∧ ∀ i, i < n → Chk (∀ j, j < i → er j = 0) (er i) (F i) w
theorem Chks.on {n : Nat} {er : Nat → Int} {v : Value} {w w2 : World} (h : Chks n er v w) (hb : Below w.heap.size w w2) : Chks n er v w2 := by
  obtain ⟨L, hv, F, hF, hC⟩ := h
  exact ⟨L, hv, F, fun i hi => keep hb (hF i hi), fun i hi => (hC i hi).on hb⟩
theorem first_chks {n : Nat} {er : Nat → Int} {v : Value} {w : World} (hn : n ≤ 100) (h0 : 0 < n) (h : Chks n er v w) :
    Calls Try.prog 87 #[v] w fun e w' => e = .returned (.int .i64 (ferr er 0 n)) ∧ Below w.heap.size w w' := by
  obtain ⟨L, rfl, F, hF, hC⟩ := h
  have h1 : ∀ i, ∃ q : Nat × Array Value, i < n → F i = .func (.func q.1) #[] q.2 ∧ Entr q.1 ∧ ∀ w1, Below w.heap.size w w1 → (∀ j, j < i → er j = 0) → Calls Try.prog q.1 q.2 w1 fun e w' => e = .returned (.int .i64 (er i)) ∧ Below w1.heap.size w1 w' := by
    intro i
    by_cases hi : i < n
    · obtain ⟨g, cb, hv⟩ := hC i hi
      exact ⟨(g, cb), fun _ => hv⟩
    · exact ⟨(0, #[]), fun h => absurd h hi⟩
  obtain ⟨q, hq⟩ := Classical.skolem.1 h1
  exact firstError_any L n (fun i => (q i).1) (fun i => (q i).2) er w hn (lt_of (hF 0 h0)) (fun i hi => by rw [hF i hi, (hq i hi).1]) (fun i hi => (hq i hi).2.1) (fun i w1 hi hz hb => (hq i hi).2.2 w1 hb hz)
def mpChk (pre : Prop) (er : Int) : MP := ⟨Chk pre er, fun _ _ _ h hb => h.on hb⟩
def mpCnd (pre : Prop) (b : Bool) : MP := ⟨Cnd pre b, fun _ _ _ h hb => h.on hb⟩
def mpChks (n : Nat) (er : Nat → Int) : MP := ⟨Chks n er, fun _ _ _ h hb => h.on hb⟩
theorem require_chk {pre : Prop} {b : Bool} (er : Int) (v : Value) (w : World) (h : Cnd pre b v w) :
    Calls Try.prog 116 #[.int .i64 er, v] w fun e w' => ∃ v', e = .returned v' ∧ Below w.heap.size w w' ∧ Chk pre (if b then 0 else er) v' w' := by
  obtain ⟨g, cb, rfl, he, hc⟩ := h
  refine (require_any er g cb w).mono ?_
  rintro e w' ⟨rfl, rfl⟩
  have hb : Below w.heap.size w ((w.alloc (.cells #[.int .i64 er] 28)).alloc (.cells #[.func (.func g) #[] cb] 27)) := by (repeat (first | with_reducible exact Below.refl _ _ | with_reducible assumption | with_reducible refine Below.alloc ?_ (by first | (simp; done) | (simp; omega) | omega) _ | with_reducible refine Below.setCell ?_ (by first | (simp; done) | (simp; omega) | omega) _ | with_reducible refine Below.drew ?_ | with_reducible refine below_drewN ?_ _))
  exact ⟨_, rfl, hb, _, _, rfl, (enters_of Try.func147 (by kernel_rfl) rfl), fun w1 h1 hp => require1_any (w.heap.size + 1) w.heap.size g cb er b w1 (keep h1 (by simp [go_sem])) (keep h1 (by simp [go_sem])) (lt_of (keep h1 (b := w.heap.size) (o := 0) (v := .int .i64 er) (by simp [go_sem]))) he (hc w1 (belowT hb h1) hp)⟩
end Go.Proofs.Ytpkacfgmojblbaa
namespace Go.Proofs.Ytpkacfgmojblbaa
open Go.RowKit
attribute [local go_sem] old1 fro1 old2 fro2 old3 fro3 old4 fro4 old5 fro5 old6 fro6 old7 fro7 old8 fro8 old9 fro9 old10 fro10 old11 fro11 old12 fro12
def ma0 : List Bool := [false, false, false, true, true, true, true, true, true, true, true, true, true, true, true, true, true, true]
set_option maxRecDepth 100000 in
set_option maxHeartbeats 400000 in
theorem range1_any (b0 b1 b2 : Nat) (n lo hi : Int) (w : World) (h0 : w.cell? ⟨b0, 0, none⟩ = some (.int .i64 n)) (h1 : w.cell? ⟨b1, 0, none⟩ = some (.int .i64 lo)) (h2 : w.cell? ⟨b2, 0, none⟩ = some (.int .i64 hi)) :
    Calls Try.prog 126 #[.pointer (some ⟨b0, 0, none⟩), .pointer (some ⟨b1, 0, none⟩), .pointer (some ⟨b2, 0, none⟩)] w fun e w' => e = .returned (.bool (wi n lo hi)) ∧ Below w.heap.size w w' := by
  have HW := fun W => Lib.hid (within_any n lo hi W)
  go_enter Try.func126, Try.ntmps126
  go_wp2_with (go_at_call 127; (with_reducible refine Calls.mono (HW _).out ?_); rintro e w1 ⟨rfl, rfl⟩)
  all_goals
    go_ret
    exact ⟨rfl, by (repeat (first | with_reducible exact Below.refl _ _ | with_reducible assumption | with_reducible refine Below.alloc ?_ (by first | (simp; done) | (simp; omega) | omega) _ | with_reducible refine Below.setCell ?_ (by first | (simp; done) | (simp; omega) | omega) _ | with_reducible refine Below.drew ?_ | with_reducible refine below_drewN ?_ _))⟩
theorem range_cnd (b0 b1 b2 : Nat) (n lo hi : Int) (w : World) (h0 : w.cell? ⟨b0, 0, none⟩ = some (.int .i64 n)) (h1 : w.cell? ⟨b1, 0, none⟩ = some (.int .i64 lo)) (h2 : w.cell? ⟨b2, 0, none⟩ = some (.int .i64 hi)) :
    Cnd True (wi n lo hi) (.func (.func 126) #[] #[.pointer (some ⟨b0, 0, none⟩), .pointer (some ⟨b1, 0, none⟩), .pointer (some ⟨b2, 0, none⟩)]) w :=
  ⟨_, _, rfl, (enters_of Try.func126 (by kernel_rfl) rfl), fun w1 hb _ => range1_any b0 b1 b2 n lo hi w1 (keep hb h0) (keep hb h1) (keep hb h2)⟩
def rgE (n lo hi : Int) : Int := if wi n lo hi then 0 else 2
set_option maxRecDepth 100000 in
set_option maxHeartbeats 400000 in
theorem range_chk (n lo hi : Int) (w : World) :
    Calls Try.prog 88 #[.int .i64 n, .int .i64 lo, .int .i64 hi] w fun e w' => ∃ v, e = .returned v ∧ Below w.heap.size w w' ∧ Chk True (rgE n lo hi) v w' := by
  have HR := Lib.hid (fun (v : Value) W (h : Cnd True (wi n lo hi) v W) => require_chk 2 v W h)
  have HC := Lib.hid (fun b0 b1 b2 W => range_cnd b0 b1 b2 n lo hi W)
  go_enter Try.func88, Try.ntmps88
  go_wp2_with (go_at_call 116; (with_reducible refine Calls.mono (HR.out _ _ (HC.out _ _ _ _ (by simp [go_sem]) (by simp [go_sem]) (by simp [go_sem]))) ?_); rintro e w1 ⟨v, rfl, hb1, hc1⟩; have B1 := Lib.hid (belowT (show Below w.heap.size w _ by (repeat (first | with_reducible exact Below.refl _ _ | with_reducible assumption | with_reducible refine Below.alloc ?_ (by first | (simp; done) | (simp; omega) | omega) _ | with_reducible refine Below.setCell ?_ (by first | (simp; done) | (simp; omega) | omega) _ | with_reducible refine Below.drew ?_ | with_reducible refine below_drewN ?_ _))) hb1); have K1 := Lib.hid hc1; clear hb1 hc1)
  go_ret
  exact ⟨v, rfl, B1.out, K1.out⟩
/-- the value is a function that answers the error er of an item, in each later world -/
def Itm {α : Type} (vs : α → Value) (er : α → Int) (v : Value) (w : World) : Prop := ∃ g cb, v = .func (.func g) #[] cb ∧ Entr g ∧ ∀ x w1, Below w.heap.size w w1 → Calls Try.prog g (#[vs x] ++ cb) w1 fun e w' => e = .returned (.int .i64 (er x)) ∧ Below w1.heap.size w1 w'
theorem Itm.on {α : Type} {vs : α → Value} {er : α → Int} {v : Value} {w w2 : World} (h : Itm vs er v w) (hb : Below w.heap.size w w2) : Itm vs er v w2 := by
  obtain ⟨g, cb, hv, he, hc⟩ := h
  exact ⟨g, cb, hv, he, fun x w1 h1 => hc x w1 (belowT hb h1)⟩
def mpItm {α : Type} (vs : α → Value) (er : α → Int) : MP := ⟨Itm vs er, fun _ _ _ h hb => h.on hb⟩
def gv (g : Int × Int) : Value := .agg #[.int .i64 g.1, .int .i64 g.2]
def iv (x : Int) : Value := .int .i64 x
set_option maxRecDepth 100000 in
set_option maxHeartbeats 400000 in
theorem numbers1_any (b0 b1 : Nat) (x lo hi : Int) (w : World) (h0 : w.cell? ⟨b0, 0, none⟩ = some (.int .i64 lo)) (h1 : w.cell? ⟨b1, 0, none⟩ = some (.int .i64 hi)) :
    Calls Try.prog 151 #[.int .i64 x, .pointer (some ⟨b0, 0, none⟩), .pointer (some ⟨b1, 0, none⟩)] w fun e w' => e = .returned (.int .i64 (rgE x lo hi)) ∧ Below w.heap.size w w' := by
  have HR := Lib.hid (fun W => range_chk x lo hi W)
  go_enter Try.func151, Try.ntmps151
  go_wp2_with (first
    | (go_at_call 88; (with_reducible refine Calls.mono (HR.out _) ?_); rintro e w1 ⟨v, rfl, hb1, g, cb, rfl, he1, hc1⟩; have B1 := Lib.hid (belowT (show Below w.heap.size w _ by (repeat (first | with_reducible exact Below.refl _ _ | with_reducible assumption | with_reducible refine Below.alloc ?_ (by first | (simp; done) | (simp; omega) | omega) _ | with_reducible refine Below.setCell ?_ (by first | (simp; done) | (simp; omega) | omega) _ | with_reducible refine Below.drew ?_ | with_reducible refine below_drewN ?_ _))) hb1); have heg : ∀ args w, (callFunc g args).run Try.prog w = .ok (.enter g args) w := he1; have K1 := Lib.hid hc1; clear hb1 he1 hc1)
    | (go_at_fn g; refine (K1.out w1 (Below.refl _ _) trivial).mono ?_; rintro e w2 ⟨rfl, hb2⟩; have B2 := Lib.hid (belowT B1.out hb2); clear hb2))
  go_ret
  exact ⟨rfl, B2.out⟩
set_option maxRecDepth 100000 in
set_option maxHeartbeats 400000 in
theorem numbers_itm (lo hi : Int) (w : World) :
    Calls Try.prog 119 #[.int .i64 lo, .int .i64 hi] w fun e w' => ∃ v, e = .returned v ∧ Below w.heap.size w w' ∧ Itm iv (fun x => rgE x lo hi) v w' := by
  go_enter Try.func119, Try.ntmps119
  go_wp2
  go_ret
  exact ⟨_, rfl, by (repeat (first | with_reducible exact Below.refl _ _ | with_reducible assumption | with_reducible refine Below.alloc ?_ (by first | (simp; done) | (simp; omega) | omega) _ | with_reducible refine Below.setCell ?_ (by first | (simp; done) | (simp; omega) | omega) _ | with_reducible refine Below.drew ?_ | with_reducible refine below_drewN ?_ _)), _, _, rfl, (enters_of Try.func151 (by kernel_rfl) rfl), fun x w1 hb => numbers1_any _ _ x lo hi w1 (keep hb (by simp [go_sem])) (keep hb (by simp [go_sem]))⟩
def ptE (m : Int) (g : Int × Int) : Int := if rgE g.1 (-m) m = 0 then rgE g.2 (-m) m else rgE g.1 (-m) m
theorem ferr_2 (a b : Int) : ferr (fun i => if i = 0 then a else b) 0 2 = if a = 0 then b else a := by
  simp only [ferr]
  by_cases h : a = 0 <;> by_cases hb : b = 0 <;> simp [h, hb]
theorem ferr_3 (a b c : Int) : ferr (fun i => if i = 0 then a else if i = 1 then b else c) 0 3 = if a = 0 then (if b = 0 then c else b) else a := by
  simp only [ferr]
  by_cases h : a = 0 <;> by_cases hb : b = 0 <;> by_cases hc : c = 0 <;> simp [h, hb, hc]

set_option maxRecDepth 100000 in
set_option maxHeartbeats 2000000 in
theorem parts1_any (b : Nat) (m : Int) (g : Int × Int) (w : World) (hm : 0 ≤ m ∧ m ≤ 1000000000) (h0 : w.cell? ⟨b, 0, none⟩ = some (.int .i64 m)) :
    Calls Try.prog 131 #[.agg #[.int .i64 g.1, .int .i64 g.2], .pointer (some ⟨b, 0, none⟩)] w fun e w' => e = .returned (.int .i64 (ptE m g)) ∧ Below w.heap.size w w' := by
  have HN : IntKind.i64.wrap (-m) = -m := IntWalk.i64_in _ (by omega)
  go_enter Try.func131, Try.ntmps131
  go_wp2_with fail
  have hbw : Below w.heap.size w (w.alloc (.cells #[.int .i64 g.1, .int .i64 g.2] 23)) := by (repeat (first | with_reducible exact Below.refl _ _ | with_reducible assumption | with_reducible refine Below.alloc ?_ (by first | (simp; done) | (simp; omega) | omega) _ | with_reducible refine Below.setCell ?_ (by first | (simp; done) | (simp; omega) | omega) _ | with_reducible refine Below.drew ?_ | with_reducible refine below_drewN ?_ _))
  have q0 := keep hbw h0
  have p0 : (w.alloc (.cells #[.int .i64 g.1, .int .i64 g.2] 23)).cell? ⟨w.heap.size, 0, none⟩ = some (.int .i64 g.1) := by simp [go_sem]
  have p1 : (w.alloc (.cells #[.int .i64 g.1, .int .i64 g.2] 23)).cell? ⟨w.heap.size, 1, none⟩ = some (.int .i64 g.2) := by simp [go_sem]
  generalize w.alloc (.cells #[.int .i64 g.1, .int .i64 g.2] 23) = w1 at *
  refine wp_region_mp [mpEq (.pointer (some ⟨w.heap.size, 0, none⟩)), mpEq (.int .i64 (g.1)), mpEq (.int .i64 m), mpEq (.int .i64 (-m)), mpEq (.int .i64 m), mpChk (True) (rgE (g.1) (-m) m), mpEq (.pointer (some ⟨w.heap.size, 1, none⟩)), mpEq (.int .i64 (g.2)), mpEq (.int .i64 m), mpEq (.int .i64 (-m)), mpEq (.int .i64 m), mpChk (True) (rgE (g.2) (-m) m), mpChks 2 (fun i => if i = 0 then rgE (g.1) (-m) m else rgE (g.2) (-m) m), mpEq (.int .i64 (ptE m g)), mpEq (.int .i64 (ptE m g))] ma0 (by kernel_rfl) (by kernel_rfl) (by kernel_rfl) (
      allOps_cons (fun a' w' hb hs hd => rg_op fun K hK => by
    have e0 := (hs.get 2 (by kernel_rfl)).trans (show _ = .pointer (some ⟨w.heap.size, 0, none⟩) from rfl)
    have ec : ∀ v, a'.eval (.const v) = v := fun _ => rfl
    clear hs hd
    unfold Oper.wp
    generalize a'.eval = ρ at e0 ec ⊢
    simp [go_sem, e0]
    exact hK _ _ (Below.refl _ _) rfl) <|
      allOps_cons (fun a' w' hb hs hd => rg_op fun K hK => by
    have e0 := (show a'.eval (.tmp 4) = .pointer (some ⟨w.heap.size, 0, none⟩) from hd.get 0 4 (by kernel_rfl) (by kernel_rfl))
    have ec : ∀ v, a'.eval (.const v) = v := fun _ => rfl
    have c0 := keep hb p0
    clear hs hd
    unfold Oper.wp
    generalize a'.eval = ρ at e0 ec ⊢
    simp [go_sem, e0, c0]
    exact hK _ _ (Below.refl _ _) rfl) <|
      allOps_cons (fun a' w' hb hs hd => rg_op fun K hK => by
    have e0 := (hs.get 1 (by kernel_rfl)).trans (show _ = .pointer (some ⟨b, 0, none⟩) from rfl)
    have ec : ∀ v, a'.eval (.const v) = v := fun _ => rfl
    have c0 := keep hb q0
    clear hs hd
    unfold Oper.wp
    generalize a'.eval = ρ at e0 ec ⊢
    simp [go_sem, e0, c0]
    exact hK _ _ (Below.refl _ _) rfl) <|
      allOps_cons (fun a' w' hb hs hd => rg_op fun K hK => by
    have e0 := (show a'.eval (.tmp 6) = .int .i64 m from hd.get 2 6 (by kernel_rfl) (by kernel_rfl))
    have ec : ∀ v, a'.eval (.const v) = v := fun _ => rfl
    clear hs hd
    unfold Oper.wp
    generalize a'.eval = ρ at e0 ec ⊢
    simp [go_sem, e0, HN]
    exact hK _ _ (Below.refl _ _) rfl) <|
      allOps_cons (fun a' w' hb hs hd => rg_op fun K hK => by
    have e0 := (hs.get 1 (by kernel_rfl)).trans (show _ = .pointer (some ⟨b, 0, none⟩) from rfl)
    have ec : ∀ v, a'.eval (.const v) = v := fun _ => rfl
    have c0 := keep hb q0
    clear hs hd
    unfold Oper.wp
    generalize a'.eval = ρ at e0 ec ⊢
    simp [go_sem, e0, c0]
    exact hK _ _ (Below.refl _ _) rfl) <|
      allOps_cons (fun a' w' hb hs hd => by
    exact rg_fn (φ := (mpChk (True) (rgE (g.1) (-m) m)).p) (vs := #[.int .i64 (g.1), .int .i64 (-m), .int .i64 m]) rfl (enters_of Try.func88 (by kernel_rfl) rfl) (by simp [(show a'.eval (.tmp 5) = .int .i64 (g.1) from hd.get 1 5 (by kernel_rfl) (by kernel_rfl)), (show a'.eval (.tmp 7) = .int .i64 (-m) from hd.get 3 7 (by kernel_rfl) (by kernel_rfl)), (show a'.eval (.tmp 8) = .int .i64 m from hd.get 4 8 (by kernel_rfl) (by kernel_rfl))]) (range_chk (g.1) (-m) m w')) <|
      allOps_cons (fun a' w' hb hs hd => rg_op fun K hK => by
    have e0 := (hs.get 2 (by kernel_rfl)).trans (show _ = .pointer (some ⟨w.heap.size, 0, none⟩) from rfl)
    have ec : ∀ v, a'.eval (.const v) = v := fun _ => rfl
    clear hs hd
    unfold Oper.wp
    generalize a'.eval = ρ at e0 ec ⊢
    simp [go_sem, e0]
    exact hK _ _ (Below.refl _ _) rfl) <|
      allOps_cons (fun a' w' hb hs hd => rg_op fun K hK => by
    have e0 := (show a'.eval (.tmp 10) = .pointer (some ⟨w.heap.size, 1, none⟩) from hd.get 6 10 (by kernel_rfl) (by kernel_rfl))
    have ec : ∀ v, a'.eval (.const v) = v := fun _ => rfl
    have c0 := keep hb p1
    clear hs hd
    unfold Oper.wp
    generalize a'.eval = ρ at e0 ec ⊢
    simp [go_sem, e0, c0]
    exact hK _ _ (Below.refl _ _) rfl) <|
      allOps_cons (fun a' w' hb hs hd => rg_op fun K hK => by
    have e0 := (hs.get 1 (by kernel_rfl)).trans (show _ = .pointer (some ⟨b, 0, none⟩) from rfl)
    have ec : ∀ v, a'.eval (.const v) = v := fun _ => rfl
    have c0 := keep hb q0
    clear hs hd
    unfold Oper.wp
    generalize a'.eval = ρ at e0 ec ⊢
    simp [go_sem, e0, c0]
    exact hK _ _ (Below.refl _ _) rfl) <|
      allOps_cons (fun a' w' hb hs hd => rg_op fun K hK => by
    have e0 := (show a'.eval (.tmp 12) = .int .i64 m from hd.get 8 12 (by kernel_rfl) (by kernel_rfl))
    have ec : ∀ v, a'.eval (.const v) = v := fun _ => rfl
    clear hs hd
    unfold Oper.wp
    generalize a'.eval = ρ at e0 ec ⊢
    simp [go_sem, e0, HN]
    exact hK _ _ (Below.refl _ _) rfl) <|
      allOps_cons (fun a' w' hb hs hd => rg_op fun K hK => by
    have e0 := (hs.get 1 (by kernel_rfl)).trans (show _ = .pointer (some ⟨b, 0, none⟩) from rfl)
    have ec : ∀ v, a'.eval (.const v) = v := fun _ => rfl
    have c0 := keep hb q0
    clear hs hd
    unfold Oper.wp
    generalize a'.eval = ρ at e0 ec ⊢
    simp [go_sem, e0, c0]
    exact hK _ _ (Below.refl _ _) rfl) <|
      allOps_cons (fun a' w' hb hs hd => by
    exact rg_fn (φ := (mpChk (True) (rgE (g.2) (-m) m)).p) (vs := #[.int .i64 (g.2), .int .i64 (-m), .int .i64 m]) rfl (enters_of Try.func88 (by kernel_rfl) rfl) (by simp [(show a'.eval (.tmp 11) = .int .i64 (g.2) from hd.get 7 11 (by kernel_rfl) (by kernel_rfl)), (show a'.eval (.tmp 13) = .int .i64 (-m) from hd.get 9 13 (by kernel_rfl) (by kernel_rfl)), (show a'.eval (.tmp 14) = .int .i64 m from hd.get 10 14 (by kernel_rfl) (by kernel_rfl))]) (range_chk (g.2) (-m) m w')) <|
      allOps_cons (fun a' w' hb hs hd => rg_op fun K hK => by
    have k0 : (mpChk (True) (rgE (g.1) (-m) m)).p (a'.eval (.tmp 9)) w' := hd.get 5 9 (by kernel_rfl) (by kernel_rfl)
    have k1 : (mpChk (True) (rgE (g.2) (-m) m)).p (a'.eval (.tmp 15)) w' := hd.get 11 15 (by kernel_rfl) (by kernel_rfl)
    clear hs hd
    unfold Oper.wp
    generalize a'.eval = ρ at k0 k1 ⊢
    obtain ⟨g0, f0, e0, h0⟩ := k0
    obtain ⟨g1, f1, e1, h1⟩ := k1
    simp [go_sem, e0, e1]
    have hx := (Below.refl w'.heap.size w').alloc (Nat.le_refl _) (.cells #[.func (.func g0) #[] f0, .func (.func g1) #[] f1] 121)
    refine hK _ _ hx ⟨_, rfl, fun i => if i = 0 then .func (.func g0) #[] f0 else .func (.func g1) #[] f1, fun i hi => ?_, fun i hi => ?_⟩
    · rcases (by omega : i = 0 ∨ i = 1) with rfl | rfl <;> simp [go_sem]
    · rcases (by omega : i = 0 ∨ i = 1) with rfl | rfl
      · exact Chk.imp (Chk.on (show Chk (True) (rgE (g.1) (-m) m) (.func (.func g0) #[] f0) w' from ⟨g0, f0, rfl, h0⟩) hx) (fun _ => trivial)
      · exact Chk.imp (Chk.on (show Chk (True) (rgE (g.2) (-m) m) (.func (.func g1) #[] f1) w' from ⟨g1, f1, rfl, h1⟩) hx) (fun _ => trivial)) <|
      allOps_cons (fun a' w' hb hs hd => by
    exact rg_fn (φ := (mpEq (.int .i64 (ptE m g))).p) (vs := #[a'.eval (.tmp 16)]) rfl (enters_of Try.func87 (by kernel_rfl) rfl) (by simp) ((first_chks (n := 2) (er := (fun i => if i = 0 then rgE (g.1) (-m) m else rgE (g.2) (-m) m)) (by omega) (by omega) (hd.get 12 16 (by kernel_rfl) (by kernel_rfl))).mono (by rintro e w1 ⟨rfl, h1⟩; exact ⟨_, rfl, h1, congrArg (Value.int .i64) (ferr_2 _ _)⟩))) <|
      allOps_cons (fun a' w' hb hs hd => rg_op fun K hK => by
    have e0 := (show a'.eval (.tmp 17) = .int .i64 (ptE m g) from hd.get 13 17 (by kernel_rfl) (by kernel_rfl))
    have ec : ∀ v, a'.eval (.const v) = v := fun _ => rfl
    clear hs hd
    unfold Oper.wp
    generalize a'.eval = ρ at e0 ec ⊢
    simp [go_sem, e0]
    exact hK _ _ (Below.refl _ _) rfl) <| allOps_nil) (fun V w2 hb2 hall => ?_)
  have h3 : V 3 = .int .i64 (ptE m g) := hall.get 14 rfl
  clear hall
  simp only [ma0, maskPut, Nat.reduceAdd]
  rw [h3]
  clear h3
  go_wp2_with fail
  go_ret
  exact ⟨rfl, belowT hbw hb2⟩
theorem parts_itm (m : Int) (w : World) (hm : 0 ≤ m ∧ m ≤ 1000000000) :
    Calls Try.prog 91 #[.int .i64 m] w fun e w' => ∃ v, e = .returned v ∧ Below w.heap.size w w' ∧ Itm gv (ptE m) v w' := by
  go_enter Try.func91, Try.ntmps91
  go_wp2
  go_ret
  exact ⟨_, rfl, by (repeat (first | with_reducible exact Below.refl _ _ | with_reducible assumption | with_reducible refine Below.alloc ?_ (by first | (simp; done) | (simp; omega) | omega) _ | with_reducible refine Below.setCell ?_ (by first | (simp; done) | (simp; omega) | omega) _ | with_reducible refine Below.drew ?_ | with_reducible refine below_drewN ?_ _)), _, _, rfl, (enters_of Try.func131 (by kernel_rfl) rfl), fun x w1 hb => parts1_any _ m x w1 hm (keep hb (by simp [go_sem]))⟩
end Go.Proofs.Ytpkacfgmojblbaa
