/- Helpers: the full counters of packets. No condition but the hypotheses that each theorem names. -/
import Derived.Test.YtpkacfgmojblbaaB05
import Derived.Test.YtpkacfgmojblbaaB04
import Derived.Test.YtpkacfgmojblbaaB01
import Derived.Maps.OwnSet
import Derived.Maps.OwnOps
import Derived.Test.YtpkacfgmojblbaaB03
import Derived.Test.YtpkacfgmojblbaaB00
namespace Go.Proofs.Ytpkacfgmojblbaa
open Go.RowKit
attribute [local go_sem] old1 fro1 old2 fro2 old3 fro3 old4 fro4 old5 fro5 old6 fro6 old7 fro7 old8 fro8 old9 fro9 old10 fro10 old11 fro11 old12 fro12
/-- the full counters of packets -/
def fc (k : Nat → Nat → Int) : Nat → Int
  | 0 => k 0 0 + 1024
  | i + 1 => uwr (fc k i) (k (i + 1) 0)
theorem fc_bd {k : Nat → Nat → Int} {n : Nat} (hk : ∀ i, i < n → 0 ≤ k i 0 ∧ k i 0 ≤ 1023) : ∀ i, i < n → 0 ≤ fc k i ∧ fc k i ≤ 2047 + 1023 * i
  | 0, h => by have := hk 0 h; simp only [fc]; omega
  | i + 1, h => by
    have ih := fc_bd hk i (by omega)
    have := uwr_bd (fc k i) (k (i + 1) 0)
    simp only [fc]
    omega
set_option maxRecDepth 100000 in
set_option maxHeartbeats 4000000 in
theorem fullCounters_any (A : Option Addr) (n c : Nat) (k : Nat → Nat → Int) (w : World) (hn : n ≤ 30) (hA : KA w A n k) (hk : ∀ i, i < n → 0 ≤ k i 0 ∧ k i 0 ≤ 1023) :
    Calls Try.prog 134 #[.slice A n c] w fun e w' => ∃ G, e = .returned (.slice (some ⟨G, 0, none⟩) n n) ∧ IM w' G n (fc k) ∧ w.heap.size ≤ G ∧ Below w.heap.size w w' := by
  obtain ⟨i0, hi0, hz0, hz1, hz2⟩ := info_parts infoInt
  have HK := Lib.hid hk
  have HA := Lib.hid hA
  clear hk hA
  go_enter Try.func134, Try.ntmps134
  go_wp2_with (at_make; go_loud (refine wpList_make_full _ rfl _ _ 38 rfl w.heap.size 3 i0 _ 1 undInts hi0 hz0 hz1 .i64 .i64 n n n rfl rfl rfl rfl (by rw [hz2]; omega) (by unfold maxLen; omega) (by simp) ?_; intro wm hown hgrow; have hbm := below_none hgrow; have HM := Lib.hid (made_im hown); have BM := Lib.hid hbm; clear hown hgrow hbm))
  generalize hG : w.heap.size = G at *
  go_loopw [4, 5, 11] (fun s4 s5 s11 wr => ∃ j : Nat, j ≤ n ∧ s11 = .int .i64 j ∧ Below G w wr ∧ Hid (IM wr G n (upto j (fc k)))) (fun _ _ i _ => n - (intOf i).toNat)
  case atStart => exact ⟨0, Nat.zero_le _, rfl, BM.out, HM.out.same (fun i _ => by simp [upto])⟩
  case round =>
    obtain ⟨j, hj, rfl, hbel, HI⟩ := hrel
    have HB := Lib.hid hbel
    by_cases hlt : j < n
    · obtain ⟨bA, oA, rfl, hA2⟩ := HA.out.bel (hG.symm ▸ hbel) (by omega)
      have LD := Lib.hid (hA2 j hlt)
      have p0 := pk_cell wr (k j) 26 0 (by omega)
      obtain ⟨k0, k1⟩ := HK.out j hlt
      have hGw : G < wr.heap.size := HI.out.1
      have c0 := (HI.out.2 j hlt).1
      have z0 := (HI.out.2 j hlt).2
      have g1 : (0 : Int) ≤ (j : Int) := by omega
      have g2 : (j : Int) < (n : Int) := by omega
      clear hA2 hbel
      have HKJ := Lib.hid (And.intro k0 k1)
      clear k0 k1
      have hBx : Hid (Below G w (wr.alloc (.cells (pk (k j)) 26))) := HB.out.alloc (by omega) _
      have HIx : Hid (IM (wr.alloc (.cells (pk (k j)) 26)) G n (upto j (fc k))) := HI.out.on ((Below.refl _ _).alloc (Nat.le_refl _) _)
      rcases Nat.eq_zero_or_pos j with rfl | hpos
      · have x0 : IntKind.i64.wrap (k 0 0 + 1024) = k 0 0 + 1024 := IntWalk.i64_in _ (by have := HKJ.out; omega)
        go_wp2_with (first | (refine wl_ld rfl _ rfl bA (oA + 0 * 18) rfl (k 0) LD.out ?_) | (refine wl_st rfl _ _ rfl _ rfl rfl (k 0) rfl ?_))
        go_roundw
        case rel => exact ⟨1, by omega, by go_num, (HB.out.setCell (Nat.le_refl _) _).alloc (by simp; omega) _, ((HI.out.set hlt _).on ((Below.refl _ _).alloc (Nat.le_refl _) _)).same (fun i _ => upto_s 0 (fc k) i)⟩
        case measure => simp [intOf]; omega
      · obtain ⟨i, rfl⟩ : ∃ i, j = i + 1 := ⟨j - 1, by omega⟩
        have HF := Lib.hid (fc_bd HK.out i (by omega))
        have HU := fun W => Lib.hid (unwrapped_any (fc k i) (k (i + 1) 0) (HF.out.1) (by have := HF.out; omega) HKJ.out.1 HKJ.out.2 W)
        have c1 := (HI.out.2 i (by omega)).1
        have hu : upto (i + 1) (fc k) i = fc k i := by simp [upto]
        rw [hu] at c1
        have w1 : IntKind.i64.wrap ((i : Int) + 1 - 1) = (i : Int) := by rw [Int.add_sub_cancel]; exact IntWalk.i64_in _ (by omega)
        have w2 : IntKind.i64.wrap (i : Int) = (i : Int) := IntWalk.i64_in _ (by omega)
        have g3 : ((i : Int) + 1 == 0) = false := by simp; omega
        have g4 : (i : Int) < (n : Int) := by omega
        have g5 : (0 : Int) ≤ (i : Int) := by omega
        have hs : fc k (i + 1) = uwr (fc k i) (k (i + 1) 0) := rfl
        have HS := Lib.hid hs
        clear hs hu
        generalize uwr (fc k i) (k (i + 1) 0) = X at *
        generalize hY : fc k i = Y at *
        generalize hZ : k (i + 1) 0 = Z at *
        go_wp2_with (first | (refine wl_ld rfl _ rfl bA (oA + (i + 1) * 18) rfl (k (i + 1)) LD.out ?_) | (refine wl_st rfl _ _ rfl _ rfl rfl (k (i + 1)) rfl ?_))
        go_region_with (go_at_call 89; (with_reducible refine Calls.mono (HU _).out ?_); rintro e w1 ⟨rfl, rfl⟩)
        all_goals
          go_wp2
          go_roundw
          case rel => exact ⟨i + 1 + 1, by omega, by go_num, ((HB.out.setCell (Nat.le_refl _) _).alloc (by simp; omega) _).drew, (((HI.out.set hlt _).on ((Below.refl _ _).alloc (Nat.le_refl _) _)).on (Below.refl _ _).drew).same (fun i' _ => by rw [← HS.out]; exact upto_s (i + 1) (fc k) i')⟩
          case measure => simp [intOf]; omega
    · obtain rfl : j = n := by omega
      clear hbel
      go_wp2
      go_ret
      exact ⟨G, rfl, HI.out.same (fun i hi => by simp [upto, hi]), Nat.le_of_eq hG, hG.symm ▸ HB.out⟩

end Go.Proofs.Ytpkacfgmojblbaa
namespace Go.Proofs.Ytpkacfgmojblbaa
open Go.RowKit
open Go.WideElems (Fit)
open Go.Maps (Keyed)
theorem undKey : Try.prog.underlying 3 = some (.int .i64) := by kernel_rfl
theorem keyI : Keyed Try.prog 3 := Go.Maps.int_keyed undKey
def RV (v : Value) : Option (DataW Value × List MemPlace) := some (.held v, [])
/-- a block is a map that the call made, of at most n entries; f: what it holds -/
def MI (w : World) (b n : Nat) (f : Int → Option Value) : Prop :=
  ∃ D : DataW Value, w.ownsMap Try.prog 3 RV b n D ∧ Go.Maps.IsMap D ∧ (∀ k, Go.Maps.has D (.int .i64 k) = (f k).isSome) ∧ ∀ k v, f k = some v → ∀ z, D.atKey (.int .i64 k) z = .held v
theorem MI.made (w : World) : MI (w.alloc (.map #[] 0)) w.heap.size 0 (fun _ => none) :=
  ⟨.map [], World.ownsMap_made w _ _ _, Go.Maps.isMap_empty, fun k => rfl, fun k v h => by cases h⟩
theorem MI.kept {w w' : World} {b n : Nat} {f : Int → Option Value} {row : Option Nat} (h : MI w b n f) (hg : w.grownBy w' row) (hne : some b ≠ row) : MI w' b n f := by
  obtain ⟨D, h1, h2⟩ := h
  exact ⟨D, h1.kept hg hne, h2⟩
theorem MI.lt {w : World} {b n : Nat} {f : Int → Option Value} (h : MI w b n f) : b < w.heap.size := by
  obtain ⟨D, h1, _⟩ := h
  exact h1.lt
theorem MI.alloc {w : World} {b n : Nat} {f : Int → Option Value} (h : MI w b n f) (o : Obj) : MI (w.alloc o) b n f := h.kept (World.grownBy_alloc w o none) (by simp)
theorem MI.on {w w1 : World} {b n : Nat} {f : Int → Option Value} (h : MI w b n f) (hb : Below w.heap.size w w1) : MI w1 b n f := by
  obtain ⟨D, ⟨es, clock, e1, e2⟩, h2⟩ := h
  exact ⟨D, ⟨es, clock, (hb.block b (Array.getElem?_eq_some_iff.1 e1).1).trans e1, e2⟩, h2⟩
theorem MI.setCell {w : World} {b n : Nat} {f : Int → Option Value} (h : MI w b n f) {a : Addr} (ha : b ≠ a.block) (u : Value) : MI (w.setCell a u) b n f := by
  obtain ⟨D, h1, h2⟩ := h
  exact ⟨D, h1.setCell ha u, h2⟩
theorem MI.mono {w : World} {b n m : Nat} {f : Int → Option Value} (h : MI w b n f) (hm : n ≤ m) : MI w b m f := by
  obtain ⟨D, h1, h2⟩ := h
  exact ⟨D, h1.mono hm, h2⟩
theorem key_of {k : Int} (h1 : -9223372036854775808 ≤ k) (h2 : k ≤ 9223372036854775807) : keyOf Try.prog 3 (.int .i64 k) = some (.int .i64 k) := by
  have hw : (Lit.int .i64 k).wf = true := by
    have a1 : IntKind.i64.min ≤ k := h1
    have a2 : k ≤ IntKind.i64.max := h2
    simp only [Lit.wf, a1, a2, decide_true, Bool.and_self]
  simp [keyOf, mapKey, hw]
/-- a look-up without 'ok' -/
theorem MI.look {w : World} {b n : Nat} {f : Int → Option Value} (h : MI w b n f) {t e : TypeId} (ht : Try.prog.underlying t = some (.map 3 e)) {z : Value} (hz : (zeroValue e).run Try.prog w = .ok z w) {k : Int} (h1 : -9223372036854775808 ≤ k) (h2 : k ≤ 9223372036854775807) :
    (Instr.lookup t (.map (some b)) (.int .i64 k) false).run Try.prog w = .ok ((f k).getD z) w := by
  obtain ⟨D, d1, d2, d3, d4⟩ := h
  obtain ⟨v, ps, hr, hv⟩ := d1.lookup keyI ht hz (zd := .held z) (zp := []) rfl (key_of h1 h2)
  refine hr.trans (congrArg (fun x => Result.ok x w) ?_)
  have e1 : DataW.held v = D.atKey (.int .i64 k) (.held z) := by
    have := congrArg (fun o : Option (DataW Value × List MemPlace) => o.map Prod.fst) hv
    simpa [RV] using this
  cases hf : f k with
  | none =>
    have := d3 k
    rw [hf] at this
    rw [Go.Maps.atKey_of_not_has this] at e1
    cases e1
    rfl
  | some u =>
    rw [d4 k u hf] at e1
    cases e1
    rfl
/-- a look-up with 'ok' -/
theorem MI.look_ok {w : World} {b n : Nat} {f : Int → Option Value} (h : MI w b n f) {t e : TypeId} (ht : Try.prog.underlying t = some (.map 3 e)) {z : Value} (hz : (zeroValue e).run Try.prog w = .ok z w) {k : Int} (h1 : -9223372036854775808 ≤ k) (h2 : k ≤ 9223372036854775807) :
    (Instr.lookup t (.map (some b)) (.int .i64 k) true).run Try.prog w = .ok (.tuple #[(f k).getD z, .bool (f k).isSome]) w := by
  obtain ⟨D, d1, d2, d3, d4⟩ := h
  obtain ⟨v, ps, hr, hv⟩ := d1.look_ok keyI ht hz (zd := .held z) (zp := []) rfl (key_of h1 h2)
  rw [hr, d3 k]
  have e1 : DataW.held v = D.atKey (.int .i64 k) (.held z) := by
    have := congrArg (fun o : Option (DataW Value × List MemPlace) => o.map Prod.fst) hv
    simpa [RV] using this
  cases hf : f k with
  | none =>
    have := d3 k
    rw [hf] at this
    rw [Go.Maps.atKey_of_not_has this] at e1
    cases e1
    rfl
  | some u =>
    rw [d4 k u hf] at e1
    cases e1
    rfl
/-- a store -/
theorem MI.store {w : World} {b n : Nat} {f : Int → Option Value} (h : MI w b n f) {t e : TypeId} (ht : Try.prog.underlying t = some (.map 3 e)) (hn : n < maxLen) {k : Int} (h1 : -9223372036854775808 ≤ k) (h2 : k ≤ 9223372036854775807) (v : Value) :
    ∃ w', (Instr.mapUpdate t (.map (some b)) (.int .i64 k) v).run Try.prog w = .ok () w' ∧ MI w' b (n + 1) (fun x => if x = k then some v else f x) ∧ w.grownBy w' (some b) := by
  obtain ⟨D, d1, d2, d3, d4⟩ := h
  obtain ⟨w', hr, o1, o2⟩ := d1.update keyI ht hn (key_of h1 h2) (val := v) (d := .held v) (ps := []) rfl
  refine ⟨w', hr, ⟨_, o1, d2.put _ _, fun x => ?_, fun x u hu z => ?_⟩, o2⟩
  · by_cases hx : x = k
    · subst hx
      rw [Go.Maps.has_put_same d2 (show WideAt.IsKeyLit (.int .i64 x) from trivial)]
      simp
    · rw [Go.Maps.has_put_other (by simpa using hx)]
      simp only [if_neg hx]
      exact d3 x
  · by_cases hx : x = k
    · subst hx
      simp only [if_true] at hu
      cases hu
      exact Go.Maps.atKey_put_same d2 (show WideAt.IsKeyLit (.int .i64 x) from trivial) _ _
    · simp only [if_neg hx] at hu
      rw [Go.Maps.atKey_put_other (by simpa using hx)]
      exact d4 x u hu z
end Go.Proofs.Ytpkacfgmojblbaa
namespace Go.Proofs.Ytpkacfgmojblbaa
open Go.RowKit
theorem zeroPk (w : World) : (zeroValue 26).run Try.prog w = .ok (.agg (pk fun _ => 0)) w := (Try.zeroValue26 w).trans rfl
def pkEq (p q : Nat → Int) : Bool := (List.range 18).all fun j => p j == q j
theorem ite_ne {a b : Int} {r : Bool} {w : World} {x : Result Value} (h : x = .ok (.bool !r) w) : (if a = b then x else .ok (.bool true) w) = .ok (.bool !(a == b && r)) w := by
  by_cases h' : a = b <;> simp [h', h]
theorem ite_ne1 {a b : Int} {w : World} : (if a = b then .ok (.bool false) w else (.ok (.bool true) w : Result Value)) = .ok (.bool !(a == b)) w := by
  by_cases h' : a = b <;> simp [h']
set_option maxRecDepth 100000 in
set_option maxHeartbeats 4000000 in
theorem pk_ne (p q : Nat → Int) (w : World) : (binOp .neq 26 (.agg (pk p)) (.agg (pk q))).run Try.prog w = .ok (.bool (!pkEq p q)) w := by
  have e : ∀ p, pk p = #[.int .i64 (p 0), .int .i64 (p 1), .int .i64 (p 2), .int .i64 (p 3), .int .i64 (p 4), .int .i64 (p 5), .int .i64 (p 6), .int .i64 (p 7), .int .i64 (p 8), .int .i64 (p 9), .int .i64 (p 10), .int .i64 (p 11), .int .i64 (p 12), .int .i64 (p 13), .int .i64 (p 14), .int .i64 (p 15), .int .i64 (p 16), .int .i64 (p 17)] := fun _ => rfl
  rw [e, e]
  simp [go_sem]
  rw [run_equalIn_array _ 9998 (e := 23) (n := 8) _ _ rfl rfl]
  have hc : Try.prog.cellsOf 23 = 2 := by kernel_rfl
  simp [go_sem, Op.eqItems, List.range, List.range.loop, hc]
  clear e hc
  have hq : pkEq p q = (p 0 == q 0 && (p 1 == q 1 && (p 2 == q 2 && (p 3 == q 3 && (p 4 == q 4 && (p 5 == q 5 && (p 6 == q 6 && (p 7 == q 7 && (p 8 == q 8 && (p 9 == q 9 && (p 10 == q 10 && (p 11 == q 11 && (p 12 == q 12 && (p 13 == q 13 && (p 14 == q 14 && (p 15 == q 15 && (p 16 == q 16 && p 17 == q 17))))))))))))))))) := by
    simp [pkEq, List.range, List.range.loop]
  rw [hq]
  repeat (first | refine ite_ne ?_ | exact ite_ne1)
end Go.Proofs.Ytpkacfgmojblbaa
namespace Go.Proofs.Ytpkacfgmojblbaa
open Go.RowKit
def rgDeps (o : Oper) : List Nat := (o.after.toList.filter fun e => Region.binds .any e).map fun e => e.on
def rgAnc (ops : Array Oper) : Nat → List Nat → List Nat
  | 0, l => l
  | f + 1, l => l ++ rgAnc ops f (l.flatMap fun i => match ops[i]? with | some o => rgDeps o | none => [])
def RClosed (ops : Array Oper) (listed : Array Bool) : Prop := ∀ (i : Nat) (o : Oper), ops[i]? = some o → listed.getD i false = true → ∀ j ∈ rgDeps o, listed.getD j false = true
theorem rgAnc_listed {ops : Array Oper} {listed : Array Bool} (hc : RClosed ops listed) : ∀ (f : Nat) (l : List Nat), (∀ i ∈ l, listed.getD i false = true) → ∀ i ∈ rgAnc ops f l, listed.getD i false = true
  | 0, _, h => h
  | f + 1, l, h => by
    intro i hi
    rcases List.mem_append.1 hi with hi | hi
    · exact h i hi
    · refine rgAnc_listed hc f _ ?_ i hi
      intro j hj
      obtain ⟨k, hk, hjk⟩ := List.mem_flatMap.1 hj
      cases ho : ops[k]? with
      | none => rw [ho] at hjk; cases hjk
      | some o => rw [ho] at hjk; exact hc k o ho (h k hk) j hjk
def PDeps (ops : Array Oper) (ψ : Nat → Value → Prop) (a' : Act) (o : Oper) : Prop :=
  ∀ e ∈ o.after, Region.binds .any e = true → ∀ (o' : Oper) (d : Nat), ops[e.on]? = some o' → o'.dst = some d → ψ e.on (a'.tmps.getD d undef)
structure SInv (ops : Array Oper) (φ : Nat → Value → World → Prop) (ψ : Nat → Value → Prop) (ω : Value → World → Prop) (s dA : Nat) (a : Act) (w : World) (listed : Array Bool) (a' : Act) (w' : World) : Prop where
  sz : listed.size = ops.size
  below : Below w.heap.size w w'
  tsize : a'.tmps.size = a.tmps.size
  defs : a'.defers = a.defers
  rest : ∀ t, (∀ (i : Nat) (o : Oper), ops[i]? = some o → o.dst ≠ some t) → a'.tmps[t]? = a.tmps[t]?
  closed : RClosed ops listed
  pure : ∀ (i : Nat) (o : Oper) (d : Nat), ops[i]? = some o → o.dst = some d → listed.getD i false = true → ψ i (a'.tmps.getD d undef)
  pre : listed.getD s false = false → ∀ (i : Nat) (o : Oper) (d : Nat), ops[i]? = some o → o.dst = some d → listed.getD i false = true → φ i (a'.tmps.getD d undef) w'
  post : listed.getD s false = true → ω (a'.tmps.getD dA undef) w'
def rsLow (ops : Array Oper) (n s : Nat) : Prop := ∀ (i : Nat) (o : Oper), ops[i]? = some o → o.guard = none ∧ (∀ e ∈ o.after, Region.binds .any e = true → e.on < i) ∧ (i = s → o.dst = none) ∧ (i ≠ s → ∃ d, o.dst = some d ∧ d < n ∧ ∀ (j : Nat) (o' : Oper), ops[j]? = some o' → j ≠ i → o'.dst ≠ some d)
theorem getD_of_ready {listed : Array Bool} {i n : Nat} (hs : i < n) (hz : listed.size = n) (h : (!listed.getD i true) = true) : listed.getD i false = false := by
  have hsz : i < listed.size := by omega
  simp [Array.getD, hsz] at h ⊢
  exact h
theorem getD_set {listed : Array Bool} {i j : Nat} (h : (listed.setIfInBounds i true).getD j false = true) : j = i ∨ listed.getD j false = true := by
  by_cases hji : j = i
  · exact .inl hji
  · refine .inr ?_
    simp only [Array.getD_eq_getD_getElem?, Array.getElem?_setIfInBounds] at h ⊢
    rw [if_neg (fun e => hji e.symm)] at h
    exact h
theorem getD_set_mono {listed : Array Bool} {i j : Nat} (h : listed.getD j false = true) : (listed.setIfInBounds i true).getD j false = true := by
  simp only [Array.getD_eq_getD_getElem?, Array.getElem?_setIfInBounds] at h ⊢
  by_cases hji : i = j
  · subst hji
    have : i < listed.size := by
      rcases Nat.lt_or_ge i listed.size with q | q
      · exact q
      · rw [Array.getElem?_eq_none q] at h; cases h
    simp [this]
  · rw [if_neg hji]; exact h
theorem getD_set_ne {listed : Array Bool} {i j : Nat} (h : j ≠ i) : (listed.setIfInBounds i true).getD j false = listed.getD j false := by
  simp only [Array.getD_eq_getD_getElem?, Array.getElem?_setIfInBounds]
  rw [if_neg (fun e => h e.symm)]
theorem wpAny_st {P : Program} {ops : Array Oper} {Q : Exit → Act → World → Prop} (φ : Nat → Value → World → Prop) (ψ : Nat → Value → Prop) (ω : Value → World → Prop) (s kA dA f : Nat) (a : Act) (w : World) (hl : rsLow ops a.tmps.size s) (hs : s < ops.size)
    (hA : kA ∈ rgAnc ops f [s]) (hkA : kA ≠ s) (hdA : ∀ oA, ops[kA]? = some oA → oA.dst = some dA)
    (hmono : ∀ i v w1 w2, φ i v w1 → Below w1.heap.size w1 w2 → φ i v w2) (hω : ∀ v w1 w2, ω v w1 → Below w1.heap.size w1 w2 → ω v w2)
    (hstep : ∀ (i : Nat) (o : Oper), ops[i]? = some o → i ≠ s → ∀ a' w', Below w.heap.size w w' → RSame ops a a' → (i ∈ rgAnc ops f [s] → RDeps ops φ a' w' o) → PDeps ops ψ a' o → o.wp P a' w' (fun a'' w'' => ∃ v, a'' = a'.put o.dst v ∧ Below w'.heap.size w' w'' ∧ φ i v w'' ∧ ψ i v) Q)
    (hstore : ∀ o, ops[s]? = some o → ∀ a' w', Below w.heap.size w w' → RSame ops a a' → RDeps ops φ a' w' o → o.wp P a' w' (fun a'' w'' => a'' = a' ∧ Below w.heap.size w w'' ∧ ω (a'.tmps.getD dA undef) w'') Q)
    (hend : ∀ a' w', Below w.heap.size w w' → RSame ops a a' → (∀ (i : Nat) (o : Oper) (d : Nat), ops[i]? = some o → o.dst = some d → ψ i (a'.tmps.getD d undef)) → ω (a'.tmps.getD dA undef) w' → Q .normal a' w') :
    ∀ (fuel : Nat) (listed : Array Bool) (a' : Act) (w' : World), SInv ops φ ψ ω s dA a w listed a' w' → rgMissing listed ops.size ≤ fuel → wpAny P .any ops Q fuel listed a' w' := by
  have full : ∀ (listed : Array Bool) (a' : Act) (w' : World), SInv ops φ ψ ω s dA a w listed a' w' → Region.ready .any ops listed = [] → Q .normal a' w' := by
    intro listed a' w' h hr
    have all : ∀ n i, i < n → i < ops.size → listed.getD i false = true := by
      intro n
      induction n with
      | zero => intro i hi; omega
      | succ n ih =>
        intro i hi hs
        rcases Nat.lt_or_eq_of_le (Nat.le_of_lt_succ hi) with h1 | rfl
        · exact ih i h1 hs
        · have ho : ops[i]? = some ops[i] := Array.getElem?_eq_getElem hs
          cases hc : listed.getD i false with
          | true => rfl
          | false =>
            exfalso
            have hm : i ∈ Region.ready .any ops listed := by
              unfold Region.ready
              refine List.mem_filter.2 ⟨List.mem_range.2 hs, ?_⟩
              have h2 : listed.getD i true = false := by
                have hsz : i < listed.size := by rw [h.sz]; exact hs
                simp [Array.getD, hsz] at hc ⊢
                exact hc
              rw [h2, ho]
              simp only [Bool.not_false, Bool.true_and, Option.map_some, Option.getD_some]
              rw [Array.all_eq_true_iff_forall_mem]
              intro e he
              cases hbd : Region.binds .any e with
              | false => simp
              | true =>
                have := ih e.on ((hl i _ ho).2.1 e he hbd) (by have := (hl i _ ho).2.1 e he hbd; omega)
                simp [this]
            rw [hr] at hm
            cases hm
    refine hend a' w' h.below ⟨h.tsize, h.defs, h.rest⟩ (fun i o d ho hd => h.pure i o d ho hd ?_) (h.post (all (s + 1) s (by omega) hs))
    have hs : i < ops.size := by
      rcases Nat.lt_or_ge i ops.size with q | q
      · exact q
      · rw [Array.getElem?_eq_none q] at ho; cases ho
    exact all (i + 1) i (by omega) hs
  intro fuel
  induction fuel with
  | zero =>
    intro listed a' w' h hm
    have hr : Region.ready .any ops listed = [] := by
      rcases hq : Region.ready .any ops listed with _ | ⟨i, l⟩
      · rfl
      · exfalso
        have hi : i ∈ Region.ready .any ops listed := by rw [hq]; simp
        unfold Region.ready at hi
        obtain ⟨h1, h2⟩ := List.mem_filter.1 hi
        have h3 : (!listed.getD i true) = true := by
          simp only [Bool.and_eq_true] at h2
          exact h2.1
        have : i ∈ (List.range ops.size).filter fun i => !listed.getD i true := List.mem_filter.2 ⟨h1, h3⟩
        have := List.length_pos_of_mem this
        unfold rgMissing at hm
        omega
    exact ⟨hr, full _ _ _ h hr⟩
  | succ fuel ih =>
    intro listed a' w' h hm
    refine ⟨fun hr => full _ _ _ h hr, fun i hi => ?_⟩
    unfold Region.ready at hi
    obtain ⟨h1, h2⟩ := List.mem_filter.1 hi
    simp only [Bool.and_eq_true] at h2
    obtain ⟨h3, h4⟩ := h2
    have hsi : i < ops.size := List.mem_range.1 h1
    have ho : ops[i]? = some ops[i] := Array.getElem?_eq_getElem hsi
    have hun := getD_of_ready hsi h.sz h3
    obtain ⟨hg, hlow, hds, hdn⟩ := hl i _ ho
    rw [ho] at h4
    simp only [Option.map_some, Option.getD_some] at h4
    rw [Array.all_eq_true_iff_forall_mem] at h4
    have hsz : i < listed.size := by rw [h.sz]; exact hsi
    have hmiss : rgMissing (listed.setIfInBounds i true) ops.size ≤ fuel := by
      have : rgMissing (listed.setIfInBounds i true) ops.size < rgMissing listed ops.size := by
        refine filter_len_lt (i := i) ?_ h3 ?_ h1
        · intro x hx
          simp only [Array.getD_eq_getD_getElem?, Array.getElem?_setIfInBounds] at hx ⊢
          by_cases hxi : i = x
          · subst hxi
            simp [hsz] at hx
          · rw [if_neg hxi] at hx
            exact hx
        · simp [Array.getD_eq_getD_getElem?, hsz]
      omega
    have hclosed : RClosed ops (listed.setIfInBounds i true) := by
      intro j o' ho' hj k hk
      rcases getD_set hj with rfl | hj
      · rw [ho] at ho'
        cases ho'
        obtain ⟨e, he, rfl⟩ := List.mem_map.1 hk
        obtain ⟨he1, he2⟩ := List.mem_filter.1 he
        have := h4 e (by simpa using he1)
        rw [he2] at this
        exact getD_set_mono (by simpa using this)
      · exact getD_set_mono (h.closed j o' ho' hj k hk)
    have hp : PDeps ops ψ a' ops[i] := by
      intro e he hb o' d' ho' hd'
      have := h4 e he
      rw [hb] at this
      exact h.pure _ _ _ ho' hd' (by simpa using this)
    have hdeps : listed.getD s false = false → RDeps ops φ a' w' ops[i] := by
      intro hns e he hb o' d' ho' hd'
      have := h4 e he
      rw [hb] at this
      exact h.pre hns _ _ _ ho' hd' (by simpa using this)
    have hwant : Region.wanted ops[i] (yielded ops a'.tmps) = true := by simp [Region.wanted, hg]
    unfold wpOp
    rw [ho]
    simp only [hwant, if_true]
    by_cases his : i = s
    · subst his
      refine .inl (Oper.wp_mono ?_ (hstore _ ho a' w' h.below ⟨h.tsize, h.defs, h.rest⟩ (hdeps hun)))
      rintro a'' w'' ⟨rfl, hb, hv⟩
      refine ih _ _ _ ⟨by simp [h.sz], hb, h.tsize, h.defs, h.rest, hclosed, ?_, ?_, fun _ => hv⟩ hmiss
      · intro j o' d' ho' hd' hj
        rcases getD_set hj with rfl | hj
        · rw [ho] at ho'
          cases ho'
          rw [hds rfl] at hd'
          cases hd'
        · exact h.pure j o' d' ho' hd' hj
      · intro hns
        exfalso
        simp [Array.getD_eq_getD_getElem?, hsz] at hns
    · obtain ⟨d, hd, hdl, hdi⟩ := hdn his
      have hanc : i ∈ rgAnc ops f [s] → listed.getD s false = false := by
        intro hi
        cases hc : listed.getD s false with
        | false => rfl
        | true =>
          have := rgAnc_listed h.closed f [s] (by intro j hj; simp at hj; subst hj; exact hc) i hi
          rw [hun] at this
          cases this
      refine .inl (Oper.wp_mono ?_ (hstep i _ ho his a' w' h.below ⟨h.tsize, h.defs, h.rest⟩ (fun hi => hdeps (hanc hi)) hp))
      rintro a'' w'' ⟨v, rfl, hb, hv, hψ⟩
      rw [hd]
      refine ih _ _ _ ⟨by simp [h.sz], belowT h.below hb, by rw [← h.tsize]; simp [Act.put], by rw [← h.defs]; rfl, ?_, hclosed, ?_, ?_, ?_⟩ hmiss
      · intro t ht
        rw [rg_put_get (by intro e; exact ht i _ ho (by rw [hd, e]))]
        exact h.rest t ht
      · intro j o' d' ho' hd' hj
        by_cases hji : j = i
        · subst hji
          rw [ho] at ho'
          cases ho'
          rw [hd] at hd'
          cases hd'
          rw [rg_put_own (by rw [h.tsize]; exact hdl)]
          exact hψ
        · rw [rg_put_getD (by intro e; exact hdi j o' ho' hji (by rw [hd', e]))]
          exact h.pure j o' d' ho' hd' ((getD_set hj).resolve_left hji)
      · intro hns j o' d' ho' hd' hj
        rw [getD_set_ne (fun e => his e.symm)] at hns
        by_cases hji : j = i
        · subst hji
          rw [ho] at ho'
          cases ho'
          rw [hd] at hd'
          cases hd'
          rw [rg_put_own (by rw [h.tsize]; exact hdl)]
          exact hv
        · rw [rg_put_getD (by intro e; exact hdi j o' ho' hji (by rw [hd', e]))]
          exact hmono _ _ _ _ (h.pre hns j o' d' ho' hd' ((getD_set hj).resolve_left hji)) hb
      · intro hsl
        rw [getD_set_ne (fun e => his e.symm)] at hsl
        have hkl := rgAnc_listed h.closed f [s] (by intro j hj; simp at hj; subst hj; exact hsl) kA hA
        have hki : kA ≠ i := by
          intro e
          rw [e, hun] at hkl
          cases hkl
        have hks : kA < ops.size := by
          rcases Nat.lt_or_ge kA ops.size with q | q
          · exact q
          · have : listed.size ≤ kA := by rw [h.sz]; exact q
            simp [Array.getD_eq_getD_getElem?, Array.getElem?_eq_none this] at hkl
        have hoA : ops[kA]? = some ops[kA] := Array.getElem?_eq_getElem hks
        rw [rg_put_getD (by intro e; exact hdi kA _ hoA hki (by rw [hdA _ hoA, e]))]
        exact hω _ _ _ (h.post hsl) hb
def rsCheck (n s : Nat) : Nat → List Oper → Bool
  | _, [] => true
  | i, o :: l => o.guard.isNone && o.after.toList.all (fun e => !Region.binds .any e || Nat.blt e.on i) && (match o.dst with | some d => !(Nat.beq i s) && Nat.blt d n && l.all (fun o' => match o'.dst with | some d' => !(Nat.beq d d') | none => true) | none => Nat.beq i s) && rsCheck n s (i + 1) l
theorem rsCheck_of : ∀ (n s k : Nat) (l : List Oper), rsCheck n s k l = true → ∀ (i : Nat) (o : Oper), l[i]? = some o → o.guard = none ∧ (∀ e ∈ o.after, Region.binds .any e = true → e.on < k + i) ∧ (k + i = s → o.dst = none) ∧ (k + i ≠ s → ∃ d, o.dst = some d ∧ d < n) ∧ ∀ d, o.dst = some d → ∀ (j : Nat) (o' : Oper), l[j]? = some o' → i < j → o'.dst ≠ some d
  | n, s, k, [], _, i, o, h => by simp at h
  | n, s, k, x :: l, hc, 0, o, h => by
    simp at h
    subst h
    simp only [rsCheck, Bool.and_eq_true] at hc
    obtain ⟨⟨⟨h1, h2⟩, h3⟩, h4⟩ := hc
    refine ⟨by simpa using h1, fun e he hbd => ?_, ?_⟩
    · have := List.all_eq_true.1 h2 e (by simpa using he)
      rw [hbd] at this
      simpa [Nat.blt_eq] using this
    · cases hd : x.dst with
      | none =>
        rw [hd] at h3
        have h3 : k = s := Nat.eq_of_beq_eq_true (by simpa using h3)
        exact ⟨fun _ => rfl, fun hne => absurd h3 (by simpa using hne), fun d hd' => by cases hd'⟩
      | some d =>
        rw [hd] at h3
        simp only [Bool.and_eq_true, Nat.blt_eq] at h3
        obtain ⟨⟨h5, h6⟩, h7⟩ := h3
        refine ⟨fun e => ?_, fun _ => ⟨d, rfl, h6⟩, fun d' hd' j o' hj hij => ?_⟩
        · have e : k = s := by simpa using e
          rw [e] at h5
          simp at h5
        · cases hd'
          obtain ⟨j, rfl⟩ : ∃ j', j = j' + 1 := ⟨j - 1, by omega⟩
          have hm : o' ∈ l := List.mem_of_getElem? (by simpa using hj)
          have := List.all_eq_true.1 h7 o' hm
          intro e
          rw [e] at this
          simp at this
  | n, s, k, x :: l, hc, i + 1, o, h => by
    simp only [rsCheck, Bool.and_eq_true] at hc
    obtain ⟨g1, g2, g3, g4, g5⟩ := rsCheck_of n s (k + 1) l hc.2 i o (by simpa using h)
    refine ⟨g1, fun e he hbd => by have := g2 e he hbd; omega, fun e => g3 (by omega), fun e => g4 (by omega), fun d hd j o' hj hij => ?_⟩
    obtain ⟨j, rfl⟩ : ∃ j', j = j' + 1 := ⟨j - 1, by omega⟩
    exact g5 d hd j o' (by simpa using hj) (by omega)
theorem rsLow_of {ops : Array Oper} {n s : Nat} (h : rsCheck n s 0 ops.toList = true) : rsLow ops n s := by
  intro i o ho
  have ho' : ops.toList[i]? = some o := by rw [Array.getElem?_toList]; exact ho
  obtain ⟨g1, g2, g3, g4, g5⟩ := rsCheck_of n s 0 ops.toList h i o ho'
  refine ⟨g1, fun e he hbd => by have := g2 e he hbd; omega, fun e => g3 (by omega), fun e => ?_⟩
  obtain ⟨d, hd, hdn⟩ := g4 (by omega)
  refine ⟨d, hd, hdn, fun j o' hj hne => ?_⟩
  have hj' : ops.toList[j]? = some o' := by rw [Array.getElem?_toList]; exact hj
  rcases Nat.lt_or_gt_of_ne hne with hlt | hgt
  · obtain ⟨_, _, _, _, k5⟩ := rsCheck_of n s 0 ops.toList h j o' hj'
    intro e
    exact k5 d e i o ho' hlt hd
  · exact g5 d hd j o' hj' hgt
def rsDsts (ops : List Oper) : List Nat := ops.filterMap fun o => o.dst
theorem act_of_st {ops : Array Oper} {a a' : Act} (h : RSame ops a a') : a' = (rsDsts ops.toList).foldl (fun b d => b.put (some d) (a'.tmps.getD d undef)) a := by
  have e1 := foldl_put_size (fun d => a'.tmps.getD d undef) (rsDsts ops.toList) a
  have ht : a'.tmps = ((rsDsts ops.toList).foldl (fun b d => b.put (some d) (a'.tmps.getD d undef)) a).tmps := by
    refine Array.ext_getElem? fun t => ?_
    by_cases hs : t < a.tmps.size
    · by_cases hm : t ∈ rsDsts ops.toList
      · rw [foldl_put_in _ _ _ t hm hs, rg_getD]
        have : t < a'.tmps.size := by rw [h.1]; exact hs
        rw [Array.getElem?_eq_getElem this]
        rfl
      · rw [foldl_put_out _ _ _ t hm]
        refine h.2.2 t fun i o ho e => hm ?_
        exact List.mem_filterMap.2 ⟨o, List.mem_of_getElem? (i := i) (by rw [Array.getElem?_toList]; exact ho), e⟩
    · rw [Array.getElem?_eq_none (by rw [h.1]; omega), Array.getElem?_eq_none (by rw [e1.1]; omega)]
  have hd : a'.defers = ((rsDsts ops.toList).foldl (fun b d => b.put (some d) (a'.tmps.getD d undef)) a).defers := by rw [e1.2, h.2.1]
  generalize (rsDsts ops.toList).foldl (fun b d => b.put (some d) (a'.tmps.getD d undef)) a = z at ht hd
  cases a'
  cases z
  simp only at ht hd
  rw [ht, hd]
def ppAt (l : List (Value → Prop)) (i : Nat) : Value → Prop := l.getD i fun _ => True
theorem PDeps.get {ops : Array Oper} {ψ : Nat → Value → Prop} {a : Act} {o : Oper} (h : PDeps ops ψ a o) (j d : Nat) (hj : (o.after.toList.any fun e => Nat.beq e.on j && Region.binds .any e) = true) (ho : (ops[j]?).bind (·.dst) = some d) : ψ j (a.eval (.tmp d)) := by
  show ψ j (a.tmps.getD d undef)
  obtain ⟨e, he, h2⟩ := List.any_eq_true.1 hj
  obtain ⟨h3, h4⟩ := (Bool.and_eq_true _ _).mp h2
  replace h3 := Nat.eq_of_beq_eq_true h3
  subst h3
  cases ho' : ops[e.on]? with
  | none => rw [ho'] at ho; cases ho
  | some o' =>
    rw [ho'] at ho
    exact h e (by simpa using he) h4 o' d ho' ho
/-- The law. s: the store's number; kA, dA: the number and the slot of what is stored into. -/
theorem wp_region_st {P : Program} {id : Nat} {ops : Array Oper} {Q : Exit → Act → World → Prop} {a : Act} {w : World} (m : List Bool) (hmask : maskOf (rsDsts ops.toList) a.tmps.size = m) (Φ : List MP) (Ψ : List (Value → Prop)) (Ω : MP) (s kA dA : Nat) (hm : P.follows .mixedOrders = true) (hl : rsCheck a.tmps.size s 0 ops.toList = true)
    (hs : Nat.blt s ops.size = true) (hA : ((rgAnc ops ops.size [s]).contains kA && !(Nat.beq kA s)) = true) (hdA : (ops[kA]?).bind (·.dst) = some dA)
    (hstep : AllOps (fun i o => (i ≠ s → ∀ a' w', Below w.heap.size w w' → RSame ops a a' → ((rgAnc ops ops.size [s]).contains i = true → RDeps ops (fun i => (mpAt Φ i).p) a' w' o) → PDeps ops (ppAt Ψ) a' o → o.wp P a' w' (fun a'' w'' => ∃ v, a'' = a'.put o.dst v ∧ Below w'.heap.size w' w'' ∧ (mpAt Φ i).p v w'' ∧ ppAt Ψ i v) Q) ∧
      (i = s → ∀ a' w', Below w.heap.size w w' → RSame ops a a' → RDeps ops (fun i => (mpAt Φ i).p) a' w' o → o.wp P a' w' (fun a'' w'' => a'' = a' ∧ Below w.heap.size w w'' ∧ Ω.p (a'.eval (.tmp dA)) w'') Q)) 0 ops.toList)
    (hend : ∀ (V : Nat → Value) (w' : World), Below w.heap.size w w' → AllOps (fun i o => i ≠ s → ppAt Ψ i (V (o.dst.getD 0))) 0 ops.toList → Ω.p (V dA) w' → Q .normal ⟨(maskPut V 0 m a.tmps.toList).toArray, a.defers⟩ w') :
    (Code.region id ops true).wp P Q a w := by
  refine wp_region_any hm ?_
  have low := rsLow_of hl
  have hs' : s < ops.size := by simpa [Nat.blt_eq] using hs
  have hA1 : kA ∈ rgAnc ops ops.size [s] := by
    have := (Bool.and_eq_true _ _).mp hA
    simpa using this.1
  have hA2 : kA ≠ s := by
    have := (Bool.and_eq_true _ _).mp hA
    intro e
    rw [e] at this
    simp at this
  refine wpAny_st (fun i => (mpAt Φ i).p) (ppAt Ψ) Ω.p s kA dA ops.size a w low hs' hA1 hA2 (fun oA hoA => by rw [hoA] at hdA; exact hdA) (fun i v w1 w2 => (mpAt Φ i).on v w1 w2) Ω.on ?_ (fun o ho => (allOps_of hstep s o ho).2 rfl) ?_ ops.size (Array.replicate ops.size false) a _ ⟨by simp, (Below.refl _ _).drew, rfl, rfl, fun _ _ => rfl, ?_, ?_, ?_, ?_⟩ ?_
  · intro i o ho hi a' w' hb hsm hd hp
    exact (allOps_of hstep i o ho).1 hi a' w' hb hsm (fun hc => hd (by simpa using hc)) hp
  · intro a' w' hb hsm hf hω
    have := hend (fun d => a'.tmps.getD d undef) w' hb (allOps_mk fun i o ho hi => by
      obtain ⟨d, hd, _⟩ := (low i o ho).2.2.2 hi
      rw [hd]
      exact hf i o d ho hd) hω
    rw [act_of_st hsm, act_mask _ _ a m hmask]
    exact this
  · intro i o ho h
    exfalso
    simp only [Array.getD_eq_getD_getElem?, Array.getElem?_replicate] at h
    split at h <;> cases h
  · intro i o d ho _ h
    exfalso
    simp only [Array.getD_eq_getD_getElem?, Array.getElem?_replicate] at h
    split at h <;> cases h
  · intro _ i o d ho _ h
    exfalso
    simp only [Array.getD_eq_getD_getElem?, Array.getElem?_replicate] at h
    split at h <;> cases h
  · intro h
    exfalso
    simp only [Array.getD_eq_getD_getElem?, Array.getElem?_replicate] at h
    split at h <;> cases h
  · unfold rgMissing
    refine Nat.le_trans (List.length_filter_le _ _) ?_
    simp
theorem rs_not {i s : Nat} {p q : Prop} (hi : Nat.beq i s = false) (h : p) : (i ≠ s → p) ∧ (i = s → q) := ⟨fun _ => h, fun e => by rw [e] at hi; simp at hi⟩
theorem rs_is {i s : Nat} {p q : Prop} (hi : Nat.beq i s = true) (h : q) : (i ≠ s → p) ∧ (i = s → q) := ⟨fun e => absurd (Nat.eq_of_beq_eq_true hi) e, fun _ => h⟩
theorem rs_st {P : Program} {ω : Value → World → Prop} {Q : Exit → Act → World → Prop} {o : Oper} {a : Act} {w W : World} {d : Nat} (hd : o.dst = none) (h : ∀ K : Act → World → Prop, (∀ w', Below W.heap.size W w' → ω (a.eval (.tmp d)) w' → K (a.put o.dst undef) w') → o.wp P a w K Q) :
    o.wp P a w (fun a'' w'' => a'' = a ∧ Below W.heap.size W w'' ∧ ω (a.eval (.tmp d)) w'') Q := h _ fun w' hb hv => ⟨by rw [hd]; rfl, hb, hv⟩
theorem rs_op {P : Program} {φ : Value → World → Prop} {ψ : Value → Prop} {Q : Exit → Act → World → Prop} {o : Oper} {a : Act} {w : World} (h : ∀ K : Act → World → Prop, (∀ v w', Below w.heap.size w w' → φ v w' → ψ v → K (a.put o.dst v) w') → o.wp P a w K Q) :
    o.wp P a w (fun a'' w'' => ∃ v, a'' = a.put o.dst v ∧ Below w.heap.size w w'' ∧ φ v w'' ∧ ψ v) Q := h _ fun v _ hb hv hp => ⟨v, rfl, hb, hv, hp⟩
theorem rs_fn {P : Program} {φ : Value → World → Prop} {ψ : Value → Prop} {Q : Exit → Act → World → Prop} {dst : Option Tmp} {f : Operand} {args : Array Operand} {ats : Array TypeId} {ty : TypeId} {pos : String} {after : Array Edge} {guard : Option (Nat × Bool)} {g : FuncId} {x y : Array Value} {a : Act} {w : World} {vs : Array Value}
    (hf : a.eval f = .func (.func g) x y) (he : ∀ args w, (callFunc g args).run P w = .ok (.enter g args) w) (hv : x ++ args.map a.eval ++ y = vs) (hc : Calls P g vs w fun e w' => ∃ v, e = .returned v ∧ Below w.heap.size w w' ∧ φ v w' ∧ ψ v) :
    Oper.wp P ⟨dst, .call { callee := .value f, args, argTypes := ats }, ty, pos, after, guard⟩ a w (fun a'' w'' => ∃ v, a'' = a.put dst v ∧ Below w.heap.size w w'' ∧ φ v w'' ∧ ψ v) Q := by
  subst hv
  unfold Oper.wp
  rw [rg_run_call hf he]
  refine hc.mono ?_
  rintro e w' ⟨v, rfl, hb, hv⟩
  exact ⟨v, rfl, hb, hv⟩
end Go.Proofs.Ytpkacfgmojblbaa
namespace Go.Proofs.Ytpkacfgmojblbaa
open Go.RowKit
structure LInv (ops : Array Oper) (φ : Nat → Value → World → Prop) (s : Nat) (a : Act) (w : World) (listed : Array Bool) (a' : Act) (w' : World) : Prop where
  sz : listed.size = ops.size
  below : Below w.heap.size w w'
  tsize : a'.tmps.size = a.tmps.size
  defs : a'.defers = a.defers
  rest : ∀ t, (∀ (i : Nat) (o : Oper), ops[i]? = some o → o.dst ≠ some t) → a'.tmps[t]? = a.tmps[t]?
  closed : RClosed ops listed
  open' : listed.getD s false = false
  pre : ∀ (i : Nat) (o : Oper) (d : Nat), ops[i]? = some o → o.dst = some d → listed.getD i false = true → φ i (a'.tmps.getD d undef) w'
theorem rg_nil_listed {ops : Array Oper} {listed : Array Bool} (hz : listed.size = ops.size) (h : ∀ i, i < ops.size → listed.getD i false = true) : Region.ready .any ops listed = [] := by
  rcases hq : Region.ready .any ops listed with _ | ⟨i, l⟩
  · rfl
  · exfalso
    have hi : i ∈ Region.ready .any ops listed := by rw [hq]; simp
    unfold Region.ready at hi
    obtain ⟨h1, h2⟩ := List.mem_filter.1 hi
    simp only [Bool.and_eq_true] at h2
    have hs := List.mem_range.1 h1
    have := getD_of_ready hs hz h2.1
    rw [h i hs] at this
    cases this
theorem wpAny_last {P : Program} {ops : Array Oper} {Q : Exit → Act → World → Prop} (φ : Nat → Value → World → Prop) (s f : Nat) (a : Act) (w : World) (hl : rsLow ops a.tmps.size s) (hs : s < ops.size)
    (hA : ∀ i, i < ops.size → i ∈ rgAnc ops f (rgDeps ops[s]) ∨ i = s)
    (hmono : ∀ i v w1 w2, φ i v w1 → Below w1.heap.size w1 w2 → φ i v w2)
    (hstep : ∀ (i : Nat) (o : Oper), ops[i]? = some o → i ≠ s → ∀ a' w', Below w.heap.size w w' → RSame ops a a' → RDeps ops φ a' w' o → o.wp P a' w' (fun a'' w'' => ∃ v, a'' = a'.put o.dst v ∧ Below w'.heap.size w' w'' ∧ φ i v w'') Q)
    (hlast : ∀ a' w', Below w.heap.size w w' → RSame ops a a' → (∀ (i : Nat) (o : Oper) (d : Nat), ops[i]? = some o → o.dst = some d → φ i (a'.tmps.getD d undef) w') → ops[s].wp P a' w' (fun a'' w'' => Q .normal a'' w'') Q) :
    ∀ (fuel : Nat) (listed : Array Bool) (a' : Act) (w' : World), LInv ops φ s a w listed a' w' → rgMissing listed ops.size ≤ fuel → wpAny P .any ops Q fuel listed a' w' := by
  have notnil : ∀ (listed : Array Bool) (a' : Act) (w' : World), LInv ops φ s a w listed a' w' → Region.ready .any ops listed = [] → False := by
    intro listed a' w' h hr
    have all : ∀ n i, i < n → i < ops.size → listed.getD i false = true := by
      intro n
      induction n with
      | zero => intro i hi; omega
      | succ n ih =>
        intro i hi hs
        rcases Nat.lt_or_eq_of_le (Nat.le_of_lt_succ hi) with h1 | rfl
        · exact ih i h1 hs
        · have ho : ops[i]? = some ops[i] := Array.getElem?_eq_getElem hs
          cases hc : listed.getD i false with
          | true => rfl
          | false =>
            exfalso
            have hm : i ∈ Region.ready .any ops listed := by
              unfold Region.ready
              refine List.mem_filter.2 ⟨List.mem_range.2 hs, ?_⟩
              have h2 : listed.getD i true = false := by
                have hsz : i < listed.size := by rw [h.sz]; exact hs
                simp [Array.getD, hsz] at hc ⊢
                exact hc
              rw [h2, ho]
              simp only [Bool.not_false, Bool.true_and, Option.map_some, Option.getD_some]
              rw [Array.all_eq_true_iff_forall_mem]
              intro e he
              cases hbd : Region.binds .any e with
              | false => simp
              | true =>
                have := ih e.on ((hl i _ ho).2.1 e he hbd) (by have := (hl i _ ho).2.1 e he hbd; omega)
                simp [this]
            rw [hr] at hm
            cases hm
    have := all (s + 1) s (by omega) hs
    rw [h.open'] at this
    cases this
  intro fuel
  induction fuel with
  | zero =>
    intro listed a' w' h hm
    have hr : Region.ready .any ops listed = [] := by
      rcases hq : Region.ready .any ops listed with _ | ⟨i, l⟩
      · rfl
      · exfalso
        have hi : i ∈ Region.ready .any ops listed := by rw [hq]; simp
        unfold Region.ready at hi
        obtain ⟨h1, h2⟩ := List.mem_filter.1 hi
        have h3 : (!listed.getD i true) = true := by
          simp only [Bool.and_eq_true] at h2
          exact h2.1
        have : i ∈ (List.range ops.size).filter fun i => !listed.getD i true := List.mem_filter.2 ⟨h1, h3⟩
        have := List.length_pos_of_mem this
        unfold rgMissing at hm
        omega
    exact (notnil _ _ _ h hr).elim
  | succ fuel ih =>
    intro listed a' w' h hm
    refine ⟨fun hr => (notnil _ _ _ h hr).elim, fun i hi => ?_⟩
    unfold Region.ready at hi
    obtain ⟨h1, h2⟩ := List.mem_filter.1 hi
    simp only [Bool.and_eq_true] at h2
    obtain ⟨h3, h4⟩ := h2
    have hsi : i < ops.size := List.mem_range.1 h1
    have ho : ops[i]? = some ops[i] := Array.getElem?_eq_getElem hsi
    have hun := getD_of_ready hsi h.sz h3
    obtain ⟨hg, hlow, hds, hdn⟩ := hl i _ ho
    rw [ho] at h4
    simp only [Option.map_some, Option.getD_some] at h4
    rw [Array.all_eq_true_iff_forall_mem] at h4
    have hsz : i < listed.size := by rw [h.sz]; exact hsi
    have hmiss : rgMissing (listed.setIfInBounds i true) ops.size ≤ fuel := by
      have : rgMissing (listed.setIfInBounds i true) ops.size < rgMissing listed ops.size := by
        refine filter_len_lt (i := i) ?_ h3 ?_ h1
        · intro x hx
          simp only [Array.getD_eq_getD_getElem?, Array.getElem?_setIfInBounds] at hx ⊢
          by_cases hxi : i = x
          · subst hxi
            simp [hsz] at hx
          · rw [if_neg hxi] at hx
            exact hx
        · simp [Array.getD_eq_getD_getElem?, hsz]
      omega
    have hon : ∀ e ∈ ops[i].after, Region.binds .any e = true → listed.getD e.on false = true := by
      intro e he hb
      have := h4 e he
      rw [hb] at this
      simpa using this
    have hclosed : RClosed ops (listed.setIfInBounds i true) := by
      intro j o' ho' hj k hk
      rcases getD_set hj with rfl | hj
      · rw [ho] at ho'
        cases ho'
        obtain ⟨e, he, rfl⟩ := List.mem_map.1 hk
        obtain ⟨he1, he2⟩ := List.mem_filter.1 he
        exact getD_set_mono (hon e (by simpa using he1) he2)
      · exact getD_set_mono (h.closed j o' ho' hj k hk)
    have hdeps : RDeps ops φ a' w' ops[i] := fun e he hb o' d' ho' hd' => h.pre _ _ _ ho' hd' (hon e he hb)
    have hwant : Region.wanted ops[i] (yielded ops a'.tmps) = true := by simp [Region.wanted, hg]
    unfold wpOp
    rw [ho]
    simp only [hwant, if_true]
    by_cases his : i = s
    · subst his
      have hall : ∀ j, j < ops.size → j ≠ i → listed.getD j false = true := fun j hj hji =>
        rgAnc_listed h.closed f (rgDeps ops[i]) (fun k hk => by
          obtain ⟨e, he, rfl⟩ := List.mem_map.1 hk
          obtain ⟨he1, he2⟩ := List.mem_filter.1 he
          exact hon e (by simpa using he1) he2) j ((hA j hj).resolve_right hji)
      refine .inl (Oper.wp_mono ?_ (hlast a' w' h.below ⟨h.tsize, h.defs, h.rest⟩ fun j o' d' ho' hd' => h.pre j o' d' ho' hd' (hall j ?_ ?_)))
      · intro a'' w'' hq
        have hrn : Region.ready .any ops (listed.setIfInBounds i true) = [] := by
          refine rg_nil_listed (by simp [h.sz]) fun j hj => ?_
          by_cases hji : j = i
          · subst hji
            simp [Array.getD_eq_getD_getElem?, hsz]
          · exact getD_set_mono (hall j hj hji)
        cases fuel with
        | zero => exact ⟨hrn, hq⟩
        | succ n => exact ⟨fun _ => hq, fun j hj => by rw [hrn] at hj; cases hj⟩
      · rcases Nat.lt_or_ge j ops.size with q | q
        · exact q
        · rw [Array.getElem?_eq_none q] at ho'; cases ho'
      · intro e
        subst e
        rw [ho] at ho'
        cases ho'
        rw [hds rfl] at hd'
        cases hd'
    · obtain ⟨d, hd, hdl, hdi⟩ := hdn his
      refine .inl (Oper.wp_mono ?_ (hstep i _ ho his a' w' h.below ⟨h.tsize, h.defs, h.rest⟩ hdeps))
      rintro a'' w'' ⟨v, rfl, hb, hv⟩
      rw [hd]
      refine ih _ _ _ ⟨by simp [h.sz], belowT h.below hb, by rw [← h.tsize]; simp [Act.put], by rw [← h.defs]; rfl, ?_, hclosed, ?_, ?_⟩ hmiss
      · intro t ht
        rw [rg_put_get (by intro e; exact ht i _ ho (by rw [hd, e]))]
        exact h.rest t ht
      · rw [getD_set_ne (fun e => his e.symm)]
        exact h.open'
      · intro j o' d' ho' hd' hj
        by_cases hji : j = i
        · subst hji
          rw [ho] at ho'
          cases ho'
          rw [hd] at hd'
          cases hd'
          rw [rg_put_own (by rw [h.tsize]; exact hdl)]
          exact hv
        · rw [rg_put_getD (by intro e; exact hdi j o' ho' hji (by rw [hd', e]))]
          exact hmono _ _ _ _ (h.pre j o' d' ho' hd' ((getD_set hj).resolve_left hji)) hb
/-- The law. s: the number of the last operation. -/
theorem wp_region_last {P : Program} {id : Nat} {ops : Array Oper} {Q : Exit → Act → World → Prop} {a : Act} {w : World} (Φ : List MP) (s : Nat) (m : List Bool) (hmask : maskOf (rsDsts ops.toList) a.tmps.size = m) (hm : P.follows .mixedOrders = true) (hl : rsCheck a.tmps.size s 0 ops.toList = true)
    {o : Oper} (hso : ops[s]? = some o) (hA : ((List.range ops.size).all fun i => (rgAnc ops ops.size (rgDeps o)).contains i || Nat.beq i s) = true)
    (hstep : AllOps (fun i o => i ≠ s → ∀ a' w', Below w.heap.size w w' → RSame ops a a' → RDeps ops (fun i => (mpAt Φ i).p) a' w' o → o.wp P a' w' (fun a'' w'' => ∃ v, a'' = a'.put o.dst v ∧ Below w'.heap.size w' w'' ∧ (mpAt Φ i).p v w'') Q) 0 ops.toList)
    (hlast : ∀ (V : Nat → Value) (w' : World), Below w.heap.size w w' → AllOps (fun i o => i ≠ s → (mpAt Φ i).p (V (o.dst.getD 0)) w') 0 ops.toList → ∀ K : Act → World → Prop, (∀ a'' w'', Q .normal a'' w'' → K a'' w'') → o.wp P ⟨(maskPut V 0 m a.tmps.toList).toArray, a.defers⟩ w' K Q) :
    (Code.region id ops true).wp P Q a w := by
  refine wp_region_any hm ?_
  have low := rsLow_of hl
  have hs : s < ops.size := (Array.getElem?_eq_some_iff.1 hso).1
  have hos : ops[s] = o := (Array.getElem?_eq_some_iff.1 hso).2
  refine wpAny_last (fun i => (mpAt Φ i).p) s ops.size a w low hs (fun i hi => ?_) (fun i v w1 w2 => (mpAt Φ i).on v w1 w2) (allOps_of hstep) ?_ ops.size (Array.replicate ops.size false) a _ ⟨by simp, (Below.refl _ _).drew, rfl, rfl, fun _ _ => rfl, ?_, ?_, ?_⟩ ?_
  · have := List.all_eq_true.1 hA i (List.mem_range.2 hi)
    rw [hos]
    rcases (Bool.or_eq_true _ _).mp this with h | h
    · exact .inl (by simpa using h)
    · exact .inr (Nat.eq_of_beq_eq_true h)
  · intro a' w' hb hsm hf
    have := hlast (fun d => a'.tmps.getD d undef) w' hb (allOps_mk fun i o ho hi => by
      obtain ⟨d, hd, _⟩ := (low i o ho).2.2.2 hi
      rw [hd]
      exact hf i o d ho hd) _ (fun _ _ h => h)
    rw [hos, act_of_st hsm, act_mask _ _ a m hmask]
    exact this
  · intro i o ho h
    exfalso
    simp only [Array.getD_eq_getD_getElem?, Array.getElem?_replicate] at h
    split at h <;> cases h
  · simp only [Array.getD_eq_getD_getElem?, Array.getElem?_replicate]
    split <;> rfl
  · intro i o d ho _ h
    exfalso
    simp only [Array.getD_eq_getD_getElem?, Array.getElem?_replicate] at h
    split at h <;> cases h
  · unfold rgMissing
    refine Nat.le_trans (List.length_filter_le _ _) ?_
    simp
end Go.Proofs.Ytpkacfgmojblbaa
