/- Helpers: packets of 18 numbers in memory, and the checks of package check over them. No condition but the hypotheses that each theorem names. -/
import Derived.Test.YtpkacfgmojblbaaB02
import Derived.Deep.MidRow
import Derived.Deep.WholeRow
import Derived.OwnWalk
namespace Go.Proofs.Ytpkacfgmojblbaa
open Go.RowKit
attribute [local go_sem] old1 fro1 old2 fro2 old3 fro3 old4 fro4 old5 fro5 old6 fro6 old7 fro7 old8 fro8 old9 fro9 old10 fro10 old11 fro11 old12 fro12
def mk0 : List Bool := [false, false, false, true, true, true, true, true, true, true, true]
def pkL (p : Nat → Int) : List Value := (List.range 18).map fun j => .int .i64 (p j)
def pk (p : Nat → Int) : Array Value := (pkL p).toArray
def pw (p : Nat → Int) : Value := .agg (pk p)
theorem pkL_get (p : Nat → Int) (j : Nat) (h : j < 18) : (pkL p)[j]? = some (.int .i64 (p j)) := by simp [pkL, h]
theorem pk_get (p : Nat → Int) (j : Nat) (h : j < 18) : (pk p)[j]? = some (.int .i64 (p j)) := by simp [pk, pkL, h]
theorem undPk : ∃ fs, Try.prog.underlying 26 = some (.struct fs) := ⟨_, Try.underlying26⟩
theorem sizePk : (Try.prog.info? 26).map (·.size) = some 18 := by kernel_rfl
theorem pk_size (p : Nat → Int) : (pk p).size = 18 := by simp [pk, pkL]
theorem pk_one (p : Nat → Int) : (pk p).all (·.oneCell') = true := by
  simp [pk, pkL, Value.oneCell']
/-- a packet is read -/
theorem ldP {w : World} {b o : Nat} {p : Nat → Int} (h : ∀ j, j < 18 → w.cell? ⟨b, o + j, none⟩ = some (.int .i64 (p j))) :
    (loadVar 26 ⟨b, o, none⟩).run Try.prog w = .ok (.agg (pk p)) w := by
  obtain ⟨fs, hu⟩ := undPk
  refine run_loadVar_mid w b o _ (pkL p) _ (fun j v hv => ?_) hu rfl (by rw [sizePk]; simp [pkL])
  by_cases hj : j < 18
  · rw [pkL_get p j hj] at hv
    cases hv
    exact h j hj
  · rw [List.getElem?_eq_none (by simp [pkL]; omega)] at hv
    cases hv
/-- .. is laid into a new variable, and read out of it -/
theorem stP (w : World) (c : Array Value) (hc : c.size = 18) (p : Nat → Int) : (storeVar 26 ⟨w.heap.size, 0, none⟩ (.agg (pk p))).run Try.prog (w.alloc (.cells c 26)) = .ok () (w.alloc (.cells (pk p) 26)) :=
  run_storeVar_new w _ c (pk p) (by rw [sizePk, pk_size]) (by rw [hc, pk_size]) (pk_one p)
theorem lnP (w : World) (p : Nat → Int) : (loadVar 26 ⟨w.heap.size, 0, none⟩).run Try.prog (w.alloc (.cells (pk p) 26)) = .ok (.agg (pk p)) (w.alloc (.cells (pk p) 26)) := by
  obtain ⟨fs, hu⟩ := undPk
  exact run_loadVar_row _ _ _ _ (pk p) (0, 0) _ (heap_alloc_last w _) hu rfl (by rw [sizePk, pk_size])
/-- the same at the operations -/
theorem wl_ld {ops : Array Oper} {rest : List Oper} {op : Oper} {a : Act} {w : World} {Q : Exit → Act → World → Prop} (hgd : op.guard = none) (x : Operand) (ho : op.op = .load 26 x) (b o : Nat) (hx : a.eval x = .pointer (some ⟨b, o, none⟩)) (p : Nat → Int) (hc : ∀ j, j < 18 → w.cell? ⟨b, o + j, none⟩ = some (.int .i64 (p j)))
    (h : wpList Try.prog ops Q rest (a.put op.dst (.agg (pk p))) w) : wpList Try.prog ops Q (op :: rest) a w := by
  refine wpList_plain hgd fun K hK => ?_
  unfold Oper.wp execOp
  simp only [ho, hx, Instr.loadAt, Instr.sureAddr, Sem.run_bind, Sem.run_pure, Result.andThen_ok, ldP hc]
  exact hK _ _ h
theorem wl_st {ops : Array Oper} {rest : List Oper} {op : Oper} {a : Act} {w : World} {Q : Exit → Act → World → Prop} (hgd : op.guard = none) (x y : Operand) (ho : op.op = .store 26 x y) (c : Array Value) (hx : a.eval x = .pointer (some ⟨w.heap.size, 0, none⟩)) (hc : c.size = 18) (p : Nat → Int) (hy : a.eval y = .agg (pk p))
    (h : wpList Try.prog ops Q rest (a.put op.dst undef) (w.alloc (.cells (pk p) 26))) : wpList Try.prog ops Q (op :: rest) a (w.alloc (.cells c 26)) := by
  refine wpList_plain hgd fun K hK => ?_
  unfold Oper.wp execOp
  simp only [ho, hx, hy, Instr.storeAt, Instr.sureAddr, Sem.run_bind, Sem.run_pure, Result.andThen_ok, stP w c hc p]
  exact hK _ _ h
theorem wl_ln {ops : Array Oper} {rest : List Oper} {op : Oper} {a : Act} {w : World} {Q : Exit → Act → World → Prop} (hgd : op.guard = none) (x : Operand) (ho : op.op = .load 26 x) (hx : a.eval x = .pointer (some ⟨w.heap.size, 0, none⟩)) (p : Nat → Int)
    (h : wpList Try.prog ops Q rest (a.put op.dst (.agg (pk p))) (w.alloc (.cells (pk p) 26))) : wpList Try.prog ops Q (op :: rest) a (w.alloc (.cells (pk p) 26)) := by
  refine wpList_plain hgd fun K hK => ?_
  unfold Oper.wp execOp
  simp only [ho, hx, Instr.loadAt, Instr.sureAddr, Sem.run_bind, Sem.run_pure, Result.andThen_ok, lnP w p]
  exact hK _ _ h
/-- the numbers of a packet that lies in a block of its own -/
theorem pk_cell (w : World) (p : Nat → Int) (T : TypeId) (j : Nat) (h : j < 18) : (w.alloc (.cells (pk p) T)).cell? ⟨w.heap.size, j, none⟩ = some (.int .i64 (p j)) := by
  rw [cell_of_row _ _ j (pk p) T (0, 0) (heap_alloc_last w _)]
  exact pk_get p j h

set_option maxRecDepth 100000 in
set_option maxHeartbeats 4000000 in
theorem indexedK_any (A : Option Addr) (n c : Nat) (g : Nat → (Nat → Int)) (er : Nat → Int) (v : Value) (w : World) (hn : n ≤ 1000000000) (hA : KA w A n g) (hI : Itx (fun i => pw (g i)) er n v w) :
    Calls Try.prog 161 #[.slice A n c, v] w fun e w' => e = .returned (.tuple #[.int .i64 (fnx er 0 n), .int .i64 (ferr er 0 n)]) ∧ Below w.heap.size w w' := by
  obtain ⟨gF, cb, rfl, he, hf⟩ := hI
  have heg : ∀ args w, (callFunc gF args).run Try.prog w = .ok (.enter gF args) w := he
  have HF := Lib.hid hf
  clear hf he
  go_enter Try.func161, Try.ntmps161
  go_wp2
  go_loopw [11] (fun i wr => ∃ k : Nat, k ≤ n ∧ i = .int .i64 k ∧ Below w.heap.size w wr ∧ Hid (∀ j, j < k → er j = 0) ∧ Hid (ferr er 0 n = ferr er k (n - k)) ∧ Hid (fnx er 0 n = fnx er k (n - k))) (fun i _ => n - (intOf i).toNat)
  case atStart => exact ⟨0, Nat.zero_le _, rfl, Below.refl _ _, fun j hj => absurd hj (Nat.not_lt_zero _), rfl, rfl⟩
  case round =>
    obtain ⟨k, hk, rfl, hbel, H, H2, H3⟩ := hrel
    by_cases hlt : k < n
    · obtain ⟨bA, oA, rfl, HA2⟩ := hA (by omega)
      have ld0 : ∀ j, j < 18 → wr.cell? ⟨bA, oA + k * 18 + j, none⟩ = some (.int .i64 (g k j)) := fun j hj => keep hbel (HA2 k hlt j hj); have LD0 := Lib.hid ld0; clear ld0
      have hcon := fun W (hW : Below wr.heap.size wr W) => HF.out k W hlt H.out (belowT hbel hW)
      simp only [pw] at hcon
      have hsz := hbel.size
      have HB := Lib.hid hbel
      clear hbel HA2
      have HS : Hid (ferr er k (n - k) = if er k = 0 then ferr er (k + 1) (n - (k + 1)) else er k) := by
        rw [show n - k = (n - (k + 1)) + 1 from by omega]; rfl
      have HS3 : Hid (fnx er k (n - k) = if er k = 0 then fnx er (k + 1) (n - (k + 1)) else k) := by
        rw [show n - k = (n - (k + 1)) + 1 from by omega]; rfl
      by_cases hz : er k = 0
      · have HZ := Lib.hid hz
        simp only [hz] at hcon
        clear hz
        have HC := Lib.hid hcon; clear hcon
        go_wp2_with (first | (refine wl_ld rfl _ rfl bA (oA + k * 18) rfl (g k) LD0.out ?_) | (refine wl_st rfl _ _ rfl _ rfl rfl (g k) rfl ?_) | (refine wl_ln rfl _ rfl rfl (g k) ?_) | (go_at_fn gF; (with_reducible refine Calls.mono (HC.out _ (by (repeat (first | with_reducible exact Below.refl _ _ | with_reducible assumption | with_reducible refine Below.alloc ?_ (by first | (simp; done) | (simp; omega) | omega) _ | with_reducible refine Below.setCell ?_ (by first | (simp; done) | (simp; omega) | omega) _ | with_reducible refine Below.drew ?_ | with_reducible refine below_drewN ?_ _)))) ?_); rintro e w2 ⟨rfl, hb2⟩; have B2 := Lib.hid (belowT (show Below wr.heap.size wr _ by (repeat (first | with_reducible exact Below.refl _ _ | with_reducible assumption | with_reducible refine Below.alloc ?_ (by first | (simp; done) | (simp; omega) | omega) _ | with_reducible refine Below.setCell ?_ (by first | (simp; done) | (simp; omega) | omega) _ | with_reducible refine Below.drew ?_ | with_reducible refine below_drewN ?_ _))) hb2); clear hb2))
        go_roundw
        case rel => exact ⟨k + 1, by omega, by go_num, HB.out.trans (B2.out.mono hsz), fun j hj => (by
          rcases Nat.lt_or_eq_of_le (Nat.le_of_lt_succ hj) with h | h
          · exact H.out j h
          · rw [h]; exact HZ.out), (by show ferr er 0 n = _; rw [H2.out, HS.out, if_pos HZ.out]), (by show fnx er 0 n = _; rw [H3.out, HS3.out, if_pos HZ.out])⟩
        case measure => simp [intOf]; omega
      · have HZ := Lib.hid hz
        have hq : (er k != 0) = true := by simpa using hz
        clear hz
        have HC := Lib.hid hcon; clear hcon
        go_wp2_with (first | (refine wl_ld rfl _ rfl bA (oA + k * 18) rfl (g k) LD0.out ?_) | (refine wl_st rfl _ _ rfl _ rfl rfl (g k) rfl ?_) | (refine wl_ln rfl _ rfl rfl (g k) ?_) | (go_at_fn gF; (with_reducible refine Calls.mono (HC.out _ (by (repeat (first | with_reducible exact Below.refl _ _ | with_reducible assumption | with_reducible refine Below.alloc ?_ (by first | (simp; done) | (simp; omega) | omega) _ | with_reducible refine Below.setCell ?_ (by first | (simp; done) | (simp; omega) | omega) _ | with_reducible refine Below.drew ?_ | with_reducible refine below_drewN ?_ _)))) ?_); rintro e w2 ⟨rfl, hb2⟩; have B2 := Lib.hid (belowT (show Below wr.heap.size wr _ by (repeat (first | with_reducible exact Below.refl _ _ | with_reducible assumption | with_reducible refine Below.alloc ?_ (by first | (simp; done) | (simp; omega) | omega) _ | with_reducible refine Below.setCell ?_ (by first | (simp; done) | (simp; omega) | omega) _ | with_reducible refine Below.drew ?_ | with_reducible refine below_drewN ?_ _))) hb2); clear hb2))
        go_ret2
        exact ⟨by rw [H2.out, HS.out, if_neg HZ.out, H3.out, HS3.out, if_neg HZ.out]; rfl, HB.out.trans (B2.out.mono hsz)⟩
    · obtain rfl : k = n := by omega
      have HB := Lib.hid hbel
      clear hbel
      go_wp2
      go_ret2
      exact ⟨by rw [H2.out, H3.out, Nat.sub_self]; rfl, HB.out⟩
set_option maxRecDepth 100000 in
set_option maxHeartbeats 4000000 in
theorem eachK11_any (b : Nat) (i : Int) (x : (Nat → Int)) (gF : Nat) (cb : Array Value) (E : Int) (w : World) (h0 : w.cell? ⟨b, 0, none⟩ = some (.func (.func gF) #[] cb)) (he : Entr gF) (hc : ∀ w1, Below w.heap.size w w1 → Calls Try.prog gF (#[pw x] ++ cb) w1 fun e w' => e = .returned (.int .i64 E) ∧ Below w1.heap.size w1 w') :
    Calls Try.prog 162 (#[.int .i64 i, pw x] ++ #[.pointer (some ⟨b, 0, none⟩)]) w fun e w' => e = .returned (.int .i64 E) ∧ Below w.heap.size w w' := by
  have heg : ∀ args w, (callFunc gF args).run Try.prog w = .ok (.enter gF args) w := he
  simp only [pw] at hc ⊢
  have HC := Lib.hid hc
  clear hc he
  show Calls Try.prog _ #[.int .i64 i, .agg (pk x), .pointer (some ⟨b, 0, none⟩)] w _
  go_enter Try.func162, Try.ntmps162
  go_wp2_with (first | (refine wl_ln rfl _ rfl rfl x ?_) | (go_at_fn gF; (with_reducible refine Calls.mono (HC.out _ (by (repeat (first | with_reducible exact Below.refl _ _ | with_reducible assumption | with_reducible refine Below.alloc ?_ (by first | (simp; done) | (simp; omega) | omega) _ | with_reducible refine Below.setCell ?_ (by first | (simp; done) | (simp; omega) | omega) _ | with_reducible refine Below.drew ?_ | with_reducible refine below_drewN ?_ _)))) ?_); rintro e w2 ⟨rfl, hb2⟩; have B2 := Lib.hid (belowT (show Below w.heap.size w _ by (repeat (first | with_reducible exact Below.refl _ _ | with_reducible assumption | with_reducible refine Below.alloc ?_ (by first | (simp; done) | (simp; omega) | omega) _ | with_reducible refine Below.setCell ?_ (by first | (simp; done) | (simp; omega) | omega) _ | with_reducible refine Below.drew ?_ | with_reducible refine below_drewN ?_ _))) hb2); clear hb2))
  go_ret
  exact ⟨rfl, B2.out⟩
set_option maxRecDepth 100000 in
set_option maxHeartbeats 800000 in
theorem eachK1_any (b0 b1 : Nat) (A : Option Addr) (n c : Nat) (g : Nat → (Nat → Int)) (E : (Nat → Int) → Int) (v : Value) (w : World) (hn : n ≤ 1000000000) (h0 : w.cell? ⟨b0, 0, none⟩ = some (.slice A n c)) (h1 : w.cell? ⟨b1, 0, none⟩ = some v) (hA : KA w A n g) (hI : Itm pw E v w) :
    Calls Try.prog 160 #[.pointer (some ⟨b0, 0, none⟩), .pointer (some ⟨b1, 0, none⟩)] w fun e w' => e = .returned (.int .i64 (ferr (fun i => E (g i)) 0 n)) ∧ Below w.heap.size w w' := by
  obtain ⟨gF, cb, rfl, he, hc⟩ := hI
  have HI : Itx (fun i => pw (g i)) (fun i => E (g i)) n (.func (.func 162) #[] #[.pointer (some ⟨b1, 0, none⟩)]) w :=
    ⟨_, _, rfl, (enters_of Try.func162 (by kernel_rfl) rfl), fun i w1 _ _ hb => eachK11_any b1 i (g i) gF cb _ w1 (keep hb h1) he (fun w2 h2 => hc _ w2 (belowT hb h2))⟩
  have HX := Lib.hid (indexedK_any A n c g (fun i => E (g i)) _ w hn hA HI)
  clear hc he HI
  go_enter Try.func160, Try.ntmps160
  go_wp2_with (go_at_call 161; (with_reducible refine Calls.mono HX.out ?_); rintro e w2 ⟨rfl, hb2⟩; have B2 := Lib.hid hb2; clear hb2)
  go_ret
  exact ⟨rfl, B2.out⟩
set_option maxRecDepth 100000 in
set_option maxHeartbeats 800000 in
theorem eachK_chk (A : Option Addr) (n c : Nat) (g : Nat → (Nat → Int)) (E : (Nat → Int) → Int) (v : Value) (w : World) (hn : n ≤ 1000000000) (hA : KA w A n g) (hI : Itm pw E v w) :
    Calls Try.prog 154 #[.slice A n c, v] w fun e w' => ∃ v', e = .returned v' ∧ Below w.heap.size w w' ∧ Chk True (ferr (fun i => E (g i)) 0 n) v' w' := by
  obtain ⟨gF, cb, rfl, he, hc⟩ := hI
  go_enter Try.func154, Try.ntmps154
  go_wp2
  go_ret
  have hb : Below w.heap.size w ((w.alloc (.cells #[.slice A n c] 36)).alloc (.cells #[.func (.func gF) #[] cb] 31)) := by (repeat (first | with_reducible exact Below.refl _ _ | with_reducible assumption | with_reducible refine Below.alloc ?_ (by first | (simp; done) | (simp; omega) | omega) _ | with_reducible refine Below.setCell ?_ (by first | (simp; done) | (simp; omega) | omega) _ | with_reducible refine Below.drew ?_ | with_reducible refine below_drewN ?_ _))
  exact ⟨_, rfl, hb, _, _, rfl, (enters_of Try.func160 (by kernel_rfl) rfl), fun w1 h1 _ => eachK1_any w.heap.size (w.heap.size + 1) A n c g E (.func (.func gF) #[] cb) w1 hn (keep h1 (by simp [go_sem])) (keep h1 (by simp [go_sem])) (hA.bel (belowT hb h1)) ⟨gF, cb, rfl, he, fun x w2 h2 => hc x w2 (belowT hb (belowT h1 h2))⟩⟩
set_option maxRecDepth 100000 in
set_option maxHeartbeats 800000 in
theorem atmostK11_any (b0 b1 : Nat) (A : Option Addr) (n c : Nat) (m : Int) (w : World) (h0 : w.cell? ⟨b0, 0, none⟩ = some (.slice A n c)) (h1 : w.cell? ⟨b1, 0, none⟩ = some (.int .i64 m)) :
    Calls Try.prog 153 #[.pointer (some ⟨b0, 0, none⟩), .pointer (some ⟨b1, 0, none⟩)] w fun e w' => e = .returned (.bool (decide ((n : Int) ≤ m))) ∧ Below w.heap.size w w' := by
  go_enter Try.func153, Try.ntmps153
  go_wp2
  go_ret
  exact ⟨rfl, by (repeat (first | with_reducible exact Below.refl _ _ | with_reducible assumption | with_reducible refine Below.alloc ?_ (by first | (simp; done) | (simp; omega) | omega) _ | with_reducible refine Below.setCell ?_ (by first | (simp; done) | (simp; omega) | omega) _ | with_reducible refine Below.drew ?_ | with_reducible refine below_drewN ?_ _))⟩
def atEK (m : Int) (n : Nat) (g : Nat → (Nat → Int)) (E : (Nat → Int) → Int) : Int := if (n : Int) ≤ m then ferr (fun i => E (g i)) 0 n else 8
set_option maxRecDepth 100000 in
set_option maxHeartbeats 2000000 in
theorem atmostK1_any (b0 b1 b2 : Nat) (A : Option Addr) (n c : Nat) (g : Nat → (Nat → Int)) (E : (Nat → Int) → Int) (m : Int) (v : Value) (w : World) (hn : n ≤ 1000000000) (h0 : w.cell? ⟨b0, 0, none⟩ = some (.slice A n c)) (h1' : w.cell? ⟨b1, 0, none⟩ = some (.int .i64 m)) (h2 : w.cell? ⟨b2, 0, none⟩ = some v) (hA : KA w A n g) (hI : Itm pw E v w) :
    Calls Try.prog 152 #[.pointer (some ⟨b0, 0, none⟩), .pointer (some ⟨b1, 0, none⟩), .pointer (some ⟨b2, 0, none⟩)] w fun e w' => e = .returned (.int .i64 (atEK m n g E)) ∧ Below w.heap.size w w' := by
  have HI := Lib.hid hI
  have HA := Lib.hid hA
  clear hI hA
  go_enter Try.func152, Try.ntmps152
  go_wp2_with fail
  refine wp_region_mp [mpCnd True (decide ((n : Int) ≤ m)), mpChk (True) (if decide ((n : Int) ≤ m) then 0 else 8), mpEq (.slice A n c), mpItm pw E, mpChk (True) (ferr (fun i => E (g i)) 0 n), mpChks 2 (fun i => if i = 0 then if decide ((n : Int) ≤ m) then 0 else 8 else ferr (fun i => E (g i)) 0 n), mpEq (.int .i64 (atEK m n g E)), mpEq (.int .i64 (atEK m n g E))] mk0 (by kernel_rfl) (by kernel_rfl) (by kernel_rfl) (
      allOps_cons (fun a' w' hb hs hd => rg_op fun K hK => by
    have e0 := (hs.get 0 (by kernel_rfl)).trans (show _ = .pointer (some ⟨b0, 0, none⟩) from rfl)
    have e1 := (hs.get 1 (by kernel_rfl)).trans (show _ = .pointer (some ⟨b1, 0, none⟩) from rfl)
    clear hs hd
    unfold Oper.wp
    generalize a'.eval = ρ at e0 e1 ⊢
    simp [go_sem, e0, e1]
    exact hK _ _ (Below.refl _ _) ⟨_, _, rfl, (enters_of Try.func153 (by kernel_rfl) rfl), fun w1 h1 _ => atmostK11_any b0 b1 A n c m w1 (keep (belowT hb h1) h0) (keep (belowT hb h1) h1')⟩) <|
      allOps_cons (fun a' w' hb hs hd => by
    exact rg_fn (φ := (mpChk (True) (if decide ((n : Int) ≤ m) then 0 else 8)).p) (vs := #[.int .i64 8, a'.eval (.tmp 4)]) rfl (enters_of Try.func116 (by kernel_rfl) rfl) (by simp [(show a'.eval (.const (.int .i64 8)) = .int .i64 8 from rfl)]) ((require_chk 8 _ w' (show Cnd True (decide ((n : Int) ≤ m)) (a'.eval (.tmp 4)) w' from hd.get 0 4 (by kernel_rfl) (by kernel_rfl))))) <|
      allOps_cons (fun a' w' hb hs hd => rg_op fun K hK => by
    have e0 := (hs.get 0 (by kernel_rfl)).trans (show _ = .pointer (some ⟨b0, 0, none⟩) from rfl)
    have ec : ∀ v, a'.eval (.const v) = v := fun _ => rfl
    have c0 := keep hb h0
    clear hs hd
    unfold Oper.wp
    generalize a'.eval = ρ at e0 ec ⊢
    simp [go_sem, e0, c0]
    exact hK _ _ (Below.refl _ _) rfl) <|
      allOps_cons (fun a' w' hb hs hd => rg_op fun K hK => by
    have e0 := (hs.get 2 (by kernel_rfl)).trans (show _ = .pointer (some ⟨b2, 0, none⟩) from rfl)
    have c0 := keep hb h2
    have ki := HI.out.on hb
    clear hs hd
    unfold Oper.wp
    generalize a'.eval = ρ at e0 ⊢
    simp [go_sem, e0, c0]
    exact hK _ _ (Below.refl _ _) ki) <|
      allOps_cons (fun a' w' hb hs hd => by
    exact rg_fn (φ := (mpChk (True) (ferr (fun i => E (g i)) 0 n)).p) (vs := #[.slice A n c, a'.eval (.tmp 7)]) rfl (enters_of Try.func154 (by kernel_rfl) rfl) (by simp [(show a'.eval (.tmp 6) = .slice A n c from hd.get 2 6 (by kernel_rfl) (by kernel_rfl))]) ((eachK_chk A n c g E _ w' hn (HA.out.bel hb) (show Itm pw E (a'.eval (.tmp 7)) w' from hd.get 3 7 (by kernel_rfl) (by kernel_rfl))))) <|
      allOps_cons (fun a' w' hb hs hd => rg_op fun K hK => by
    have k0 : (mpChk (True) (if decide ((n : Int) ≤ m) then 0 else 8)).p (a'.eval (.tmp 5)) w' := hd.get 1 5 (by kernel_rfl) (by kernel_rfl)
    have k1 : (mpChk (True) (ferr (fun i => E (g i)) 0 n)).p (a'.eval (.tmp 8)) w' := hd.get 4 8 (by kernel_rfl) (by kernel_rfl)
    clear hs hd
    unfold Oper.wp
    generalize a'.eval = ρ at k0 k1 ⊢
    obtain ⟨g0, f0, e0, h0⟩ := k0
    obtain ⟨g1, f1, e1, h1⟩ := k1
    simp [go_sem, e0, e1]
    have hx := (Below.refl w'.heap.size w').alloc (Nat.le_refl _) (.cells #[.func (.func g0) #[] f0, .func (.func g1) #[] f1] 121)
    refine hK _ _ hx ⟨_, rfl, fun i => if i = 0 then .func (.func g0) #[] f0 else .func (.func g1) #[] f1, fun i hi => ?_, fun i hi => ?_⟩
    · rcases (by omega : i = 0 ∨ i = 1) with rfl | rfl <;> simp [go_sem]
    · rcases (by omega : i = 0 ∨ i = 1) with rfl | rfl
      · exact Chk.imp (Chk.on (show Chk (True) (if decide ((n : Int) ≤ m) then 0 else 8) (.func (.func g0) #[] f0) w' from ⟨g0, f0, rfl, h0⟩) hx) (fun _ => trivial)
      · exact Chk.imp (Chk.on (show Chk (True) (ferr (fun i => E (g i)) 0 n) (.func (.func g1) #[] f1) w' from ⟨g1, f1, rfl, h1⟩) hx) (fun _ => trivial)) <|
      allOps_cons (fun a' w' hb hs hd => by
    exact rg_fn (φ := (mpEq (.int .i64 (atEK m n g E))).p) (vs := #[a'.eval (.tmp 9)]) rfl (enters_of Try.func87 (by kernel_rfl) rfl) (by simp) ((first_chks (n := 2) (er := (fun i => if i = 0 then if decide ((n : Int) ≤ m) then 0 else 8 else ferr (fun i => E (g i)) 0 n)) (by omega) (by omega) (hd.get 5 9 (by kernel_rfl) (by kernel_rfl))).mono (by rintro e w1 ⟨rfl, h1⟩; exact ⟨_, rfl, h1, congrArg (Value.int .i64) (ferr_at m n (ferr (fun i => E (g i)) 0 n))⟩))) <|
      allOps_cons (fun a' w' hb hs hd => rg_op fun K hK => by
    have e0 := (show a'.eval (.tmp 10) = .int .i64 (atEK m n g E) from hd.get 6 10 (by kernel_rfl) (by kernel_rfl))
    have ec : ∀ v, a'.eval (.const v) = v := fun _ => rfl
    clear hs hd
    unfold Oper.wp
    generalize a'.eval = ρ at e0 ec ⊢
    simp [go_sem, e0]
    exact hK _ _ (Below.refl _ _) rfl) <| allOps_nil) (fun V w2 hb2 hall => ?_)
  have h3 : V 3 = .int .i64 (atEK m n g E) := hall.get 7 rfl
  clear hall
  simp only [mk0, maskPut, Nat.reduceAdd]
  rw [h3]
  clear h3
  go_wp2_with fail
  go_ret
  exact ⟨rfl, hb2⟩
set_option maxRecDepth 100000 in
set_option maxHeartbeats 800000 in
theorem atmostK_chk (A : Option Addr) (n c : Nat) (g : Nat → (Nat → Int)) (E : (Nat → Int) → Int) (m : Int) (v : Value) (w : World) (hn : n ≤ 1000000000) (hA : KA w A n g) (hI : Itm pw E v w) :
    Calls Try.prog 133 #[.int .i64 m, .slice A n c, v] w fun e w' => ∃ v', e = .returned v' ∧ Below w.heap.size w w' ∧ Chk True (atEK m n g E) v' w' := by
  obtain ⟨gF, cb, rfl, he, hc⟩ := hI
  go_enter Try.func133, Try.ntmps133
  go_wp2
  go_ret
  have hb : Below w.heap.size w (((w.alloc (.cells #[.int .i64 m] 3)).alloc (.cells #[.slice A n c] 36)).alloc (.cells #[.func (.func gF) #[] cb] 31)) := by (repeat (first | with_reducible exact Below.refl _ _ | with_reducible assumption | with_reducible refine Below.alloc ?_ (by first | (simp; done) | (simp; omega) | omega) _ | with_reducible refine Below.setCell ?_ (by first | (simp; done) | (simp; omega) | omega) _ | with_reducible refine Below.drew ?_ | with_reducible refine below_drewN ?_ _))
  exact ⟨_, rfl, hb, _, _, rfl, (enters_of Try.func152 (by kernel_rfl) rfl), fun w1 h1 _ => atmostK1_any (w.heap.size + 1) w.heap.size (w.heap.size + 1 + 1) A n c g E m (.func (.func gF) #[] cb) w1 hn (keep h1 (by simp [go_sem])) (keep h1 (by simp [go_sem])) (keep h1 (by simp [go_sem])) (hA.bel (belowT hb h1)) ⟨gF, cb, rfl, he, fun x w2 h2 => hc x w2 (belowT hb (belowT h1 h2))⟩⟩
end Go.Proofs.Ytpkacfgmojblbaa
namespace Go.Proofs.Ytpkacfgmojblbaa
open Go.RowKit
attribute [local go_sem] old1 fro1 old2 fro2 old3 fro3 old4 fro4 old5 fro5 old6 fro6 old7 fro7 old8 fro8 old9 fro9 old10 fro10 old11 fro11 old12 fro12
def mc0 : List Bool := [false, false, true, true, true, true, true, true, true, true, true, true, true, true]
theorem mbd {a b A B : Int} (h1 : -A ≤ a) (h2 : a ≤ A) (h3 : -B ≤ b) (h4 : b ≤ B) : -(A * B) ≤ a * b ∧ a * b ≤ A * B := by
  have h5 := Int.mul_le_mul (siz_le h1 h2) (siz_le h3 h4) (siz_nn b) (by omega)
  have h6 : siz (a * b) = siz a * siz b := by unfold siz; rw [Int.natAbs_mul]; simp
  rw [← h6] at h5
  have h7 := siz_of (a * b)
  have h8 := siz_nn (a * b)
  omega
set_option maxRecDepth 100000 in
set_option maxHeartbeats 800000 in
theorem modulo_any (num den : Int) (hd : 0 < den) (hd2 : den ≤ 1000000) (h1 : -4000000000000000000 ≤ num) (h2 : num ≤ 4000000000000000000) (w : World) :
    Calls Try.prog 102 #[.int .i64 num, .int .i64 den] w fun e w' => e = .returned (.int .i64 (num % den)) ∧ w = w' := by
  have HF := fun W => Lib.hid (floor_any num den hd (by omega) (by omega) (by omega) W)
  have e1 : den * (num / den) + num % den = num := Int.mul_ediv_add_emod num den
  have e2 := Int.emod_nonneg num (show den ≠ 0 by omega)
  have e3 := Int.emod_lt_of_pos num hd
  have w1 : IntKind.i64.wrap (den * (num / den)) = den * (num / den) := IntWalk.i64_in _ (by omega)
  have w2 : IntKind.i64.wrap (num - den * (num / den)) = num % den := by rw [IntWalk.i64_in _ (by omega)]; omega
  clear e1 e2 e3
  go_enter Try.func102, Try.ntmps102
  go_wp2_with (go_at_call 141; (with_reducible refine Calls.mono (HF _).out ?_); rintro e w1 ⟨rfl, rfl⟩)
  go_ret
  exact ⟨rfl, rfl⟩
/-- the phase at an index, the turns there -/
def phs (ph inc ch n : Int) : Int := (ph + n * inc + n * (n - 1) / 2 * ch) % 4096
def trn (ph inc ch n : Int) : Int := (phs ph inc ch n + 512) / 1024 % 4
theorem phs_bd (ph inc ch n : Int) : 0 ≤ phs ph inc ch n ∧ phs ph inc ch n ≤ 4095 := by unfold phs; omega
theorem trn_bd (ph inc ch n : Int) : 0 ≤ trn ph inc ch n ∧ trn ph inc ch n ≤ 3 := by unfold trn; omega
def prgE (ph inc ch : Int) : Int := if rgE ph 0 4095 = 0 then (if rgE inc (-4096) 4096 = 0 then rgE ch (-4096) 4096 else rgE inc (-4096) 4096) else rgE ph 0 4095
theorem rg_0 {n lo hi : Int} (h : rgE n lo hi = 0) : lo ≤ n ∧ n ≤ hi := by
  unfold rgE at h
  cases hw : wi n lo hi with
  | true => exact wi_t.1 hw
  | false => rw [hw] at h; cases h
theorem prg_0 {ph inc ch : Int} (h : prgE ph inc ch = 0) : (0 ≤ ph ∧ ph ≤ 4095) ∧ (-4096 ≤ inc ∧ inc ≤ 4096) ∧ -4096 ≤ ch ∧ ch ≤ 4096 := by
  unfold prgE at h
  by_cases h1 : rgE ph 0 4095 = 0
  · rw [if_pos h1] at h
    by_cases h2 : rgE inc (-4096) 4096 = 0
    · rw [if_pos h2] at h
      exact ⟨rg_0 h1, rg_0 h2, rg_0 h⟩
    · rw [if_neg h2] at h; exact absurd h h2
  · rw [if_neg h1] at h; exact absurd h h1
theorem ph_facts {ph inc ch n : Int} (hp : (0 ≤ ph ∧ ph ≤ 4095) ∧ (-4096 ≤ inc ∧ inc ≤ 4096) ∧ -4096 ≤ ch ∧ ch ≤ 4096) (n0 : 0 ≤ n) (n1 : n ≤ 1000000) :
    (-4096000000 ≤ n * inc ∧ n * inc ≤ 4096000000) ∧ (0 ≤ n * (n - 1) ∧ n * (n - 1) ≤ 1000000000000) ∧ -4096000000000000 ≤ n * (n - 1) / 2 * ch ∧ n * (n - 1) / 2 * ch ≤ 4096000000000000 := by
  obtain ⟨_, ⟨i1, i2⟩, c1, c2⟩ := hp
  have a := mbd (a := n) (b := inc) (A := 1000000) (B := 4096) (by omega) (by omega) (by omega) (by omega)
  have b := mbd (a := n) (b := n - 1) (A := 1000000) (B := 1000000) (by omega) (by omega) (by omega) (by omega)
  have b0 : 0 ≤ n * (n - 1) := by
    rcases Int.lt_or_le n 1 with q | q
    · obtain rfl : n = 0 := by omega
      simp
    · exact Int.mul_nonneg n0 (by omega)
  have c := mbd (a := n * (n - 1) / 2) (b := ch) (A := 1000000000000) (B := 4096) (by omega) (by omega) (by omega) (by omega)
  omega
set_option maxRecDepth 100000 in
set_option maxHeartbeats 800000 in
theorem phaseAt_any (ph inc ch n : Int) (hp : (0 ≤ ph ∧ ph ≤ 4095) ∧ (-4096 ≤ inc ∧ inc ≤ 4096) ∧ -4096 ≤ ch ∧ ch ≤ 4096) (n0 : 0 ≤ n) (n1 : n ≤ 1000000) (w : World) :
    Calls Try.prog 101 #[.agg #[.int .i64 ph, .int .i64 inc, .int .i64 ch], .int .i64 n] w fun e w' => e = .returned (.int .i64 (phs ph inc ch n)) ∧ Below w.heap.size w w' := by
  obtain ⟨⟨f1, f2⟩, ⟨f3, f4⟩, f5, f6⟩ := ph_facts hp n0 n1
  have HM := fun W => Lib.hid (modulo_any (ph + n * inc + n * (n - 1) / 2 * ch) 4096 (by omega) (by omega) (by omega) (by omega) W)
  have w1 : IntKind.i64.wrap (n * inc) = n * inc := IntWalk.i64_in _ (by omega)
  have w2 : IntKind.i64.wrap (ph + n * inc) = ph + n * inc := IntWalk.i64_in _ (by omega)
  have w3 : IntKind.i64.wrap (n - 1) = n - 1 := IntWalk.i64_in _ (by omega)
  have w4 : IntKind.i64.wrap (n * (n - 1)) = n * (n - 1) := IntWalk.i64_in _ (by omega)
  have w5 : (n * (n - 1)).tdiv 2 = n * (n - 1) / 2 := Int.tdiv_eq_ediv_of_nonneg f3
  have w6 : IntKind.i64.wrap (n * (n - 1) / 2) = n * (n - 1) / 2 := IntWalk.i64_in _ (by omega)
  have w7 : IntKind.i64.wrap (n * (n - 1) / 2 * ch) = n * (n - 1) / 2 * ch := IntWalk.i64_in _ (by omega)
  have w8 : IntKind.i64.wrap (ph + n * inc + n * (n - 1) / 2 * ch) = ph + n * inc + n * (n - 1) / 2 * ch := IntWalk.i64_in _ (by omega)
  clear f1 f2 f3 f4 f5 f6 hp
  go_enter Try.func101, Try.ntmps101
  go_wp2_with (go_at_call 102; (with_reducible refine Calls.mono (HM _).out ?_); rintro e w1 ⟨rfl, rfl⟩)
  go_ret
  exact ⟨rfl, by (repeat (first | with_reducible exact Below.refl _ _ | with_reducible assumption | with_reducible refine Below.alloc ?_ (by first | (simp; done) | (simp; omega) | omega) _ | with_reducible refine Below.setCell ?_ (by first | (simp; done) | (simp; omega) | omega) _ | with_reducible refine Below.drew ?_ | with_reducible refine below_drewN ?_ _))⟩
set_option maxRecDepth 100000 in
set_option maxHeartbeats 800000 in
theorem turnsAt_any (ph inc ch n : Int) (hp : (0 ≤ ph ∧ ph ≤ 4095) ∧ (-4096 ≤ inc ∧ inc ≤ 4096) ∧ -4096 ≤ ch ∧ ch ≤ 4096) (n0 : 0 ≤ n) (n1 : n ≤ 1000000) (w : World) :
    Calls Try.prog 103 #[.agg #[.int .i64 ph, .int .i64 inc, .int .i64 ch], .int .i64 n] w fun e w' => e = .returned (.int .i64 (trn ph inc ch n)) ∧ Below w.heap.size w w' := by
  have HP := Lib.hid (fun W => phaseAt_any ph inc ch n hp n0 n1 W)
  obtain ⟨b1, b2⟩ := phs_bd ph inc ch n
  have hT : trn ph inc ch n = (phs ph inc ch n + 512) / 1024 % 4 := rfl
  generalize phs ph inc ch n = x at *
  have w1 : IntKind.i64.wrap (x + 512) = x + 512 := IntWalk.i64_in _ (by omega)
  have w2 : (x + 512).tdiv 1024 = (x + 512) / 1024 := Int.tdiv_eq_ediv_of_nonneg (by omega)
  have w3 : IntKind.i64.wrap ((x + 512) / 1024) = (x + 512) / 1024 := IntWalk.i64_in _ (by omega)
  have w4 : ((x + 512) / 1024).tmod 4 = (x + 512) / 1024 % 4 := Int.tmod_eq_emod_of_nonneg (by omega)
  clear b1 b2
  go_enter Try.func103, Try.ntmps103
  go_wp2_with (go_at_call 101; (with_reducible refine Calls.mono (HP.out _) ?_); rintro e w1 ⟨rfl, hb1⟩; have B1 := Lib.hid (belowT (show Below w.heap.size w _ by (repeat (first | with_reducible exact Below.refl _ _ | with_reducible assumption | with_reducible refine Below.alloc ?_ (by first | (simp; done) | (simp; omega) | omega) _ | with_reducible refine Below.setCell ?_ (by first | (simp; done) | (simp; omega) | omega) _ | with_reducible refine Below.drew ?_ | with_reducible refine below_drewN ?_ _))) hb1); clear hb1)
  go_ret
  exact ⟨ret_int hT.symm, B1.out⟩

set_option maxRecDepth 100000 in
set_option maxHeartbeats 2000000 in
theorem checkProgram_any (ph inc ch : Int) (w : World) :
    Calls Try.prog 42 #[.agg #[.int .i64 ph, .int .i64 inc, .int .i64 ch]] w fun e w' => e = .returned (.int .i64 (prgE ph inc ch)) ∧ Below w.heap.size w w' := by
  go_enter Try.func42, Try.ntmps42
  go_wp2_with fail
  have hbw : Below w.heap.size w (w.alloc (.cells #[.int .i64 ph, .int .i64 inc, .int .i64 ch] 59)) := by (repeat (first | with_reducible exact Below.refl _ _ | with_reducible assumption | with_reducible refine Below.alloc ?_ (by first | (simp; done) | (simp; omega) | omega) _ | with_reducible refine Below.setCell ?_ (by first | (simp; done) | (simp; omega) | omega) _ | with_reducible refine Below.drew ?_ | with_reducible refine below_drewN ?_ _))
  have p0 : (w.alloc (.cells #[.int .i64 ph, .int .i64 inc, .int .i64 ch] 59)).cell? ⟨w.heap.size, 0, none⟩ = some (.int .i64 ph) := by simp [go_sem]
  have p1 : (w.alloc (.cells #[.int .i64 ph, .int .i64 inc, .int .i64 ch] 59)).cell? ⟨w.heap.size, 1, none⟩ = some (.int .i64 inc) := by simp [go_sem]
  have p2 : (w.alloc (.cells #[.int .i64 ph, .int .i64 inc, .int .i64 ch] 59)).cell? ⟨w.heap.size, 2, none⟩ = some (.int .i64 ch) := by simp [go_sem]
  generalize (w.alloc (.cells #[.int .i64 ph, .int .i64 inc, .int .i64 ch] 59)) = w1 at *
  refine wp_region_mp [mpEq (.pointer (some ⟨w.heap.size, 0, none⟩)), mpEq (.int .i64 ph), mpChk (True) (rgE ph 0 4095), mpEq (.pointer (some ⟨w.heap.size, 1, none⟩)), mpEq (.int .i64 inc), mpChk (True) (rgE inc (-4096) 4096), mpEq (.pointer (some ⟨w.heap.size, 2, none⟩)), mpEq (.int .i64 ch), mpChk (True) (rgE ch (-4096) 4096), mpChks 3 (fun i => if i = 0 then rgE ph 0 4095 else if i = 1 then rgE inc (-4096) 4096 else rgE ch (-4096) 4096), mpEq (.int .i64 (prgE ph inc ch)), mpEq (.int .i64 (prgE ph inc ch))] mc0 (by kernel_rfl) (by kernel_rfl) (by kernel_rfl) (
      allOps_cons (fun a' w' hb hs hd => rg_op fun K hK => by
    have e0 := (hs.get 1 (by kernel_rfl)).trans (show _ = .pointer (some ⟨w.heap.size, 0, none⟩) from rfl)
    have ec : ∀ v, a'.eval (.const v) = v := fun _ => rfl
    clear hs hd
    unfold Oper.wp
    generalize a'.eval = ρ at e0 ec ⊢
    simp [go_sem, e0]
    exact hK _ _ (Below.refl _ _) rfl) <|
      allOps_cons (fun a' w' hb hs hd => rg_op fun K hK => by
    have e0 := (show a'.eval (.tmp 3) = .pointer (some ⟨w.heap.size, 0, none⟩) from hd.get 0 3 (by kernel_rfl) (by kernel_rfl))
    have ec : ∀ v, a'.eval (.const v) = v := fun _ => rfl
    have c0 := keep hb p0
    clear hs hd
    unfold Oper.wp
    generalize a'.eval = ρ at e0 ec ⊢
    simp [go_sem, e0, c0]
    exact hK _ _ (Below.refl _ _) rfl) <|
      allOps_cons (fun a' w' hb hs hd => by
    exact rg_fn (φ := (mpChk (True) (rgE ph 0 4095)).p) (vs := #[.int .i64 ph, .int .i64 0, .int .i64 4095]) rfl (enters_of Try.func88 (by kernel_rfl) rfl) (by simp [(show a'.eval (.tmp 4) = .int .i64 ph from hd.get 1 4 (by kernel_rfl) (by kernel_rfl)), (show a'.eval (.const (.int .i64 0)) = .int .i64 0 from rfl), (show a'.eval (.const (.int .i64 4095)) = .int .i64 4095 from rfl)]) (range_chk ph 0 4095 w')) <|
      allOps_cons (fun a' w' hb hs hd => rg_op fun K hK => by
    have e0 := (hs.get 1 (by kernel_rfl)).trans (show _ = .pointer (some ⟨w.heap.size, 0, none⟩) from rfl)
    have ec : ∀ v, a'.eval (.const v) = v := fun _ => rfl
    clear hs hd
    unfold Oper.wp
    generalize a'.eval = ρ at e0 ec ⊢
    simp [go_sem, e0]
    exact hK _ _ (Below.refl _ _) rfl) <|
      allOps_cons (fun a' w' hb hs hd => rg_op fun K hK => by
    have e0 := (show a'.eval (.tmp 6) = .pointer (some ⟨w.heap.size, 1, none⟩) from hd.get 3 6 (by kernel_rfl) (by kernel_rfl))
    have ec : ∀ v, a'.eval (.const v) = v := fun _ => rfl
    have c0 := keep hb p1
    clear hs hd
    unfold Oper.wp
    generalize a'.eval = ρ at e0 ec ⊢
    simp [go_sem, e0, c0]
    exact hK _ _ (Below.refl _ _) rfl) <|
      allOps_cons (fun a' w' hb hs hd => by
    exact rg_fn (φ := (mpChk (True) (rgE inc (-4096) 4096)).p) (vs := #[.int .i64 inc, Value.int IntKind.i64 (-4096), .int .i64 4096]) rfl (enters_of Try.func88 (by kernel_rfl) rfl) (by simp [(show a'.eval (.tmp 7) = .int .i64 inc from hd.get 4 7 (by kernel_rfl) (by kernel_rfl)), (show a'.eval (.const (Value.int IntKind.i64 (-4096))) = Value.int IntKind.i64 (-4096) from rfl), (show a'.eval (.const (.int .i64 4096)) = .int .i64 4096 from rfl)]) (range_chk inc (-4096) 4096 w')) <|
      allOps_cons (fun a' w' hb hs hd => rg_op fun K hK => by
    have e0 := (hs.get 1 (by kernel_rfl)).trans (show _ = .pointer (some ⟨w.heap.size, 0, none⟩) from rfl)
    have ec : ∀ v, a'.eval (.const v) = v := fun _ => rfl
    clear hs hd
    unfold Oper.wp
    generalize a'.eval = ρ at e0 ec ⊢
    simp [go_sem, e0]
    exact hK _ _ (Below.refl _ _) rfl) <|
      allOps_cons (fun a' w' hb hs hd => rg_op fun K hK => by
    have e0 := (show a'.eval (.tmp 9) = .pointer (some ⟨w.heap.size, 2, none⟩) from hd.get 6 9 (by kernel_rfl) (by kernel_rfl))
    have ec : ∀ v, a'.eval (.const v) = v := fun _ => rfl
    have c0 := keep hb p2
    clear hs hd
    unfold Oper.wp
    generalize a'.eval = ρ at e0 ec ⊢
    simp [go_sem, e0, c0]
    exact hK _ _ (Below.refl _ _) rfl) <|
      allOps_cons (fun a' w' hb hs hd => by
    exact rg_fn (φ := (mpChk (True) (rgE ch (-4096) 4096)).p) (vs := #[.int .i64 ch, Value.int IntKind.i64 (-4096), .int .i64 4096]) rfl (enters_of Try.func88 (by kernel_rfl) rfl) (by simp [(show a'.eval (.tmp 10) = .int .i64 ch from hd.get 7 10 (by kernel_rfl) (by kernel_rfl)), (show a'.eval (.const (Value.int IntKind.i64 (-4096))) = Value.int IntKind.i64 (-4096) from rfl), (show a'.eval (.const (.int .i64 4096)) = .int .i64 4096 from rfl)]) (range_chk ch (-4096) 4096 w')) <|
      allOps_cons (fun a' w' hb hs hd => rg_op fun K hK => by
    have k0 : (mpChk (True) (rgE ph 0 4095)).p (a'.eval (.tmp 5)) w' := hd.get 2 5 (by kernel_rfl) (by kernel_rfl)
    have k1 : (mpChk (True) (rgE inc (-4096) 4096)).p (a'.eval (.tmp 8)) w' := hd.get 5 8 (by kernel_rfl) (by kernel_rfl)
    have k2 : (mpChk (True) (rgE ch (-4096) 4096)).p (a'.eval (.tmp 11)) w' := hd.get 8 11 (by kernel_rfl) (by kernel_rfl)
    clear hs hd
    unfold Oper.wp
    generalize a'.eval = ρ at k0 k1 k2 ⊢
    obtain ⟨g0, f0, e0, h0⟩ := k0
    obtain ⟨g1, f1, e1, h1⟩ := k1
    obtain ⟨g2, f2, e2, h2⟩ := k2
    simp [go_sem, e0, e1, e2]
    have hx := (Below.refl w'.heap.size w').alloc (Nat.le_refl _) (.cells #[.func (.func g0) #[] f0, .func (.func g1) #[] f1, .func (.func g2) #[] f2] 121)
    refine hK _ _ hx ⟨_, rfl, fun i => if i = 0 then .func (.func g0) #[] f0 else if i = 1 then .func (.func g1) #[] f1 else .func (.func g2) #[] f2, fun i hi => ?_, fun i hi => ?_⟩
    · rcases (by omega : i = 0 ∨ i = 1 ∨ i = 2) with rfl | rfl | rfl <;> simp [go_sem]
    · rcases (by omega : i = 0 ∨ i = 1 ∨ i = 2) with rfl | rfl | rfl
      · exact Chk.imp (Chk.on (show Chk (True) (rgE ph 0 4095) (.func (.func g0) #[] f0) w' from ⟨g0, f0, rfl, h0⟩) hx) (fun _ => trivial)
      · exact Chk.imp (Chk.on (show Chk (True) (rgE inc (-4096) 4096) (.func (.func g1) #[] f1) w' from ⟨g1, f1, rfl, h1⟩) hx) (fun _ => trivial)
      · exact Chk.imp (Chk.on (show Chk (True) (rgE ch (-4096) 4096) (.func (.func g2) #[] f2) w' from ⟨g2, f2, rfl, h2⟩) hx) (fun _ => trivial)) <|
      allOps_cons (fun a' w' hb hs hd => by
    exact rg_fn (φ := (mpEq (.int .i64 (prgE ph inc ch))).p) (vs := #[a'.eval (.tmp 12)]) rfl (enters_of Try.func87 (by kernel_rfl) rfl) (by simp) ((first_chks (n := 3) (er := (fun i => if i = 0 then rgE ph 0 4095 else if i = 1 then rgE inc (-4096) 4096 else rgE ch (-4096) 4096)) (by omega) (by omega) (hd.get 9 12 (by kernel_rfl) (by kernel_rfl))).mono (by rintro e w1 ⟨rfl, h1⟩; exact ⟨_, rfl, h1, congrArg (Value.int .i64) (ferr_3 _ _ _)⟩))) <|
      allOps_cons (fun a' w' hb hs hd => rg_op fun K hK => by
    have e0 := (show a'.eval (.tmp 13) = .int .i64 (prgE ph inc ch) from hd.get 10 13 (by kernel_rfl) (by kernel_rfl))
    have ec : ∀ v, a'.eval (.const v) = v := fun _ => rfl
    clear hs hd
    unfold Oper.wp
    generalize a'.eval = ρ at e0 ec ⊢
    simp [go_sem, e0]
    exact hK _ _ (Below.refl _ _) rfl) <| allOps_nil) (fun V w2 hb2 hall => ?_)
  have h2 : V 2 = .int .i64 (prgE ph inc ch) := hall.get 11 rfl
  clear hall
  simp only [mc0, maskPut, Nat.reduceAdd]
  rw [h2]
  clear h2
  go_wp2_with fail
  go_ret
  exact ⟨rfl, belowT hbw hb2⟩
set_option maxRecDepth 100000 in
set_option maxHeartbeats 800000 in
theorem programCheck1_any (b : Nat) (ph inc ch : Int) (w : World) (h0 : w.cell? ⟨b, 0, none⟩ = some (.int .i64 ph)) (h1 : w.cell? ⟨b, 1, none⟩ = some (.int .i64 inc)) (h2 : w.cell? ⟨b, 2, none⟩ = some (.int .i64 ch)) :
    Calls Try.prog 140 #[.pointer (some ⟨b, 0, none⟩)] w fun e w' => e = .returned (.int .i64 (prgE ph inc ch)) ∧ Below w.heap.size w w' := by
  have HC := Lib.hid (fun W => checkProgram_any ph inc ch W)
  go_enter Try.func140, Try.ntmps140
  go_wp2_with (go_at_call 42; (with_reducible refine Calls.mono (HC.out _) ?_); rintro e w1 ⟨rfl, hb1⟩; have B1 := Lib.hid hb1; clear hb1)
  go_ret
  exact ⟨rfl, B1.out⟩
set_option maxRecDepth 100000 in
set_option maxHeartbeats 800000 in
theorem programCheck_chk (ph inc ch : Int) (w : World) :
    Calls Try.prog 99 #[.agg #[.int .i64 ph, .int .i64 inc, .int .i64 ch]] w fun e w' => ∃ v, e = .returned v ∧ Below w.heap.size w w' ∧ Chk True (prgE ph inc ch) v w' := by
  go_enter Try.func99, Try.ntmps99
  go_wp2
  go_ret
  exact ⟨_, rfl, by (repeat (first | with_reducible exact Below.refl _ _ | with_reducible assumption | with_reducible refine Below.alloc ?_ (by first | (simp; done) | (simp; omega) | omega) _ | with_reducible refine Below.setCell ?_ (by first | (simp; done) | (simp; omega) | omega) _ | with_reducible refine Below.drew ?_ | with_reducible refine below_drewN ?_ _)), _, _, rfl, (enters_of Try.func140 (by kernel_rfl) rfl), fun w1 hb _ => programCheck1_any _ ph inc ch w1 (keep hb (by simp [go_sem])) (keep hb (by simp [go_sem])) (keep hb (by simp [go_sem]))⟩
/-- two checks that were built, as a list -/
theorem chks_2 {p0 p1 : Prop} {e0 e1 : Int} {v0 v1 : Value} {w : World} (T : TypeId) (h0 : Chk p0 e0 v0 w) (h1 : Chk p1 e1 v1 w) (i0 : p0) (i1 : e0 = 0 → p1) :
    Chks 2 (fun i => if i = 0 then e0 else e1) (.slice (some ⟨w.heap.size, 0, none⟩) 2 2) (w.alloc (.cells #[v0, v1] T)) := by
  have hx := (Below.refl w.heap.size w).alloc (Nat.le_refl _) (.cells #[v0, v1] T)
  refine ⟨_, rfl, fun i => if i = 0 then v0 else v1, fun i hi => ?_, fun i hi => ?_⟩
  · rcases (by omega : i = 0 ∨ i = 1) with rfl | rfl <;> simp [go_sem]
  · rcases (by omega : i = 0 ∨ i = 1) with rfl | rfl
    · exact Chk.imp (Chk.on (show Chk p0 e0 v0 w from h0) hx) (fun _ => i0)
    · exact Chk.imp (Chk.on (show Chk p1 e1 v1 w from h1) hx) (fun hz => i1 (by simpa using hz 0 (by omega)))
def fs2 (a b : Int) : Int := if a = 0 then b else a
theorem first_2 {p0 p1 : Prop} {e0 e1 : Int} {v0 v1 : Value} {w : World} (T : TypeId) (h0 : Chk p0 e0 v0 w) (h1 : Chk p1 e1 v1 w) (i0 : p0) (i1 : e0 = 0 → p1) :
    Calls Try.prog 87 #[.slice (some ⟨w.heap.size, 0, none⟩) 2 2] (w.alloc (.cells #[v0, v1] T)) fun e w' => e = .returned (.int .i64 (fs2 e0 e1)) ∧ Below w.heap.size w w' := by
  have hx := (Below.refl w.heap.size w).alloc (Nat.le_refl _) (.cells #[v0, v1] T)
  refine (first_chks (by omega) (by omega) (chks_2 T h0 h1 i0 i1)).mono ?_
  rintro e w' ⟨rfl, h⟩
  exact ⟨ret_int (ferr_2 _ _), belowT hx h⟩

end Go.Proofs.Ytpkacfgmojblbaa
