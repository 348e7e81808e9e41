/- Helpers: the checks of package check over the items of a slice. No condition but the hypotheses that each theorem names. -/
import Derived.Test.YtpkacfgmojblbaaB01
namespace Go.Proofs.Ytpkacfgmojblbaa
open Go.RowKit
attribute [local go_sem] old1 fro1 old2 fro2 old3 fro3 old4 fro4 old5 fro5 old6 fro6 old7 fro7 old8 fro8 old9 fro9 old10 fro10 old11 fro11 old12 fro12
def mb0 : List Bool := [false, false, false, true, true, true, true, true, true, true, true]
/-- the number of the first error -/
def fnx (er : Nat → Int) : Nat → Nat → Int
  | _, 0 => 0
  | i, n + 1 => if er i = 0 then fnx er (i + 1) n else i
def pv (p : Nat → Int) : Value := .agg #[.int .i64 (p 0), .int .i64 (p 1), .int .i64 (p 2), .int .i64 (p 3), .int .i64 (p 4), .int .i64 (p 5), .int .i64 (p 6), .int .i64 (p 7), .int .i64 (p 8), .int .i64 (p 9), .int .i64 (p 10), .int .i64 (p 11), .int .i64 (p 12), .int .i64 (p 13), .int .i64 (p 14), .int .i64 (p 15), .int .i64 (p 16), .int .i64 (p 17)]
/-- pairs of numbers, packets of 18 numbers in memory -/
def GA (w : World) (A : Option Addr) (n : Nat) (g : Nat → Int × Int) : Prop := 0 < n → ∃ b off, A = some ⟨b, off, none⟩ ∧ ∀ i, i < n → w.cell? ⟨b, off + i * 2, none⟩ = some (.int .i64 (g i).1) ∧ w.cell? ⟨b, off + i * 2 + 1, none⟩ = some (.int .i64 (g i).2)
theorem GA.bel {w w1 : World} {A : Option Addr} {n : Nat} {g : Nat → Int × Int} (h : GA w A n g) (hb : Below w.heap.size w w1) : GA w1 A n g := fun h0 => by
  obtain ⟨b, off, e, hc⟩ := h h0
  exact ⟨b, off, e, fun i hi => ⟨keep hb (hc i hi).1, keep hb (hc i hi).2⟩⟩
def KA (w : World) (A : Option Addr) (n : Nat) (k : Nat → Nat → Int) : Prop := 0 < n → ∃ b off, A = some ⟨b, off, none⟩ ∧ ∀ i, i < n → ∀ j, j < 18 → w.cell? ⟨b, off + i * 18 + j, none⟩ = some (.int .i64 (k i j))
theorem KA.bel {w w1 : World} {A : Option Addr} {n : Nat} {k : Nat → Nat → Int} (h : KA w A n k) (hb : Below w.heap.size w w1) : KA w1 A n k := fun h0 => by
  obtain ⟨b, off, e, hc⟩ := h h0
  exact ⟨b, off, e, fun i hi j hj => keep hb (hc i hi j hj)⟩
theorem IA.bel {w w1 : World} {A : Option Addr} {n : Nat} {k : Nat → Int} (h : IA w A n k) (hb : Below w.heap.size w w1) : IA w1 A n k := h.below hb
/-- a function that answers the error er i of the item i -/
def Itx (vs : Nat → Value) (er : Nat → Int) (n : Nat) (v : Value) (w : World) : Prop := ∃ g cb, v = .func (.func g) #[] cb ∧ Entr g ∧ ∀ i w1, i < n → (∀ j, j < i → er j = 0) → Below w.heap.size w w1 → Calls Try.prog g (#[.int .i64 (i : Int), vs i] ++ cb) w1 fun e w' => e = .returned (.int .i64 (er i)) ∧ Below w1.heap.size w1 w'
theorem Itx.on {vs : Nat → Value} {er : Nat → Int} {n : Nat} {v : Value} {w w2 : World} (h : Itx vs er n v w) (hb : Below w.heap.size w w2) : Itx vs er n v w2 := by
  obtain ⟨g, cb, hv, he, hc⟩ := h
  exact ⟨g, cb, hv, he, fun i w1 hi hz h1 => hc i w1 hi hz (belowT hb h1)⟩

set_option maxRecDepth 100000 in
set_option maxHeartbeats 800000 in
theorem indexedI_any (A : Option Addr) (n c : Nat) (xs : Nat → Int) (er : Nat → Int) (v : Value) (w : World) (hn : n ≤ 1000000000) (hA : IA w A n xs) (hI : Itx (fun i => iv (xs i)) er n v w) :
    Calls Try.prog 158 #[.slice A n c, v] w fun e w' => e = .returned (.tuple #[.int .i64 (fnx er 0 n), .int .i64 (ferr er 0 n)]) ∧ Below w.heap.size w w' := by
  obtain ⟨gF, cb, rfl, he, hf⟩ := hI
  have heg : ∀ args w, (callFunc gF args).run Try.prog w = .ok (.enter gF args) w := he
  have HF := Lib.hid hf
  clear hf he
  go_enter Try.func158, Try.ntmps158
  go_wp2
  go_loopw [11] (fun i wr => ∃ k : Nat, k ≤ n ∧ i = .int .i64 k ∧ Below w.heap.size w wr ∧ Hid (∀ j, j < k → er j = 0) ∧ Hid (ferr er 0 n = ferr er k (n - k)) ∧ Hid (fnx er 0 n = fnx er k (n - k))) (fun i _ => n - (intOf i).toNat)
  case atStart => exact ⟨0, Nat.zero_le _, rfl, Below.refl _ _, fun j hj => absurd hj (Nat.not_lt_zero _), rfl, rfl⟩
  case round =>
    obtain ⟨k, hk, rfl, hbel, H, H2, H3⟩ := hrel
    by_cases hlt : k < n
    · obtain ⟨bA, oA, rfl, HA2⟩ := hA (by omega)
      have hcell := keep hbel (HA2 k hlt)
      have hcon := fun W (hW : Below wr.heap.size wr W) => HF.out k W hlt H.out (belowT hbel hW)
      simp only [iv] at hcon
      have hsz := hbel.size
      have HB := Lib.hid hbel
      clear hbel HA2
      have HS : Hid (ferr er k (n - k) = if er k = 0 then ferr er (k + 1) (n - (k + 1)) else er k) := by
        rw [show n - k = (n - (k + 1)) + 1 from by omega]; rfl
      have HS3 : Hid (fnx er k (n - k) = if er k = 0 then fnx er (k + 1) (n - (k + 1)) else k) := by
        rw [show n - k = (n - (k + 1)) + 1 from by omega]; rfl
      by_cases hz : er k = 0
      · have HZ := Lib.hid hz
        simp only [hz] at hcon
        clear hz
        have HC := Lib.hid hcon; clear hcon
        go_wp2_with (go_at_fn gF; (with_reducible refine Calls.mono (HC.out _ (by (repeat (first | with_reducible exact Below.refl _ _ | with_reducible assumption | with_reducible refine Below.alloc ?_ (by first | (simp; done) | (simp; omega) | omega) _ | with_reducible refine Below.setCell ?_ (by first | (simp; done) | (simp; omega) | omega) _ | with_reducible refine Below.drew ?_ | with_reducible refine below_drewN ?_ _)))) ?_); rintro e w2 ⟨rfl, hb2⟩; have B2 := Lib.hid (belowT (show Below wr.heap.size wr _ by (repeat (first | with_reducible exact Below.refl _ _ | with_reducible assumption | with_reducible refine Below.alloc ?_ (by first | (simp; done) | (simp; omega) | omega) _ | with_reducible refine Below.setCell ?_ (by first | (simp; done) | (simp; omega) | omega) _ | with_reducible refine Below.drew ?_ | with_reducible refine below_drewN ?_ _))) hb2); clear hb2)
        go_roundw
        case rel => exact ⟨k + 1, by omega, by go_num, HB.out.trans (B2.out.mono hsz), fun j hj => (by
          rcases Nat.lt_or_eq_of_le (Nat.le_of_lt_succ hj) with h | h
          · exact H.out j h
          · rw [h]; exact HZ.out), (by show ferr er 0 n = _; rw [H2.out, HS.out, if_pos HZ.out]), (by show fnx er 0 n = _; rw [H3.out, HS3.out, if_pos HZ.out])⟩
        case measure => simp [intOf]; omega
      · have HZ := Lib.hid hz
        have hq : (er k != 0) = true := by simpa using hz
        clear hz
        have HC := Lib.hid hcon; clear hcon
        go_wp2_with (go_at_fn gF; (with_reducible refine Calls.mono (HC.out _ (by (repeat (first | with_reducible exact Below.refl _ _ | with_reducible assumption | with_reducible refine Below.alloc ?_ (by first | (simp; done) | (simp; omega) | omega) _ | with_reducible refine Below.setCell ?_ (by first | (simp; done) | (simp; omega) | omega) _ | with_reducible refine Below.drew ?_ | with_reducible refine below_drewN ?_ _)))) ?_); rintro e w2 ⟨rfl, hb2⟩; have B2 := Lib.hid (belowT (show Below wr.heap.size wr _ by (repeat (first | with_reducible exact Below.refl _ _ | with_reducible assumption | with_reducible refine Below.alloc ?_ (by first | (simp; done) | (simp; omega) | omega) _ | with_reducible refine Below.setCell ?_ (by first | (simp; done) | (simp; omega) | omega) _ | with_reducible refine Below.drew ?_ | with_reducible refine below_drewN ?_ _))) hb2); clear hb2)
        go_ret2
        exact ⟨by rw [H2.out, HS.out, if_neg HZ.out, H3.out, HS3.out, if_neg HZ.out]; rfl, HB.out.trans (B2.out.mono hsz)⟩
    · obtain rfl : k = n := by omega
      have HB := Lib.hid hbel
      clear hbel
      go_wp2
      go_ret2
      exact ⟨by rw [H2.out, H3.out, Nat.sub_self]; rfl, HB.out⟩
set_option maxRecDepth 100000 in
set_option maxHeartbeats 800000 in
theorem eachI11_any (b : Nat) (i : Int) (x : Int) (gF : Nat) (cb : Array Value) (E : Int) (w : World) (h0 : w.cell? ⟨b, 0, none⟩ = some (.func (.func gF) #[] cb)) (he : Entr gF) (hc : ∀ w1, Below w.heap.size w w1 → Calls Try.prog gF (#[iv x] ++ cb) w1 fun e w' => e = .returned (.int .i64 E) ∧ Below w1.heap.size w1 w') :
    Calls Try.prog 159 (#[.int .i64 i, iv x] ++ #[.pointer (some ⟨b, 0, none⟩)]) w fun e w' => e = .returned (.int .i64 E) ∧ Below w.heap.size w w' := by
  have heg : ∀ args w, (callFunc gF args).run Try.prog w = .ok (.enter gF args) w := he
  simp only [iv] at hc ⊢
  have HC := Lib.hid hc
  clear hc he
  show Calls Try.prog _ #[.int .i64 i, .int .i64 x, .pointer (some ⟨b, 0, none⟩)] w _
  go_enter Try.func159, Try.ntmps159
  go_wp2_with (go_at_fn gF; (with_reducible refine Calls.mono (HC.out _ (by (repeat (first | with_reducible exact Below.refl _ _ | with_reducible assumption | with_reducible refine Below.alloc ?_ (by first | (simp; done) | (simp; omega) | omega) _ | with_reducible refine Below.setCell ?_ (by first | (simp; done) | (simp; omega) | omega) _ | with_reducible refine Below.drew ?_ | with_reducible refine below_drewN ?_ _)))) ?_); rintro e w2 ⟨rfl, hb2⟩; have B2 := Lib.hid (belowT (show Below w.heap.size w _ by (repeat (first | with_reducible exact Below.refl _ _ | with_reducible assumption | with_reducible refine Below.alloc ?_ (by first | (simp; done) | (simp; omega) | omega) _ | with_reducible refine Below.setCell ?_ (by first | (simp; done) | (simp; omega) | omega) _ | with_reducible refine Below.drew ?_ | with_reducible refine below_drewN ?_ _))) hb2); clear hb2)
  go_ret
  exact ⟨rfl, B2.out⟩
set_option maxRecDepth 100000 in
set_option maxHeartbeats 800000 in
theorem eachI1_any (b0 b1 : Nat) (A : Option Addr) (n c : Nat) (xs : Nat → Int) (E : Int → Int) (v : Value) (w : World) (hn : n ≤ 1000000000) (h0 : w.cell? ⟨b0, 0, none⟩ = some (.slice A n c)) (h1 : w.cell? ⟨b1, 0, none⟩ = some v) (hA : IA w A n xs) (hI : Itm iv E v w) :
    Calls Try.prog 157 #[.pointer (some ⟨b0, 0, none⟩), .pointer (some ⟨b1, 0, none⟩)] w fun e w' => e = .returned (.int .i64 (ferr (fun i => E (xs i)) 0 n)) ∧ Below w.heap.size w w' := by
  obtain ⟨gF, cb, rfl, he, hc⟩ := hI
  have HI : Itx (fun i => iv (xs i)) (fun i => E (xs i)) n (.func (.func 159) #[] #[.pointer (some ⟨b1, 0, none⟩)]) w :=
    ⟨_, _, rfl, (enters_of Try.func159 (by kernel_rfl) rfl), fun i w1 _ _ hb => eachI11_any b1 i (xs i) gF cb _ w1 (keep hb h1) he (fun w2 h2 => hc _ w2 (belowT hb h2))⟩
  have HX := Lib.hid (indexedI_any A n c xs (fun i => E (xs i)) _ w hn hA HI)
  clear hc he HI
  go_enter Try.func157, Try.ntmps157
  go_wp2_with (go_at_call 158; (with_reducible refine Calls.mono HX.out ?_); rintro e w2 ⟨rfl, hb2⟩; have B2 := Lib.hid hb2; clear hb2)
  go_ret
  exact ⟨rfl, B2.out⟩
set_option maxRecDepth 100000 in
set_option maxHeartbeats 800000 in
theorem eachI_chk (A : Option Addr) (n c : Nat) (xs : Nat → Int) (E : Int → Int) (v : Value) (w : World) (hn : n ≤ 1000000000) (hA : IA w A n xs) (hI : Itm iv E v w) :
    Calls Try.prog 150 #[.slice A n c, v] w fun e w' => ∃ v', e = .returned v' ∧ Below w.heap.size w w' ∧ Chk True (ferr (fun i => E (xs i)) 0 n) v' w' := by
  obtain ⟨gF, cb, rfl, he, hc⟩ := hI
  go_enter Try.func150, Try.ntmps150
  go_wp2
  go_ret
  have hb : Below w.heap.size w ((w.alloc (.cells #[.slice A n c] 38)).alloc (.cells #[.func (.func gF) #[] cb] 149)) := by (repeat (first | with_reducible exact Below.refl _ _ | with_reducible assumption | with_reducible refine Below.alloc ?_ (by first | (simp; done) | (simp; omega) | omega) _ | with_reducible refine Below.setCell ?_ (by first | (simp; done) | (simp; omega) | omega) _ | with_reducible refine Below.drew ?_ | with_reducible refine below_drewN ?_ _))
  exact ⟨_, rfl, hb, _, _, rfl, (enters_of Try.func157 (by kernel_rfl) rfl), fun w1 h1 _ => eachI1_any w.heap.size (w.heap.size + 1) A n c xs E (.func (.func gF) #[] cb) w1 hn (keep h1 (by simp [go_sem])) (keep h1 (by simp [go_sem])) (hA.bel (belowT hb h1)) ⟨gF, cb, rfl, he, fun x w2 h2 => hc x w2 (belowT hb (belowT h1 h2))⟩⟩
set_option maxRecDepth 100000 in
set_option maxHeartbeats 800000 in
theorem atmostI11_any (b0 b1 : Nat) (A : Option Addr) (n c : Nat) (m : Int) (w : World) (h0 : w.cell? ⟨b0, 0, none⟩ = some (.slice A n c)) (h1 : w.cell? ⟨b1, 0, none⟩ = some (.int .i64 m)) :
    Calls Try.prog 149 #[.pointer (some ⟨b0, 0, none⟩), .pointer (some ⟨b1, 0, none⟩)] w fun e w' => e = .returned (.bool (decide ((n : Int) ≤ m))) ∧ Below w.heap.size w w' := by
  go_enter Try.func149, Try.ntmps149
  go_wp2
  go_ret
  exact ⟨rfl, by (repeat (first | with_reducible exact Below.refl _ _ | with_reducible assumption | with_reducible refine Below.alloc ?_ (by first | (simp; done) | (simp; omega) | omega) _ | with_reducible refine Below.setCell ?_ (by first | (simp; done) | (simp; omega) | omega) _ | with_reducible refine Below.drew ?_ | with_reducible refine below_drewN ?_ _))⟩
def atEI (m : Int) (n : Nat) (xs : Nat → Int) (E : Int → Int) : Int := if (n : Int) ≤ m then ferr (fun i => E (xs i)) 0 n else 8
theorem ferr_at (m : Int) (n : Nat) (e : Int) : ferr (fun i => if i = 0 then (if decide ((n : Int) ≤ m) then 0 else 8) else e) 0 2 = if (n : Int) ≤ m then e else 8 := by
  rw [ferr_2]
  by_cases h : (n : Int) ≤ m <;> simp [h]
set_option maxRecDepth 100000 in
set_option maxHeartbeats 2000000 in
theorem atmostI1_any (b0 b1 b2 : Nat) (A : Option Addr) (n c : Nat) (xs : Nat → Int) (E : Int → Int) (m : Int) (v : Value) (w : World) (hn : n ≤ 1000000000) (h0 : w.cell? ⟨b0, 0, none⟩ = some (.slice A n c)) (h1' : w.cell? ⟨b1, 0, none⟩ = some (.int .i64 m)) (h2 : w.cell? ⟨b2, 0, none⟩ = some v) (hA : IA w A n xs) (hI : Itm iv E v w) :
    Calls Try.prog 148 #[.pointer (some ⟨b0, 0, none⟩), .pointer (some ⟨b1, 0, none⟩), .pointer (some ⟨b2, 0, none⟩)] w fun e w' => e = .returned (.int .i64 (atEI m n xs E)) ∧ Below w.heap.size w w' := by
  have HI := Lib.hid hI
  have HA := Lib.hid hA
  clear hI hA
  go_enter Try.func148, Try.ntmps148
  go_wp2_with fail
  refine wp_region_mp [mpCnd True (decide ((n : Int) ≤ m)), mpChk (True) (if decide ((n : Int) ≤ m) then 0 else 8), mpEq (.slice A n c), mpItm iv E, mpChk (True) (ferr (fun i => E (xs i)) 0 n), mpChks 2 (fun i => if i = 0 then if decide ((n : Int) ≤ m) then 0 else 8 else ferr (fun i => E (xs i)) 0 n), mpEq (.int .i64 (atEI m n xs E)), mpEq (.int .i64 (atEI m n xs E))] mb0 (by kernel_rfl) (by kernel_rfl) (by kernel_rfl) (
      allOps_cons (fun a' w' hb hs hd => rg_op fun K hK => by
    have e0 := (hs.get 0 (by kernel_rfl)).trans (show _ = .pointer (some ⟨b0, 0, none⟩) from rfl)
    have e1 := (hs.get 1 (by kernel_rfl)).trans (show _ = .pointer (some ⟨b1, 0, none⟩) from rfl)
    clear hs hd
    unfold Oper.wp
    generalize a'.eval = ρ at e0 e1 ⊢
    simp [go_sem, e0, e1]
    exact hK _ _ (Below.refl _ _) ⟨_, _, rfl, (enters_of Try.func149 (by kernel_rfl) rfl), fun w1 h1 _ => atmostI11_any b0 b1 A n c m w1 (keep (belowT hb h1) h0) (keep (belowT hb h1) h1')⟩) <|
      allOps_cons (fun a' w' hb hs hd => by
    exact rg_fn (φ := (mpChk (True) (if decide ((n : Int) ≤ m) then 0 else 8)).p) (vs := #[.int .i64 8, a'.eval (.tmp 4)]) rfl (enters_of Try.func116 (by kernel_rfl) rfl) (by simp [(show a'.eval (.const (.int .i64 8)) = .int .i64 8 from rfl)]) ((require_chk 8 _ w' (show Cnd True (decide ((n : Int) ≤ m)) (a'.eval (.tmp 4)) w' from hd.get 0 4 (by kernel_rfl) (by kernel_rfl))))) <|
      allOps_cons (fun a' w' hb hs hd => rg_op fun K hK => by
    have e0 := (hs.get 0 (by kernel_rfl)).trans (show _ = .pointer (some ⟨b0, 0, none⟩) from rfl)
    have ec : ∀ v, a'.eval (.const v) = v := fun _ => rfl
    have c0 := keep hb h0
    clear hs hd
    unfold Oper.wp
    generalize a'.eval = ρ at e0 ec ⊢
    simp [go_sem, e0, c0]
    exact hK _ _ (Below.refl _ _) rfl) <|
      allOps_cons (fun a' w' hb hs hd => rg_op fun K hK => by
    have e0 := (hs.get 2 (by kernel_rfl)).trans (show _ = .pointer (some ⟨b2, 0, none⟩) from rfl)
    have c0 := keep hb h2
    have ki := HI.out.on hb
    clear hs hd
    unfold Oper.wp
    generalize a'.eval = ρ at e0 ⊢
    simp [go_sem, e0, c0]
    exact hK _ _ (Below.refl _ _) ki) <|
      allOps_cons (fun a' w' hb hs hd => by
    exact rg_fn (φ := (mpChk (True) (ferr (fun i => E (xs i)) 0 n)).p) (vs := #[.slice A n c, a'.eval (.tmp 7)]) rfl (enters_of Try.func150 (by kernel_rfl) rfl) (by simp [(show a'.eval (.tmp 6) = .slice A n c from hd.get 2 6 (by kernel_rfl) (by kernel_rfl))]) ((eachI_chk A n c xs E _ w' hn (HA.out.bel hb) (show Itm iv E (a'.eval (.tmp 7)) w' from hd.get 3 7 (by kernel_rfl) (by kernel_rfl))))) <|
      allOps_cons (fun a' w' hb hs hd => rg_op fun K hK => by
    have k0 : (mpChk (True) (if decide ((n : Int) ≤ m) then 0 else 8)).p (a'.eval (.tmp 5)) w' := hd.get 1 5 (by kernel_rfl) (by kernel_rfl)
    have k1 : (mpChk (True) (ferr (fun i => E (xs i)) 0 n)).p (a'.eval (.tmp 8)) w' := hd.get 4 8 (by kernel_rfl) (by kernel_rfl)
    clear hs hd
    unfold Oper.wp
    generalize a'.eval = ρ at k0 k1 ⊢
    obtain ⟨g0, f0, e0, h0⟩ := k0
    obtain ⟨g1, f1, e1, h1⟩ := k1
    simp [go_sem, e0, e1]
    have hx := (Below.refl w'.heap.size w').alloc (Nat.le_refl _) (.cells #[.func (.func g0) #[] f0, .func (.func g1) #[] f1] 121)
    refine hK _ _ hx ⟨_, rfl, fun i => if i = 0 then .func (.func g0) #[] f0 else .func (.func g1) #[] f1, fun i hi => ?_, fun i hi => ?_⟩
    · rcases (by omega : i = 0 ∨ i = 1) with rfl | rfl <;> simp [go_sem]
    · rcases (by omega : i = 0 ∨ i = 1) with rfl | rfl
      · exact Chk.imp (Chk.on (show Chk (True) (if decide ((n : Int) ≤ m) then 0 else 8) (.func (.func g0) #[] f0) w' from ⟨g0, f0, rfl, h0⟩) hx) (fun _ => trivial)
      · exact Chk.imp (Chk.on (show Chk (True) (ferr (fun i => E (xs i)) 0 n) (.func (.func g1) #[] f1) w' from ⟨g1, f1, rfl, h1⟩) hx) (fun _ => trivial)) <|
      allOps_cons (fun a' w' hb hs hd => by
    exact rg_fn (φ := (mpEq (.int .i64 (atEI m n xs E))).p) (vs := #[a'.eval (.tmp 9)]) rfl (enters_of Try.func87 (by kernel_rfl) rfl) (by simp) ((first_chks (n := 2) (er := (fun i => if i = 0 then if decide ((n : Int) ≤ m) then 0 else 8 else ferr (fun i => E (xs i)) 0 n)) (by omega) (by omega) (hd.get 5 9 (by kernel_rfl) (by kernel_rfl))).mono (by rintro e w1 ⟨rfl, h1⟩; exact ⟨_, rfl, h1, congrArg (Value.int .i64) (ferr_at m n (ferr (fun i => E (xs i)) 0 n))⟩))) <|
      allOps_cons (fun a' w' hb hs hd => rg_op fun K hK => by
    have e0 := (show a'.eval (.tmp 10) = .int .i64 (atEI m n xs E) from hd.get 6 10 (by kernel_rfl) (by kernel_rfl))
    have ec : ∀ v, a'.eval (.const v) = v := fun _ => rfl
    clear hs hd
    unfold Oper.wp
    generalize a'.eval = ρ at e0 ec ⊢
    simp [go_sem, e0]
    exact hK _ _ (Below.refl _ _) rfl) <| allOps_nil) (fun V w2 hb2 hall => ?_)
  have h3 : V 3 = .int .i64 (atEI m n xs E) := hall.get 7 rfl
  clear hall
  simp only [mb0, maskPut, Nat.reduceAdd]
  rw [h3]
  clear h3
  go_wp2_with fail
  go_ret
  exact ⟨rfl, hb2⟩
set_option maxRecDepth 100000 in
set_option maxHeartbeats 800000 in
theorem atmostI_chk (A : Option Addr) (n c : Nat) (xs : Nat → Int) (E : Int → Int) (m : Int) (v : Value) (w : World) (hn : n ≤ 1000000000) (hA : IA w A n xs) (hI : Itm iv E v w) :
    Calls Try.prog 118 #[.int .i64 m, .slice A n c, v] w fun e w' => ∃ v', e = .returned v' ∧ Below w.heap.size w w' ∧ Chk True (atEI m n xs E) v' w' := by
  obtain ⟨gF, cb, rfl, he, hc⟩ := hI
  go_enter Try.func118, Try.ntmps118
  go_wp2
  go_ret
  have hb : Below w.heap.size w (((w.alloc (.cells #[.int .i64 m] 3)).alloc (.cells #[.slice A n c] 38)).alloc (.cells #[.func (.func gF) #[] cb] 149)) := by (repeat (first | with_reducible exact Below.refl _ _ | with_reducible assumption | with_reducible refine Below.alloc ?_ (by first | (simp; done) | (simp; omega) | omega) _ | with_reducible refine Below.setCell ?_ (by first | (simp; done) | (simp; omega) | omega) _ | with_reducible refine Below.drew ?_ | with_reducible refine below_drewN ?_ _))
  exact ⟨_, rfl, hb, _, _, rfl, (enters_of Try.func148 (by kernel_rfl) rfl), fun w1 h1 _ => atmostI1_any (w.heap.size + 1) w.heap.size (w.heap.size + 1 + 1) A n c xs E m (.func (.func gF) #[] cb) w1 hn (keep h1 (by simp [go_sem])) (keep h1 (by simp [go_sem])) (keep h1 (by simp [go_sem])) (hA.bel (belowT hb h1)) ⟨gF, cb, rfl, he, fun x w2 h2 => hc x w2 (belowT hb (belowT h1 h2))⟩⟩
set_option maxRecDepth 100000 in
set_option maxHeartbeats 800000 in
theorem indexedG_any (A : Option Addr) (n c : Nat) (g : Nat → Int × Int) (er : Nat → Int) (v : Value) (w : World) (hn : n ≤ 1000000000) (hA : GA w A n g) (hI : Itx (fun i => gv (g i)) er n v w) :
    Calls Try.prog 129 #[.slice A n c, v] w fun e w' => e = .returned (.tuple #[.int .i64 (fnx er 0 n), .int .i64 (ferr er 0 n)]) ∧ Below w.heap.size w w' := by
  obtain ⟨gF, cb, rfl, he, hf⟩ := hI
  have heg : ∀ args w, (callFunc gF args).run Try.prog w = .ok (.enter gF args) w := he
  have HF := Lib.hid hf
  clear hf he
  go_enter Try.func129, Try.ntmps129
  go_wp2
  go_loopw [11] (fun i wr => ∃ k : Nat, k ≤ n ∧ i = .int .i64 k ∧ Below w.heap.size w wr ∧ Hid (∀ j, j < k → er j = 0) ∧ Hid (ferr er 0 n = ferr er k (n - k)) ∧ Hid (fnx er 0 n = fnx er k (n - k))) (fun i _ => n - (intOf i).toNat)
  case atStart => exact ⟨0, Nat.zero_le _, rfl, Below.refl _ _, fun j hj => absurd hj (Nat.not_lt_zero _), rfl, rfl⟩
  case round =>
    obtain ⟨k, hk, rfl, hbel, H, H2, H3⟩ := hrel
    by_cases hlt : k < n
    · obtain ⟨bA, oA, rfl, HA2⟩ := hA (by omega)
      have hcell0 := keep hbel (HA2 k hlt).1; have hcell1 := keep hbel (HA2 k hlt).2
      have hcon := fun W (hW : Below wr.heap.size wr W) => HF.out k W hlt H.out (belowT hbel hW)
      simp only [gv] at hcon
      have hsz := hbel.size
      have HB := Lib.hid hbel
      clear hbel HA2
      have HS : Hid (ferr er k (n - k) = if er k = 0 then ferr er (k + 1) (n - (k + 1)) else er k) := by
        rw [show n - k = (n - (k + 1)) + 1 from by omega]; rfl
      have HS3 : Hid (fnx er k (n - k) = if er k = 0 then fnx er (k + 1) (n - (k + 1)) else k) := by
        rw [show n - k = (n - (k + 1)) + 1 from by omega]; rfl
      by_cases hz : er k = 0
      · have HZ := Lib.hid hz
        simp only [hz] at hcon
        clear hz
        have HC := Lib.hid hcon; clear hcon
        go_wp2_with (go_at_fn gF; (with_reducible refine Calls.mono (HC.out _ (by (repeat (first | with_reducible exact Below.refl _ _ | with_reducible assumption | with_reducible refine Below.alloc ?_ (by first | (simp; done) | (simp; omega) | omega) _ | with_reducible refine Below.setCell ?_ (by first | (simp; done) | (simp; omega) | omega) _ | with_reducible refine Below.drew ?_ | with_reducible refine below_drewN ?_ _)))) ?_); rintro e w2 ⟨rfl, hb2⟩; have B2 := Lib.hid (belowT (show Below wr.heap.size wr _ by (repeat (first | with_reducible exact Below.refl _ _ | with_reducible assumption | with_reducible refine Below.alloc ?_ (by first | (simp; done) | (simp; omega) | omega) _ | with_reducible refine Below.setCell ?_ (by first | (simp; done) | (simp; omega) | omega) _ | with_reducible refine Below.drew ?_ | with_reducible refine below_drewN ?_ _))) hb2); clear hb2)
        go_roundw
        case rel => exact ⟨k + 1, by omega, by go_num, HB.out.trans (B2.out.mono hsz), fun j hj => (by
          rcases Nat.lt_or_eq_of_le (Nat.le_of_lt_succ hj) with h | h
          · exact H.out j h
          · rw [h]; exact HZ.out), (by show ferr er 0 n = _; rw [H2.out, HS.out, if_pos HZ.out]), (by show fnx er 0 n = _; rw [H3.out, HS3.out, if_pos HZ.out])⟩
        case measure => simp [intOf]; omega
      · have HZ := Lib.hid hz
        have hq : (er k != 0) = true := by simpa using hz
        clear hz
        have HC := Lib.hid hcon; clear hcon
        go_wp2_with (go_at_fn gF; (with_reducible refine Calls.mono (HC.out _ (by (repeat (first | with_reducible exact Below.refl _ _ | with_reducible assumption | with_reducible refine Below.alloc ?_ (by first | (simp; done) | (simp; omega) | omega) _ | with_reducible refine Below.setCell ?_ (by first | (simp; done) | (simp; omega) | omega) _ | with_reducible refine Below.drew ?_ | with_reducible refine below_drewN ?_ _)))) ?_); rintro e w2 ⟨rfl, hb2⟩; have B2 := Lib.hid (belowT (show Below wr.heap.size wr _ by (repeat (first | with_reducible exact Below.refl _ _ | with_reducible assumption | with_reducible refine Below.alloc ?_ (by first | (simp; done) | (simp; omega) | omega) _ | with_reducible refine Below.setCell ?_ (by first | (simp; done) | (simp; omega) | omega) _ | with_reducible refine Below.drew ?_ | with_reducible refine below_drewN ?_ _))) hb2); clear hb2)
        go_ret2
        exact ⟨by rw [H2.out, HS.out, if_neg HZ.out, H3.out, HS3.out, if_neg HZ.out]; rfl, HB.out.trans (B2.out.mono hsz)⟩
    · obtain rfl : k = n := by omega
      have HB := Lib.hid hbel
      clear hbel
      go_wp2
      go_ret2
      exact ⟨by rw [H2.out, H3.out, Nat.sub_self]; rfl, HB.out⟩
set_option maxRecDepth 100000 in
set_option maxHeartbeats 800000 in
theorem eachG11_any (b : Nat) (i : Int) (x : Int × Int) (gF : Nat) (cb : Array Value) (E : Int) (w : World) (h0 : w.cell? ⟨b, 0, none⟩ = some (.func (.func gF) #[] cb)) (he : Entr gF) (hc : ∀ w1, Below w.heap.size w w1 → Calls Try.prog gF (#[gv x] ++ cb) w1 fun e w' => e = .returned (.int .i64 E) ∧ Below w1.heap.size w1 w') :
    Calls Try.prog 130 (#[.int .i64 i, gv x] ++ #[.pointer (some ⟨b, 0, none⟩)]) w fun e w' => e = .returned (.int .i64 E) ∧ Below w.heap.size w w' := by
  have heg : ∀ args w, (callFunc gF args).run Try.prog w = .ok (.enter gF args) w := he
  simp only [gv] at hc ⊢
  have HC := Lib.hid hc
  clear hc he
  show Calls Try.prog _ #[.int .i64 i, .agg #[.int .i64 x.1, .int .i64 x.2], .pointer (some ⟨b, 0, none⟩)] w _
  go_enter Try.func130, Try.ntmps130
  go_wp2_with (go_at_fn gF; (with_reducible refine Calls.mono (HC.out _ (by (repeat (first | with_reducible exact Below.refl _ _ | with_reducible assumption | with_reducible refine Below.alloc ?_ (by first | (simp; done) | (simp; omega) | omega) _ | with_reducible refine Below.setCell ?_ (by first | (simp; done) | (simp; omega) | omega) _ | with_reducible refine Below.drew ?_ | with_reducible refine below_drewN ?_ _)))) ?_); rintro e w2 ⟨rfl, hb2⟩; have B2 := Lib.hid (belowT (show Below w.heap.size w _ by (repeat (first | with_reducible exact Below.refl _ _ | with_reducible assumption | with_reducible refine Below.alloc ?_ (by first | (simp; done) | (simp; omega) | omega) _ | with_reducible refine Below.setCell ?_ (by first | (simp; done) | (simp; omega) | omega) _ | with_reducible refine Below.drew ?_ | with_reducible refine below_drewN ?_ _))) hb2); clear hb2)
  go_ret
  exact ⟨rfl, B2.out⟩
set_option maxRecDepth 100000 in
set_option maxHeartbeats 800000 in
theorem eachG1_any (b0 b1 : Nat) (A : Option Addr) (n c : Nat) (g : Nat → Int × Int) (E : Int × Int → Int) (v : Value) (w : World) (hn : n ≤ 1000000000) (h0 : w.cell? ⟨b0, 0, none⟩ = some (.slice A n c)) (h1 : w.cell? ⟨b1, 0, none⟩ = some v) (hA : GA w A n g) (hI : Itm gv E v w) :
    Calls Try.prog 128 #[.pointer (some ⟨b0, 0, none⟩), .pointer (some ⟨b1, 0, none⟩)] w fun e w' => e = .returned (.int .i64 (ferr (fun i => E (g i)) 0 n)) ∧ Below w.heap.size w w' := by
  obtain ⟨gF, cb, rfl, he, hc⟩ := hI
  have HI : Itx (fun i => gv (g i)) (fun i => E (g i)) n (.func (.func 130) #[] #[.pointer (some ⟨b1, 0, none⟩)]) w :=
    ⟨_, _, rfl, (enters_of Try.func130 (by kernel_rfl) rfl), fun i w1 _ _ hb => eachG11_any b1 i (g i) gF cb _ w1 (keep hb h1) he (fun w2 h2 => hc _ w2 (belowT hb h2))⟩
  have HX := Lib.hid (indexedG_any A n c g (fun i => E (g i)) _ w hn hA HI)
  clear hc he HI
  go_enter Try.func128, Try.ntmps128
  go_wp2_with (go_at_call 129; (with_reducible refine Calls.mono HX.out ?_); rintro e w2 ⟨rfl, hb2⟩; have B2 := Lib.hid hb2; clear hb2)
  go_ret
  exact ⟨rfl, B2.out⟩
set_option maxRecDepth 100000 in
set_option maxHeartbeats 800000 in
theorem eachG_chk (A : Option Addr) (n c : Nat) (g : Nat → Int × Int) (E : Int × Int → Int) (v : Value) (w : World) (hn : n ≤ 1000000000) (hA : GA w A n g) (hI : Itm gv E v w) :
    Calls Try.prog 90 #[.slice A n c, v] w fun e w' => ∃ v', e = .returned v' ∧ Below w.heap.size w w' ∧ Chk True (ferr (fun i => E (g i)) 0 n) v' w' := by
  obtain ⟨gF, cb, rfl, he, hc⟩ := hI
  go_enter Try.func90, Try.ntmps90
  go_wp2
  go_ret
  have hb : Below w.heap.size w ((w.alloc (.cells #[.slice A n c] 42)).alloc (.cells #[.func (.func gF) #[] cb] 124)) := by (repeat (first | with_reducible exact Below.refl _ _ | with_reducible assumption | with_reducible refine Below.alloc ?_ (by first | (simp; done) | (simp; omega) | omega) _ | with_reducible refine Below.setCell ?_ (by first | (simp; done) | (simp; omega) | omega) _ | with_reducible refine Below.drew ?_ | with_reducible refine below_drewN ?_ _))
  exact ⟨_, rfl, hb, _, _, rfl, (enters_of Try.func128 (by kernel_rfl) rfl), fun w1 h1 _ => eachG1_any w.heap.size (w.heap.size + 1) A n c g E (.func (.func gF) #[] cb) w1 hn (keep h1 (by simp [go_sem])) (keep h1 (by simp [go_sem])) (hA.bel (belowT hb h1)) ⟨gF, cb, rfl, he, fun x w2 h2 => hc x w2 (belowT hb (belowT h1 h2))⟩⟩
set_option maxRecDepth 100000 in
set_option maxHeartbeats 800000 in
theorem atmostG11_any (b0 b1 : Nat) (A : Option Addr) (n c : Nat) (m : Int) (w : World) (h0 : w.cell? ⟨b0, 0, none⟩ = some (.slice A n c)) (h1 : w.cell? ⟨b1, 0, none⟩ = some (.int .i64 m)) :
    Calls Try.prog 156 #[.pointer (some ⟨b0, 0, none⟩), .pointer (some ⟨b1, 0, none⟩)] w fun e w' => e = .returned (.bool (decide ((n : Int) ≤ m))) ∧ Below w.heap.size w w' := by
  go_enter Try.func156, Try.ntmps156
  go_wp2
  go_ret
  exact ⟨rfl, by (repeat (first | with_reducible exact Below.refl _ _ | with_reducible assumption | with_reducible refine Below.alloc ?_ (by first | (simp; done) | (simp; omega) | omega) _ | with_reducible refine Below.setCell ?_ (by first | (simp; done) | (simp; omega) | omega) _ | with_reducible refine Below.drew ?_ | with_reducible refine below_drewN ?_ _))⟩
def atEG (m : Int) (n : Nat) (g : Nat → Int × Int) (E : Int × Int → Int) : Int := if (n : Int) ≤ m then ferr (fun i => E (g i)) 0 n else 8
set_option maxRecDepth 100000 in
set_option maxHeartbeats 2000000 in
theorem atmostG1_any (b0 b1 b2 : Nat) (A : Option Addr) (n c : Nat) (g : Nat → Int × Int) (E : Int × Int → Int) (m : Int) (v : Value) (w : World) (hn : n ≤ 1000000000) (h0 : w.cell? ⟨b0, 0, none⟩ = some (.slice A n c)) (h1' : w.cell? ⟨b1, 0, none⟩ = some (.int .i64 m)) (h2 : w.cell? ⟨b2, 0, none⟩ = some v) (hA : GA w A n g) (hI : Itm gv E v w) :
    Calls Try.prog 155 #[.pointer (some ⟨b0, 0, none⟩), .pointer (some ⟨b1, 0, none⟩), .pointer (some ⟨b2, 0, none⟩)] w fun e w' => e = .returned (.int .i64 (atEG m n g E)) ∧ Below w.heap.size w w' := by
  have HI := Lib.hid hI
  have HA := Lib.hid hA
  clear hI hA
  go_enter Try.func155, Try.ntmps155
  go_wp2_with fail
  refine wp_region_mp [mpCnd True (decide ((n : Int) ≤ m)), mpChk (True) (if decide ((n : Int) ≤ m) then 0 else 8), mpEq (.slice A n c), mpItm gv E, mpChk (True) (ferr (fun i => E (g i)) 0 n), mpChks 2 (fun i => if i = 0 then if decide ((n : Int) ≤ m) then 0 else 8 else ferr (fun i => E (g i)) 0 n), mpEq (.int .i64 (atEG m n g E)), mpEq (.int .i64 (atEG m n g E))] mb0 (by kernel_rfl) (by kernel_rfl) (by kernel_rfl) (
      allOps_cons (fun a' w' hb hs hd => rg_op fun K hK => by
    have e0 := (hs.get 0 (by kernel_rfl)).trans (show _ = .pointer (some ⟨b0, 0, none⟩) from rfl)
    have e1 := (hs.get 1 (by kernel_rfl)).trans (show _ = .pointer (some ⟨b1, 0, none⟩) from rfl)
    clear hs hd
    unfold Oper.wp
    generalize a'.eval = ρ at e0 e1 ⊢
    simp [go_sem, e0, e1]
    exact hK _ _ (Below.refl _ _) ⟨_, _, rfl, (enters_of Try.func156 (by kernel_rfl) rfl), fun w1 h1 _ => atmostG11_any b0 b1 A n c m w1 (keep (belowT hb h1) h0) (keep (belowT hb h1) h1')⟩) <|
      allOps_cons (fun a' w' hb hs hd => by
    exact rg_fn (φ := (mpChk (True) (if decide ((n : Int) ≤ m) then 0 else 8)).p) (vs := #[.int .i64 8, a'.eval (.tmp 4)]) rfl (enters_of Try.func116 (by kernel_rfl) rfl) (by simp [(show a'.eval (.const (.int .i64 8)) = .int .i64 8 from rfl)]) ((require_chk 8 _ w' (show Cnd True (decide ((n : Int) ≤ m)) (a'.eval (.tmp 4)) w' from hd.get 0 4 (by kernel_rfl) (by kernel_rfl))))) <|
      allOps_cons (fun a' w' hb hs hd => rg_op fun K hK => by
    have e0 := (hs.get 0 (by kernel_rfl)).trans (show _ = .pointer (some ⟨b0, 0, none⟩) from rfl)
    have ec : ∀ v, a'.eval (.const v) = v := fun _ => rfl
    have c0 := keep hb h0
    clear hs hd
    unfold Oper.wp
    generalize a'.eval = ρ at e0 ec ⊢
    simp [go_sem, e0, c0]
    exact hK _ _ (Below.refl _ _) rfl) <|
      allOps_cons (fun a' w' hb hs hd => rg_op fun K hK => by
    have e0 := (hs.get 2 (by kernel_rfl)).trans (show _ = .pointer (some ⟨b2, 0, none⟩) from rfl)
    have c0 := keep hb h2
    have ki := HI.out.on hb
    clear hs hd
    unfold Oper.wp
    generalize a'.eval = ρ at e0 ⊢
    simp [go_sem, e0, c0]
    exact hK _ _ (Below.refl _ _) ki) <|
      allOps_cons (fun a' w' hb hs hd => by
    exact rg_fn (φ := (mpChk (True) (ferr (fun i => E (g i)) 0 n)).p) (vs := #[.slice A n c, a'.eval (.tmp 7)]) rfl (enters_of Try.func90 (by kernel_rfl) rfl) (by simp [(show a'.eval (.tmp 6) = .slice A n c from hd.get 2 6 (by kernel_rfl) (by kernel_rfl))]) ((eachG_chk A n c g E _ w' hn (HA.out.bel hb) (show Itm gv E (a'.eval (.tmp 7)) w' from hd.get 3 7 (by kernel_rfl) (by kernel_rfl))))) <|
      allOps_cons (fun a' w' hb hs hd => rg_op fun K hK => by
    have k0 : (mpChk (True) (if decide ((n : Int) ≤ m) then 0 else 8)).p (a'.eval (.tmp 5)) w' := hd.get 1 5 (by kernel_rfl) (by kernel_rfl)
    have k1 : (mpChk (True) (ferr (fun i => E (g i)) 0 n)).p (a'.eval (.tmp 8)) w' := hd.get 4 8 (by kernel_rfl) (by kernel_rfl)
    clear hs hd
    unfold Oper.wp
    generalize a'.eval = ρ at k0 k1 ⊢
    obtain ⟨g0, f0, e0, h0⟩ := k0
    obtain ⟨g1, f1, e1, h1⟩ := k1
    simp [go_sem, e0, e1]
    have hx := (Below.refl w'.heap.size w').alloc (Nat.le_refl _) (.cells #[.func (.func g0) #[] f0, .func (.func g1) #[] f1] 121)
    refine hK _ _ hx ⟨_, rfl, fun i => if i = 0 then .func (.func g0) #[] f0 else .func (.func g1) #[] f1, fun i hi => ?_, fun i hi => ?_⟩
    · rcases (by omega : i = 0 ∨ i = 1) with rfl | rfl <;> simp [go_sem]
    · rcases (by omega : i = 0 ∨ i = 1) with rfl | rfl
      · exact Chk.imp (Chk.on (show Chk (True) (if decide ((n : Int) ≤ m) then 0 else 8) (.func (.func g0) #[] f0) w' from ⟨g0, f0, rfl, h0⟩) hx) (fun _ => trivial)
      · exact Chk.imp (Chk.on (show Chk (True) (ferr (fun i => E (g i)) 0 n) (.func (.func g1) #[] f1) w' from ⟨g1, f1, rfl, h1⟩) hx) (fun _ => trivial)) <|
      allOps_cons (fun a' w' hb hs hd => by
    exact rg_fn (φ := (mpEq (.int .i64 (atEG m n g E))).p) (vs := #[a'.eval (.tmp 9)]) rfl (enters_of Try.func87 (by kernel_rfl) rfl) (by simp) ((first_chks (n := 2) (er := (fun i => if i = 0 then if decide ((n : Int) ≤ m) then 0 else 8 else ferr (fun i => E (g i)) 0 n)) (by omega) (by omega) (hd.get 5 9 (by kernel_rfl) (by kernel_rfl))).mono (by rintro e w1 ⟨rfl, h1⟩; exact ⟨_, rfl, h1, congrArg (Value.int .i64) (ferr_at m n (ferr (fun i => E (g i)) 0 n))⟩))) <|
      allOps_cons (fun a' w' hb hs hd => rg_op fun K hK => by
    have e0 := (show a'.eval (.tmp 10) = .int .i64 (atEG m n g E) from hd.get 6 10 (by kernel_rfl) (by kernel_rfl))
    have ec : ∀ v, a'.eval (.const v) = v := fun _ => rfl
    clear hs hd
    unfold Oper.wp
    generalize a'.eval = ρ at e0 ec ⊢
    simp [go_sem, e0]
    exact hK _ _ (Below.refl _ _) rfl) <| allOps_nil) (fun V w2 hb2 hall => ?_)
  have h3 : V 3 = .int .i64 (atEG m n g E) := hall.get 7 rfl
  clear hall
  simp only [mb0, maskPut, Nat.reduceAdd]
  rw [h3]
  clear h3
  go_wp2_with fail
  go_ret
  exact ⟨rfl, hb2⟩
set_option maxRecDepth 100000 in
set_option maxHeartbeats 800000 in
theorem atmostG_chk (A : Option Addr) (n c : Nat) (g : Nat → Int × Int) (E : Int × Int → Int) (m : Int) (v : Value) (w : World) (hn : n ≤ 1000000000) (hA : GA w A n g) (hI : Itm gv E v w) :
    Calls Try.prog 144 #[.int .i64 m, .slice A n c, v] w fun e w' => ∃ v', e = .returned v' ∧ Below w.heap.size w w' ∧ Chk True (atEG m n g E) v' w' := by
  obtain ⟨gF, cb, rfl, he, hc⟩ := hI
  go_enter Try.func144, Try.ntmps144
  go_wp2
  go_ret
  have hb : Below w.heap.size w (((w.alloc (.cells #[.int .i64 m] 3)).alloc (.cells #[.slice A n c] 42)).alloc (.cells #[.func (.func gF) #[] cb] 124)) := by (repeat (first | with_reducible exact Below.refl _ _ | with_reducible assumption | with_reducible refine Below.alloc ?_ (by first | (simp; done) | (simp; omega) | omega) _ | with_reducible refine Below.setCell ?_ (by first | (simp; done) | (simp; omega) | omega) _ | with_reducible refine Below.drew ?_ | with_reducible refine below_drewN ?_ _))
  exact ⟨_, rfl, hb, _, _, rfl, (enters_of Try.func155 (by kernel_rfl) rfl), fun w1 h1 _ => atmostG1_any (w.heap.size + 1) w.heap.size (w.heap.size + 1 + 1) A n c g E m (.func (.func gF) #[] cb) w1 hn (keep h1 (by simp [go_sem])) (keep h1 (by simp [go_sem])) (keep h1 (by simp [go_sem])) (hA.bel (belowT hb h1)) ⟨gF, cb, rfl, he, fun x w2 h2 => hc x w2 (belowT hb (belowT h1 h2))⟩⟩
end Go.Proofs.Ytpkacfgmojblbaa
