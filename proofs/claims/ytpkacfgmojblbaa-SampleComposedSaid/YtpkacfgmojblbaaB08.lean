/- Helpers: packets that were received: their check, their counters, their range. No condition but the hypotheses that each theorem names. -/
import Derived.Test.YtpkacfgmojblbaaB07
namespace Go.Proofs.Ytpkacfgmojblbaa
open Go.RowKit
attribute [local go_sem] old1 fro1 old2 fro2 old3 fro3 old4 fro4 old5 fro5 old6 fro6 old7 fro7 old8 fro8 old9 fro9 old10 fro10 old11 fro11 old12 fro12
def mr0 : List Bool := [false, false, false, false, true, false, false, true, true, true, true, true, true, false, false, false, false, false, false, false, false, false, false, false, false, false, false, false, false, false, false, false, false, false, false, false, false]
def mr1 : List Bool := [false, false, false, false, false, false, true, false, false, false, false, false, false, false, false, false, false, false, false, true, true, true, true, true, false, false, false, false, false, false, false, false, false, false, false, false, false]
def rc1 (n : Nat) (k : Nat → Nat → Int) : Int := fs2 (if decide (0 < (n : Int)) then (0 : Int) else 10) (atEK 30 n k pkE)
def rc2 (lo hi : Int) (b : Bool) : Int := fs2 (if decide (hi - lo < 40) then (0 : Int) else 8) (if !b then (0 : Int) else 13)
def mpNew (B : Nat) : MP := ⟨fun v w => ∃ q, v = .pointer (some ⟨q, 0, none⟩) ∧ B ≤ q ∧ w.cell? ⟨q, 0, none⟩ = some (.int .i64 0) ∧ w.cell? ⟨q, 1, none⟩ = some (.int .i64 0) ∧ w.frozen? ⟨q, 0, none⟩ = false ∧ w.frozen? ⟨q, 1, none⟩ = false,
  fun _ _ _ ⟨q, hv, hB, h0, h1, f0, f1⟩ hb => ⟨q, hv, hB, keep hb h0, keep hb h1, (hb.frozen (p := ⟨q, 0, none⟩) (lt_of h0)).trans f0, (hb.frozen (p := ⟨q, 1, none⟩) (lt_of h1)).trans f1⟩⟩
theorem IM.far {w : World} {G n : Nat} {f : Nat → Int} (h : IM w G n f) {a : Addr} (ha : G ≠ a.block) (u : Value) : IM (w.setCell a u) G n f :=
  ⟨by simpa using h.1, fun i hi => ⟨(World.cell?_setCell_far _ _ _ _ (fun e => ha e.symm)).trans (h.2 i hi).1, (World.frozen?_setCell _ _ _ _).trans (h.2 i hi).2⟩⟩
theorem lo_bd {f : Nat → Int} {a b : Int} : ∀ {m : Nat}, (∀ i, i ≤ m → a ≤ f i ∧ f i ≤ b) → a ≤ loN f m ∧ loN f m ≤ b
  | 0, h => h 0 (Nat.le_refl _)
  | m + 1, h => by
    have ih := lo_bd (m := m) fun i hi => h i (by omega)
    have := h (m + 1) (Nat.le_refl _)
    simp only [loN]
    omega
theorem hi_bd {f : Nat → Int} {a b : Int} : ∀ {m : Nat}, (∀ i, i ≤ m → a ≤ f i ∧ f i ≤ b) → a ≤ hiN f m ∧ hiN f m ≤ b
  | 0, h => h 0 (Nat.le_refl _)
  | m + 1, h => by
    have ih := hi_bd (m := m) fun i hi => h i (by omega)
    have := h (m + 1) (Nat.le_refl _)
    simp only [hiN]
    omega
/-- two numbers are stored -/
theorem op_st2 {op : Oper} {a : Act} {w : World} {K : Act → World → Prop} {Q : Exit → Act → World → Prop} {x y : Operand} (ho : op.op = .store 55 x y) {q : Nat} {u v u0 v0 : Int} (hx : a.eval x = .pointer (some ⟨q, 0, none⟩)) (hy : a.eval y = .agg #[.int .i64 u, .int .i64 v]) (c0 : w.cell? ⟨q, 0, none⟩ = some (.int .i64 u0)) (c1 : w.cell? ⟨q, 1, none⟩ = some (.int .i64 v0)) (f0 : w.frozen? ⟨q, 0, none⟩ = false) (f1 : w.frozen? ⟨q, 1, none⟩ = false)
    (h : K (a.put op.dst undef) ((w.setCell ⟨q, 0, none⟩ (.int .i64 u)).setCell ⟨q, 1, none⟩ (.int .i64 v))) : op.wp Try.prog a w K Q := by
  unfold Oper.wp execOp
  simp only [ho, hx, hy]
  simp [go_sem, c0, c1, f0, f1]
  exact h
set_option maxRecDepth 100000 in
set_option maxHeartbeats 800000 in
theorem received1_any (b : Nat) (A : Option Addr) (n c : Nat) (w : World) (h0 : w.cell? ⟨b, 0, none⟩ = some (.slice A n c)) :
    Calls Try.prog 132 #[.pointer (some ⟨b, 0, none⟩)] w fun e w' => e = .returned (.bool (decide (0 < (n : Int)))) ∧ Below w.heap.size w w' := by
  go_enter Try.func132, Try.ntmps132
  go_wp2
  go_ret
  exact ⟨ret_bool (by simp), by (repeat (first | with_reducible exact Below.refl _ _ | with_reducible assumption | with_reducible refine Below.alloc ?_ (by first | (simp; done) | (simp; omega) | omega) _ | with_reducible refine Below.setCell ?_ (by first | (simp; done) | (simp; omega) | omega) _ | with_reducible refine Below.drew ?_ | with_reducible refine below_drewN ?_ _))⟩
set_option maxRecDepth 100000 in
set_option maxHeartbeats 800000 in
theorem received2_any (b : Nat) (lo hi : Int) (w : World) (h0 : w.cell? ⟨b, 0, none⟩ = some (.int .i64 lo)) (h1 : w.cell? ⟨b, 1, none⟩ = some (.int .i64 hi)) (l0 : 0 ≤ lo) (l1 : lo ≤ 40000) (l2 : 0 ≤ hi) (l3 : hi ≤ 40000) :
    Calls Try.prog 137 #[.pointer (some ⟨b, 0, none⟩)] w fun e w' => e = .returned (.bool (decide (hi - lo < 40))) ∧ Below w.heap.size w w' := by
  have hw : IntKind.i64.wrap (hi - lo) = hi - lo := IntWalk.i64_in _ (by omega)
  go_enter Try.func137, Try.ntmps137
  go_wp2
  go_ret
  exact ⟨ret_bool (by simp), by (repeat (first | with_reducible exact Below.refl _ _ | with_reducible assumption | with_reducible refine Below.alloc ?_ (by first | (simp; done) | (simp; omega) | omega) _ | with_reducible refine Below.setCell ?_ (by first | (simp; done) | (simp; omega) | omega) _ | with_reducible refine Below.drew ?_ | with_reducible refine below_drewN ?_ _))⟩
set_option maxRecDepth 100000 in
set_option maxHeartbeats 800000 in
theorem received3_any (b1 b2 : Nat) (A B : Option Addr) (n cA cB : Nat) (k : Nat → Nat → Int) (f : Nat → Int) (w : World) (hn : n ≤ 30) (h0 : w.cell? ⟨b1, 0, none⟩ = some (.slice A n cA)) (h1 : w.cell? ⟨b2, 0, none⟩ = some (.slice B n cB)) (hA : KA w A n k) (hB : IA w B n f) (hf : ∀ i, i < n → 0 ≤ f i ∧ f i ≤ 40000) :
    Calls Try.prog 138 #[.pointer (some ⟨b1, 0, none⟩), .pointer (some ⟨b2, 0, none⟩)] w fun e w' => e = .returned (.bool (!clk k f n)) ∧ Below w.heap.size w w' := by
  have HC := Lib.hid (clash_any A B n cA cB k f w hn hA hB hf)
  clear hA hB hf
  go_enter Try.func138, Try.ntmps138
  go_wp2_with (go_at_call 139; (with_reducible refine Calls.mono HC.out ?_); rintro e w1 ⟨rfl, hb1⟩; have B1 := Lib.hid hb1; clear hb1)
  go_ret
  exact ⟨rfl, B1.out⟩

theorem rc1_0 {n : Nat} {k : Nat → Nat → Int} (h : rc1 n k = 0) : 0 < n ∧ n ≤ 30 ∧ ∀ i, i < n → pkE (k i) = 0 := by
  obtain ⟨h1, h2⟩ := fs2_0 h
  have h0 : 0 < n := by
    by_cases h0 : 0 < (n : Int)
    · omega
    · rw [decide_eq_false h0] at h1; cases h1
  unfold atEK at h2
  by_cases h3 : (n : Int) ≤ 30
  · rw [if_pos h3] at h2
    exact ⟨h0, by omega, fun i hi => ferr_all n 0 h2 i (by omega) (by omega)⟩
  · rw [if_neg h3] at h2; cases h2
/-- the error of packets that are received -/
def rcE (n : Nat) (k : Nat → Nat → Int) : Int := fs2 (rc1 n k) (rc2 (loN (fc k) (n - 1)) (hiN (fc k) (n - 1)) (clk k (fc k) n))
def Hd (A : Option Addr) (n c B : Nat) (w : World) : Prop := w.cell? ⟨B, 0, none⟩ = some (.slice A n c) ∧ w.cell? ⟨B + 1, 0, none⟩ = some (.slice none 0 0) ∧ w.cell? ⟨B + 1, 1, none⟩ = some (.int .i64 0) ∧ w.cell? ⟨B + 1, 2, none⟩ = some (.int .i64 0) ∧ w.frozen? ⟨B + 1, 0, none⟩ = false ∧ w.frozen? ⟨B + 1, 1, none⟩ = false ∧ w.frozen? ⟨B + 1, 2, none⟩ = false
theorem Hd.on {A : Option Addr} {n c B : Nat} {w w1 : World} (h : Hd A n c B w) (hb : Below w.heap.size w w1) : Hd A n c B w1 := by
  obtain ⟨p, r0, r1, r2, z0, z1, z2⟩ := h
  exact ⟨keep hb p, keep hb r0, keep hb r1, keep hb r2, (hb.frozen (p := ⟨B + 1, 0, none⟩) (lt_of r0)).trans z0, (hb.frozen (p := ⟨B + 1, 1, none⟩) (lt_of r1)).trans z1, (hb.frozen (p := ⟨B + 1, 2, none⟩) (lt_of r2)).trans z2⟩
set_option maxRecDepth 100000 in
set_option maxHeartbeats 2000000 in
theorem received_any (A : Option Addr) (n c : Nat) (k : Nat → Nat → Int) (w : World) (hn : n ≤ 1000000000) (hA : KA w A n k) :
    Calls Try.prog 92 #[.slice A n c] w fun e w' => ∃ (S : Option Addr) (m : Nat) (lo hi : Int), e = .returned (.tuple #[.agg #[.slice S m m, .int .i64 lo, .int .i64 hi], .int .i64 (rcE n k)]) ∧ (rcE n k = 0 → m = n ∧ lo = (loN (fc k) (n - 1)) ∧ hi = (hiN (fc k) (n - 1)) ∧ ∃ G, S = some ⟨G, 0, none⟩ ∧ IM w' G n (fc k)) ∧ Below w.heap.size w w' := by
  go_enter Try.func92, Try.ntmps92
  go_upto_region 1 with fail
  have hbw : Below w.heap.size w ((w.alloc (.cells #[.slice A n c] 36)).alloc (.cells #[.slice none 0 0, .int .i64 0, .int .i64 0] 127)) := by (repeat (first | with_reducible exact Below.refl _ _ | with_reducible assumption | with_reducible refine Below.alloc ?_ (by first | (simp; done) | (simp; omega) | omega) _ | with_reducible refine Below.setCell ?_ (by first | (simp; done) | (simp; omega) | omega) _ | with_reducible refine Below.drew ?_ | with_reducible refine below_drewN ?_ _))
  have HA := Lib.hid (hA.bel hbw)
  have HD1 : Hid (Hd A n c w.heap.size ((w.alloc (.cells #[.slice A n c] 36)).alloc (.cells #[.slice none 0 0, .int .i64 0, .int .i64 0] 127))) := Lib.hid ⟨by simp [go_sem], by simp [go_sem], by simp [go_sem], by simp [go_sem], by simp [go_sem], by simp [go_sem], by simp [go_sem]⟩
  clear hA
  generalize ((w.alloc (.cells #[.slice A n c] 36)).alloc (.cells #[.slice none 0 0, .int .i64 0, .int .i64 0] 127)) = w1 at *
  have p1 := HD1.out.1
  refine wp_region_mp [mpCnd True (decide (0 < (n : Int))), mpChk (True) (if decide (0 < (n : Int)) then (0 : Int) else 10), mpEq (.slice A n c), mpChk (True) (atEK 30 n k pkE), mpChks 2 (fun i => if i = 0 then if decide (0 < (n : Int)) then (0 : Int) else 10 else atEK 30 n k pkE), mpEq (.int .i64 (rc1 n k)), mpEq (.int .i64 (rc1 n k))] mr0 (by kernel_rfl) (by kernel_rfl) (by kernel_rfl) (
        allOps_cons (fun a' w' hb hs hd => rg_op fun K hK => by
      have e0 := (hs.get 1 (by kernel_rfl)).trans (show _ = .pointer (some ⟨w.heap.size, 0, none⟩) from rfl)
      clear hs hd
      unfold Oper.wp
      generalize a'.eval = ρ at e0 ⊢
      simp [go_sem, e0]
      exact hK _ _ (Below.refl _ _) ⟨_, _, rfl, (enters_of Try.func132 (by kernel_rfl) rfl), fun w1 h1 _ => received1_any w.heap.size A n c w1 (keep (belowT hb h1) p1)⟩) <|
        allOps_cons (fun a' w' hb hs hd => by
      exact rg_fn (φ := (mpChk (True) (if decide (0 < (n : Int)) then (0 : Int) else 10)).p) (vs := #[.int .i64 10, a'.eval (.tmp 7)]) rfl (enters_of Try.func116 (by kernel_rfl) rfl) (by simp [(show a'.eval (.const (.int .i64 10)) = .int .i64 10 from rfl)]) ((require_chk 10 _ w' (show Cnd True (decide (0 < (n : Int))) (a'.eval (.tmp 7)) w' from hd.get 0 7 (by kernel_rfl) (by kernel_rfl))))) <|
        allOps_cons (fun a' w' hb hs hd => rg_op fun K hK => by
      have e0 := (hs.get 1 (by kernel_rfl)).trans (show _ = .pointer (some ⟨w.heap.size, 0, none⟩) from rfl)
      have ec : ∀ v, a'.eval (.const v) = v := fun _ => rfl
      have c0 := keep hb p1
      clear hs hd
      unfold Oper.wp
      generalize a'.eval = ρ at e0 ec ⊢
      simp [go_sem, e0, c0]
      exact hK _ _ (Below.refl _ _) rfl) <|
        allOps_cons (fun a' w' hb hs hd => by
      exact rg_fn (φ := (mpChk (True) (atEK 30 n k pkE)).p) (vs := #[.int .i64 30, .slice A n c, .func (.func 19) #[] #[]]) rfl (enters_of Try.func133 (by kernel_rfl) rfl) (by simp [(show a'.eval (.tmp 9) = .slice A n c from hd.get 2 9 (by kernel_rfl) (by kernel_rfl)), (show a'.eval (.const (.int .i64 30)) = .int .i64 30 from rfl), (show a'.eval (.func 19) = .func (.func 19) #[] #[] from rfl)]) ((atmostK_chk A n c k pkE 30 _ w' hn (HA.out.bel hb) (checkPacket_itm w')))) <|
        allOps_cons (fun a' w' hb hs hd => rg_op fun K hK => by
      have k0 : (mpChk (True) (if decide (0 < (n : Int)) then (0 : Int) else 10)).p (a'.eval (.tmp 8)) w' := hd.get 1 8 (by kernel_rfl) (by kernel_rfl)
      have k1 : (mpChk (True) (atEK 30 n k pkE)).p (a'.eval (.tmp 10)) w' := hd.get 3 10 (by kernel_rfl) (by kernel_rfl)
      clear hs hd
      unfold Oper.wp
      generalize a'.eval = ρ at k0 k1 ⊢
      obtain ⟨g0, f0, e0, h0⟩ := k0
      obtain ⟨g1, f1, e1, h1⟩ := k1
      simp [go_sem, e0, e1]
      have hx := (Below.refl w'.heap.size w').alloc (Nat.le_refl _) (.cells #[.func (.func g0) #[] f0, .func (.func g1) #[] f1] 121)
      refine hK _ _ hx ⟨_, rfl, fun i => if i = 0 then .func (.func g0) #[] f0 else .func (.func g1) #[] f1, fun i hi => ?_, fun i hi => ?_⟩
      · rcases (by omega : i = 0 ∨ i = 1) with rfl | rfl <;> simp [go_sem]
      · rcases (by omega : i = 0 ∨ i = 1) with rfl | rfl
        · exact Chk.imp (Chk.on (show Chk (True) (if decide (0 < (n : Int)) then (0 : Int) else 10) (.func (.func g0) #[] f0) w' from ⟨g0, f0, rfl, h0⟩) hx) (fun _ => trivial)
        · exact Chk.imp (Chk.on (show Chk (True) (atEK 30 n k pkE) (.func (.func g1) #[] f1) w' from ⟨g1, f1, rfl, h1⟩) hx) (fun _ => trivial)) <|
        allOps_cons (fun a' w' hb hs hd => by
      exact rg_fn (φ := (mpEq (.int .i64 (rc1 n k))).p) (vs := #[a'.eval (.tmp 11)]) rfl (enters_of Try.func87 (by kernel_rfl) rfl) (by simp) ((first_chks (n := 2) (er := (fun i => if i = 0 then if decide (0 < (n : Int)) then (0 : Int) else 10 else atEK 30 n k pkE)) (by omega) (by omega) (hd.get 4 11 (by kernel_rfl) (by kernel_rfl))).mono (by rintro e w1 ⟨rfl, h1⟩; exact ⟨_, rfl, h1, congrArg (Value.int .i64) (ferr_2 _ _)⟩))) <|
        allOps_cons (fun a' w' hb hs hd => rg_op fun K hK => by
      have e0 := (show a'.eval (.tmp 12) = .int .i64 (rc1 n k) from hd.get 5 12 (by kernel_rfl) (by kernel_rfl))
      have ec : ∀ v, a'.eval (.const v) = v := fun _ => rfl
      clear hs hd
      unfold Oper.wp
      generalize a'.eval = ρ at e0 ec ⊢
      simp [go_sem, e0]
      exact hK _ _ (Below.refl _ _) rfl) <| allOps_nil) (fun V w2 hb2 hall => ?_)
  have h4 : V 4 = .int .i64 (rc1 n k) := hall.get 6 rfl
  clear hall
  simp only [mr0, maskPut, Nat.reduceAdd]
  rw [h4]
  clear h4
  have HD2 := Lib.hid (HD1.out.on hb2)
  have HA2 := Lib.hid (HA.out.bel hb2)
  have HB2 := Lib.hid (belowT hbw hb2)
  clear hb2 hbw p1 HD1 HA
  generalize hE1 : rc1 n k = ee at *
  by_cases he : ee = 0
  · subst he
    obtain ⟨h0, n30, hpk⟩ := rc1_0 hE1
    have hk : ∀ i, i < n → 0 ≤ k i 0 ∧ k i 0 ≤ 1023 := fun i hi => (pk_0 (hpk i hi)).1
    have HFB0 := Lib.hid (fc_bd hk)
    have HFC := Lib.hid (fun W (hW : KA W A n k) => fullCounters_any A n c k W n30 hW hk)
    have HN := Lib.hid n30
    obtain ⟨p1, r0, r1, r2, z0, z1, z2⟩ := HD2.out
    clear hk hpk
    go_upto_region 5 with (go_at_call 134; (with_reducible refine Calls.mono (HFC.out _ HA2.out) ?_); rintro e w3 ⟨G, rfl, hI3, hG3, hb3⟩; have HG3 := Lib.hid hG3; have HI3 := Lib.hid hI3; have HB3 := Lib.hid hb3; clear hI3 hG3 hb3)
    have HGN : Hid (G ≠ w.heap.size + 1) := Lib.hid (by have := lt_of r0; have := HG3.out; omega)
    clear p1 r0 r1 r2 z0 z1 z2 HG3
    have hb4 : Below w2.heap.size w2 (w3.alloc (.cells #[.slice (some ⟨G, 0, none⟩) n n] 38)) := HB3.out.alloc HB3.out.size _
    have HI4 : Hid (IM (w3.alloc (.cells #[.slice (some ⟨G, 0, none⟩) n n] 38)) G n (fc k)) := HI3.out.on ((Below.refl _ _).alloc (Nat.le_refl _) _)
    have q5 : (w3.alloc (.cells #[.slice (some ⟨G, 0, none⟩) n n] 38)).cell? ⟨w3.heap.size, 0, none⟩ = some (.slice (some ⟨G, 0, none⟩) n n) := by simp [go_sem]
    have HD4 := Lib.hid (HD2.out.on hb4)
    have HA4 := Lib.hid (HA2.out.bel hb4)
    have HB4 := Lib.hid (belowT HB2.out hb4)
    clear hb4
    have hB5w : w3.heap.size = w3.heap.size := rfl
    generalize (w3.alloc (.cells #[.slice (some ⟨G, 0, none⟩) n n] 38)) = w4 at *
    generalize w3.heap.size = B5 at *
    clear hB5w HI3 HB3 HFC HD2 HA2 HB2
    have HRC : Hid (rcE n k = rc2 (loN (fc k) (n - 1)) (hiN (fc k) (n - 1)) (clk k (fc k) n)) := Lib.hid (by unfold rcE; rw [hE1]; rfl)
    clear hE1
    generalize hf : fc k = f at *
    have HMIN : Hid (∀ A c W, IA W A n f → Calls Try.prog 135 #[.slice A n c] W fun e w' => e = .returned (.int .i64 (loN f (n - 1))) ∧ W = w') := Lib.hid (fun A c W h => min_any A n c f W h0 (by omega) h)
    have HMAX : Hid (∀ A c W, IA W A n f → Calls Try.prog 136 #[.slice A n c] W fun e w' => e = .returned (.int .i64 (hiN f (n - 1))) ∧ W = w') := Lib.hid (fun A c W h => max_any A n c f W h0 (by omega) h)
    have HFB : Hid (∀ i, i < n → 0 ≤ f i ∧ f i ≤ 40000) := Lib.hid (fun i hi => by have := HFB0.out i hi; omega)
    have b1 := lo_bd (f := f) (m := n - 1) fun i hi => HFB.out i (by omega)
    have b2 := hi_bd (f := f) (m := n - 1) fun i hi => HFB.out i (by omega)
    generalize hlo : loN f (n - 1) = lo at *
    generalize hhi : hiN f (n - 1) = hi at *
    have HLH := Lib.hid (show 0 ≤ lo ∧ lo ≤ 40000 ∧ 0 ≤ hi ∧ hi ≤ 40000 from ⟨b1.1, b1.2, b2.1, b2.2⟩)
    clear b1 b2 HFB0
    refine wp_region_last [mpEq (.slice (some ⟨G, 0, none⟩) n n), mpEq (.int .i64 lo), mpEq (.slice (some ⟨G, 0, none⟩) n n), mpEq (.int .i64 hi), mpEq (.agg #[.int .i64 lo, .int .i64 hi]), mpNew (w4).heap.size] 6 mr1 (by kernel_rfl) (by kernel_rfl) (by kernel_rfl) rfl (by kernel_rfl) (
          allOps_cons (fun _ a' w' hb hs hd => rg_op fun K hK => by
        have e0 := (hs.get 5 (by kernel_rfl)).trans (show _ = .pointer (some ⟨B5, 0, none⟩) from rfl)
        have ec : ∀ v, a'.eval (.const v) = v := fun _ => rfl
        have c0 := keep hb q5
        clear hs hd
        unfold Oper.wp
        generalize a'.eval = ρ at e0 ec ⊢
        simp [go_sem, e0, c0]
        exact hK _ _ (Below.refl _ _) rfl) <|
          allOps_cons (fun _ a' w' hb hs hd => by
        exact rg_fn (φ := (mpEq (.int .i64 lo)).p) (vs := #[.slice (some ⟨G, 0, none⟩) n n]) rfl (enters_of Try.func135 (by kernel_rfl) rfl) (by simp [(show a'.eval (.tmp 19) = .slice (some ⟨G, 0, none⟩) n n from hd.get 0 19 (by kernel_rfl) (by kernel_rfl))]) ((HMIN.out _ n w' ((HI4.out.on hb).ia)).mono (by rintro e w1 ⟨rfl, rfl⟩; exact ⟨_, rfl, Below.refl _ _, rfl⟩))) <|
          allOps_cons (fun _ a' w' hb hs hd => rg_op fun K hK => by
        have e0 := (hs.get 5 (by kernel_rfl)).trans (show _ = .pointer (some ⟨B5, 0, none⟩) from rfl)
        have ec : ∀ v, a'.eval (.const v) = v := fun _ => rfl
        have c0 := keep hb q5
        clear hs hd
        unfold Oper.wp
        generalize a'.eval = ρ at e0 ec ⊢
        simp [go_sem, e0, c0]
        exact hK _ _ (Below.refl _ _) rfl) <|
          allOps_cons (fun _ a' w' hb hs hd => by
        exact rg_fn (φ := (mpEq (.int .i64 hi)).p) (vs := #[.slice (some ⟨G, 0, none⟩) n n]) rfl (enters_of Try.func136 (by kernel_rfl) rfl) (by simp [(show a'.eval (.tmp 21) = .slice (some ⟨G, 0, none⟩) n n from hd.get 2 21 (by kernel_rfl) (by kernel_rfl))]) ((HMAX.out _ n w' ((HI4.out.on hb).ia)).mono (by rintro e w1 ⟨rfl, rfl⟩; exact ⟨_, rfl, Below.refl _ _, rfl⟩))) <|
          allOps_cons (fun _ a' w' hb hs hd => rg_op fun K hK => by
        have e0 := (show a'.eval (.tmp 20) = .int .i64 lo from hd.get 1 20 (by kernel_rfl) (by kernel_rfl))
        have e1 := (show a'.eval (.tmp 22) = .int .i64 hi from hd.get 3 22 (by kernel_rfl) (by kernel_rfl))
        have ec : ∀ v, a'.eval (.const v) = v := fun _ => rfl
        clear hs hd
        unfold Oper.wp
        generalize a'.eval = ρ at e0 e1 ec ⊢
        simp [go_sem, e0, e1]
        exact hK _ _ (Below.refl _ _) rfl) <|
          allOps_cons (fun _ a' w' hb hs hd => rg_op fun K hK => by
        have hz := hb.size
        clear hs hd
        unfold Oper.wp
        generalize a'.eval = ρ
        simp [go_sem]
        exact hK _ _ ((Below.refl _ _).alloc (Nat.le_refl _) _) ⟨_, rfl, hz, by simp [go_sem], by simp [go_sem], by simp [go_sem], by simp [go_sem]⟩) <| allOps_cons (fun h => absurd rfl h) <| allOps_nil) (fun V w5 hb5 hall K hK => ?_)
    have h6 : (mpNew w4.heap.size).p (V 6) w5 := hall.get 5 rfl (by decide)
    have h23 : V 23 = .agg #[.int .i64 lo, .int .i64 hi] := hall.get 4 rfl (by decide)
    clear hall
    obtain ⟨q, hq6, zq, c0, c1, f0, f1⟩ := h6
    refine op_st2 rfl hq6 h23 c0 c1 f0 f1 ?_
    refine hK _ _ ?_
    simp only [mr1, maskPut, Nat.reduceAdd]
    rw [hq6]
    have hb6 : Below w4.heap.size w4 ((w5.setCell ⟨q, 0, none⟩ (.int .i64 lo)).setCell ⟨q, 1, none⟩ (.int .i64 hi)) := Below.setCell (Below.setCell hb5 zq _) zq _
    have s0 : ((w5.setCell ⟨q, 0, none⟩ (.int .i64 lo)).setCell ⟨q, 1, none⟩ (.int .i64 hi)).cell? ⟨q, 0, none⟩ = some (.int .i64 lo) := by simp [go_sem, c0]
    have s1 : ((w5.setCell ⟨q, 0, none⟩ (.int .i64 lo)).setCell ⟨q, 1, none⟩ (.int .i64 hi)).cell? ⟨q, 1, none⟩ = some (.int .i64 hi) := by simp [go_sem, c1]
    have HD6 := Lib.hid (HD4.out.on hb6)
    have HA := Lib.hid (HA4.out.bel hb6)
    have HI6 := Lib.hid (HI4.out.on hb6)
    have HB6 := Lib.hid (belowT HB4.out hb6)
    have q6 := keep hb6 q5
    have p6 := HD6.out.1
    clear hq6 h23 c0 c1 f0 f1 hb6 q5 hb5 hK zq HD4 HA4 HI4 HB4 HMIN HMAX
    generalize ((w5.setCell ⟨q, 0, none⟩ (.int .i64 lo)).setCell ⟨q, 1, none⟩ (.int .i64 hi)) = w6 at *
    obtain ⟨e2, hE2⟩ : ∃ e2, rc2 lo hi (clk k f n) = e2 := ⟨_, rfl⟩
    have hE : fs2 (if decide (hi - lo < 40) then (0 : Int) else 8) (if !clk k f n then (0 : Int) else 13) = e2 := hE2
    have HR8 := Lib.hid (fun W (hW : Below w6.heap.size w6 W) => require_chk (pre := True) (b := decide (hi - lo < 40)) 8 (.func (.func 137) #[] #[.pointer (some ⟨q, 0, none⟩)]) W ⟨_, _, rfl, (enters_of Try.func137 (by kernel_rfl) rfl), fun w1 h1 _ => received2_any q lo hi w1 (keep (belowT hW h1) s0) (keep (belowT hW h1) s1) HLH.out.1 HLH.out.2.1 HLH.out.2.2.1 HLH.out.2.2.2⟩)
    have HR13 := Lib.hid (fun W (hW : Below w6.heap.size w6 W) => require_chk (pre := True) (b := !clk k f n) 13 (.func (.func 138) #[] #[.pointer (some ⟨w.heap.size, 0, none⟩), .pointer (some ⟨B5, 0, none⟩)]) W ⟨_, _, rfl, (enters_of Try.func138 (by kernel_rfl) rfl), fun w1 h1 _ => received3_any w.heap.size B5 A (some ⟨G, 0, none⟩) n c n k f w1 HN.out (keep (belowT hW h1) p6) (keep (belowT hW h1) q6) (HA.out.bel (belowT hW h1)) ((HI6.out.on (belowT hW h1)).ia) HFB.out⟩)
    have S0 := Lib.hid s0
    have S1 := Lib.hid s1
    have Q6 := Lib.hid q6
    clear s0 s1 q6 p6
    go_upto_region 7 with (first | (go_at_call 116; (with_reducible refine Calls.mono (HR8.out _ (by (repeat (first | with_reducible exact Below.refl _ _ | with_reducible assumption | with_reducible refine Below.alloc ?_ (by first | (simp; done) | (simp; omega) | omega) _ | with_reducible refine Below.setCell ?_ (by first | (simp; done) | (simp; omega) | omega) _ | with_reducible refine Below.drew ?_ | with_reducible refine below_drewN ?_ _)))) ?_); rintro e y1 ⟨v0, rfl, hb1, g0, f0, rfl, hg0, hh0⟩; have BV := Lib.hid (belowT (show Below w6.heap.size w6 _ by (repeat (first | with_reducible exact Below.refl _ _ | with_reducible assumption | with_reducible refine Below.alloc ?_ (by first | (simp; done) | (simp; omega) | omega) _ | with_reducible refine Below.setCell ?_ (by first | (simp; done) | (simp; omega) | omega) _ | with_reducible refine Below.drew ?_ | with_reducible refine below_drewN ?_ _))) hb1); have K0 := Lib.hid (show Chk True _ (.func (.func g0) #[] f0) y1 from ⟨g0, f0, rfl, hg0, hh0⟩); clear hg0 hh0; clear hb1) | (go_at_call 116; (with_reducible refine Calls.mono (HR13.out _ (by have Bq := BV.out; (repeat (first | with_reducible exact Below.refl _ _ | with_reducible assumption | with_reducible refine Below.alloc ?_ (by first | (simp; done) | (simp; omega) | omega) _ | with_reducible refine Below.setCell ?_ (by first | (simp; done) | (simp; omega) | omega) _ | with_reducible refine Below.drew ?_ | with_reducible refine below_drewN ?_ _)))) ?_); rintro e y2 ⟨v1, rfl, hb2, g1, f1, rfl, hg1, hh1⟩; replace BV := Lib.hid (belowT (show Below w6.heap.size w6 _ by have Bq := BV.out; (repeat (first | with_reducible exact Below.refl _ _ | with_reducible assumption | with_reducible refine Below.alloc ?_ (by first | (simp; done) | (simp; omega) | omega) _ | with_reducible refine Below.setCell ?_ (by first | (simp; done) | (simp; omega) | omega) _ | with_reducible refine Below.drew ?_ | with_reducible refine below_drewN ?_ _))) hb2); have K1 := Lib.hid (show Chk True _ (.func (.func g1) #[] f1) y2 from ⟨g1, f1, rfl, hg1, hh1⟩); replace K0 := Lib.hid (K0.out.on hb2); clear hg1 hh1; clear hb2) | (go_at_call 87; (with_reducible refine Calls.mono (hE ▸ first_2 _ K0.out K1.out trivial (fun _ => trivial)) ?_); rintro e y3 ⟨rfl, hb3⟩; replace BV := Lib.hid (belowT (show Below w6.heap.size w6 _ by have Bq := BV.out; (repeat (first | with_reducible exact Below.refl _ _ | with_reducible assumption | with_reducible refine Below.alloc ?_ (by first | (simp; done) | (simp; omega) | omega) _ | with_reducible refine Below.setCell ?_ (by first | (simp; done) | (simp; omega) | omega) _ | with_reducible refine Below.drew ?_ | with_reducible refine below_drewN ?_ _))) hb3); clear hb3))
    have hb7 := BV.out
    have s0' := keep hb7 S0.out
    have s1' := keep hb7 S1.out
    have HD7 := Lib.hid (HD6.out.on hb7)
    have HI7 := Lib.hid (HI6.out.on hb7)
    have HB7 := Lib.hid (belowT HB6.out hb7)
    have q7 := keep hb7 Q6.out
    clear hb7 BV S0 S1 Q6 HD6 HI6 HB6 HR8 HR13 K0 K1 hE
    obtain ⟨p7, r0, r1, r2, z0, z1, z2⟩ := HD7.out
    by_cases he2 : e2 = 0
    · subst he2
      go_wp2_with fail
      refine bodyPost_ret (v := .tuple #[.agg #[.slice (some ⟨G, 0, none⟩) n n, .int .i64 lo, .int .i64 hi], .int .i64 0]) (by simp [results, Try.results92, go_sem, *]) rfl ⟨some ⟨G, 0, none⟩, n, lo, hi, by rw [HRC.out, hE2], fun _ => ⟨rfl, by rw [hf, hlo], by rw [hf, hhi], G, rfl, by rw [hf]; exact ((HI7.out.far (a := ⟨w.heap.size + 1, 0, none⟩) HGN.out _).far (a := ⟨w.heap.size + 1, 1, none⟩) HGN.out _).far (a := ⟨w.heap.size + 1, 2, none⟩) HGN.out _⟩, by have Bq := HB7.out; (repeat (first | with_reducible exact Below.refl _ _ | with_reducible assumption | with_reducible refine Below.alloc ?_ (by first | (simp; done) | (simp; omega) | omega) _ | with_reducible refine Below.setCell ?_ (by first | (simp; done) | (simp; omega) | omega) _ | with_reducible refine Below.drew ?_ | with_reducible refine below_drewN ?_ _))⟩
    · have hq : (e2 != 0) = true := by simpa using he2
      go_wp2_with fail
      refine bodyPost_ret (v := .tuple #[.agg #[.slice none 0 0, .int .i64 0, .int .i64 0], .int .i64 e2]) (by simp [results, Try.results92, go_sem, *]) rfl ⟨none, 0, 0, 0, by rw [HRC.out, hE2], fun h => absurd (hE2.symm.trans (HRC.out.symm.trans h)) he2, by have Bq := HB7.out; (repeat (first | with_reducible exact Below.refl _ _ | with_reducible assumption | with_reducible refine Below.alloc ?_ (by first | (simp; done) | (simp; omega) | omega) _ | with_reducible refine Below.setCell ?_ (by first | (simp; done) | (simp; omega) | omega) _ | with_reducible refine Below.drew ?_ | with_reducible refine below_drewN ?_ _))⟩
  · have hq : (ee != 0) = true := by simpa using he
    have hrc : rcE n k = ee := by unfold rcE fs2 at *; rw [hE1, if_neg he]
    obtain ⟨p1, r0, r1, r2, z0, z1, z2⟩ := HD2.out
    clear hE1
    go_wp2_with fail
    refine bodyPost_ret (v := .tuple #[.agg #[.slice none 0 0, .int .i64 0, .int .i64 0], .int .i64 ee]) (by simp [results, Try.results92, go_sem, *]) rfl ⟨none, 0, 0, 0, by rw [hrc], fun h => absurd (hrc.symm.trans h) he, by have Bq := HB2.out; (repeat (first | with_reducible exact Below.refl _ _ | with_reducible assumption | with_reducible refine Below.alloc ?_ (by first | (simp; done) | (simp; omega) | omega) _ | with_reducible refine Below.setCell ?_ (by first | (simp; done) | (simp; omega) | omega) _ | with_reducible refine Below.drew ?_ | with_reducible refine below_drewN ?_ _))⟩

end Go.Proofs.Ytpkacfgmojblbaa
namespace Go.Proofs.Ytpkacfgmojblbaa
open Go.RowKit
attribute [local go_sem] old1 fro1 old2 fro2 old3 fro3 old4 fro4 old5 fro5 old6 fro6 old7 fro7 old8 fro8 old9 fro9 old10 fro10 old11 fro11 old12 fro12
theorem undMB : Try.prog.underlying 130 = some (.map 3 4) := by kernel_rfl
theorem zeroB (w : World) : (zeroValue 4).run Try.prog w = .ok (.bool false) w := (Try.zeroValue4 w).trans rfl
/-- the greatest counter ahead of a packet; the kind of a packet -/
def ltst (f : Nat → Int) : Nat → Int
  | 0 => 0
  | i + 1 => max (ltst f i) (f i)
def kd (f : Nat → Int) (i : Nat) : Int := if (lst f i (f i)).isSome then 2 else if ltst f i < f i then 0 else 1
def mpb (f : Nat → Int) (j : Nat) (x : Int) : Option Value := (lst f j x).map fun _ => .bool true
theorem mpb_s (f : Nat → Int) (j : Nat) : (fun x => if x = f j then some (.bool true) else mpb f j x) = mpb f (j + 1) := by
  funext x
  simp only [mpb, lst]
  split <;> rfl
theorem mpb_get (f : Nat → Int) (j : Nat) (x : Int) : (mpb f j x).getD (.bool false) = .bool (lst f j x).isSome := by
  unfold mpb
  cases lst f j x <;> rfl
theorem ltst_bd {f : Nat → Int} {b : Int} (hb : 0 ≤ b) : ∀ {j : Nat}, (∀ i, i < j → 0 ≤ f i ∧ f i ≤ b) → 0 ≤ ltst f j ∧ ltst f j ≤ b
  | 0, _ => ⟨Int.le_refl _, hb⟩
  | j + 1, h => by
    have ih := ltst_bd hb (j := j) fun i hi => h i (by omega)
    have := h j (by omega)
    simp only [ltst]
    omega
theorem IM.onB {B : Nat} {w w1 : World} {G n : Nat} {f : Nat → Int} (h : IM w G n f) (hb : Below B w w1) (hG : G < B) : IM w1 G n f :=
  ⟨Nat.lt_of_lt_of_le h.1 hb.size, fun i hi => ⟨(hb.cell (p := ⟨G, i, none⟩) hG).trans (h.2 i hi).1, (hb.frozen (p := ⟨G, i, none⟩) hG).trans (h.2 i hi).2⟩⟩
theorem wl_mu {ops : Array Oper} {rest : List Oper} {op : Oper} {a : Act} {w : World} {Q : Exit → Act → World → Prop} (hgd : op.guard = none) {t e : TypeId} {x y z : Operand} (ho : op.op = .mapUpdate t x y z) (ht : Try.prog.underlying t = some (.map 3 e)) {b n : Nat} {f : Int → Option Value} {k : Int} {v : Value} (hx : a.eval x = .map (some b)) (hy : a.eval y = .int .i64 k) (hz : a.eval z = v)
    (hM : MI w b n f) (hn : n < maxLen) (h1 : -9223372036854775808 ≤ k) (h2 : k ≤ 9223372036854775807) (h : ∀ w', MI w' b (n + 1) (fun x => if x = k then some v else f x) → w.grownBy w' (some b) → wpList Try.prog ops Q rest (a.put op.dst undef) w') : wpList Try.prog ops Q (op :: rest) a w := by
  refine wpList_plain hgd fun K hK => ?_
  exact op_mu ho ht hx hy hz hM hn h1 h2 fun w' a1 a2 => hK _ _ (h w' a1 a2)

set_option maxRecDepth 100000 in
set_option maxHeartbeats 2000000 in
theorem kindsOf_err (A : Option Addr) (n c : Nat) (k : Nat → Nat → Int) (E : Int) (hE : rcE n k = E) (h0 : E ≠ 0) (w : World) (hn : n ≤ 1000000000) (hA : KA w A n k) :
    Calls Try.prog 24 #[.slice A n c] w fun e w' => e = .returned (.tuple #[.slice none 0 0, .int .i64 E]) ∧ Below w.heap.size w w' := by
  have HR := Lib.hid (received_any A n c k w hn hA)
  rw [hE] at HR
  have hq : (E != 0) = true := by simpa using h0
  clear h0 hA
  go_enter Try.func24, Try.ntmps24
  go_wp2_with (go_at_call 92; (with_reducible refine Calls.mono HR.out ?_); rintro e w1 ⟨S, m, lo, hi, rfl, hok, hb1⟩; have B1 := Lib.hid hb1; clear hb1 hok)
  go_ret2
  exact ⟨rfl, B1.out.alloc B1.out.size _⟩
set_option maxRecDepth 100000 in
set_option maxHeartbeats 2000000 in
theorem kindsOf_ok (A : Option Addr) (n c : Nat) (k : Nat → Nat → Int) (hE : rcE n k = 0) (n30 : n ≤ 30) (hf0 : ∀ i, i < n → 0 ≤ fc k i ∧ fc k i ≤ 40000) (w : World) (hA : KA w A n k) :
    Calls Try.prog 24 #[.slice A n c] w fun e w' => ∃ K, e = .returned (.tuple #[.slice (some ⟨K, 0, none⟩) n n, .int .i64 0]) ∧ IM w' K n (kd (fc k)) ∧ w.heap.size ≤ K ∧ Below w.heap.size w w' := by
  have HR := Lib.hid (received_any A n c k w (by omega) hA)
  rw [hE] at HR
  have HF := Lib.hid hf0
  obtain ⟨i0, hi0, hz0, hz1, hz2⟩ := info_parts infoInt
  clear hA hE hf0
  generalize fc k = f at *
  have hmm := @run_makeMap Try.prog
  go_enter Try.func24, Try.ntmps24
  go_upto_region 4 with (go_at_call 92; (with_reducible refine Calls.mono HR.out ?_); rintro e w1 ⟨S, m, lo, hi, rfl, hok, hb1⟩; obtain ⟨hm, -, -, G, rfl, hI⟩ := hok rfl; subst m; have HI := Lib.hid hI; clear hI; have B1 := Lib.hid hb1; clear hb1 hok)
  have hby : Below w1.heap.size w1 (w1.alloc (.cells #[.slice (some ⟨G, 0, none⟩) n n, .int .i64 lo, .int .i64 hi] 127)) := (Below.refl _ _).alloc (Nat.le_refl _) _
  have y0 : (w1.alloc (.cells #[.slice (some ⟨G, 0, none⟩) n n, .int .i64 lo, .int .i64 hi] 127)).cell? ⟨w1.heap.size, 0, none⟩ = some (.slice (some ⟨G, 0, none⟩) n n) := by simp [go_sem]
  have HGY := Lib.hid (HI.out.on hby)
  have BY := Lib.hid (belowT B1.out hby)
  clear hby HI B1 HR
  generalize w1.heap.size = b4 at *
  generalize hY : (w1.alloc (.cells #[.slice (some ⟨G, 0, none⟩) n n, .int .i64 lo, .int .i64 hi] 127)) = y at *
  clear hY
  go_upto_region 5 with (at_make; go_loud (refine wpList_make_full _ rfl _ _ 38 rfl (y.heap.size) 3 i0 _ 1 undInts hi0 hz0 hz1 .i64 .i64 n n n rfl rfl rfl rfl (by rw [hz2]; omega) (by unfold maxLen; omega) (by simp) ?_; intro wm hown hgrow; have hbm := below_none hgrow; have HK0 := Lib.hid (made_im hown); have hKw := (made_im hown).1; have BM := Lib.hid (belowT BY.out hbm); have HG0 := Lib.hid (HGY.out.on hbm); have s0 := keep hbm y0; have hms := hbm.size; clear hown hgrow hbm))
  have hGK : G < y.heap.size := HGY.out.1
  have hwK : w.heap.size ≤ y.heap.size := BY.out.size
  generalize y.heap.size = K at *
  have HM0 := Lib.hid (MI.made wm)
  have hM0 := hKw
  go_upto_region 8 with fail
  have hba : Below wm.heap.size wm (wm.alloc (.map #[] 0)) := (Below.refl _ _).alloc (Nat.le_refl _) _
  have HK1 := Lib.hid (HK0.out.on hba)
  have HG1 := Lib.hid (HG0.out.on hba)
  have BM1 := Lib.hid (belowT BM.out hba)
  clear hmm HK0 HG0 BM s0 hba y0 HGY BY hM0 hms
  generalize wm.heap.size = M at *
  go_loopw [8, 9, 10, 26] (fun s8 s9 s10 s26 wr => ∃ j : Nat, j ≤ n ∧ s26 = .int .i64 j ∧ s8 = .int .i64 (ltst f j) ∧ Below w.heap.size w wr ∧ Hid (IM wr K n (upto j (kd f))) ∧ Hid (MI wr M j (mpb f j)) ∧ Hid (IM wr G n f)) (fun _ _ _ i _ => n - (intOf i).toNat)
  case atStart => exact ⟨0, Nat.zero_le _, rfl, rfl, BM1.out, HK1.out.same (fun i _ => by simp [upto]), HM0.out, HG1.out⟩
  case round =>
    obtain ⟨j, hj, rfl, rfl, hbel, HK, HM, HGr⟩ := hrel
    have HB := Lib.hid hbel
    clear hbel HK1 HG1 HM0 BM1
    by_cases hlt : j < n
    · have F0 := Lib.hid (HF.out j hlt)
      have L0 := Lib.hid (ltst_bd (f := f) (b := 40000) (by omega) (j := j) fun i hi => HF.out i (by omega))
      have x0 := (HGr.out.2 j hlt).1
      have c0 := (HK.out.2 j hlt).1
      have c1 := (HK.out.2 j hlt).2
      have LK := HM.out.look undMB (zeroB wr) (k := f j) (by have := F0.out; omega) (by have := F0.out; omega)
      rw [mpb_get] at LK
      have hls : ltst f (j + 1) = max (ltst f j) (f j) := rfl
      have g1 : (0 : Int) ≤ (j : Int) := by omega
      have g2 : (j : Int) < (n : Int) := by omega
      cases hs : (lst f j (f j)).isSome
      · rw [hs] at LK
        by_cases hgt : ltst f j < f j
        · have hkd : kd f j = 0 := by unfold kd; rw [hs, if_pos hgt]; rfl
          have HKs := Lib.hid ((HK.out.set hlt (0)).same (fun i _ => (show (if i = j then 0 else upto j (kd f) i) = upto (j + 1) (kd f) i by rw [← upto_s j (kd f) i, hkd])))
          have HMs := Lib.hid (HM.out.setCell (a := ⟨K, j, none⟩) (by show M ≠ K; omega) (.int .i64 (0)))
          have HGs := Lib.hid (HGr.out.far (a := ⟨K, j, none⟩) (by show G ≠ K; omega) (.int .i64 (0)))
          have HBs : Hid (Below w.heap.size w (wr.setCell ⟨K, j, none⟩ (.int .i64 (0)))) := HB.out.setCell (by show w.heap.size ≤ K; omega) _
          go_wp2_with (first | (refine wl_look rfl _ _ _ rfl rfl rfl LK ?_) | (refine wl_mu rfl rfl undMB rfl rfl rfl HMs.out (by unfold maxLen; omega) (by have := F0.out; omega) (by have := F0.out; omega) ?_; intro w3 hm3 hg3; have HM3 := Lib.hid hm3; have hbk : Below M _ w3 := (Below.refl M _).grown hg3 (Nat.le_of_lt HMs.out.lt) (fun r hr => by cases hr; exact Nat.le_refl _); have HK3 := Lib.hid (HKs.out.onB hbk (by omega)); have HG3 := Lib.hid (HGs.out.onB hbk (by omega)); have HB3 := Lib.hid (HBs.out.grown hg3 (Nat.le_trans (by omega) (Nat.le_of_lt HMs.out.lt)) (fun r hr => by cases hr; show w.heap.size ≤ M; omega)); clear hm3 hg3 hbk))
          go_roundw
          case rel => exact ⟨j + 1, by omega, by go_num, (by show _ = Value.int .i64 (ltst f (j + 1)); rw [hls]; refine congrArg (Value.int .i64) ?_; first | omega | (split <;> omega)), HB3.out, HK3.out, mpb_s f j ▸ HM3.out, HG3.out⟩
          case measure => simp [intOf]; omega
        · have hkd : kd f j = 1 := by unfold kd; rw [hs, if_neg hgt]; rfl
          have HKs := Lib.hid ((HK.out.set hlt (1)).same (fun i _ => (show (if i = j then 1 else upto j (kd f) i) = upto (j + 1) (kd f) i by rw [← upto_s j (kd f) i, hkd])))
          have HMs := Lib.hid (HM.out.setCell (a := ⟨K, j, none⟩) (by show M ≠ K; omega) (.int .i64 (1)))
          have HGs := Lib.hid (HGr.out.far (a := ⟨K, j, none⟩) (by show G ≠ K; omega) (.int .i64 (1)))
          have HBs : Hid (Below w.heap.size w (wr.setCell ⟨K, j, none⟩ (.int .i64 (1)))) := HB.out.setCell (by show w.heap.size ≤ K; omega) _
          go_wp2_with (first | (refine wl_look rfl _ _ _ rfl rfl rfl LK ?_) | (refine wl_mu rfl rfl undMB rfl rfl rfl HMs.out (by unfold maxLen; omega) (by have := F0.out; omega) (by have := F0.out; omega) ?_; intro w3 hm3 hg3; have HM3 := Lib.hid hm3; have hbk : Below M _ w3 := (Below.refl M _).grown hg3 (Nat.le_of_lt HMs.out.lt) (fun r hr => by cases hr; exact Nat.le_refl _); have HK3 := Lib.hid (HKs.out.onB hbk (by omega)); have HG3 := Lib.hid (HGs.out.onB hbk (by omega)); have HB3 := Lib.hid (HBs.out.grown hg3 (Nat.le_trans (by omega) (Nat.le_of_lt HMs.out.lt)) (fun r hr => by cases hr; show w.heap.size ≤ M; omega)); clear hm3 hg3 hbk))
          go_roundw
          case rel => exact ⟨j + 1, by omega, by go_num, (by show _ = Value.int .i64 (ltst f (j + 1)); rw [hls]; refine congrArg (Value.int .i64) ?_; first | omega | (split <;> omega)), HB3.out, HK3.out, mpb_s f j ▸ HM3.out, HG3.out⟩
          case measure => simp [intOf]; omega
      · rw [hs] at LK
        have hkd : kd f j = 2 := by unfold kd; rw [hs]; rfl
        have HKs := Lib.hid ((HK.out.set hlt (2)).same (fun i _ => (show (if i = j then 2 else upto j (kd f) i) = upto (j + 1) (kd f) i by rw [← upto_s j (kd f) i, hkd])))
        have HMs := Lib.hid (HM.out.setCell (a := ⟨K, j, none⟩) (by show M ≠ K; omega) (.int .i64 (2)))
        have HGs := Lib.hid (HGr.out.far (a := ⟨K, j, none⟩) (by show G ≠ K; omega) (.int .i64 (2)))
        have HBs : Hid (Below w.heap.size w (wr.setCell ⟨K, j, none⟩ (.int .i64 (2)))) := HB.out.setCell (by show w.heap.size ≤ K; omega) _
        go_wp2_with (first | (refine wl_look rfl _ _ _ rfl rfl rfl LK ?_) | (refine wl_mu rfl rfl undMB rfl rfl rfl HMs.out (by unfold maxLen; omega) (by have := F0.out; omega) (by have := F0.out; omega) ?_; intro w3 hm3 hg3; have HM3 := Lib.hid hm3; have hbk : Below M _ w3 := (Below.refl M _).grown hg3 (Nat.le_of_lt HMs.out.lt) (fun r hr => by cases hr; exact Nat.le_refl _); have HK3 := Lib.hid (HKs.out.onB hbk (by omega)); have HG3 := Lib.hid (HGs.out.onB hbk (by omega)); have HB3 := Lib.hid (HBs.out.grown hg3 (Nat.le_trans (by omega) (Nat.le_of_lt HMs.out.lt)) (fun r hr => by cases hr; show w.heap.size ≤ M; omega)); clear hm3 hg3 hbk))
        go_roundw
        case rel => exact ⟨j + 1, by omega, by go_num, (by show _ = Value.int .i64 (ltst f (j + 1)); rw [hls]; refine congrArg (Value.int .i64) ?_; first | omega | (split <;> omega)), HB3.out, HK3.out, mpb_s f j ▸ HM3.out, HG3.out⟩
        case measure => simp [intOf]; omega
    · obtain rfl : j = n := by omega
      go_wp2
      go_ret2
      exact ⟨K, rfl, HK.out.same (fun i hi => by simp [upto, hi]), hwK, HB.out⟩

end Go.Proofs.Ytpkacfgmojblbaa
