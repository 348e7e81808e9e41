/- Helpers: the strongest consecutive samples. No condition but the hypotheses that each theorem names. -/
import Derived.Test.YtpkacfgmojblbaaB19
namespace Go.Proofs.Ytpkacfgmojblbaa
open Go.RowKit
attribute [local go_sem] old1 fro1 old2 fro2 old3 fro3 old4 fro4 old5 fro5 old6 fro6 old7 fro7 old8 fro8 old9 fro9 old10 fro10 old11 fro11 old12 fro12
def pi0 : List Bool := [false, false, false, false, false, false, false, false, false, false, false, false, false, false, false, true, true, true, true, true, true, true, true, true, true, true, true, true, true, true, false, false]
/-- a slice of pairs that may be cut -/
def GC (w : World) (v : Value) (n : Nat) (g : Nat → Int × Int) : Prop := ∃ A c, v = .slice A n c ∧ GA w A n g ∧ (A = none → n = 0 ∧ c = 0) ∧ n ≤ c
theorem GC.on {w w1 : World} {v : Value} {n : Nat} {g : Nat → Int × Int} (h : GC w v n g) (hb : Below w.heap.size w w1) : GC w1 v n g := by
  obtain ⟨A, c, e, hA, hn⟩ := h
  exact ⟨A, c, e, hA.bel hb, hn⟩
def mpGC (n : Nat) (g : Nat → Int × Int) : MP := ⟨fun v w => GC w v n g, fun _ _ _ h hb => h.on hb⟩
theorem GC.gs {w : World} {v : Value} {n : Nat} {g : Nat → Int × Int} (h : GC w v n g) : GS w v n g := by
  obtain ⟨A, c, e, hA, hn, _⟩ := h
  exact ⟨A, c, e, hA, hn⟩
theorem own_GC {w : World} {base e n : Nat} {v : Value} {g : Nat → Int × Int} (h : w.ownsRow base e 2 v n (gV n g)) : GC w v n g := by
  obtain ⟨A, c, e1, h1, h2⟩ := own_GS h
  refine ⟨A, c, e1, h1, h2, ?_⟩
  rcases h.2 with ⟨rfl, rfl⟩ | ⟨g', cap, cur, rfl, _, _, hc, _⟩
  · exact Nat.zero_le _
  · cases e1
    exact hc
theorem GA.sub {w : World} {b o n : Nat} {g : Nat → Int × Int} (h : GA w (some ⟨b, o, none⟩) n g) {i l : Nat} (hi : i + l ≤ n) : GA w (some ⟨b, o + i * 2, none⟩) l (fun j => g (i + j)) := fun h0 => by
  obtain ⟨b', o', e, hc⟩ := h (by omega)
  cases e
  refine ⟨b, o + i * 2, rfl, fun j hj => ?_⟩
  have := hc (i + j) (by omega)
  rw [show o + (i + j) * 2 = o + i * 2 + j * 2 by omega] at this
  exact this
/-- where the sums of l neighbouring norms are greatest -/
def bst (f : Nat → Int) : Nat → Nat
  | 0 => 0
  | m + 1 => if f m > f (bst f m) then m else bst f m
theorem bst_le (f : Nat → Int) : ∀ m, bst f m ≤ m
  | 0 => Nat.le_refl _
  | m + 1 => by
    have := bst_le f m
    simp only [bst]
    split <;> omega
theorem bst_lt (f : Nat → Int) : ∀ m, 0 < m → bst f m < m
  | 0, h => absurd h (Nat.lt_irrefl 0)
  | 1, _ => by simp [bst]
  | m + 2, _ => by
    have := bst_lt f (m + 1) (by omega)
    rw [bst]
    split <;> omega
def enF (g : Nat → Int × Int) (l i : Nat) : Int := enS (fun j => g (i + j)) l
def stE (n : Nat) (g : Nat → Int × Int) (L : Int) : Int := if smE n g = 0 then (if rgE L 1 400 = 0 then (if decide (L ≤ (n : Int)) then (0 : Int) else 12) else rgE L 1 400) else smE n g
/-- the run of a cut -/
theorem cut_run (b o n c i l : Nat) (j : Int) (hj : j = (i : Int) + l) (hl : 0 < l) (hc : i + l ≤ c) (W : World) : (Instr.slice 42 (.slice (some ⟨b, o, none⟩) n c) (some (.int .i64 i)) (some (.int .i64 j)) none).run Try.prog W = .ok (.slice (some ⟨b, o + i * 2, none⟩) l (c - i)) W := by
  subst hj
  rw [run_slice_lh (P := Try.prog) W 42 (some ⟨b, o, none⟩) n c (by kernel_rfl) .i64 .i64 i (i + l) (by omega) (by omega) (by omega)]
  have e1 : ((i : Int) + l).toNat - i = l := by omega
  have e2 : ¬ c = i := by omega
  simp [go_sem, sliced, e1, e2, addr_addI]
theorem cut_run0 (b o n c l : Nat) (hl : 0 < l) (hc : l ≤ c) (W : World) : (Instr.slice 42 (.slice (some ⟨b, o, none⟩) n c) none (some (.int .i64 (l : Int))) none).run Try.prog W = .ok (.slice (some ⟨b, o, none⟩) l c) W := by
  rw [run_slice_h (P := Try.prog) W 42 (some ⟨b, o, none⟩) n c (by kernel_rfl) .i64 l (by omega) (by omega)]
  have e2 : ¬ c = 0 := by omega
  simp [go_sem, sliced, e2]
set_option maxRecDepth 100000 in
set_option maxHeartbeats 2000000 in
theorem strongestR_any (b o : Nat) (n c : Nat) (g : Nat → Int × Int) (l : Nat) (w : World) (hn : n ≤ 400) (hl : 0 < l) (hln : l ≤ n) (hc : n ≤ c) (hA : GA w (some ⟨b, o, none⟩) n g) (hg : ∀ i, i < n → (-2000 ≤ (g i).1 ∧ (g i).1 ≤ 2000) ∧ -2000 ≤ (g i).2 ∧ (g i).2 ≤ 2000) :
    Calls Try.prog 84 #[.slice (some ⟨b, o, none⟩) n c, .int .i64 (l : Int)] w fun e w' => e = .returned (.int .i64 (bst (enF g l) (n - l + 1) : Nat)) ∧ Below w.heap.size w w' := by
  have HEN := Lib.hid (fun (i : Nat) (hi : i + l ≤ n) W (hW : Below w.heap.size w W) => energyOfR_any (some ⟨b, o + i * 2, none⟩) l (c - i) (fun j => g (i + j)) W (by omega) ((hA.bel hW).sub hi) (fun j hj => by have := hg (i + j) (by omega); omega))
  have HCR := Lib.hid (fun (i : Nat) (hi : i + l ≤ n) W => cut_run b o n c i l ((i : Int) + l) rfl hl (by omega) W)
  clear hA hg
  go_enter Try.func84, Try.ntmps84
  go_wp2_with fail
  go_loopw [5, 6] (fun s5 s6 wr => ∃ k : Nat, k ≤ n - l + 1 ∧ s6 = .int .i64 k ∧ s5 = .int .i64 (bst (enF g l) k : Nat) ∧ Hid (Below w.heap.size w wr)) (fun _ i _ => n - (intOf i).toNat + 1)
  case atStart => exact ⟨0, Nat.zero_le _, rfl, rfl, Below.refl _ _⟩
  case round =>
    obtain ⟨k, hk, rfl, rfl, HB⟩ := hrel
    have x1 : IntKind.i64.wrap ((k : Int) + (l : Int)) = (k : Int) + l := IntWalk.i64_in _ (by omega)
    have hbl := bst_le (enF g l) k
    have hbl2 : k = 0 ∨ bst (enF g l) k < k := by
      rcases Nat.eq_zero_or_pos k with h | h
      · exact .inl h
      · exact .inr (bst_lt _ k h)
    by_cases hlt : k ≤ n - l
    · have HE1 := Lib.hid (HEN.out k (by omega))
      have HE2 := Lib.hid (HEN.out (bst (enF g l) k) (by omega))
      have HC1 := HCR.out k (by omega)
      have HC2 := HCR.out (bst (enF g l) k) (by omega)
      have HS : Hid (bst (enF g l) (k + 1) = if enF g l k > enF g l (bst (enF g l) k) then k else bst (enF g l) k) := Lib.hid rfl
      have x2 : IntKind.i64.wrap ((bst (enF g l) k : Nat) + (l : Int)) = (bst (enF g l) k : Nat) + (l : Int) := IntWalk.i64_in _ (by omega)
      have HE1' : Hid (∀ (W : World), Below w.heap.size w W → Calls Try.prog 55 #[.slice (some ⟨b, o + k * 2, none⟩) l (c - k)] W fun e w' => e = .returned (.int .i64 (enF g l k)) ∧ Below W.heap.size W w') := HE1
      have HE2' : Hid (∀ (W : World), Below w.heap.size w W → Calls Try.prog 55 #[.slice (some ⟨b, o + bst (enF g l) k * 2, none⟩) l (c - bst (enF g l) k)] W fun e w' => e = .returned (.int .i64 (enF g l (bst (enF g l) k))) ∧ Below W.heap.size W w') := HE2
      clear HE1 HE2 HEN HCR
      have g1 : (k : Int) + l ≤ n := by omega
      generalize hq : bst (enF g l) k = q at *
      generalize enF g l k = e1 at *
      generalize enF g l q = e2 at *
      obtain ⟨bb, hbE⟩ : ∃ bb, decide (e2 < e1) = bb := ⟨_, rfl⟩
      go_wp2_with fail
      refine wp_region_mp [mpEq (.slice (some ⟨b, o, none⟩) n c), mpEq (.int .i64 k), mpEq (.int .i64 k), mpEq (.int .i64 ((l : Int))), mpEq (.int .i64 ((k : Int) + l)), mpEq (.slice (some ⟨b, o + k * 2, none⟩) l (c - k)), mpEq (.int .i64 e1), mpEq (.slice (some ⟨b, o, none⟩) n c), mpEq (.int .i64 ((q : Nat))), mpEq (.int .i64 ((q : Nat))), mpEq (.int .i64 ((l : Int))), mpEq (.int .i64 ((q : Nat) + (l : Int))), mpEq (.slice (some ⟨b, o + q * 2, none⟩) l (c - q)), mpEq (.int .i64 e2), mpEq (.bool bb)] pi0 (by kernel_rfl) (by kernel_rfl) (by kernel_rfl) (
            allOps_cons (fun a' w' hb hs hd => rg_op fun K hK => by
          have e0 := (hs.get 0 (by kernel_rfl)).trans (show _ = .slice (some ⟨b, o, none⟩) n c from rfl)
          have ec : ∀ v, a'.eval (.const v) = v := fun _ => rfl
          clear hs hd
          unfold Oper.wp
          generalize a'.eval = ρ at e0 ec ⊢
          simp [go_sem, e0]
          exact hK _ _ (Below.refl _ _) rfl) <|
            allOps_cons (fun a' w' hb hs hd => rg_op fun K hK => by
          have e0 := (hs.get 6 (by kernel_rfl)).trans (show _ = .int .i64 k from rfl)
          have ec : ∀ v, a'.eval (.const v) = v := fun _ => rfl
          clear hs hd
          unfold Oper.wp
          generalize a'.eval = ρ at e0 ec ⊢
          simp [go_sem, e0]
          exact hK _ _ (Below.refl _ _) rfl) <|
            allOps_cons (fun a' w' hb hs hd => rg_op fun K hK => by
          have e0 := (hs.get 6 (by kernel_rfl)).trans (show _ = .int .i64 k from rfl)
          have ec : ∀ v, a'.eval (.const v) = v := fun _ => rfl
          clear hs hd
          unfold Oper.wp
          generalize a'.eval = ρ at e0 ec ⊢
          simp [go_sem, e0]
          exact hK _ _ (Below.refl _ _) rfl) <|
            allOps_cons (fun a' w' hb hs hd => rg_op fun K hK => by
          have e0 := (hs.get 1 (by kernel_rfl)).trans (show _ = .int .i64 ((l : Int)) from rfl)
          have ec : ∀ v, a'.eval (.const v) = v := fun _ => rfl
          clear hs hd
          unfold Oper.wp
          generalize a'.eval = ρ at e0 ec ⊢
          simp [go_sem, e0]
          exact hK _ _ (Below.refl _ _) rfl) <|
            allOps_cons (fun a' w' hb hs hd => rg_op fun K hK => by
          have e0 := (show a'.eval (.tmp 17) = .int .i64 k from hd.get 2 17 (by kernel_rfl) (by kernel_rfl))
          have e1 := (show a'.eval (.tmp 18) = .int .i64 ((l : Int)) from hd.get 3 18 (by kernel_rfl) (by kernel_rfl))
          have ec : ∀ v, a'.eval (.const v) = v := fun _ => rfl
          clear hs hd
          unfold Oper.wp
          generalize a'.eval = ρ at e0 e1 ec ⊢
          simp [go_sem, e0, e1, x1]
          exact hK _ _ (Below.refl _ _) rfl) <|
            allOps_cons (fun a' w' hb hs hd => rg_op fun K hK => by
          have e0 := (show a'.eval (.tmp 15) = .slice (some ⟨b, o, none⟩) n c from hd.get 0 15 (by kernel_rfl) (by kernel_rfl))
          have e1 := (show a'.eval (.tmp 16) = .int .i64 k from hd.get 1 16 (by kernel_rfl) (by kernel_rfl))
          have e2 := (show a'.eval (.tmp 19) = .int .i64 ((k : Int) + l) from hd.get 4 19 (by kernel_rfl) (by kernel_rfl))
          have ec : ∀ v, a'.eval (.const v) = v := fun _ => rfl
          clear hs hd
          unfold Oper.wp
          generalize a'.eval = ρ at e0 e1 e2 ec ⊢
          simp [go_sem, e0, e1, e2, HC1]
          exact hK _ _ (Below.refl _ _) rfl) <|
            allOps_cons (fun a' w' hb hs hd => by
          exact rg_fn (φ := (mpEq (.int .i64 e1)).p) (vs := #[.slice (some ⟨b, o + k * 2, none⟩) l (c - k)]) rfl (enters_of Try.func55 (by kernel_rfl) rfl) (by simp [(show a'.eval (.tmp 20) = .slice (some ⟨b, o + k * 2, none⟩) l (c - k) from hd.get 5 20 (by kernel_rfl) (by kernel_rfl))]) ((HE1'.out w' (belowT HB.out hb)).mono (by rintro e w1 ⟨rfl, h1⟩; exact ⟨_, rfl, h1, rfl⟩))) <|
            allOps_cons (fun a' w' hb hs hd => rg_op fun K hK => by
          have e0 := (hs.get 0 (by kernel_rfl)).trans (show _ = .slice (some ⟨b, o, none⟩) n c from rfl)
          have ec : ∀ v, a'.eval (.const v) = v := fun _ => rfl
          clear hs hd
          unfold Oper.wp
          generalize a'.eval = ρ at e0 ec ⊢
          simp [go_sem, e0]
          exact hK _ _ (Below.refl _ _) rfl) <|
            allOps_cons (fun a' w' hb hs hd => rg_op fun K hK => by
          have e0 := (hs.get 5 (by kernel_rfl)).trans (show _ = .int .i64 ((q : Nat)) from rfl)
          have ec : ∀ v, a'.eval (.const v) = v := fun _ => rfl
          clear hs hd
          unfold Oper.wp
          generalize a'.eval = ρ at e0 ec ⊢
          simp [go_sem, e0]
          exact hK _ _ (Below.refl _ _) rfl) <|
            allOps_cons (fun a' w' hb hs hd => rg_op fun K hK => by
          have e0 := (hs.get 5 (by kernel_rfl)).trans (show _ = .int .i64 ((q : Nat)) from rfl)
          have ec : ∀ v, a'.eval (.const v) = v := fun _ => rfl
          clear hs hd
          unfold Oper.wp
          generalize a'.eval = ρ at e0 ec ⊢
          simp [go_sem, e0]
          exact hK _ _ (Below.refl _ _) rfl) <|
            allOps_cons (fun a' w' hb hs hd => rg_op fun K hK => by
          have e0 := (hs.get 1 (by kernel_rfl)).trans (show _ = .int .i64 ((l : Int)) from rfl)
          have ec : ∀ v, a'.eval (.const v) = v := fun _ => rfl
          clear hs hd
          unfold Oper.wp
          generalize a'.eval = ρ at e0 ec ⊢
          simp [go_sem, e0]
          exact hK _ _ (Below.refl _ _) rfl) <|
            allOps_cons (fun a' w' hb hs hd => rg_op fun K hK => by
          have e0 := (show a'.eval (.tmp 24) = .int .i64 ((q : Nat)) from hd.get 9 24 (by kernel_rfl) (by kernel_rfl))
          have e1 := (show a'.eval (.tmp 25) = .int .i64 ((l : Int)) from hd.get 10 25 (by kernel_rfl) (by kernel_rfl))
          have ec : ∀ v, a'.eval (.const v) = v := fun _ => rfl
          clear hs hd
          unfold Oper.wp
          generalize a'.eval = ρ at e0 e1 ec ⊢
          simp [go_sem, e0, e1, x2]
          exact hK _ _ (Below.refl _ _) rfl) <|
            allOps_cons (fun a' w' hb hs hd => rg_op fun K hK => by
          have e0 := (show a'.eval (.tmp 22) = .slice (some ⟨b, o, none⟩) n c from hd.get 7 22 (by kernel_rfl) (by kernel_rfl))
          have e1 := (show a'.eval (.tmp 23) = .int .i64 ((q : Nat)) from hd.get 8 23 (by kernel_rfl) (by kernel_rfl))
          have e2 := (show a'.eval (.tmp 26) = .int .i64 ((q : Nat) + (l : Int)) from hd.get 11 26 (by kernel_rfl) (by kernel_rfl))
          have ec : ∀ v, a'.eval (.const v) = v := fun _ => rfl
          clear hs hd
          unfold Oper.wp
          generalize a'.eval = ρ at e0 e1 e2 ec ⊢
          simp [go_sem, e0, e1, e2, HC2]
          exact hK _ _ (Below.refl _ _) rfl) <|
            allOps_cons (fun a' w' hb hs hd => by
          exact rg_fn (φ := (mpEq (.int .i64 e2)).p) (vs := #[.slice (some ⟨b, o + q * 2, none⟩) l (c - q)]) rfl (enters_of Try.func55 (by kernel_rfl) rfl) (by simp [(show a'.eval (.tmp 27) = .slice (some ⟨b, o + q * 2, none⟩) l (c - q) from hd.get 12 27 (by kernel_rfl) (by kernel_rfl))]) ((HE2'.out w' (belowT HB.out hb)).mono (by rintro e w1 ⟨rfl, h1⟩; exact ⟨_, rfl, h1, rfl⟩))) <|
            allOps_cons (fun a' w' hb hs hd => rg_op fun K hK => by
          have e0 := (show a'.eval (.tmp 21) = .int .i64 e1 from hd.get 6 21 (by kernel_rfl) (by kernel_rfl))
          have e1 := (show a'.eval (.tmp 28) = .int .i64 e2 from hd.get 13 28 (by kernel_rfl) (by kernel_rfl))
          have ec : ∀ v, a'.eval (.const v) = v := fun _ => rfl
          clear hs hd
          unfold Oper.wp
          generalize a'.eval = ρ at e0 e1 ec ⊢
          simp [go_sem, e0, e1, hbE]
          exact hK _ _ (Below.refl _ _) rfl) <| allOps_nil) (fun V v1 hv1 hall => ?_)
      have h29 : V 29 = .bool bb := hall.get 14 rfl
      clear hall
      simp only [pi0, maskPut, Nat.reduceAdd]
      rw [h29]
      clear h29
      have HB1 := Lib.hid (belowT HB.out hv1)
      clear hv1 HC1 HC2
      cases bb
      · have hS : Hid (bst (enF g l) (k + 1) = q) := Lib.hid (by rw [HS.out, if_neg (by simpa using hbE)])
        go_wp2
        go_roundw
        case rel => exact ⟨k + 1, by omega, by go_num, by rw [hS.out], HB1.out⟩
        case measure => simp [intOf]; omega
      · have hS : Hid (bst (enF g l) (k + 1) = k) := Lib.hid (by rw [HS.out, if_pos (by simpa using hbE)])
        go_wp2
        go_roundw
        case rel => exact ⟨k + 1, by omega, by go_num, by rw [hS.out], HB1.out⟩
        case measure => simp [intOf]; omega
    · obtain rfl : k = n - l + 1 := by omega
      have g1 : ¬ ((n - l + 1 : Nat) : Int) + l ≤ n := by omega
      go_wp2
      go_ret
      exact ⟨rfl, HB.out⟩
end Go.Proofs.Ytpkacfgmojblbaa
namespace Go.Proofs.Ytpkacfgmojblbaa
open Go.RowKit
attribute [local go_sem] old1 fro1 old2 fro2 old3 fro3 old4 fro4 old5 fro5 old6 fro6 old7 fro7 old8 fro8 old9 fro9 old10 fro10 old11 fro11 old12 fro12
def pj0 : List Bool := [false, false, false, false, false, false, true, false, false, false, false, true, true, true, true, true, true, true, true, false, false, false, false, false, false, false, false, false, false, false, false, false, false, false, false, false, false, false, false, false, false, false, false, false, false, false, false, false]
set_option maxRecDepth 100000 in
set_option maxHeartbeats 800000 in
theorem strongest1_any (b1 b2 : Nat) (A : Option Addr) (n c : Nat) (L : Int) (w : World) (h1 : w.cell? ⟨b1, 0, none⟩ = some (.int .i64 L)) (h2 : w.cell? ⟨b2, 0, none⟩ = some (.slice A n c)) :
    Calls Try.prog 125 #[.pointer (some ⟨b1, 0, none⟩), .pointer (some ⟨b2, 0, none⟩)] w fun e w' => e = .returned (.bool (decide (L ≤ (n : Int)))) ∧ Below w.heap.size w w' := by
  go_enter Try.func125, Try.ntmps125
  go_wp2
  go_ret
  exact ⟨ret_bool (by simp), by (repeat (first | with_reducible exact Below.refl _ _ | with_reducible assumption | with_reducible refine Below.alloc ?_ (by first | (simp; done) | (simp; omega) | omega) _ | with_reducible refine Below.setCell ?_ (by first | (simp; done) | (simp; omega) | omega) _ | with_reducible refine Below.drew ?_ | with_reducible refine below_drewN ?_ _))⟩
set_option maxRecDepth 100000 in
set_option maxHeartbeats 2000000 in
theorem strongestS_err (A : Option Addr) (n c : Nat) (g : Nat → Int × Int) (L E : Int) (hE : stE n g L = E) (h0 : E ≠ 0) (w : World) (hn : n ≤ 1000000000) (hA : GA w A n g) :
    Calls Try.prog 83 #[.slice A n c, .int .i64 L] w fun e w' => e = .returned (.tuple #[.int .i64 0, .int .i64 E]) ∧ Below w.heap.size w w' := by
  have HA := Lib.hid hA
  have hq : (E != 0) = true := by simpa using h0
  clear hA h0
  go_enter Try.func83, Try.ntmps83
  go_wp2_with fail
  have p0 : ((w.alloc (.cells #[.slice A n c] 42)).alloc (.cells #[.int .i64 L] 3)).cell? ⟨w.heap.size, 0, none⟩ = some (.slice A n c) := by simp [go_sem]
  have p1 : ((w.alloc (.cells #[.slice A n c] 42)).alloc (.cells #[.int .i64 L] 3)).cell? ⟨w.heap.size + 1, 0, none⟩ = some (.int .i64 L) := by simp [go_sem]
  have HB0 : Hid (Below w.heap.size w ((w.alloc (.cells #[.slice A n c] 42)).alloc (.cells #[.int .i64 L] 3))) := Lib.hid (by (repeat (first | with_reducible exact Below.refl _ _ | with_reducible assumption | with_reducible refine Below.alloc ?_ (by first | (simp; done) | (simp; omega) | omega) _ | with_reducible refine Below.setCell ?_ (by first | (simp; done) | (simp; omega) | omega) _ | with_reducible refine Below.drew ?_ | with_reducible refine below_drewN ?_ _)))
  generalize ((w.alloc (.cells #[.slice A n c] 42)).alloc (.cells #[.int .i64 L] 3)) = v0 at *
  refine wp_region_mp [mpEq (.slice A n c), mpChk (True) (smE n g), mpEq (.int .i64 L), mpChk (True) (rgE L 1 400), mpCnd True (decide (L ≤ (n : Int))), mpChk (True) (if decide (L ≤ (n : Int)) then (0 : Int) else 12), mpChks 3 (fun i => if i = 0 then smE n g else if i = 1 then rgE L 1 400 else if decide (L ≤ (n : Int)) then (0 : Int) else 12), mpEq (.int .i64 (E)), mpEq (.int .i64 (E))] pj0 (by kernel_rfl) (by kernel_rfl) (by kernel_rfl) (
        allOps_cons (fun a' w' hb hs hd => rg_op fun K hK => by
      have e0 := (hs.get 2 (by kernel_rfl)).trans (show _ = .pointer (some ⟨w.heap.size, 0, none⟩) from rfl)
      have ec : ∀ v, a'.eval (.const v) = v := fun _ => rfl
      have c0 := keep hb p0
      clear hs hd
      unfold Oper.wp
      generalize a'.eval = ρ at e0 ec ⊢
      simp [go_sem, e0, c0]
      exact hK _ _ (Below.refl _ _) rfl) <|
        allOps_cons (fun a' w' hb hs hd => by
      exact rg_fn (φ := (mpChk (True) (smE n g)).p) (vs := #[.slice A n c]) rfl (enters_of Try.func108 (by kernel_rfl) rfl) (by simp [(show a'.eval (.tmp 11) = .slice A n c from hd.get 0 11 (by kernel_rfl) (by kernel_rfl))]) ((samplesCheck_chk _ n c g w' hn (HA.out.bel (belowT HB0.out hb))))) <|
        allOps_cons (fun a' w' hb hs hd => rg_op fun K hK => by
      have e0 := (hs.get 3 (by kernel_rfl)).trans (show _ = .pointer (some ⟨w.heap.size + 1, 0, none⟩) from rfl)
      have ec : ∀ v, a'.eval (.const v) = v := fun _ => rfl
      have c0 := keep hb p1
      clear hs hd
      unfold Oper.wp
      generalize a'.eval = ρ at e0 ec ⊢
      simp [go_sem, e0, c0]
      exact hK _ _ (Below.refl _ _) rfl) <|
        allOps_cons (fun a' w' hb hs hd => by
      exact rg_fn (φ := (mpChk (True) (rgE L 1 400)).p) (vs := #[.int .i64 L, .int .i64 1, .int .i64 400]) rfl (enters_of Try.func88 (by kernel_rfl) rfl) (by simp [(show a'.eval (.tmp 13) = .int .i64 L from hd.get 2 13 (by kernel_rfl) (by kernel_rfl)), (show a'.eval (.const (.int .i64 1)) = .int .i64 1 from rfl), (show a'.eval (.const (.int .i64 400)) = .int .i64 400 from rfl)]) ((range_chk L 1 400 w'))) <|
        allOps_cons (fun a' w' hb hs hd => rg_op fun K hK => by
      have e0 := (hs.get 3 (by kernel_rfl)).trans (show _ = .pointer (some ⟨w.heap.size + 1, 0, none⟩) from rfl)
      have e1 := (hs.get 2 (by kernel_rfl)).trans (show _ = .pointer (some ⟨w.heap.size, 0, none⟩) from rfl)
      clear hs hd
      unfold Oper.wp
      generalize a'.eval = ρ at e0 e1 ⊢
      simp [go_sem, e0, e1]
      exact hK _ _ (Below.refl _ _) ⟨_, _, rfl, (enters_of Try.func125 (by kernel_rfl) rfl), fun w1 h1 _ => strongest1_any _ _ _ n c _ w1 (keep (belowT hb h1) p1) (keep (belowT hb h1) p0)⟩) <|
        allOps_cons (fun a' w' hb hs hd => by
      exact rg_fn (φ := (mpChk (True) (if decide (L ≤ (n : Int)) then (0 : Int) else 12)).p) (vs := #[.int .i64 12, a'.eval (.tmp 15)]) rfl (enters_of Try.func116 (by kernel_rfl) rfl) (by simp [(show a'.eval (.const (.int .i64 12)) = .int .i64 12 from rfl)]) ((require_chk 12 _ w' (show Cnd True (decide (L ≤ (n : Int))) (a'.eval (.tmp 15)) w' from hd.get 4 15 (by kernel_rfl) (by kernel_rfl))))) <|
        allOps_cons (fun a' w' hb hs hd => rg_op fun K hK => by
      have k0 : (mpChk (True) (smE n g)).p (a'.eval (.tmp 12)) w' := hd.get 1 12 (by kernel_rfl) (by kernel_rfl)
      have k1 : (mpChk (True) (rgE L 1 400)).p (a'.eval (.tmp 14)) w' := hd.get 3 14 (by kernel_rfl) (by kernel_rfl)
      have k2 : (mpChk (True) (if decide (L ≤ (n : Int)) then (0 : Int) else 12)).p (a'.eval (.tmp 16)) w' := hd.get 5 16 (by kernel_rfl) (by kernel_rfl)
      clear hs hd
      unfold Oper.wp
      generalize a'.eval = ρ at k0 k1 k2 ⊢
      obtain ⟨g0, f0, e0, h0⟩ := k0
      obtain ⟨g1, f1, e1, h1⟩ := k1
      obtain ⟨g2, f2, e2, h2⟩ := k2
      simp [go_sem, e0, e1, e2]
      have hx := (Below.refl w'.heap.size w').alloc (Nat.le_refl _) (.cells #[.func (.func g0) #[] f0, .func (.func g1) #[] f1, .func (.func g2) #[] f2] 121)
      refine hK _ _ hx ⟨_, rfl, fun i => if i = 0 then .func (.func g0) #[] f0 else if i = 1 then .func (.func g1) #[] f1 else .func (.func g2) #[] f2, fun i hi => ?_, fun i hi => ?_⟩
      · rcases (by omega : i = 0 ∨ i = 1 ∨ i = 2) with rfl | rfl | rfl <;> simp [go_sem]
      · rcases (by omega : i = 0 ∨ i = 1 ∨ i = 2) with rfl | rfl | rfl
        · exact Chk.imp (Chk.on (show Chk (True) (smE n g) (.func (.func g0) #[] f0) w' from ⟨g0, f0, rfl, h0⟩) hx) (fun _ => trivial)
        · exact Chk.imp (Chk.on (show Chk (True) (rgE L 1 400) (.func (.func g1) #[] f1) w' from ⟨g1, f1, rfl, h1⟩) hx) (fun _ => trivial)
        · exact Chk.imp (Chk.on (show Chk (True) (if decide (L ≤ (n : Int)) then (0 : Int) else 12) (.func (.func g2) #[] f2) w' from ⟨g2, f2, rfl, h2⟩) hx) (fun _ => trivial)) <|
        allOps_cons (fun a' w' hb hs hd => by
      exact rg_fn (φ := (mpEq (.int .i64 (E))).p) (vs := #[a'.eval (.tmp 17)]) rfl (enters_of Try.func87 (by kernel_rfl) rfl) (by simp) ((first_chks (n := 3) (er := (fun i => if i = 0 then smE n g else if i = 1 then rgE L 1 400 else if decide (L ≤ (n : Int)) then (0 : Int) else 12)) (by omega) (by omega) (hd.get 6 17 (by kernel_rfl) (by kernel_rfl))).mono (by rintro e w1 ⟨rfl, h1⟩; exact ⟨_, rfl, h1, congrArg (Value.int .i64) ((ferr_3 _ _ _).trans hE)⟩))) <|
        allOps_cons (fun a' w' hb hs hd => rg_op fun K hK => by
      have e0 := (show a'.eval (.tmp 18) = .int .i64 (E) from hd.get 7 18 (by kernel_rfl) (by kernel_rfl))
      have ec : ∀ v, a'.eval (.const v) = v := fun _ => rfl
      clear hs hd
      unfold Oper.wp
      generalize a'.eval = ρ at e0 ec ⊢
      simp [go_sem, e0]
      exact hK _ _ (Below.refl _ _) rfl) <| allOps_nil) (fun V v1 hv1 hall => ?_)
  have h6 : V 6 = .int .i64 (E) := hall.get 8 rfl
  clear hall
  simp only [pj0, maskPut, Nat.reduceAdd]
  rw [h6]
  clear h6
  have HB1 := Lib.hid (belowT HB0.out hv1)
  clear hv1
  go_wp2
  go_ret2
  exact ⟨rfl, HB1.out⟩
set_option maxRecDepth 100000 in
set_option maxHeartbeats 4000000 in
theorem strongestS_ok (b o : Nat) (n c : Nat) (g : Nat → Int × Int) (l : Nat) (hE : stE n g l = 0) (w : World) (hl : 0 < l) (hln : l ≤ n) (hc : n ≤ c) (hA : GA w (some ⟨b, o, none⟩) n g) :
    Calls Try.prog 83 #[.slice (some ⟨b, o, none⟩) n c, .int .i64 (l : Int)] w fun e w' => e = .returned (.tuple #[.int .i64 (bst (enF g l) (n - l + 1) : Nat), .int .i64 0]) ∧ Below w.heap.size w w' := by
  have hs : smE n g = 0 := by
    unfold stE at hE
    by_cases q : smE n g = 0
    · exact q
    · rw [if_neg q] at hE; exact absurd hE q
  obtain ⟨hn4, hg⟩ := sm_0 hs
  have hn : n ≤ 1000000000 := by omega
  have HEN := Lib.hid (fun (i : Nat) (hi : i + l ≤ n) W (hW : Below w.heap.size w W) => energy_any (some ⟨b, o + i * 2, none⟩) l (c - i) (fun j => g (i + j)) W (by omega) ((hA.bel hW).sub hi) (fun j hj => by have := hg (i + j) (by omega); omega))
  have HCR := Lib.hid (fun (i : Nat) (hi : i + l ≤ n) W => cut_run b o n c i l ((i : Int) + l) rfl hl (by omega) W)
  have HC0 := cut_run0 b o n c l hl (by omega)
  have HE0 := Lib.hid (fun W (hW : Below w.heap.size w W) => (show Calls Try.prog 110 #[.slice (some ⟨b, o, none⟩) l c] W fun e w' => e = .returned (.int .i64 (enF g l 0)) ∧ Below W.heap.size W w' from HEN.out 0 (by omega) W hW))
  have HA := Lib.hid hA
  clear hA hs hg
  go_enter Try.func83, Try.ntmps83
  go_wp2_with fail
  have p0 : ((w.alloc (.cells #[.slice (some ⟨b, o, none⟩) n c] 42)).alloc (.cells #[.int .i64 (l : Int)] 3)).cell? ⟨w.heap.size, 0, none⟩ = some (.slice (some ⟨b, o, none⟩) n c) := by simp [go_sem]
  have p1 : ((w.alloc (.cells #[.slice (some ⟨b, o, none⟩) n c] 42)).alloc (.cells #[.int .i64 (l : Int)] 3)).cell? ⟨w.heap.size + 1, 0, none⟩ = some (.int .i64 (l : Int)) := by simp [go_sem]
  have HB0 : Hid (Below w.heap.size w ((w.alloc (.cells #[.slice (some ⟨b, o, none⟩) n c] 42)).alloc (.cells #[.int .i64 (l : Int)] 3))) := Lib.hid (by (repeat (first | with_reducible exact Below.refl _ _ | with_reducible assumption | with_reducible refine Below.alloc ?_ (by first | (simp; done) | (simp; omega) | omega) _ | with_reducible refine Below.setCell ?_ (by first | (simp; done) | (simp; omega) | omega) _ | with_reducible refine Below.drew ?_ | with_reducible refine below_drewN ?_ _)))
  generalize ((w.alloc (.cells #[.slice (some ⟨b, o, none⟩) n c] 42)).alloc (.cells #[.int .i64 (l : Int)] 3)) = v0 at *
  refine wp_region_mp [mpEq (.slice (some ⟨b, o, none⟩) n c), mpChk (True) (smE n g), mpEq (.int .i64 ((l : Int))), mpChk (True) (rgE (l : Int) 1 400), mpCnd True (decide ((l : Int) ≤ (n : Int))), mpChk (True) (if decide ((l : Int) ≤ (n : Int)) then (0 : Int) else 12), mpChks 3 (fun i => if i = 0 then smE n g else if i = 1 then rgE (l : Int) 1 400 else if decide ((l : Int) ≤ (n : Int)) then (0 : Int) else 12), mpEq (.int .i64 (0)), mpEq (.int .i64 (0))] pj0 (by kernel_rfl) (by kernel_rfl) (by kernel_rfl) (
        allOps_cons (fun a' w' hb hs hd => rg_op fun K hK => by
      have e0 := (hs.get 2 (by kernel_rfl)).trans (show _ = .pointer (some ⟨w.heap.size, 0, none⟩) from rfl)
      have ec : ∀ v, a'.eval (.const v) = v := fun _ => rfl
      have c0 := keep hb p0
      clear hs hd
      unfold Oper.wp
      generalize a'.eval = ρ at e0 ec ⊢
      simp [go_sem, e0, c0]
      exact hK _ _ (Below.refl _ _) rfl) <|
        allOps_cons (fun a' w' hb hs hd => by
      exact rg_fn (φ := (mpChk (True) (smE n g)).p) (vs := #[.slice (some ⟨b, o, none⟩) n c]) rfl (enters_of Try.func108 (by kernel_rfl) rfl) (by simp [(show a'.eval (.tmp 11) = .slice (some ⟨b, o, none⟩) n c from hd.get 0 11 (by kernel_rfl) (by kernel_rfl))]) ((samplesCheck_chk _ n c g w' hn (HA.out.bel (belowT HB0.out hb))))) <|
        allOps_cons (fun a' w' hb hs hd => rg_op fun K hK => by
      have e0 := (hs.get 3 (by kernel_rfl)).trans (show _ = .pointer (some ⟨w.heap.size + 1, 0, none⟩) from rfl)
      have ec : ∀ v, a'.eval (.const v) = v := fun _ => rfl
      have c0 := keep hb p1
      clear hs hd
      unfold Oper.wp
      generalize a'.eval = ρ at e0 ec ⊢
      simp [go_sem, e0, c0]
      exact hK _ _ (Below.refl _ _) rfl) <|
        allOps_cons (fun a' w' hb hs hd => by
      exact rg_fn (φ := (mpChk (True) (rgE (l : Int) 1 400)).p) (vs := #[.int .i64 ((l : Int)), .int .i64 1, .int .i64 400]) rfl (enters_of Try.func88 (by kernel_rfl) rfl) (by simp [(show a'.eval (.tmp 13) = .int .i64 ((l : Int)) from hd.get 2 13 (by kernel_rfl) (by kernel_rfl)), (show a'.eval (.const (.int .i64 1)) = .int .i64 1 from rfl), (show a'.eval (.const (.int .i64 400)) = .int .i64 400 from rfl)]) ((range_chk (l : Int) 1 400 w'))) <|
        allOps_cons (fun a' w' hb hs hd => rg_op fun K hK => by
      have e0 := (hs.get 3 (by kernel_rfl)).trans (show _ = .pointer (some ⟨w.heap.size + 1, 0, none⟩) from rfl)
      have e1 := (hs.get 2 (by kernel_rfl)).trans (show _ = .pointer (some ⟨w.heap.size, 0, none⟩) from rfl)
      clear hs hd
      unfold Oper.wp
      generalize a'.eval = ρ at e0 e1 ⊢
      simp [go_sem, e0, e1]
      exact hK _ _ (Below.refl _ _) ⟨_, _, rfl, (enters_of Try.func125 (by kernel_rfl) rfl), fun w1 h1 _ => strongest1_any _ _ _ n c _ w1 (keep (belowT hb h1) p1) (keep (belowT hb h1) p0)⟩) <|
        allOps_cons (fun a' w' hb hs hd => by
      exact rg_fn (φ := (mpChk (True) (if decide ((l : Int) ≤ (n : Int)) then (0 : Int) else 12)).p) (vs := #[.int .i64 12, a'.eval (.tmp 15)]) rfl (enters_of Try.func116 (by kernel_rfl) rfl) (by simp [(show a'.eval (.const (.int .i64 12)) = .int .i64 12 from rfl)]) ((require_chk 12 _ w' (show Cnd True (decide ((l : Int) ≤ (n : Int))) (a'.eval (.tmp 15)) w' from hd.get 4 15 (by kernel_rfl) (by kernel_rfl))))) <|
        allOps_cons (fun a' w' hb hs hd => rg_op fun K hK => by
      have k0 : (mpChk (True) (smE n g)).p (a'.eval (.tmp 12)) w' := hd.get 1 12 (by kernel_rfl) (by kernel_rfl)
      have k1 : (mpChk (True) (rgE (l : Int) 1 400)).p (a'.eval (.tmp 14)) w' := hd.get 3 14 (by kernel_rfl) (by kernel_rfl)
      have k2 : (mpChk (True) (if decide ((l : Int) ≤ (n : Int)) then (0 : Int) else 12)).p (a'.eval (.tmp 16)) w' := hd.get 5 16 (by kernel_rfl) (by kernel_rfl)
      clear hs hd
      unfold Oper.wp
      generalize a'.eval = ρ at k0 k1 k2 ⊢
      obtain ⟨g0, f0, e0, h0⟩ := k0
      obtain ⟨g1, f1, e1, h1⟩ := k1
      obtain ⟨g2, f2, e2, h2⟩ := k2
      simp [go_sem, e0, e1, e2]
      have hx := (Below.refl w'.heap.size w').alloc (Nat.le_refl _) (.cells #[.func (.func g0) #[] f0, .func (.func g1) #[] f1, .func (.func g2) #[] f2] 121)
      refine hK _ _ hx ⟨_, rfl, fun i => if i = 0 then .func (.func g0) #[] f0 else if i = 1 then .func (.func g1) #[] f1 else .func (.func g2) #[] f2, fun i hi => ?_, fun i hi => ?_⟩
      · rcases (by omega : i = 0 ∨ i = 1 ∨ i = 2) with rfl | rfl | rfl <;> simp [go_sem]
      · rcases (by omega : i = 0 ∨ i = 1 ∨ i = 2) with rfl | rfl | rfl
        · exact Chk.imp (Chk.on (show Chk (True) (smE n g) (.func (.func g0) #[] f0) w' from ⟨g0, f0, rfl, h0⟩) hx) (fun _ => trivial)
        · exact Chk.imp (Chk.on (show Chk (True) (rgE (l : Int) 1 400) (.func (.func g1) #[] f1) w' from ⟨g1, f1, rfl, h1⟩) hx) (fun _ => trivial)
        · exact Chk.imp (Chk.on (show Chk (True) (if decide ((l : Int) ≤ (n : Int)) then (0 : Int) else 12) (.func (.func g2) #[] f2) w' from ⟨g2, f2, rfl, h2⟩) hx) (fun _ => trivial)) <|
        allOps_cons (fun a' w' hb hs hd => by
      exact rg_fn (φ := (mpEq (.int .i64 (0))).p) (vs := #[a'.eval (.tmp 17)]) rfl (enters_of Try.func87 (by kernel_rfl) rfl) (by simp) ((first_chks (n := 3) (er := (fun i => if i = 0 then smE n g else if i = 1 then rgE (l : Int) 1 400 else if decide ((l : Int) ≤ (n : Int)) then (0 : Int) else 12)) (by omega) (by omega) (hd.get 6 17 (by kernel_rfl) (by kernel_rfl))).mono (by rintro e w1 ⟨rfl, h1⟩; exact ⟨_, rfl, h1, congrArg (Value.int .i64) ((ferr_3 _ _ _).trans hE)⟩))) <|
        allOps_cons (fun a' w' hb hs hd => rg_op fun K hK => by
      have e0 := (show a'.eval (.tmp 18) = .int .i64 (0) from hd.get 7 18 (by kernel_rfl) (by kernel_rfl))
      have ec : ∀ v, a'.eval (.const v) = v := fun _ => rfl
      clear hs hd
      unfold Oper.wp
      generalize a'.eval = ρ at e0 ec ⊢
      simp [go_sem, e0]
      exact hK _ _ (Below.refl _ _) rfl) <| allOps_nil) (fun V v1 hv1 hall => ?_)
  have h6 : V 6 = .int .i64 (0) := hall.get 8 rfl
  clear hall
  simp only [pj0, maskPut, Nat.reduceAdd]
  rw [h6]
  clear h6
  have HB1 := Lib.hid (belowT HB0.out hv1)
  replace p0 := keep hv1 p0
  replace p1 := keep hv1 p1
  clear hv1
  have x3 : IntKind.i64.wrap ((n : Int) - (l : Int)) = ((n - l : Nat) : Int) := by rw [IntWalk.i64_in _ (by omega)]; omega
  have x4 : IntKind.i64.wrap (((n - l : Nat) : Int) + 1) = ((n - l + 1 : Nat) : Int) := by rw [IntWalk.i64_in _ (by omega)]; omega
  go_wp2_with (go_at_call 110; (with_reducible refine Calls.mono (HE0.out _ HB1.out) ?_); rintro e z1 ⟨rfl, hz⟩; have HB2 := Lib.hid (belowT HB1.out hz); replace p0 := keep hz p0; replace p1 := keep hz p1; clear hz)
  clear HC0 HE0 HB1
  go_loopw [7, 8, 31] (fun s7 s8 s31 wr => ∃ k : Nat, k ≤ n - l + 1 ∧ s31 = .int .i64 k ∧ s7 = .int .i64 (bst (enF g l) k : Nat) ∧ s8 = .int .i64 (enF g l (bst (enF g l) k)) ∧ Hid (Below w.heap.size w wr) ∧ Hid (wr.cell? ⟨w.heap.size, 0, none⟩ = some (.slice (some ⟨b, o, none⟩) n c) ∧ wr.cell? ⟨w.heap.size + 1, 0, none⟩ = some (.int .i64 (l : Int)))) (fun _ _ i _ => n - (intOf i).toNat + 1)
  case atStart => exact ⟨0, Nat.zero_le _, rfl, rfl, rfl, HB2.out, p0, p1⟩
  case round =>
    obtain ⟨k, hk, rfl, rfl, rfl, HB, HL⟩ := hrel
    have l0 := HL.out.1
    have l1 := HL.out.2
    clear p0 p1
    have x1 : IntKind.i64.wrap ((k : Int) + (l : Int)) = (k : Int) + l := IntWalk.i64_in _ (by omega)
    by_cases hlt : k < n - l + 1
    · have HE1 := Lib.hid (HEN.out k (by omega))
      have HC1 := HCR.out k (by omega)
      have HS : Hid (bst (enF g l) (k + 1) = if enF g l k > enF g l (bst (enF g l) k) then k else bst (enF g l) k) := Lib.hid rfl
      have HE1' : Hid (∀ (W : World), Below w.heap.size w W → Calls Try.prog 110 #[.slice (some ⟨b, o + k * 2, none⟩) l (c - k)] W fun e w' => e = .returned (.int .i64 (enF g l k)) ∧ Below W.heap.size W w') := HE1
      clear HE1 HEN HCR HL
      have g1 : (k : Int) < ((n - l + 1 : Nat) : Int) := by omega
      generalize hq : bst (enF g l) k = q at *
      generalize he1 : enF g l k = e1 at *
      generalize he2 : enF g l q = e2 at *
      obtain ⟨bb, hbE⟩ : ∃ bb, decide (e2 < e1) = bb := ⟨_, rfl⟩
      cases bb
      · have hS : Hid (bst (enF g l) (k + 1) = q ∧ enF g l (bst (enF g l) (k + 1)) = e2) := Lib.hid (by rw [HS.out, if_neg (by simpa using hbE)]; exact ⟨rfl, he2⟩)
        have hbN : ¬ e2 < e1 := by simpa using hbE
        clear hbE
        go_wp2_with (go_at_call 110; (with_reducible refine Calls.mono (HE1'.out _ HB.out) ?_); rintro e z1 ⟨rfl, hz⟩; have HB3 := Lib.hid (belowT HB.out hz); have q0 := keep hz l0; have q1 := keep hz l1; clear hz)
        go_roundw
        case rel => exact ⟨k + 1, by omega, by go_num, by rw [hS.out.1], by rw [hS.out.2], HB3.out, q0, q1⟩
        case measure => simp [intOf]; omega
      · have hS : Hid (bst (enF g l) (k + 1) = k ∧ enF g l (bst (enF g l) (k + 1)) = e1) := Lib.hid (by rw [HS.out, if_pos (by simpa using hbE)]; exact ⟨rfl, he1⟩)
        have hbN : e2 < e1 := by simpa using hbE
        clear hbE
        go_wp2_with (go_at_call 110; (with_reducible refine Calls.mono (HE1'.out _ HB.out) ?_); rintro e z1 ⟨rfl, hz⟩; have HB3 := Lib.hid (belowT HB.out hz); have q0 := keep hz l0; have q1 := keep hz l1; clear hz)
        go_roundw
        case rel => exact ⟨k + 1, by omega, by go_num, by rw [hS.out.1], by rw [hS.out.2], HB3.out, q0, q1⟩
        case measure => simp [intOf]; omega
    · obtain rfl : k = n - l + 1 := by omega
      go_wp2
      go_ret2
      exact ⟨rfl, HB.out⟩
end Go.Proofs.Ytpkacfgmojblbaa
