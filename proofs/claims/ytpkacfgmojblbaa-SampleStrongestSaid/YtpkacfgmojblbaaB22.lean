/- The statement SampleStrongestSaid: whatever the samples and the length, the law SampleStrongest returns true, and its arguments read afterwards as before. -/
import Derived.Test.YtpkacfgmojblbaaB21
import Derived.Test.YtpkacfgmojblbaaB20
namespace Go.Proofs.Ytpkacfgmojblbaa
open Go.RowKit
attribute [local go_sem] old1 fro1 old2 fro2 old3 fro3 old4 fro4 old5 fro5 old6 fro6 old7 fro7 old8 fro8 old9 fro9 old10 fro10 old11 fro11 old12 fro12
set_option maxRecDepth 100000 in
set_option maxHeartbeats 800000 in
theorem copyGC_some (a : Addr) (n c : Nat) (g : Nat → Int × Int) (w : World) (hn : n ≤ 1000000) (hA : GA w (some a) n g) :
    Calls Try.prog 49 #[.slice (some a) n c] w fun e w' => ∃ v, e = .returned v ∧ Below w.heap.size w w' ∧ GC w' v n g := by
  obtain ⟨i0, hi0, hz0, hz1, hz2⟩ := info_parts infoG
  have HN := Lib.hid (gLive hA)
  have hl := gV_len g n
  clear hA
  go_enter Try.func49, Try.ntmps49
  go_wp2_with (first
    | (at_builtin; go_loud (refine wpList_append_own_at _ rfl _ _ 42 rfl w.heap.size 23 i0 _ 2 16 undGs hi0 hz0 hz1 hz2 rfl (by decide) _ 0 [] rfl (World.ownsRow_made w #[] 0 (Nat.le_refl _) (by unfold maxLen; omega) rfl) a n c (gV n g) rfl hl (fun j u hu => (World.cell?_alloc_some w _ _ (by rw [HN.out j u hu]; rfl)).trans (HN.out j u hu)) (by simp [Value.oneCell']; intro u hu; obtain ⟨x, rfl⟩ := gV_ints g n u hu; rfl) (by unfold maxLen; omega) (by omega) (by simp) ?_; intro v' w5 hown' hgrow hnil hloc; have hA' := own_GC (g := g) (by simpa using hown'); have HB5 : Below w.heap.size w w5 := ((Below.refl w.heap.size w).alloc (Nat.le_refl _) _).grown hgrow (by first | (simp; done) | (simp; omega) | omega) (fun k h => by cases h; exact Nat.le_refl _); have HA5 := Lib.hid hA'; clear hown' hgrow hnil hloc hA'))
    | fail)
  go_ret
  exact ⟨_, rfl, HB5, HA5.out⟩
theorem copyGC_any (v : Value) (n : Nat) (g : Nat → Int × Int) (w : World) (hn : n ≤ 1000000) (h : GS w v n g) :
    Calls Try.prog 49 #[v] w fun e w' => ∃ v, e = .returned v ∧ Below w.heap.size w w' ∧ GC w' v n g := by
  obtain ⟨A, c, rfl, hA, h0⟩ := h
  match A, hA, h0 with
  | none, _, h0 =>
    obtain ⟨rfl, rfl⟩ := h0 rfl
    exact (copyG_nil g w).mono fun e w1 ⟨v, e1, hb, A', c', e2, h1, h2⟩ => ⟨v, e1, hb, A', c', e2, h1, h2, Nat.zero_le _⟩
  | some a, hA, _ => exact copyGC_some a n c g w hn hA
theorem strongestS_all (A : Option Addr) (n c : Nat) (g : Nat → Int × Int) (L E : Int) (hE : stE n g L = E) (w : World) (hn : n ≤ 1000000000) (hc : n ≤ c) (hA : GA w A n g) :
    Calls Try.prog 83 #[.slice A n c, .int .i64 L] w fun e w' => e = .returned (.tuple #[.int .i64 (if E = 0 then (bst (enF g L.toNat) (n - L.toNat + 1) : Nat) else 0), .int .i64 E]) ∧ Below w.heap.size w w' := by
  by_cases h0 : E = 0
  · rw [if_pos h0]
    subst h0
    have h := hE
    unfold stE at h
    by_cases q : smE n g = 0
    · rw [if_pos q] at h
      by_cases q2 : rgE L 1 400 = 0
      · rw [if_pos q2] at h
        obtain ⟨a1, a2⟩ := rg_0 q2
        by_cases q3 : L ≤ (n : Int)
        · obtain ⟨l, rfl⟩ : ∃ l : Nat, L = l := ⟨L.toNat, by omega⟩
          obtain ⟨b, o, rfl, _⟩ := id hA (by omega)
          rw [Int.toNat_natCast]
          exact strongestS_ok b o n c g l hE w (by omega) (by omega) hc hA
        · simp [q3] at h
      · rw [if_neg q2] at h; exact absurd h q2
    · rw [if_neg q] at h; exact absurd h q
  · rw [if_neg h0]
    exact strongestS_err A n c g L E hE h0 w hn hA
set_option maxRecDepth 100000 in
set_option maxHeartbeats 800000 in
theorem ss_many (A : Option Addr) (n c : Nat) (L : Int) (w : World) (hs : shr n = false) :
    Calls Try.prog 15 #[.slice A n c, .int .i64 L] w fun e w' => e = .returned (.bool true) ∧ Below w.heap.size w w' := by
  have HSH := Lib.hid (fun W => short_any A n c W)
  rw [hs] at HSH
  go_enter Try.func15, Try.ntmps15
  go_wp2_with (first
    | (go_at_call 17; (with_reducible refine Calls.mono (awake_any _) ?_); rintro e yx ⟨rfl, hbx⟩; (try replace TC := Lib.hid (TC.out.bel hbx)); (first | replace BV := Lib.hid (belowT (show Below w.heap.size w _ by have Bq := BV.out; have Bz := Bq.size; (repeat (first | with_reducible exact Below.refl _ _ | with_reducible assumption | with_reducible refine Below.alloc ?_ (by first | (simp; done) | (simp; omega) | omega) _ | with_reducible refine Below.setCell ?_ (by first | (simp; done) | (simp; omega) | omega) _ | with_reducible refine Below.drew ?_ | with_reducible refine below_drewN ?_ _))) hbx) | have BV := Lib.hid (belowT (show Below w.heap.size w _ by (repeat (first | with_reducible exact Below.refl _ _ | with_reducible assumption | with_reducible refine Below.alloc ?_ (by first | (simp; done) | (simp; omega) | omega) _ | with_reducible refine Below.setCell ?_ (by first | (simp; done) | (simp; omega) | omega) _ | with_reducible refine Below.drew ?_ | with_reducible refine below_drewN ?_ _))) hbx)); clear hbx)
    | (go_at_call 47; (with_reducible refine Calls.mono (HSH.out _) ?_); rintro e yx ⟨rfl, hbx⟩; (try replace TC := Lib.hid (TC.out.bel hbx)); (first | replace BV := Lib.hid (belowT (show Below w.heap.size w _ by have Bq := BV.out; have Bz := Bq.size; (repeat (first | with_reducible exact Below.refl _ _ | with_reducible assumption | with_reducible refine Below.alloc ?_ (by first | (simp; done) | (simp; omega) | omega) _ | with_reducible refine Below.setCell ?_ (by first | (simp; done) | (simp; omega) | omega) _ | with_reducible refine Below.drew ?_ | with_reducible refine below_drewN ?_ _))) hbx) | have BV := Lib.hid (belowT (show Below w.heap.size w _ by (repeat (first | with_reducible exact Below.refl _ _ | with_reducible assumption | with_reducible refine Below.alloc ?_ (by first | (simp; done) | (simp; omega) | omega) _ | with_reducible refine Below.setCell ?_ (by first | (simp; done) | (simp; omega) | omega) _ | with_reducible refine Below.drew ?_ | with_reducible refine below_drewN ?_ _))) hbx)); clear hbx))
  go_ret
  exact ⟨rfl, BV.out⟩
set_option maxRecDepth 100000 in
set_option maxHeartbeats 2000000 in
theorem ss_d (A : Option Addr) (n c : Nat) (g : Nat → Int × Int) (L D : Int) (D0 : D ≠ 0) (w : World) (hs : shr n = true) (hD : smE n g = D) (hG : GS w (.slice A n c) n g) :
    Calls Try.prog 15 #[.slice A n c, .int .i64 L] w fun e w' => e = .returned (.bool true) ∧ Below w.heap.size w w' := by
  have hn : n ≤ 404 := by unfold shr at hs; simp at hs; omega
  have hA : GA w A n g := by obtain ⟨A', c', e, h, _⟩ := hG; cases e; exact h
  have hE : stE n g L = D := by unfold stE; rw [hD, if_neg D0]
  have HSH := Lib.hid (fun W => short_any A n c W)
  rw [hs] at HSH
  have HCG := Lib.hid (fun W (hW : Below w.heap.size w W) => copyGC_any (.slice A n c) n g W (by omega) (hG.on hW))
  have HST := Lib.hid (fun A1 c1 W (h : GA W A1 n g ∧ n ≤ c1) => strongestS_all A1 n c1 g L (D) hE W (by omega) h.2 h.1)
  have HSE := Lib.hid (fun W (hW : Below w.heap.size w W) => samplesErr_any A n c g W (by omega) (hA.bel hW))
  rw [hD] at HSE
  rw [if_neg (D0)] at HST
  have d1 : (D == 0) = false := by simpa using D0
  have d2 : (D != 0) = true := by simpa using D0
  clear D0
  clear hD hE hA hG hs
  go_enter Try.func15, Try.ntmps15
  go_wp2_with (first
    | (go_at_call 17; (with_reducible refine Calls.mono (awake_any _) ?_); rintro e yx ⟨rfl, hbx⟩; (try replace TC := Lib.hid (TC.out.bel hbx)); (first | replace BV := Lib.hid (belowT (show Below w.heap.size w _ by have Bq := BV.out; have Bz := Bq.size; (repeat (first | with_reducible exact Below.refl _ _ | with_reducible assumption | with_reducible refine Below.alloc ?_ (by first | (simp; done) | (simp; omega) | omega) _ | with_reducible refine Below.setCell ?_ (by first | (simp; done) | (simp; omega) | omega) _ | with_reducible refine Below.drew ?_ | with_reducible refine below_drewN ?_ _))) hbx) | have BV := Lib.hid (belowT (show Below w.heap.size w _ by (repeat (first | with_reducible exact Below.refl _ _ | with_reducible assumption | with_reducible refine Below.alloc ?_ (by first | (simp; done) | (simp; omega) | omega) _ | with_reducible refine Below.setCell ?_ (by first | (simp; done) | (simp; omega) | omega) _ | with_reducible refine Below.drew ?_ | with_reducible refine below_drewN ?_ _))) hbx)); clear hbx)
    | (go_at_call 47; (with_reducible refine Calls.mono (HSH.out _) ?_); rintro e yx ⟨rfl, hbx⟩; (try replace TC := Lib.hid (TC.out.bel hbx)); (first | replace BV := Lib.hid (belowT (show Below w.heap.size w _ by have Bq := BV.out; have Bz := Bq.size; (repeat (first | with_reducible exact Below.refl _ _ | with_reducible assumption | with_reducible refine Below.alloc ?_ (by first | (simp; done) | (simp; omega) | omega) _ | with_reducible refine Below.setCell ?_ (by first | (simp; done) | (simp; omega) | omega) _ | with_reducible refine Below.drew ?_ | with_reducible refine below_drewN ?_ _))) hbx) | have BV := Lib.hid (belowT (show Below w.heap.size w _ by (repeat (first | with_reducible exact Below.refl _ _ | with_reducible assumption | with_reducible refine Below.alloc ?_ (by first | (simp; done) | (simp; omega) | omega) _ | with_reducible refine Below.setCell ?_ (by first | (simp; done) | (simp; omega) | omega) _ | with_reducible refine Below.drew ?_ | with_reducible refine below_drewN ?_ _))) hbx)); clear hbx)
    | (go_at_call 49; (with_reducible refine Calls.mono (HCG.out _ (by first | exact BV.out | (repeat (first | with_reducible exact Below.refl _ _ | with_reducible assumption | with_reducible refine Below.alloc ?_ (by first | (simp; done) | (simp; omega) | omega) _ | with_reducible refine Below.setCell ?_ (by first | (simp; done) | (simp; omega) | omega) _ | with_reducible refine Below.drew ?_ | with_reducible refine below_drewN ?_ _)))) ?_); rintro e yx ⟨vc, rfl, hbx, Ac, cc, rfl, hGc, _, hcc⟩; (try replace TC := Lib.hid (TC.out.bel hbx)); (first | replace BV := Lib.hid (belowT (show Below w.heap.size w _ by have Bq := BV.out; have Bz := Bq.size; (repeat (first | with_reducible exact Below.refl _ _ | with_reducible assumption | with_reducible refine Below.alloc ?_ (by first | (simp; done) | (simp; omega) | omega) _ | with_reducible refine Below.setCell ?_ (by first | (simp; done) | (simp; omega) | omega) _ | with_reducible refine Below.drew ?_ | with_reducible refine below_drewN ?_ _))) hbx) | have BV := Lib.hid (belowT (show Below w.heap.size w _ by (repeat (first | with_reducible exact Below.refl _ _ | with_reducible assumption | with_reducible refine Below.alloc ?_ (by first | (simp; done) | (simp; omega) | omega) _ | with_reducible refine Below.setCell ?_ (by first | (simp; done) | (simp; omega) | omega) _ | with_reducible refine Below.drew ?_ | with_reducible refine below_drewN ?_ _))) hbx)); have TC := Lib.hid hGc; have TD := Lib.hid hcc; clear hGc hcc; clear hbx)
    | (go_at_call 83; (with_reducible refine Calls.mono (HST.out _ _ _ ⟨TC.out, TD.out⟩) ?_); rintro e yx ⟨rfl, hbx⟩; (try replace TC := Lib.hid (TC.out.bel hbx)); (first | replace BV := Lib.hid (belowT (show Below w.heap.size w _ by have Bq := BV.out; have Bz := Bq.size; (repeat (first | with_reducible exact Below.refl _ _ | with_reducible assumption | with_reducible refine Below.alloc ?_ (by first | (simp; done) | (simp; omega) | omega) _ | with_reducible refine Below.setCell ?_ (by first | (simp; done) | (simp; omega) | omega) _ | with_reducible refine Below.drew ?_ | with_reducible refine below_drewN ?_ _))) hbx) | have BV := Lib.hid (belowT (show Below w.heap.size w _ by (repeat (first | with_reducible exact Below.refl _ _ | with_reducible assumption | with_reducible refine Below.alloc ?_ (by first | (simp; done) | (simp; omega) | omega) _ | with_reducible refine Below.setCell ?_ (by first | (simp; done) | (simp; omega) | omega) _ | with_reducible refine Below.drew ?_ | with_reducible refine below_drewN ?_ _))) hbx)); clear hbx)
    | (go_at_call 53; (with_reducible refine Calls.mono (HSE.out _ BV.out) ?_); rintro e yx ⟨rfl, hbx⟩; (try replace TC := Lib.hid (TC.out.bel hbx)); (first | replace BV := Lib.hid (belowT (show Below w.heap.size w _ by have Bq := BV.out; have Bz := Bq.size; (repeat (first | with_reducible exact Below.refl _ _ | with_reducible assumption | with_reducible refine Below.alloc ?_ (by first | (simp; done) | (simp; omega) | omega) _ | with_reducible refine Below.setCell ?_ (by first | (simp; done) | (simp; omega) | omega) _ | with_reducible refine Below.drew ?_ | with_reducible refine below_drewN ?_ _))) hbx) | have BV := Lib.hid (belowT (show Below w.heap.size w _ by (repeat (first | with_reducible exact Below.refl _ _ | with_reducible assumption | with_reducible refine Below.alloc ?_ (by first | (simp; done) | (simp; omega) | omega) _ | with_reducible refine Below.setCell ?_ (by first | (simp; done) | (simp; omega) | omega) _ | with_reducible refine Below.drew ?_ | with_reducible refine below_drewN ?_ _))) hbx)); clear hbx)
    | (go_at_call 21; (with_reducible refine Calls.mono (bwithin_any _ _ _ _) ?_); rintro e yx ⟨rfl, rfl⟩))
  go_ret
  exact ⟨rfl, BV.out⟩
set_option maxRecDepth 100000 in
set_option maxHeartbeats 2000000 in
theorem ss_w (A : Option Addr) (n c : Nat) (g : Nat → Int × Int) (L : Int) (w : World) (hs : shr n = true) (hD : smE n g = 0) (hw : wi L 1 400 = false) (hG : GS w (.slice A n c) n g) :
    Calls Try.prog 15 #[.slice A n c, .int .i64 L] w fun e w' => e = .returned (.bool true) ∧ Below w.heap.size w w' := by
  have hn : n ≤ 404 := by unfold shr at hs; simp at hs; omega
  have hA : GA w A n g := by obtain ⟨A', c', e, h, _⟩ := hG; cases e; exact h
  have hE : stE n g L = 2 := by unfold stE rgE; rw [hD, hw]; rfl
  have HSH := Lib.hid (fun W => short_any A n c W)
  rw [hs] at HSH
  have HCG := Lib.hid (fun W (hW : Below w.heap.size w W) => copyGC_any (.slice A n c) n g W (by omega) (hG.on hW))
  have HST := Lib.hid (fun A1 c1 W (h : GA W A1 n g ∧ n ≤ c1) => strongestS_all A1 n c1 g L (2) hE W (by omega) h.2 h.1)
  have HSE := Lib.hid (fun W (hW : Below w.heap.size w W) => samplesErr_any A n c g W (by omega) (hA.bel hW))
  rw [hD] at HSE
  rw [if_neg (by decide)] at HST
  clear hD hE hA hG hs
  go_enter Try.func15, Try.ntmps15
  go_wp2_with (first
    | (go_at_call 17; (with_reducible refine Calls.mono (awake_any _) ?_); rintro e yx ⟨rfl, hbx⟩; (try replace TC := Lib.hid (TC.out.bel hbx)); (first | replace BV := Lib.hid (belowT (show Below w.heap.size w _ by have Bq := BV.out; have Bz := Bq.size; (repeat (first | with_reducible exact Below.refl _ _ | with_reducible assumption | with_reducible refine Below.alloc ?_ (by first | (simp; done) | (simp; omega) | omega) _ | with_reducible refine Below.setCell ?_ (by first | (simp; done) | (simp; omega) | omega) _ | with_reducible refine Below.drew ?_ | with_reducible refine below_drewN ?_ _))) hbx) | have BV := Lib.hid (belowT (show Below w.heap.size w _ by (repeat (first | with_reducible exact Below.refl _ _ | with_reducible assumption | with_reducible refine Below.alloc ?_ (by first | (simp; done) | (simp; omega) | omega) _ | with_reducible refine Below.setCell ?_ (by first | (simp; done) | (simp; omega) | omega) _ | with_reducible refine Below.drew ?_ | with_reducible refine below_drewN ?_ _))) hbx)); clear hbx)
    | (go_at_call 47; (with_reducible refine Calls.mono (HSH.out _) ?_); rintro e yx ⟨rfl, hbx⟩; (try replace TC := Lib.hid (TC.out.bel hbx)); (first | replace BV := Lib.hid (belowT (show Below w.heap.size w _ by have Bq := BV.out; have Bz := Bq.size; (repeat (first | with_reducible exact Below.refl _ _ | with_reducible assumption | with_reducible refine Below.alloc ?_ (by first | (simp; done) | (simp; omega) | omega) _ | with_reducible refine Below.setCell ?_ (by first | (simp; done) | (simp; omega) | omega) _ | with_reducible refine Below.drew ?_ | with_reducible refine below_drewN ?_ _))) hbx) | have BV := Lib.hid (belowT (show Below w.heap.size w _ by (repeat (first | with_reducible exact Below.refl _ _ | with_reducible assumption | with_reducible refine Below.alloc ?_ (by first | (simp; done) | (simp; omega) | omega) _ | with_reducible refine Below.setCell ?_ (by first | (simp; done) | (simp; omega) | omega) _ | with_reducible refine Below.drew ?_ | with_reducible refine below_drewN ?_ _))) hbx)); clear hbx)
    | (go_at_call 49; (with_reducible refine Calls.mono (HCG.out _ (by first | exact BV.out | (repeat (first | with_reducible exact Below.refl _ _ | with_reducible assumption | with_reducible refine Below.alloc ?_ (by first | (simp; done) | (simp; omega) | omega) _ | with_reducible refine Below.setCell ?_ (by first | (simp; done) | (simp; omega) | omega) _ | with_reducible refine Below.drew ?_ | with_reducible refine below_drewN ?_ _)))) ?_); rintro e yx ⟨vc, rfl, hbx, Ac, cc, rfl, hGc, _, hcc⟩; (try replace TC := Lib.hid (TC.out.bel hbx)); (first | replace BV := Lib.hid (belowT (show Below w.heap.size w _ by have Bq := BV.out; have Bz := Bq.size; (repeat (first | with_reducible exact Below.refl _ _ | with_reducible assumption | with_reducible refine Below.alloc ?_ (by first | (simp; done) | (simp; omega) | omega) _ | with_reducible refine Below.setCell ?_ (by first | (simp; done) | (simp; omega) | omega) _ | with_reducible refine Below.drew ?_ | with_reducible refine below_drewN ?_ _))) hbx) | have BV := Lib.hid (belowT (show Below w.heap.size w _ by (repeat (first | with_reducible exact Below.refl _ _ | with_reducible assumption | with_reducible refine Below.alloc ?_ (by first | (simp; done) | (simp; omega) | omega) _ | with_reducible refine Below.setCell ?_ (by first | (simp; done) | (simp; omega) | omega) _ | with_reducible refine Below.drew ?_ | with_reducible refine below_drewN ?_ _))) hbx)); have TC := Lib.hid hGc; have TD := Lib.hid hcc; clear hGc hcc; clear hbx)
    | (go_at_call 83; (with_reducible refine Calls.mono (HST.out _ _ _ ⟨TC.out, TD.out⟩) ?_); rintro e yx ⟨rfl, hbx⟩; (try replace TC := Lib.hid (TC.out.bel hbx)); (first | replace BV := Lib.hid (belowT (show Below w.heap.size w _ by have Bq := BV.out; have Bz := Bq.size; (repeat (first | with_reducible exact Below.refl _ _ | with_reducible assumption | with_reducible refine Below.alloc ?_ (by first | (simp; done) | (simp; omega) | omega) _ | with_reducible refine Below.setCell ?_ (by first | (simp; done) | (simp; omega) | omega) _ | with_reducible refine Below.drew ?_ | with_reducible refine below_drewN ?_ _))) hbx) | have BV := Lib.hid (belowT (show Below w.heap.size w _ by (repeat (first | with_reducible exact Below.refl _ _ | with_reducible assumption | with_reducible refine Below.alloc ?_ (by first | (simp; done) | (simp; omega) | omega) _ | with_reducible refine Below.setCell ?_ (by first | (simp; done) | (simp; omega) | omega) _ | with_reducible refine Below.drew ?_ | with_reducible refine below_drewN ?_ _))) hbx)); clear hbx)
    | (go_at_call 53; (with_reducible refine Calls.mono (HSE.out _ BV.out) ?_); rintro e yx ⟨rfl, hbx⟩; (try replace TC := Lib.hid (TC.out.bel hbx)); (first | replace BV := Lib.hid (belowT (show Below w.heap.size w _ by have Bq := BV.out; have Bz := Bq.size; (repeat (first | with_reducible exact Below.refl _ _ | with_reducible assumption | with_reducible refine Below.alloc ?_ (by first | (simp; done) | (simp; omega) | omega) _ | with_reducible refine Below.setCell ?_ (by first | (simp; done) | (simp; omega) | omega) _ | with_reducible refine Below.drew ?_ | with_reducible refine below_drewN ?_ _))) hbx) | have BV := Lib.hid (belowT (show Below w.heap.size w _ by (repeat (first | with_reducible exact Below.refl _ _ | with_reducible assumption | with_reducible refine Below.alloc ?_ (by first | (simp; done) | (simp; omega) | omega) _ | with_reducible refine Below.setCell ?_ (by first | (simp; done) | (simp; omega) | omega) _ | with_reducible refine Below.drew ?_ | with_reducible refine below_drewN ?_ _))) hbx)); clear hbx)
    | (go_at_call 21; (with_reducible refine Calls.mono (bwithin_any _ _ _ _) ?_); rintro e yx ⟨rfl, rfl⟩))
  go_ret
  exact ⟨rfl, BV.out⟩
set_option maxRecDepth 100000 in
set_option maxHeartbeats 2000000 in
theorem ss_l (A : Option Addr) (n c : Nat) (g : Nat → Int × Int) (L : Int) (w : World) (hs : shr n = true) (hD : smE n g = 0) (hw : wi L 1 400 = true) (hL : ¬ L ≤ (n : Int)) (hG : GS w (.slice A n c) n g) :
    Calls Try.prog 15 #[.slice A n c, .int .i64 L] w fun e w' => e = .returned (.bool true) ∧ Below w.heap.size w w' := by
  have hn : n ≤ 404 := by unfold shr at hs; simp at hs; omega
  have hA : GA w A n g := by obtain ⟨A', c', e, h, _⟩ := hG; cases e; exact h
  have hE : stE n g L = 12 := by unfold stE rgE; rw [hD, hw]; simp [hL]
  have HSH := Lib.hid (fun W => short_any A n c W)
  rw [hs] at HSH
  have HCG := Lib.hid (fun W (hW : Below w.heap.size w W) => copyGC_any (.slice A n c) n g W (by omega) (hG.on hW))
  have HST := Lib.hid (fun A1 c1 W (h : GA W A1 n g ∧ n ≤ c1) => strongestS_all A1 n c1 g L (12) hE W (by omega) h.2 h.1)
  have HSE := Lib.hid (fun W (hW : Below w.heap.size w W) => samplesErr_any A n c g W (by omega) (hA.bel hW))
  rw [hD] at HSE
  rw [if_neg (by decide)] at HST
  have hL2 : (n : Int) < L := by omega
  clear hD hE hA hG hs
  go_enter Try.func15, Try.ntmps15
  go_wp2_with (first
    | (go_at_call 17; (with_reducible refine Calls.mono (awake_any _) ?_); rintro e yx ⟨rfl, hbx⟩; (try replace TC := Lib.hid (TC.out.bel hbx)); (first | replace BV := Lib.hid (belowT (show Below w.heap.size w _ by have Bq := BV.out; have Bz := Bq.size; (repeat (first | with_reducible exact Below.refl _ _ | with_reducible assumption | with_reducible refine Below.alloc ?_ (by first | (simp; done) | (simp; omega) | omega) _ | with_reducible refine Below.setCell ?_ (by first | (simp; done) | (simp; omega) | omega) _ | with_reducible refine Below.drew ?_ | with_reducible refine below_drewN ?_ _))) hbx) | have BV := Lib.hid (belowT (show Below w.heap.size w _ by (repeat (first | with_reducible exact Below.refl _ _ | with_reducible assumption | with_reducible refine Below.alloc ?_ (by first | (simp; done) | (simp; omega) | omega) _ | with_reducible refine Below.setCell ?_ (by first | (simp; done) | (simp; omega) | omega) _ | with_reducible refine Below.drew ?_ | with_reducible refine below_drewN ?_ _))) hbx)); clear hbx)
    | (go_at_call 47; (with_reducible refine Calls.mono (HSH.out _) ?_); rintro e yx ⟨rfl, hbx⟩; (try replace TC := Lib.hid (TC.out.bel hbx)); (first | replace BV := Lib.hid (belowT (show Below w.heap.size w _ by have Bq := BV.out; have Bz := Bq.size; (repeat (first | with_reducible exact Below.refl _ _ | with_reducible assumption | with_reducible refine Below.alloc ?_ (by first | (simp; done) | (simp; omega) | omega) _ | with_reducible refine Below.setCell ?_ (by first | (simp; done) | (simp; omega) | omega) _ | with_reducible refine Below.drew ?_ | with_reducible refine below_drewN ?_ _))) hbx) | have BV := Lib.hid (belowT (show Below w.heap.size w _ by (repeat (first | with_reducible exact Below.refl _ _ | with_reducible assumption | with_reducible refine Below.alloc ?_ (by first | (simp; done) | (simp; omega) | omega) _ | with_reducible refine Below.setCell ?_ (by first | (simp; done) | (simp; omega) | omega) _ | with_reducible refine Below.drew ?_ | with_reducible refine below_drewN ?_ _))) hbx)); clear hbx)
    | (go_at_call 49; (with_reducible refine Calls.mono (HCG.out _ (by first | exact BV.out | (repeat (first | with_reducible exact Below.refl _ _ | with_reducible assumption | with_reducible refine Below.alloc ?_ (by first | (simp; done) | (simp; omega) | omega) _ | with_reducible refine Below.setCell ?_ (by first | (simp; done) | (simp; omega) | omega) _ | with_reducible refine Below.drew ?_ | with_reducible refine below_drewN ?_ _)))) ?_); rintro e yx ⟨vc, rfl, hbx, Ac, cc, rfl, hGc, _, hcc⟩; (try replace TC := Lib.hid (TC.out.bel hbx)); (first | replace BV := Lib.hid (belowT (show Below w.heap.size w _ by have Bq := BV.out; have Bz := Bq.size; (repeat (first | with_reducible exact Below.refl _ _ | with_reducible assumption | with_reducible refine Below.alloc ?_ (by first | (simp; done) | (simp; omega) | omega) _ | with_reducible refine Below.setCell ?_ (by first | (simp; done) | (simp; omega) | omega) _ | with_reducible refine Below.drew ?_ | with_reducible refine below_drewN ?_ _))) hbx) | have BV := Lib.hid (belowT (show Below w.heap.size w _ by (repeat (first | with_reducible exact Below.refl _ _ | with_reducible assumption | with_reducible refine Below.alloc ?_ (by first | (simp; done) | (simp; omega) | omega) _ | with_reducible refine Below.setCell ?_ (by first | (simp; done) | (simp; omega) | omega) _ | with_reducible refine Below.drew ?_ | with_reducible refine below_drewN ?_ _))) hbx)); have TC := Lib.hid hGc; have TD := Lib.hid hcc; clear hGc hcc; clear hbx)
    | (go_at_call 83; (with_reducible refine Calls.mono (HST.out _ _ _ ⟨TC.out, TD.out⟩) ?_); rintro e yx ⟨rfl, hbx⟩; (try replace TC := Lib.hid (TC.out.bel hbx)); (first | replace BV := Lib.hid (belowT (show Below w.heap.size w _ by have Bq := BV.out; have Bz := Bq.size; (repeat (first | with_reducible exact Below.refl _ _ | with_reducible assumption | with_reducible refine Below.alloc ?_ (by first | (simp; done) | (simp; omega) | omega) _ | with_reducible refine Below.setCell ?_ (by first | (simp; done) | (simp; omega) | omega) _ | with_reducible refine Below.drew ?_ | with_reducible refine below_drewN ?_ _))) hbx) | have BV := Lib.hid (belowT (show Below w.heap.size w _ by (repeat (first | with_reducible exact Below.refl _ _ | with_reducible assumption | with_reducible refine Below.alloc ?_ (by first | (simp; done) | (simp; omega) | omega) _ | with_reducible refine Below.setCell ?_ (by first | (simp; done) | (simp; omega) | omega) _ | with_reducible refine Below.drew ?_ | with_reducible refine below_drewN ?_ _))) hbx)); clear hbx)
    | (go_at_call 53; (with_reducible refine Calls.mono (HSE.out _ BV.out) ?_); rintro e yx ⟨rfl, hbx⟩; (try replace TC := Lib.hid (TC.out.bel hbx)); (first | replace BV := Lib.hid (belowT (show Below w.heap.size w _ by have Bq := BV.out; have Bz := Bq.size; (repeat (first | with_reducible exact Below.refl _ _ | with_reducible assumption | with_reducible refine Below.alloc ?_ (by first | (simp; done) | (simp; omega) | omega) _ | with_reducible refine Below.setCell ?_ (by first | (simp; done) | (simp; omega) | omega) _ | with_reducible refine Below.drew ?_ | with_reducible refine below_drewN ?_ _))) hbx) | have BV := Lib.hid (belowT (show Below w.heap.size w _ by (repeat (first | with_reducible exact Below.refl _ _ | with_reducible assumption | with_reducible refine Below.alloc ?_ (by first | (simp; done) | (simp; omega) | omega) _ | with_reducible refine Below.setCell ?_ (by first | (simp; done) | (simp; omega) | omega) _ | with_reducible refine Below.drew ?_ | with_reducible refine below_drewN ?_ _))) hbx)); clear hbx)
    | (go_at_call 21; (with_reducible refine Calls.mono (bwithin_any _ _ _ _) ?_); rintro e yx ⟨rfl, rfl⟩))
  go_ret
  exact ⟨rfl, BV.out⟩
set_option maxRecDepth 100000 in
set_option maxHeartbeats 2000000 in
theorem ss_ok (A : Option Addr) (n c : Nat) (g : Nat → Int × Int) (l : Nat) (w : World) (hs : shr n = true) (hD : smE n g = 0) (hw : wi (l : Int) 1 400 = true) (hl : 0 < l) (hln : l ≤ n) (hc : n ≤ c) (hG : GS w (.slice A n c) n g) :
    Calls Try.prog 15 #[.slice A n c, .int .i64 (l : Int)] w fun e w' => e = .returned (.bool true) ∧ Below w.heap.size w w' := by
  have hn : n ≤ 404 := by unfold shr at hs; simp at hs; omega
  have hA : GA w A n g := by obtain ⟨A', c', e, h, _⟩ := hG; cases e; exact h
  have hE : stE n g (l : Int) = 0 := by unfold stE rgE; rw [hD, hw]; simp; omega
  have HSH := Lib.hid (fun W => short_any A n c W)
  rw [hs] at HSH
  have HCG := Lib.hid (fun W (hW : Below w.heap.size w W) => copyGC_any (.slice A n c) n g W (by omega) (hG.on hW))
  have HST := Lib.hid (fun A1 c1 W (h : GA W A1 n g ∧ n ≤ c1) => strongestS_all A1 n c1 g (l : Int) (0) hE W (by omega) h.2 h.1)
  have HSE := Lib.hid (fun W (hW : Below w.heap.size w W) => samplesErr_any A n c g W (by omega) (hA.bel hW))
  rw [hD] at HSE
  rw [if_pos rfl] at HST
  obtain ⟨_, h2000⟩ := sm_0 hD
  obtain ⟨b, o, rfl, _⟩ := id hA (by omega)
  have hw2 := wi_t.1 hw
  have HSR := Lib.hid (fun W (hW : Below w.heap.size w W) => strongestR_any b o n c g l W (by omega) hl hln hc (hA.bel hW) h2000)
  rw [Int.toNat_natCast] at HST
  generalize bst (enF g l) (n - l + 1) = q at *
  clear h2000 hw2
  have hL2 : ¬ (n : Int) < (l : Int) := by omega
  clear hD hE hA hG hs
  go_enter Try.func15, Try.ntmps15
  go_wp2_with (first
    | (go_at_call 17; (with_reducible refine Calls.mono (awake_any _) ?_); rintro e yx ⟨rfl, hbx⟩; (try replace TC := Lib.hid (TC.out.bel hbx)); (first | replace BV := Lib.hid (belowT (show Below w.heap.size w _ by have Bq := BV.out; have Bz := Bq.size; (repeat (first | with_reducible exact Below.refl _ _ | with_reducible assumption | with_reducible refine Below.alloc ?_ (by first | (simp; done) | (simp; omega) | omega) _ | with_reducible refine Below.setCell ?_ (by first | (simp; done) | (simp; omega) | omega) _ | with_reducible refine Below.drew ?_ | with_reducible refine below_drewN ?_ _))) hbx) | have BV := Lib.hid (belowT (show Below w.heap.size w _ by (repeat (first | with_reducible exact Below.refl _ _ | with_reducible assumption | with_reducible refine Below.alloc ?_ (by first | (simp; done) | (simp; omega) | omega) _ | with_reducible refine Below.setCell ?_ (by first | (simp; done) | (simp; omega) | omega) _ | with_reducible refine Below.drew ?_ | with_reducible refine below_drewN ?_ _))) hbx)); clear hbx)
    | (go_at_call 47; (with_reducible refine Calls.mono (HSH.out _) ?_); rintro e yx ⟨rfl, hbx⟩; (try replace TC := Lib.hid (TC.out.bel hbx)); (first | replace BV := Lib.hid (belowT (show Below w.heap.size w _ by have Bq := BV.out; have Bz := Bq.size; (repeat (first | with_reducible exact Below.refl _ _ | with_reducible assumption | with_reducible refine Below.alloc ?_ (by first | (simp; done) | (simp; omega) | omega) _ | with_reducible refine Below.setCell ?_ (by first | (simp; done) | (simp; omega) | omega) _ | with_reducible refine Below.drew ?_ | with_reducible refine below_drewN ?_ _))) hbx) | have BV := Lib.hid (belowT (show Below w.heap.size w _ by (repeat (first | with_reducible exact Below.refl _ _ | with_reducible assumption | with_reducible refine Below.alloc ?_ (by first | (simp; done) | (simp; omega) | omega) _ | with_reducible refine Below.setCell ?_ (by first | (simp; done) | (simp; omega) | omega) _ | with_reducible refine Below.drew ?_ | with_reducible refine below_drewN ?_ _))) hbx)); clear hbx)
    | (go_at_call 49; (with_reducible refine Calls.mono (HCG.out _ (by first | exact BV.out | (repeat (first | with_reducible exact Below.refl _ _ | with_reducible assumption | with_reducible refine Below.alloc ?_ (by first | (simp; done) | (simp; omega) | omega) _ | with_reducible refine Below.setCell ?_ (by first | (simp; done) | (simp; omega) | omega) _ | with_reducible refine Below.drew ?_ | with_reducible refine below_drewN ?_ _)))) ?_); rintro e yx ⟨vc, rfl, hbx, Ac, cc, rfl, hGc, _, hcc⟩; (try replace TC := Lib.hid (TC.out.bel hbx)); (first | replace BV := Lib.hid (belowT (show Below w.heap.size w _ by have Bq := BV.out; have Bz := Bq.size; (repeat (first | with_reducible exact Below.refl _ _ | with_reducible assumption | with_reducible refine Below.alloc ?_ (by first | (simp; done) | (simp; omega) | omega) _ | with_reducible refine Below.setCell ?_ (by first | (simp; done) | (simp; omega) | omega) _ | with_reducible refine Below.drew ?_ | with_reducible refine below_drewN ?_ _))) hbx) | have BV := Lib.hid (belowT (show Below w.heap.size w _ by (repeat (first | with_reducible exact Below.refl _ _ | with_reducible assumption | with_reducible refine Below.alloc ?_ (by first | (simp; done) | (simp; omega) | omega) _ | with_reducible refine Below.setCell ?_ (by first | (simp; done) | (simp; omega) | omega) _ | with_reducible refine Below.drew ?_ | with_reducible refine below_drewN ?_ _))) hbx)); have TC := Lib.hid hGc; have TD := Lib.hid hcc; clear hGc hcc; clear hbx)
    | (go_at_call 83; (with_reducible refine Calls.mono (HST.out _ _ _ ⟨TC.out, TD.out⟩) ?_); rintro e yx ⟨rfl, hbx⟩; (try replace TC := Lib.hid (TC.out.bel hbx)); (first | replace BV := Lib.hid (belowT (show Below w.heap.size w _ by have Bq := BV.out; have Bz := Bq.size; (repeat (first | with_reducible exact Below.refl _ _ | with_reducible assumption | with_reducible refine Below.alloc ?_ (by first | (simp; done) | (simp; omega) | omega) _ | with_reducible refine Below.setCell ?_ (by first | (simp; done) | (simp; omega) | omega) _ | with_reducible refine Below.drew ?_ | with_reducible refine below_drewN ?_ _))) hbx) | have BV := Lib.hid (belowT (show Below w.heap.size w _ by (repeat (first | with_reducible exact Below.refl _ _ | with_reducible assumption | with_reducible refine Below.alloc ?_ (by first | (simp; done) | (simp; omega) | omega) _ | with_reducible refine Below.setCell ?_ (by first | (simp; done) | (simp; omega) | omega) _ | with_reducible refine Below.drew ?_ | with_reducible refine below_drewN ?_ _))) hbx)); clear hbx)
    | (go_at_call 53; (with_reducible refine Calls.mono (HSE.out _ BV.out) ?_); rintro e yx ⟨rfl, hbx⟩; (try replace TC := Lib.hid (TC.out.bel hbx)); (first | replace BV := Lib.hid (belowT (show Below w.heap.size w _ by have Bq := BV.out; have Bz := Bq.size; (repeat (first | with_reducible exact Below.refl _ _ | with_reducible assumption | with_reducible refine Below.alloc ?_ (by first | (simp; done) | (simp; omega) | omega) _ | with_reducible refine Below.setCell ?_ (by first | (simp; done) | (simp; omega) | omega) _ | with_reducible refine Below.drew ?_ | with_reducible refine below_drewN ?_ _))) hbx) | have BV := Lib.hid (belowT (show Below w.heap.size w _ by (repeat (first | with_reducible exact Below.refl _ _ | with_reducible assumption | with_reducible refine Below.alloc ?_ (by first | (simp; done) | (simp; omega) | omega) _ | with_reducible refine Below.setCell ?_ (by first | (simp; done) | (simp; omega) | omega) _ | with_reducible refine Below.drew ?_ | with_reducible refine below_drewN ?_ _))) hbx)); clear hbx)
    | (go_at_call 21; (with_reducible refine Calls.mono (bwithin_any _ _ _ _) ?_); rintro e yx ⟨rfl, rfl⟩)
    | (go_at_call 84; (with_reducible refine Calls.mono (HSR.out _ BV.out) ?_); rintro e yx ⟨rfl, hbx⟩; (try replace TC := Lib.hid (TC.out.bel hbx)); (first | replace BV := Lib.hid (belowT (show Below w.heap.size w _ by have Bq := BV.out; have Bz := Bq.size; (repeat (first | with_reducible exact Below.refl _ _ | with_reducible assumption | with_reducible refine Below.alloc ?_ (by first | (simp; done) | (simp; omega) | omega) _ | with_reducible refine Below.setCell ?_ (by first | (simp; done) | (simp; omega) | omega) _ | with_reducible refine Below.drew ?_ | with_reducible refine below_drewN ?_ _))) hbx) | have BV := Lib.hid (belowT (show Below w.heap.size w _ by (repeat (first | with_reducible exact Below.refl _ _ | with_reducible assumption | with_reducible refine Below.alloc ?_ (by first | (simp; done) | (simp; omega) | omega) _ | with_reducible refine Below.setCell ?_ (by first | (simp; done) | (simp; omega) | omega) _ | with_reducible refine Below.drew ?_ | with_reducible refine below_drewN ?_ _))) hbx)); clear hbx))
  go_ret
  exact ⟨rfl, BV.out⟩
theorem sampleStrongest_any (A : Option Addr) (n c : Nat) (g : Nat → Int × Int) (L : Int) (w : World) (hG : GS w (.slice A n c) n g) (hc : n ≤ c) :
    Calls Try.prog 15 #[.slice A n c, .int .i64 L] w fun e w' => e = .returned (.bool true) ∧ Below w.heap.size w w' := by
  cases hs : shr n
  · exact ss_many A n c L w hs
  · by_cases hD : smE n g = 0
    · cases hw : wi L 1 400
      · exact ss_w A n c g L w hs hD hw hG
      · by_cases hL : L ≤ (n : Int)
        · have h2 := wi_t.1 hw
          obtain ⟨l, rfl⟩ : ∃ l : Nat, L = l := ⟨L.toNat, by omega⟩
          exact ss_ok A n c g l w hs hD hw (by omega) (by omega) hc hG
        · exact ss_l A n c g L w hs hD hw hL hG
    · exact ss_d A n c g L _ hD w hs rfl hG
end Go.Proofs.Ytpkacfgmojblbaa
namespace Go.Proofs.Ytpkacfgmojblbaa
open Go.ChangeShapes Go.WideShapes Go.ChangeAt Go.RowKit
set_option maxRecDepth 100000 in
theorem sampleStrongest_lifted (os : Os) (started : os.Started) (H : Type) (enc : TypeId × Value → H) :
    ReturnsInHanded {} Try.checked os 15 .any (Rows.sampleStrongestSpec.pre6 enc Try.prog Try.f15 Rows.sampleStrongestRow.domain false) (Rows.sampleStrongestSpec.post enc Try.prog Try.f15 false true false false) := by
  refine returnsInHanded_of_change (C := Try.checked) own started (by kernel_rfl) Try.func15
    (ChangeSpec.witness6 (enc := enc) (C := Try.checked) false ⟨#[], #[.slice none 0 0, .int .i64 0], []⟩ 8 (by kernel_rfl) (by kernel_rfl) (by kernel_rfl) (by kernel_rfl)) ?_
  intro W base args ds gs before hval0 hW hcnd _
  have hval : ∀ (j : Nat) t v, Try.f15.params[j]? = some t → args[j]? = some v → Value.okWide Try.prog W .any base t v := hval0
  have hW' := hW
  obtain ⟨p, q, hA0, hV, rfl, hfz, hnd⟩ := hW
  have hA : DataW.TrodAll enc Try.prog W 0 (fun _ => true) true Try.f15.params.toList args.toList ds p := hA0
  rw [Try.params15] at hA hval
  obtain ⟨v0, vs0, d0, ds0, p0, q0, hargs, rfl, rfl, h0, r0⟩ := trodAll_cons hA
  obtain ⟨v1, vs1, d1, ds1, p1, q1, rfl, rfl, rfl, h1, r1⟩ := trodAll_cons r0
  obtain ⟨rfl, rfl, rfl⟩ := trodAll_nil r1
  obtain rfl : args = #[v0, v1] := by cases args; simp_all
  obtain ⟨rfl, rfl⟩ := trodVars_none hV
  have k0 := h0
  have k1 := h1
  have lt0 : ∀ x ∈ p0, x.block < W.heap.size := by obtain ⟨m, hm⟩ := k0; exact DataW.trod_lt m _ _ _ hm
  have lt1 : ∀ x ∈ p1, x.block < W.heap.size := by obtain ⟨m, hm⟩ := k1; exact DataW.trod_lt m _ _ _ hm
  obtain ⟨A0, n0, c0, g0, rfl, hn0, hG0, hc0⟩ := open_gausses (hval 0 42 v0 rfl rfl) h0
  obtain ⟨x1, rfl⟩ := okWide_int Try.underlying3 (hval 1 3 v1 rfl rfl)
  clear hA0 hval0
  refine (sampleStrongest_any A0 n0 c0 g0 x1 W hG0 hc0).mono fun e W' ⟨he, bel⟩ => ?_
  subst he
  exact ⟨_, rfl, _, _, _, [], _, [], hW', trodAll_mk1 (shut_bool Try.underlying4 _), (trodAll_cons_mk (Below.trod laidOut (by kernel_rfl) (of_decide_eq_true (by kernel_rfl)) k0 bel lt0) (trodAll_cons_mk (Below.trod laidOut (by kernel_rfl) (of_decide_eq_true (by kernel_rfl)) k1 bel lt1) trodAll_mk0)), rfl, bel.frame _, fun h => by cases h⟩
theorem sampleStrongest_over : Rows.sampleStrongestRow.holds Try.pinned (OpenSpec.ofChange Rows.sampleStrongestSpec) :=
  OpenClaim.holds_of_wide 15 Try.f15 rfl rfl rfl rfl rfl rfl rfl ⟨by kernel_rfl, by kernel_rfl, by kernel_rfl, by kernel_rfl, by kernel_rfl⟩ rfl rfl rfl rfl rfl (by kernel_rfl) Try.func15 (by kernel_rfl)
    (of_decide_eq_true (by kernel_rfl)) (by unfold Func.isWrapper; first | (rw [if_pos (by decide +kernel)]; kernel_rfl) | (rw [if_neg (by decide +kernel)]; exact ⟨rfl, rfl⟩))
    (fun os started H enc _ => sampleStrongest_lifted os started H enc)
/-- THE STATEMENT. -/
theorem sampleStrongest_holds : Rows.SampleStrongestSaid := sampleStrongest_over
end Go.Proofs.Ytpkacfgmojblbaa
