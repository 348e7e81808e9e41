/- Helpers: filters copied, and the reference's check of them. No condition but the bounds that each theorem names. -/
import Derived.Test.YtpkacfgmojblbaaB19
import Derived.Test.YtpkacfgmojblbaaB07
namespace Go.Proofs.Ytpkacfgmojblbaa
open Go.RowKit
attribute [local go_sem] old1 fro1 old2 fro2 old3 fro3 old4 fro4 old5 fro5 old6 fro6 old7 fro7 old8 fro8 old9 fro9 old10 fro10 old11 fro11 old12 fro12
/-- a slice of numbers -/
def IS (w : World) (v : Value) (n : Nat) (xs : Nat → Int) : Prop := ∃ A c, v = .slice A n c ∧ IA w A n xs ∧ (A = none → n = 0 ∧ c = 0) ∧ n ≤ c
theorem IS.on {w w1 : World} {v : Value} {n : Nat} {xs : Nat → Int} (h : IS w v n xs) (hb : Below w.heap.size w w1) : IS w1 v n xs := by
  obtain ⟨A, c, e, hA, hn⟩ := h
  exact ⟨A, c, e, hA.bel hb, hn⟩
def mpIS (n : Nat) (xs : Nat → Int) : MP := ⟨fun v w => IS w v n xs, fun _ _ _ h hb => h.on hb⟩
theorem own_IS {w : World} {base e n : Nat} {v : Value} {xs : Nat → Int} (h : w.ownsRow base e 1 v n (intsV n xs)) : IS w v n xs := by
  obtain ⟨e1, h1⟩ := own_intsV h
  refine ⟨_, _, e1, h1, fun hN => ?_, ?_⟩
  · rcases h.2 with ⟨rfl, rfl⟩ | ⟨g, cap, cur, rfl, _⟩
    · exact ⟨rfl, rfl⟩
    · cases hN
  · rcases h.2 with ⟨rfl, rfl⟩ | ⟨g, cap, cur, rfl, _, _, hc, _⟩
    · exact Nat.zero_le _
    · exact hc
/-- in memory from B on -/
def Fresh (B : Nat) (v : Value) : Prop := ∀ k, v.ownBlock = some k → B ≤ k
theorem iLive {w : World} {a : Addr} {n : Nat} {xs : Nat → Int} (hA : IA w (some a) n xs) : ∀ j u, (intsV n xs)[j]? = some u → w.cell? (a.add j) = some u := by
  intro j u hu
  have hj : j < n := by
    have := (List.getElem?_eq_some_iff.1 hu).1
    simpa [intsV] using this
  obtain ⟨b, o, e, hc⟩ := hA (by omega)
  obtain rfl : a = ⟨b, o, none⟩ := by simpa using e
  rw [addr_addI, hc j hj]
  simpa [intsV, hj] using hu
set_option maxRecDepth 100000 in
set_option maxHeartbeats 800000 in
theorem copyI_some (a : Addr) (n c : Nat) (xs : Nat → Int) (w : World) (hn : n ≤ 1000000) (hA : IA w (some a) n xs) :
    Calls Try.prog 113 #[.slice (some a) n c] w fun e w' => ∃ v, e = .returned v ∧ Below w.heap.size w w' ∧ IS w' v n xs ∧ Fresh w.heap.size v := by
  obtain ⟨i0, hi0, hz0, hz1, hz2⟩ := info_parts infoInt
  have HN := Lib.hid (iLive hA)
  have hl := intsV_len n xs
  clear hA
  go_enter Try.func113, Try.ntmps113
  go_wp2_with (first
    | (at_builtin; go_loud (refine wpList_append_own_at _ rfl _ _ 38 rfl w.heap.size 3 i0 _ 1 8 undInts hi0 hz0 hz1 hz2 rfl (by decide) _ 0 [] rfl (World.ownsRow_made w #[] 0 (Nat.le_refl _) (by unfold maxLen; omega) rfl) a n c (intsV n xs) rfl (by rw [hl, Nat.mul_one]) (fun j u hu => (World.cell?_alloc_some w _ _ (by rw [HN.out j u hu]; rfl)).trans (HN.out j u hu)) (by simp [intsV, Value.oneCell']) (by unfold maxLen; omega) (by omega) (by simp) ?_; intro v' w5 hown' hgrow hnil hloc; have hF' : Fresh w.heap.size v' := (fun k hk => (hown'.lt k hk).1); have hA' := own_IS (xs := xs) (by simpa using hown'); have HB5 : Below w.heap.size w w5 := ((Below.refl w.heap.size w).alloc (Nat.le_refl _) _).grown hgrow (by first | (simp; done) | (simp; omega) | omega) (fun k h => by cases h; exact Nat.le_refl _); have HA5 := Lib.hid (And.intro hA' hF'); clear hown' hgrow hnil hloc hA' hF'))
    | fail)
  go_ret
  exact ⟨_, rfl, HB5, HA5.out⟩
set_option maxRecDepth 100000 in
set_option maxHeartbeats 800000 in
theorem copyI_nil (xs : Nat → Int) (w : World) :
    Calls Try.prog 113 #[.slice none 0 0] w fun e w' => ∃ v, e = .returned v ∧ Below w.heap.size w w' ∧ IS w' v 0 xs ∧ Fresh w.heap.size v := by
  go_enter Try.func113, Try.ntmps113
  go_wp2_with fail
  go_ret
  exact ⟨_, rfl, by (repeat (first | with_reducible exact Below.refl _ _ | with_reducible assumption | with_reducible refine Below.alloc ?_ (by first | (simp; done) | (simp; omega) | omega) _ | with_reducible refine Below.setCell ?_ (by first | (simp; done) | (simp; omega) | omega) _ | with_reducible refine Below.drew ?_ | with_reducible refine below_drewN ?_ _)), ⟨_, _, rfl, fun h => absurd h (Nat.lt_irrefl 0), (fun h => by cases h), Nat.zero_le _⟩, fun k h => by cases h; exact Nat.le_refl _⟩
theorem copyI_any (v : Value) (n : Nat) (xs : Nat → Int) (w : World) (hn : n ≤ 1000000) (h : IS w v n xs) :
    Calls Try.prog 113 #[v] w fun e w' => ∃ v, e = .returned v ∧ Below w.heap.size w w' ∧ IS w' v n xs ∧ Fresh w.heap.size v := by
  obtain ⟨A, c, rfl, hA, h0, _⟩ := h
  match A, hA, h0 with
  | none, _, h0 =>
    obtain ⟨rfl, rfl⟩ := h0 rfl
    exact copyI_nil xs w
  | some a, hA, _ => exact copyI_some a n c xs w hn hA
theorem IA.fars {w : World} {A : Option Addr} {n c : Nat} {xs : Nat → Int} {B : Nat} (h : IA w A n xs) (hf : Fresh B (.slice A n c)) {a : Addr} (ha : a.block < B) (u : Value) : IA (w.setCell a u) A n xs := fun h0 => by
  obtain ⟨b, o, e, hc⟩ := h h0
  subst e
  refine ⟨b, o, rfl, fun i hi => (World.cell?_setCell_far _ _ _ _ (fun q => ?_)).trans (hc i hi)⟩
  have := hf b rfl
  replace q : a.block = b := q
  omega
set_option maxRecDepth 100000 in
set_option maxHeartbeats 2000000 in
theorem copyFilter_any (A : Option Addr) (n c : Nat) (xs : Nat → Int) (dn : Int) (w : World) (hn : n ≤ 1000000) (h : IS w (.slice A n c) n xs) :
    Calls Try.prog 58 #[.agg #[.slice A n c, .int .i64 dn]] w fun e w' => ∃ A' c', e = .returned (.agg #[.slice A' n c', .int .i64 dn]) ∧ Below w.heap.size w w' ∧ IA w' A' n xs ∧ ((A' = none → n = 0 ∧ c' = 0) ∧ n ≤ c') := by
  have HC := Lib.hid (fun W (hW : Below w.heap.size w W) => copyI_any (.slice A n c) n xs W hn (h.on hW))
  clear h
  go_enter Try.func58, Try.ntmps58
  go_wp2_with (go_at_call 113; (with_reducible refine Calls.mono (HC.out _ (by (repeat (first | with_reducible exact Below.refl _ _ | with_reducible assumption | with_reducible refine Below.alloc ?_ (by first | (simp; done) | (simp; omega) | omega) _ | with_reducible refine Below.setCell ?_ (by first | (simp; done) | (simp; omega) | omega) _ | with_reducible refine Below.drew ?_ | with_reducible refine below_drewN ?_ _)))) ?_); rintro e w1 ⟨v, rfl, hb1, ⟨A', c', rfl, h1, h2⟩, h3⟩; have BV := Lib.hid (belowT (show Below w.heap.size w _ by (repeat (first | with_reducible exact Below.refl _ _ | with_reducible assumption | with_reducible refine Below.alloc ?_ (by first | (simp; done) | (simp; omega) | omega) _ | with_reducible refine Below.setCell ?_ (by first | (simp; done) | (simp; omega) | omega) _ | with_reducible refine Below.drew ?_ | with_reducible refine below_drewN ?_ _))) hb1); have l0 := keep hb1 (b := w.heap.size) (o := 0) (v := .slice A n c) (by simp [go_sem]); have l1 := keep hb1 (b := w.heap.size) (o := 1) (v := .int .i64 dn) (by simp [go_sem]); have r0 := keep hb1 (b := w.heap.size + 1) (o := 0) (v := .slice none 0 0) (by simp [go_sem]); have r1 := keep hb1 (b := w.heap.size + 1) (o := 1) (v := .int .i64 0) (by simp [go_sem]); have z0 : w1.frozen? ⟨w.heap.size, 0, none⟩ = false := (hb1.frozen (p := ⟨w.heap.size, 0, none⟩) (by simp; omega)).trans (by simp [go_sem]); have y0 : w1.frozen? ⟨w.heap.size + 1, 0, none⟩ = false := (hb1.frozen (p := ⟨w.heap.size + 1, 0, none⟩) (by simp)).trans (by simp [go_sem]); have y1 : w1.frozen? ⟨w.heap.size + 1, 1, none⟩ = false := (hb1.frozen (p := ⟨w.heap.size + 1, 1, none⟩) (by simp)).trans (by simp [go_sem]); have H1 := Lib.hid (And.intro h1 h2); have H3 : Hid (Fresh (w.heap.size + 2) (.slice A' n c')) := Lib.hid (by simpa using h3); clear hb1 h1 h2 h3)
  refine bodyPost_ret (v := .agg #[.slice A' n c', .int .i64 dn]) (by simp [results, Try.results58, go_sem, *]) rfl ⟨A', c', rfl, by have Bq := BV.out; (repeat (first | with_reducible exact Below.refl _ _ | with_reducible assumption | with_reducible refine Below.alloc ?_ (by first | (simp; done) | (simp; omega) | omega) _ | with_reducible refine Below.setCell ?_ (by first | (simp; done) | (simp; omega) | omega) _ | with_reducible refine Below.drew ?_ | with_reducible refine below_drewN ?_ _)), ?_, H1.out.2⟩
  exact ((H1.out.1.fars H3.out (by show w.heap.size < _; omega) _).fars H3.out (by show w.heap.size + 1 < _; omega) _).fars H3.out (by show w.heap.size + 1 < _; omega) _
set_option maxRecDepth 100000 in
set_option maxHeartbeats 2000000 in
theorem filterErr_any (A : Option Addr) (n c : Nat) (xs : Nat → Int) (dn : Int) (w : World) (hn : n ≤ 1000000) (hA : IA w A n xs) :
    Calls Try.prog 60 #[.agg #[.slice A n c, .int .i64 dn]] w fun e w' => e = .returned (.int .i64 (flE n xs dn)) ∧ Below w.heap.size w w' := by
  have HA := Lib.hid hA
  clear hA
  by_cases h0 : n = 0
  · subst h0
    rw [show flE 0 xs dn = 10 from rfl]
    go_enter Try.func60, Try.ntmps60
    go_wp2
    go_ret
    exact ⟨rfl, by (repeat (first | with_reducible exact Below.refl _ _ | with_reducible assumption | with_reducible refine Below.alloc ?_ (by first | (simp; done) | (simp; omega) | omega) _ | with_reducible refine Below.setCell ?_ (by first | (simp; done) | (simp; omega) | omega) _ | with_reducible refine Below.drew ?_ | with_reducible refine below_drewN ?_ _))⟩
  · have p0 : ((n : Int) == 0) = false := by simpa using h0
    have e0 : (if decide (0 < (n : Int)) then (0 : Int) else 10) = 0 := by simp; omega
    by_cases h8 : n ≤ 8
    · have p1 : ¬ (n : Int) > 8 := by omega
      have HE : Hid (flE n xs dn = if ferr (fun i => rgE (xs i) (-100) 100) 0 n = 0 then rgE dn 1 100 else ferr (fun i => rgE (xs i) (-100) 100) 0 n) := Lib.hid (by
        unfold flE atEI
        rw [if_pos e0, if_pos (by omega : (n : Int) ≤ 8)])
      go_enter Try.func60, Try.ntmps60
      go_wp2_with fail
      go_loopw [3] (fun s3 wr => ∃ k : Nat, k ≤ n ∧ s3 = .int .i64 k ∧ Hid (Below w.heap.size w wr) ∧ (wr.cell? ⟨w.heap.size, 0, none⟩ = some (.slice A n c) ∧ wr.cell? ⟨w.heap.size, 1, none⟩ = some (.int .i64 dn)) ∧ Hid (ferr (fun i => rgE (xs i) (-100) 100) 0 n = ferr (fun i => rgE (xs i) (-100) 100) k (n - k))) (fun i _ => n - (intOf i).toNat)
      case atStart => exact ⟨0, Nat.zero_le _, rfl, by show Below w.heap.size w _; (repeat (first | with_reducible exact Below.refl _ _ | with_reducible assumption | with_reducible refine Below.alloc ?_ (by first | (simp; done) | (simp; omega) | omega) _ | with_reducible refine Below.setCell ?_ (by first | (simp; done) | (simp; omega) | omega) _ | with_reducible refine Below.drew ?_ | with_reducible refine below_drewN ?_ _)), ⟨by simp [go_sem], by simp [go_sem]⟩, rfl⟩
      case round =>
        obtain ⟨k, hk, rfl, HB, ⟨l0, l1⟩, H⟩ := hrel
        by_cases hlt : k < n
        · obtain ⟨bA, oA, rfl, hA2⟩ := HA.out (by omega)
          have x0 := keep HB.out (hA2 k hlt)
          have g1 : (0 : Int) ≤ (k : Int) := by omega
          have g2 : (k : Int) < (n : Int) := by omega
          have HS : Hid (ferr (fun i => rgE (xs i) (-100) 100) k (n - k) = if rgE (xs k) (-100) 100 = 0 then ferr (fun i => rgE (xs i) (-100) 100) (k + 1) (n - (k + 1)) else rgE (xs k) (-100) 100) := by
            rw [show n - k = (n - (k + 1)) + 1 from by omega]; rfl
          clear hA2
          generalize xs k = x at *
          cases hw : wi x (-100) 100
          · go_wp2_with (go_at_call 21; (with_reducible refine Calls.mono (bwithin_any _ _ _ _) ?_); rintro e w1 ⟨rfl, rfl⟩)
            go_ret
            exact ⟨ret_int (by rw [HE.out, H.out, HS.out]; unfold rgE; rw [hw]; rfl), HB.out⟩
          · have hS : Hid (ferr (fun i => rgE (xs i) (-100) 100) k (n - k) = ferr (fun i => rgE (xs i) (-100) 100) (k + 1) (n - (k + 1))) := Lib.hid (by rw [HS.out, if_pos (by unfold rgE; rw [hw]; rfl)])
            go_wp2_with (go_at_call 21; (with_reducible refine Calls.mono (bwithin_any _ _ _ _) ?_); rintro e w1 ⟨rfl, rfl⟩)
            go_roundw
            case rel => exact ⟨k + 1, by omega, by go_num, HB.out, ⟨l0, l1⟩, by show ferr _ 0 n = _; rw [H.out, hS.out]⟩
            case measure => simp [intOf]; omega
        · obtain rfl : k = n := by omega
          have hF : ferr (fun i => rgE (xs i) (-100) 100) 0 k = 0 := by rw [H.out, Nat.sub_self]; rfl
          have HF : Hid (flE k xs dn = rgE dn 1 100) := Lib.hid (by rw [HE.out, if_pos hF])
          clear hF
          cases hw : wi dn 1 100
          · go_wp2_with (go_at_call 21; (with_reducible refine Calls.mono (bwithin_any _ _ _ _) ?_); rintro e w1 ⟨rfl, rfl⟩)
            go_ret
            exact ⟨ret_int (by rw [HF.out]; unfold rgE; rw [hw]; rfl), HB.out⟩
          · go_wp2_with (go_at_call 21; (with_reducible refine Calls.mono (bwithin_any _ _ _ _) ?_); rintro e w1 ⟨rfl, rfl⟩)
            go_ret
            exact ⟨ret_int (by rw [HF.out]; unfold rgE; rw [hw]; rfl), HB.out⟩
    · have p1 : (n : Int) > 8 := by omega
      have HE : Hid (flE n xs dn = 8) := Lib.hid (by
        unfold flE atEI
        rw [if_pos e0, if_neg (by omega : ¬ (n : Int) ≤ 8), if_neg (by decide)])
      rw [HE.out]
      go_enter Try.func60, Try.ntmps60
      go_wp2
      go_ret
      exact ⟨rfl, by (repeat (first | with_reducible exact Below.refl _ _ | with_reducible assumption | with_reducible refine Below.alloc ?_ (by first | (simp; done) | (simp; omega) | omega) _ | with_reducible refine Below.setCell ?_ (by first | (simp; done) | (simp; omega) | omega) _ | with_reducible refine Below.drew ?_ | with_reducible refine below_drewN ?_ _))⟩
end Go.Proofs.Ytpkacfgmojblbaa
