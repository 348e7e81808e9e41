/- Helpers: filters copied, and the reference's check of them. No condition but the bounds that each theorem names. -/
import Derived.Test.YtpkacfgmojblbaaB19
import Derived.Test.YtpkacfgmojblbaaB07
import Derived.Test.YtpkacfgmojblbaaB24
namespace Go.Proofs.Ytpkacfgmojblbaa
open Go.RowKit
attribute [local go_sem] old1 fro1 old2 fro2 old3 fro3 old4 fro4 old5 fro5 old6 fro6 old7 fro7 old8 fro8 old9 fro9 old10 fro10 old11 fro11 old12 fro12
/-- a slice of numbers -/
def IS (w : World) (v : Value) (n : Nat) (xs : Nat → Int) : Prop := ∃ A c, v = .slice A n c ∧ IA w A n xs ∧ (A = none → n = 0 ∧ c = 0) ∧ n ≤ c
theorem IS.on {w w1 : World} {v : Value} {n : Nat} {xs : Nat → Int} (h : IS w v n xs) (hb : Below w.heap.size w w1) : IS w1 v n xs := by
  obtain ⟨A, c, e, hA, hn⟩ := h
  exact ⟨A, c, e, hA.bel hb, hn⟩
def mpIS (n : Nat) (xs : Nat → Int) : MP := ⟨fun v w => IS w v n xs, fun _ _ _ h hb => h.on hb⟩
theorem own_IS {w : World} {base e n : Nat} {v : Value} {xs : Nat → Int} (h : w.ownsRow base e 1 v n (intsV n xs)) : IS w v n xs := by
  obtain ⟨e1, h1⟩ := own_intsV h
  refine ⟨_, _, e1, h1, fun hN => ?_, ?_⟩
  · rcases h.2 with ⟨rfl, rfl⟩ | ⟨g, cap, cur, rfl, _⟩
    · exact ⟨rfl, rfl⟩
    · cases hN
  · rcases h.2 with ⟨rfl, rfl⟩ | ⟨g, cap, cur, rfl, _, _, hc, _⟩
    · exact Nat.zero_le _
    · exact hc
/-- in memory from B on -/
def Fresh (B : Nat) (v : Value) : Prop := ∀ k, v.ownBlock = some k → B ≤ k
theorem iLive {w : World} {a : Addr} {n : Nat} {xs : Nat → Int} (hA : IA w (some a) n xs) : ∀ j u, (intsV n xs)[j]? = some u → w.cell? (a.add j) = some u := by
  intro j u hu
  have hj : j < n := by
    have := (List.getElem?_eq_some_iff.1 hu).1
    simpa [intsV] using this
  obtain ⟨b, o, e, hc⟩ := hA (by omega)
  obtain rfl : a = ⟨b, o, none⟩ := by simpa using e
  rw [addr_addI, hc j hj]
  simpa [intsV, hj] using hu
set_option maxRecDepth 100000 in
set_option maxHeartbeats 800000 in
theorem copyI_some (a : Addr) (n c : Nat) (xs : Nat → Int) (w : World) (hn : n ≤ 1000000) (hA : IA w (some a) n xs) :
    Calls Try.prog 113 #[.slice (some a) n c] w fun e w' => ∃ v, e = .returned v ∧ Below w.heap.size w w' ∧ IS w' v n xs ∧ Fresh w.heap.size v := by
  obtain ⟨i0, hi0, hz0, hz1, hz2⟩ := info_parts infoInt
  have HN := Lib.hid (iLive hA)
  have hl := intsV_len n xs
  clear hA
  go_enter Try.func113, Try.ntmps113
  go_wp2_with (first
    | (at_builtin; go_loud (refine wpList_append_own_at _ rfl _ _ 38 rfl w.heap.size 3 i0 _ 1 8 undInts hi0 hz0 hz1 hz2 rfl (by decide) _ 0 [] rfl (World.ownsRow_made w #[] 0 (Nat.le_refl _) (by unfold maxLen; omega) rfl) a n c (intsV n xs) rfl (by rw [hl, Nat.mul_one]) (fun j u hu => (World.cell?_alloc_some w _ _ (by rw [HN.out j u hu]; rfl)).trans (HN.out j u hu)) (by simp [intsV, Value.oneCell']) (by unfold maxLen; omega) (by omega) (by simp) ?_; intro v' w5 hown' hgrow hnil hloc; have hF' : Fresh w.heap.size v' := (fun k hk => (hown'.lt k hk).1); have hA' := own_IS (xs := xs) (by simpa using hown'); have HB5 : Below w.heap.size w w5 := ((Below.refl w.heap.size w).alloc (Nat.le_refl _) _).grown hgrow (by first | (simp; done) | (simp; omega) | omega) (fun k h => by cases h; exact Nat.le_refl _); have HA5 := Lib.hid (And.intro hA' hF'); clear hown' hgrow hnil hloc hA' hF'))
    | fail)
  go_ret
  exact ⟨_, rfl, HB5, HA5.out⟩
set_option maxRecDepth 100000 in
set_option maxHeartbeats 800000 in
theorem copyI_nil (xs : Nat → Int) (w : World) :
    Calls Try.prog 113 #[.slice none 0 0] w fun e w' => ∃ v, e = .returned v ∧ Below w.heap.size w w' ∧ IS w' v 0 xs ∧ Fresh w.heap.size v := by
  go_enter Try.func113, Try.ntmps113
  go_wp2_with fail
  go_ret
  exact ⟨_, rfl, by (repeat (first | with_reducible exact Below.refl _ _ | with_reducible assumption | with_reducible refine Below.alloc ?_ (by first | (simp; done) | (simp; omega) | omega) _ | with_reducible refine Below.setCell ?_ (by first | (simp; done) | (simp; omega) | omega) _ | with_reducible refine Below.drew ?_ | with_reducible refine below_drewN ?_ _)), ⟨_, _, rfl, fun h => absurd h (Nat.lt_irrefl 0), (fun h => by cases h), Nat.zero_le _⟩, fun k h => by cases h; exact Nat.le_refl _⟩
theorem copyI_any (v : Value) (n : Nat) (xs : Nat → Int) (w : World) (hn : n ≤ 1000000) (h : IS w v n xs) :
    Calls Try.prog 113 #[v] w fun e w' => ∃ v, e = .returned v ∧ Below w.heap.size w w' ∧ IS w' v n xs ∧ Fresh w.heap.size v := by
  obtain ⟨A, c, rfl, hA, h0, _⟩ := h
  match A, hA, h0 with
  | none, _, h0 =>
    obtain ⟨rfl, rfl⟩ := h0 rfl
    exact copyI_nil xs w
  | some a, hA, _ => exact copyI_some a n c xs w hn hA
theorem IA.fars {w : World} {A : Option Addr} {n c : Nat} {xs : Nat → Int} {B : Nat} (h : IA w A n xs) (hf : Fresh B (.slice A n c)) {a : Addr} (ha : a.block < B) (u : Value) : IA (w.setCell a u) A n xs := fun h0 => by
  obtain ⟨b, o, e, hc⟩ := h h0
  subst e
  refine ⟨b, o, rfl, fun i hi => (World.cell?_setCell_far _ _ _ _ (fun q => ?_)).trans (hc i hi)⟩
  have := hf b rfl
  replace q : a.block = b := q
  omega
set_option maxRecDepth 100000 in
set_option maxHeartbeats 2000000 in
theorem copyFilter_any (A : Option Addr) (n c : Nat) (xs : Nat → Int) (dn : Int) (w : World) (hn : n ≤ 1000000) (h : IS w (.slice A n c) n xs) :
    Calls Try.prog 58 #[.agg #[.slice A n c, .int .i64 dn]] w fun e w' => ∃ A' c', e = .returned (.agg #[.slice A' n c', .int .i64 dn]) ∧ Below w.heap.size w w' ∧ IA w' A' n xs ∧ ((A' = none → n = 0 ∧ c' = 0) ∧ n ≤ c') := by
  have HC := Lib.hid (fun W (hW : Below w.heap.size w W) => copyI_any (.slice A n c) n xs W hn (h.on hW))
  clear h
  go_enter Try.func58, Try.ntmps58
  go_wp2_with (go_at_call 113; (with_reducible refine Calls.mono (HC.out _ (by (repeat (first | with_reducible exact Below.refl _ _ | with_reducible assumption | with_reducible refine Below.alloc ?_ (by first | (simp; done) | (simp; omega) | omega) _ | with_reducible refine Below.setCell ?_ (by first | (simp; done) | (simp; omega) | omega) _ | with_reducible refine Below.drew ?_ | with_reducible refine below_drewN ?_ _)))) ?_); rintro e w1 ⟨v, rfl, hb1, ⟨A', c', rfl, h1, h2⟩, h3⟩; have BV := Lib.hid (belowT (show Below w.heap.size w _ by (repeat (first | with_reducible exact Below.refl _ _ | with_reducible assumption | with_reducible refine Below.alloc ?_ (by first | (simp; done) | (simp; omega) | omega) _ | with_reducible refine Below.setCell ?_ (by first | (simp; done) | (simp; omega) | omega) _ | with_reducible refine Below.drew ?_ | with_reducible refine below_drewN ?_ _))) hb1); have l0 := keep hb1 (b := w.heap.size) (o := 0) (v := .slice A n c) (by simp [go_sem]); have l1 := keep hb1 (b := w.heap.size) (o := 1) (v := .int .i64 dn) (by simp [go_sem]); have r0 := keep hb1 (b := w.heap.size + 1) (o := 0) (v := .slice none 0 0) (by simp [go_sem]); have r1 := keep hb1 (b := w.heap.size + 1) (o := 1) (v := .int .i64 0) (by simp [go_sem]); have z0 : w1.frozen? ⟨w.heap.size, 0, none⟩ = false := (hb1.frozen (p := ⟨w.heap.size, 0, none⟩) (by simp; omega)).trans (by simp [go_sem]); have y0 : w1.frozen? ⟨w.heap.size + 1, 0, none⟩ = false := (hb1.frozen (p := ⟨w.heap.size + 1, 0, none⟩) (by simp)).trans (by simp [go_sem]); have y1 : w1.frozen? ⟨w.heap.size + 1, 1, none⟩ = false := (hb1.frozen (p := ⟨w.heap.size + 1, 1, none⟩) (by simp)).trans (by simp [go_sem]); have H1 := Lib.hid (And.intro h1 h2); have H3 : Hid (Fresh (w.heap.size + 2) (.slice A' n c')) := Lib.hid (by simpa using h3); clear hb1 h1 h2 h3)
  refine bodyPost_ret (v := .agg #[.slice A' n c', .int .i64 dn]) (by simp [results, Try.results58, go_sem, *]) rfl ⟨A', c', rfl, by have Bq := BV.out; (repeat (first | with_reducible exact Below.refl _ _ | with_reducible assumption | with_reducible refine Below.alloc ?_ (by first | (simp; done) | (simp; omega) | omega) _ | with_reducible refine Below.setCell ?_ (by first | (simp; done) | (simp; omega) | omega) _ | with_reducible refine Below.drew ?_ | with_reducible refine below_drewN ?_ _)), ?_, H1.out.2⟩
  exact ((H1.out.1.fars H3.out (by show w.heap.size < _; omega) _).fars H3.out (by show w.heap.size + 1 < _; omega) _).fars H3.out (by show w.heap.size + 1 < _; omega) _
set_option maxRecDepth 100000 in
set_option maxHeartbeats 2000000 in
theorem filterErr_any (A : Option Addr) (n c : Nat) (xs : Nat → Int) (dn : Int) (w : World) (hn : n ≤ 1000000) (hA : IA w A n xs) :
    Calls Try.prog 60 #[.agg #[.slice A n c, .int .i64 dn]] w fun e w' => e = .returned (.int .i64 (flE n xs dn)) ∧ Below w.heap.size w w' := by
  have HA := Lib.hid hA
  clear hA
  by_cases h0 : n = 0
  · subst h0
    rw [show flE 0 xs dn = 10 from rfl]
    go_enter Try.func60, Try.ntmps60
    go_wp2
    go_ret
    exact ⟨rfl, by (repeat (first | with_reducible exact Below.refl _ _ | with_reducible assumption | with_reducible refine Below.alloc ?_ (by first | (simp; done) | (simp; omega) | omega) _ | with_reducible refine Below.setCell ?_ (by first | (simp; done) | (simp; omega) | omega) _ | with_reducible refine Below.drew ?_ | with_reducible refine below_drewN ?_ _))⟩
  · have p0 : ((n : Int) == 0) = false := by simpa using h0
    have e0 : (if decide (0 < (n : Int)) then (0 : Int) else 10) = 0 := by simp; omega
    by_cases h8 : n ≤ 8
    · have p1 : ¬ (n : Int) > 8 := by omega
      have HE : Hid (flE n xs dn = if ferr (fun i => rgE (xs i) (-100) 100) 0 n = 0 then rgE dn 1 100 else ferr (fun i => rgE (xs i) (-100) 100) 0 n) := Lib.hid (by
        unfold flE atEI
        rw [if_pos e0, if_pos (by omega : (n : Int) ≤ 8)])
      go_enter Try.func60, Try.ntmps60
      go_wp2_with fail
      go_loopw [3] (fun s3 wr => ∃ k : Nat, k ≤ n ∧ s3 = .int .i64 k ∧ Hid (Below w.heap.size w wr) ∧ (wr.cell? ⟨w.heap.size, 0, none⟩ = some (.slice A n c) ∧ wr.cell? ⟨w.heap.size, 1, none⟩ = some (.int .i64 dn)) ∧ Hid (ferr (fun i => rgE (xs i) (-100) 100) 0 n = ferr (fun i => rgE (xs i) (-100) 100) k (n - k))) (fun i _ => n - (intOf i).toNat)
      case atStart => exact ⟨0, Nat.zero_le _, rfl, by show Below w.heap.size w _; (repeat (first | with_reducible exact Below.refl _ _ | with_reducible assumption | with_reducible refine Below.alloc ?_ (by first | (simp; done) | (simp; omega) | omega) _ | with_reducible refine Below.setCell ?_ (by first | (simp; done) | (simp; omega) | omega) _ | with_reducible refine Below.drew ?_ | with_reducible refine below_drewN ?_ _)), ⟨by simp [go_sem], by simp [go_sem]⟩, rfl⟩
      case round =>
        obtain ⟨k, hk, rfl, HB, ⟨l0, l1⟩, H⟩ := hrel
        by_cases hlt : k < n
        · obtain ⟨bA, oA, rfl, hA2⟩ := HA.out (by omega)
          have x0 := keep HB.out (hA2 k hlt)
          have g1 : (0 : Int) ≤ (k : Int) := by omega
          have g2 : (k : Int) < (n : Int) := by omega
          have HS : Hid (ferr (fun i => rgE (xs i) (-100) 100) k (n - k) = if rgE (xs k) (-100) 100 = 0 then ferr (fun i => rgE (xs i) (-100) 100) (k + 1) (n - (k + 1)) else rgE (xs k) (-100) 100) := by
            rw [show n - k = (n - (k + 1)) + 1 from by omega]; rfl
          clear hA2
          generalize xs k = x at *
          cases hw : wi x (-100) 100
          · go_wp2_with (go_at_call 21; (with_reducible refine Calls.mono (bwithin_any _ _ _ _) ?_); rintro e w1 ⟨rfl, rfl⟩)
            go_ret
            exact ⟨ret_int (by rw [HE.out, H.out, HS.out]; unfold rgE; rw [hw]; rfl), HB.out⟩
          · have hS : Hid (ferr (fun i => rgE (xs i) (-100) 100) k (n - k) = ferr (fun i => rgE (xs i) (-100) 100) (k + 1) (n - (k + 1))) := Lib.hid (by rw [HS.out, if_pos (by unfold rgE; rw [hw]; rfl)])
            go_wp2_with (go_at_call 21; (with_reducible refine Calls.mono (bwithin_any _ _ _ _) ?_); rintro e w1 ⟨rfl, rfl⟩)
            go_roundw
            case rel => exact ⟨k + 1, by omega, by go_num, HB.out, ⟨l0, l1⟩, by show ferr _ 0 n = _; rw [H.out, hS.out]⟩
            case measure => simp [intOf]; omega
        · obtain rfl : k = n := by omega
          have hF : ferr (fun i => rgE (xs i) (-100) 100) 0 k = 0 := by rw [H.out, Nat.sub_self]; rfl
          have HF : Hid (flE k xs dn = rgE dn 1 100) := Lib.hid (by rw [HE.out, if_pos hF])
          clear hF
          cases hw : wi dn 1 100
          · go_wp2_with (go_at_call 21; (with_reducible refine Calls.mono (bwithin_any _ _ _ _) ?_); rintro e w1 ⟨rfl, rfl⟩)
            go_ret
            exact ⟨ret_int (by rw [HF.out]; unfold rgE; rw [hw]; rfl), HB.out⟩
          · go_wp2_with (go_at_call 21; (with_reducible refine Calls.mono (bwithin_any _ _ _ _) ?_); rintro e w1 ⟨rfl, rfl⟩)
            go_ret
            exact ⟨ret_int (by rw [HF.out]; unfold rgE; rw [hw]; rfl), HB.out⟩
    · have p1 : (n : Int) > 8 := by omega
      have HE : Hid (flE n xs dn = 8) := Lib.hid (by
        unfold flE atEI
        rw [if_pos e0, if_neg (by omega : ¬ (n : Int) ≤ 8), if_neg (by decide)])
      rw [HE.out]
      go_enter Try.func60, Try.ntmps60
      go_wp2
      go_ret
      exact ⟨rfl, by (repeat (first | with_reducible exact Below.refl _ _ | with_reducible assumption | with_reducible refine Below.alloc ?_ (by first | (simp; done) | (simp; omega) | omega) _ | with_reducible refine Below.setCell ?_ (by first | (simp; done) | (simp; omega) | omega) _ | with_reducible refine Below.drew ?_ | with_reducible refine below_drewN ?_ _))⟩
end Go.Proofs.Ytpkacfgmojblbaa
namespace Go.Proofs.Ytpkacfgmojblbaa
open Go.RowKit
attribute [local go_sem] old1 fro1 old2 fro2 old3 fro3 old4 fro4 old5 fro5 old6 fro6 old7 fro7 old8 fro8 old9 fro9 old10 fro10 old11 fro11 old12 fro12
def pu0 : List Bool := [false, false, false, false, false, false, false, false, false, false, false, false, false, false, false, false, false, false, false, false, false, false, false, false, false, false, false, false, false, false, false, false, false, false, false, false, false, false, false, false, false, false, true, true, true, true, true, true, true, true, true, true, true]
theorem chks_3 {p0 p1 p2 : Prop} {e0 e1 e2 : Int} {v0 v1 v2 : Value} {w : World} (T : TypeId) (h0 : Chk p0 e0 v0 w) (h1 : Chk p1 e1 v1 w) (h2 : Chk p2 e2 v2 w) (i0 : p0) (i1 : e0 = 0 → p1) (i2 : e0 = 0 → e1 = 0 → p2) :
    Chks 3 (fun i => if i = 0 then e0 else if i = 1 then e1 else e2) (.slice (some ⟨w.heap.size, 0, none⟩) 3 3) (w.alloc (.cells #[v0, v1, v2] T)) := by
  have hx := (Below.refl w.heap.size w).alloc (Nat.le_refl _) (.cells #[v0, v1, v2] T)
  refine ⟨w.heap.size, rfl, fun i => if i = 0 then v0 else if i = 1 then v1 else v2, fun i hi => ?_, fun i hi => ?_⟩
  · rcases (by omega : i = 0 ∨ i = 1 ∨ i = 2) with rfl | rfl | rfl <;> simp [go_sem]
  · rcases (by omega : i = 0 ∨ i = 1 ∨ i = 2) with rfl | rfl | rfl
    · exact Chk.imp (h0.on hx) (fun _ => i0)
    · exact Chk.imp (h1.on hx) (fun H => i1 (H 0 (by omega)))
    · exact Chk.imp (h2.on hx) (fun H => i2 (H 0 (by omega)) (H 1 (by omega)))
theorem first_3 {p0 p1 p2 : Prop} {e0 e1 e2 : Int} {v0 v1 v2 : Value} {w : World} (T : TypeId) (h0 : Chk p0 e0 v0 w) (h1 : Chk p1 e1 v1 w) (h2 : Chk p2 e2 v2 w) (i0 : p0) (i1 : e0 = 0 → p1) (i2 : e0 = 0 → e1 = 0 → p2) :
    Calls Try.prog 87 #[.slice (some ⟨w.heap.size, 0, none⟩) 3 3] (w.alloc (.cells #[v0, v1, v2] T)) fun e w' => e = .returned (.int .i64 (if e0 = 0 then (if e1 = 0 then e2 else e1) else e0)) ∧ Below w.heap.size w w' := by
  have hx := (Below.refl w.heap.size w).alloc (Nat.le_refl _) (.cells #[v0, v1, v2] T)
  refine (first_chks (by omega) (by omega) (chks_3 T h0 h1 h2 i0 i1 i2)).mono ?_
  rintro e w' ⟨rfl, h⟩
  exact ⟨ret_int (ferr_3 _ _ _), belowT hx h⟩
/-- the sum of the first products of a filter at an index -/
def fsS (xs : Nat → Int) (g : Nat → Int × Int) (n : Nat) : Nat → Int × Int
  | 0 => (0, 0)
  | k + 1 => ((fsS xs g n k).1 + xs k * (g (n - k)).1, (fsS xs g n k).2 + xs k * (g (n - k)).2)
theorem fs_pr {x a : Int} (x1 : -100 ≤ x) (x2 : x ≤ 100) (a1 : -2000 ≤ a) (a2 : a ≤ 2000) : -200000 ≤ x * a ∧ x * a ≤ 200000 := by
  have := mbd (a := x) (b := a) (A := 100) (B := 2000) x1 x2 a1 a2
  omega
theorem fs_bd {xs : Nat → Int} {g : Nat → Int × Int} {n L N : Nat} (hn : n < N) (hx : ∀ i, i < L → -100 ≤ xs i ∧ xs i ≤ 100) (hg : ∀ i, i < N → (-2000 ≤ (g i).1 ∧ (g i).1 ≤ 2000) ∧ -2000 ≤ (g i).2 ∧ (g i).2 ≤ 2000) : ∀ k, k ≤ L → (-(200000 * (k : Int)) ≤ (fsS xs g n k).1 ∧ (fsS xs g n k).1 ≤ 200000 * k) ∧ -(200000 * (k : Int)) ≤ (fsS xs g n k).2 ∧ (fsS xs g n k).2 ≤ 200000 * k
  | 0, _ => by simp [fsS]
  | k + 1, hk => by
    have ih := fs_bd hn hx hg k (by omega)
    obtain ⟨x1, x2⟩ := hx k (by omega)
    obtain ⟨⟨a1, a2⟩, b1, b2⟩ := hg (n - k) (by omega)
    have m1 := fs_pr x1 x2 a1 a2
    have m2 := fs_pr x1 x2 b1 b2
    simp only [fsS]
    omega
/-- the output of a filter at an index -/
def foS (xs : Nat → Int) (dn : Int) (L : Nat) (g : Nat → Int × Int) (n : Nat) : Int × Int := ((fsS xs g n (min L (n + 1))).1 / dn, (fsS xs g n (min L (n + 1))).2 / dn)
/-- the run of a cut of numbers -/
theorem cutI_run0 (b o n c l : Nat) (hl : 0 < l) (hc : l ≤ c) (W : World) : (Instr.slice 38 (.slice (some ⟨b, o, none⟩) n c) none (some (.int .i64 (l : Int))) none).run Try.prog W = .ok (.slice (some ⟨b, o, none⟩) l c) W := by
  rw [run_slice_h (P := Try.prog) W 38 (some ⟨b, o, none⟩) n c (by kernel_rfl) .i64 l (by omega) (by omega)]
  have e2 : ¬ c = 0 := by omega
  simp [go_sem, sliced, e2]
set_option maxRecDepth 100000 in
set_option maxHeartbeats 4000000 in
theorem outputAt_any (A B : Option Addr) (L cL n c : Nat) (xs : Nat → Int) (dn : Int) (g : Nat → Int × Int) (i K : Nat) (w : World) (hL : 0 < L) (hL8 : L ≤ 8) (hLc : L ≤ cL) (hn : n ≤ 400) (hi : i < n) (hK : K = min L (i + 1)) (d0 : 1 ≤ dn) (d1 : dn ≤ 100) (hA : IA w A L xs) (hB : GA w B n g) (hx : ∀ i, i < L → -100 ≤ xs i ∧ xs i ≤ 100) (hg : ∀ i, i < n → (-2000 ≤ (g i).1 ∧ (g i).1 ≤ 2000) ∧ -2000 ≤ (g i).2 ∧ (g i).2 ≤ 2000) :
    Calls Try.prog 115 #[.agg #[.slice A L cL, .int .i64 dn], .slice B n c, .int .i64 (i : Int)] w fun e w' => e = .returned (.agg #[.int .i64 ((fsS xs g i K).1 / dn), .int .i64 ((fsS xs g i K).2 / dn)]) ∧ Below w.heap.size w w' := by
  obtain ⟨bA, oA, rfl, hA2⟩ := hA hL
  obtain ⟨bB, oB, rfl, hB2⟩ := hB (by omega)
  have HA := Lib.hid hA2
  have HB2 := Lib.hid hB2
  have HX := Lib.hid hx
  have HG := Lib.hid hg
  have HBD := Lib.hid (fs_bd (N := n) hi hx hg)
  have hcut := cutI_run0 bA oA L cL K (by omega) (by omega)
  have xi : IntKind.i64.wrap ((i : Int) + 1) = (i : Int) + 1 := IntWalk.i64_in _ (by omega)
  have hmin : (if (L : Int) < (i : Int) + 1 then (L : Int) else (i : Int) + 1) = (K : Int) := by split <;> omega
  have hmin2 : (if (i : Int) + 1 < (L : Int) then (i : Int) + 1 else (L : Int)) = (K : Int) := by split <;> omega
  have hmin3 : min (L : Int) ((i : Int) + 1) = (K : Int) := by omega
  clear hA hB hA2 hB2 hx hg
  go_enter Try.func115, Try.ntmps115
  go_wp2_with fail
  go_loopw [7, 21] (fun s7 s21 wr => ∃ (k a b : Nat), k ≤ K ∧ s7 = .complex .f64 a b ∧ s21 = .int .i64 k ∧ Hid (Below w.heap.size w wr) ∧ Hid (FI .f64 a (fsS xs g i k).1 ∧ FI .f64 b (fsS xs g i k).2) ∧ (wr.cell? ⟨w.heap.size, 0, none⟩ = some (.slice (some ⟨bA, oA, none⟩) L cL) ∧ wr.cell? ⟨w.heap.size, 1, none⟩ = some (.int .i64 dn)) ∧ Hid (IM wr (w.heap.size + 1) 2 (fun _ => 0))) (fun _ i _ => K - (intOf i).toNat)
  case atStart => exact ⟨0, 0, 0, Nat.zero_le _, rfl, rfl, by show Below w.heap.size w _; (repeat (first | with_reducible exact Below.refl _ _ | with_reducible assumption | with_reducible refine Below.alloc ?_ (by first | (simp; done) | (simp; omega) | omega) _ | with_reducible refine Below.setCell ?_ (by first | (simp; done) | (simp; omega) | omega) _ | with_reducible refine Below.drew ?_ | with_reducible refine below_drewN ?_ _)), ⟨fi0, fi0⟩, ⟨by simp [go_sem], by simp [go_sem]⟩, ⟨by simp, fun i hi => (by rcases (by omega : i = 0 ∨ i = 1) with rfl | rfl <;> exact ⟨by simp [go_sem], by simp [go_sem]⟩)⟩⟩
  case round =>
    obtain ⟨k, a, b, hk, rfl, rfl, HB, HF, ⟨l0, l1⟩, HZ⟩ := hrel
    by_cases hlt : k < K
    · have x0 := keep HB.out (HA.out k (by omega))
      have y0 := keep HB.out (HB2.out (i - k) (by omega)).1
      have y1 := keep HB.out (HB2.out (i - k) (by omega)).2
      have hxk := HX.out k (by omega)
      have hgk := HG.out (i - k) (by omega)
      obtain ⟨⟨S1, S2⟩, S3, S4⟩ := HBD.out k (by omega)
      obtain ⟨m1, m2⟩ := fs_pr hxk.1 hxk.2 hgk.1.1 hgk.1.2
      obtain ⟨m3, m4⟩ := fs_pr hxk.1 hxk.2 hgk.2.1 hgk.2.2
      have HS : Hid (fsS xs g i (k + 1) = ((fsS xs g i k).1 + xs k * (g (i - k)).1, (fsS xs g i k).2 + xs k * (g (i - k)).2)) := rfl
      have xk : IntKind.i64.wrap ((i : Int) - (k : Int)) = ((i - k : Nat) : Int) := by rw [IntWalk.i64_in _ (by omega)]; omega
      have HC := Lib.hid (fun W => complexOf_any (g (i - k)).1 (g (i - k)).2 W)
      have HXx : FI .f64 (floatOfInt .f64 (xs k)) (xs k) := fi_of (by omega) (by omega)
      obtain ⟨mr, mi, hm1, hm2, hm3⟩ := cmul_bits HXx fi0 (fi_of (x := (g (i - k)).1) (by omega) (by omega)) (fi_of (x := (g (i - k)).2) (by omega) (by omega)) (by rw [fmx64]; omega) (by rw [fmx64]; omega) (by rw [fmx64]; omega) (by rw [fmx64]; omega) (by rw [fmx64]; omega) (by rw [fmx64]; omega)
      rw [show xs k * (g (i - k)).1 - 0 * (g (i - k)).2 = xs k * (g (i - k)).1 by omega] at hm2
      rw [show xs k * (g (i - k)).2 + 0 * (g (i - k)).1 = xs k * (g (i - k)).2 by omega] at hm3
      obtain ⟨sr, si, hs1, hs2, hs3⟩ := csum_bits HF.out.1 HF.out.2 hm2 hm3 (by rw [fmx64]; omega) (by rw [fmx64]; omega)
      have hmul := fun W => run_complex_mul (P := Try.prog) W 140 _ _ (fI (g (i - k)).1) (fI (g (i - k)).2) mr mi hm1
      have hsum := fun W => run_complex_sum (P := Try.prog) W .add (.inl rfl) 140 .f64 a b mr mi sr si hs1
      have HR := Lib.hid (And.intro hs2 hs3)
      have g1 : (0 : Int) ≤ (k : Int) := by omega
      have g2 : (k : Int) < (K : Int) := by omega
      have g3 : (0 : Int) ≤ ((i - k : Nat) : Int) := by omega
      have g4 : ((i - k : Nat) : Int) < (n : Int) := by omega
      clear hm1 hm2 hm3 hs1 hs2 hs3 hxk hgk S1 S2 S3 S4 m1 m2 m3 m4 HXx
      generalize hgx : (g (i - k)).1 = gx at *
      generalize hgy : (g (i - k)).2 = gy at *
      generalize hxx : xs k = xx at *
      go_wp2_with (go_at_call 143; (with_reducible refine Calls.mono (HC.out _) ?_); rintro e w1 ⟨rfl, hb1⟩; have HB1 := Lib.hid (belowT HB.out hb1); have L0 := keep hb1 l0; have L1 := keep hb1 l1; have HZ1 := Lib.hid (HZ.out.on hb1); clear hb1)
      go_roundw
      case rel => exact ⟨k + 1, sr, si, by omega, rfl, by go_num, HB1.out, by rw [HS.out]; exact HR.out, ⟨L0, L1⟩, HZ1.out⟩
      case measure => simp [intOf]; omega
    · obtain rfl : k = K := by omega
      obtain ⟨⟨S1, S2⟩, S3, S4⟩ := HBD.out k (by omega)
      have HGO := Lib.hid (fun W => gaussOf_any a b _ _ HF.out.1 HF.out.2 (by omega) (by omega) (by omega) (by omega) W)
      have HF1 := Lib.hid (fun W => floor_any (fsS xs g i k).1 dn (by omega) (by omega) (by omega) (by omega) W)
      have HF2 := Lib.hid (fun W => floor_any (fsS xs g i k).2 dn (by omega) (by omega) (by omega) (by omega) W)
      clear S1 S2 S3 S4 HF HBD HA HB2 HX HG hcut
      generalize hX : (fsS xs g i k).1 = X at *
      generalize hY : (fsS xs g i k).2 = Y at *
      generalize hX' : X / dn = X' at *
      generalize hY' : Y / dn = Y' at *
      go_upto_region 8 with (go_at_call 142; (with_reducible refine Calls.mono (HGO.out _) ?_); rintro e w1 ⟨rfl, hb1⟩; have HB1 := Lib.hid (belowT HB.out hb1); have L0 := keep hb1 l0; have L1 := keep hb1 l1; have HZ1 := Lib.hid (HZ.out.on hb1); clear hb1)
      have hv : Below w1.heap.size w1 (w1.alloc (.cells #[.int .i64 X, .int .i64 Y] 23)) := (Below.refl _ _).alloc (Nat.le_refl _) _
      have p0 : (w1.alloc (.cells #[.int .i64 X, .int .i64 Y] 23)).cell? ⟨w1.heap.size, 0, none⟩ = some (.int .i64 X) := by simp [go_sem]
      have p1 : (w1.alloc (.cells #[.int .i64 X, .int .i64 Y] 23)).cell? ⟨w1.heap.size, 1, none⟩ = some (.int .i64 Y) := by simp [go_sem]
      replace L1 := keep hv L1
      replace HZ1 := Lib.hid (HZ1.out.on hv)
      replace HB1 := Lib.hid (belowT HB1.out hv)
      clear hv
      generalize hb9 : w1.heap.size = b9 at *
      generalize (w1.alloc (.cells #[.int .i64 X, .int .i64 Y] 23)) = v0 at *
      refine wp_region_last [mpEq (.pointer (some ⟨b9, 0, none⟩)), mpEq (.int .i64 X), mpEq (.pointer (some ⟨w.heap.size, 1, none⟩)), mpEq (.int .i64 dn), mpEq (.int .i64 X'), mpEq (.pointer (some ⟨b9, 1, none⟩)), mpEq (.int .i64 Y), mpEq (.pointer (some ⟨w.heap.size, 1, none⟩)), mpEq (.int .i64 dn), mpEq (.int .i64 Y'), mpEq (.agg #[.int .i64 X', .int .i64 Y'])] 11 pu0 (by kernel_rfl) (by kernel_rfl) (by kernel_rfl) rfl (by kernel_rfl) (
            allOps_cons (fun _ a' w' hb hs hd => rg_op fun K hK => by
          have e0 := (hs.get 10 (by kernel_rfl)).trans (show _ = .pointer (some ⟨b9, 0, none⟩) from rfl)
          have ec : ∀ v, a'.eval (.const v) = v := fun _ => rfl
          clear hs hd
          unfold Oper.wp
          generalize a'.eval = ρ at e0 ec ⊢
          simp [go_sem, e0]
          exact hK _ _ (Below.refl _ _) rfl) <|
            allOps_cons (fun _ a' w' hb hs hd => rg_op fun K hK => by
          have e0 := (show a'.eval (.tmp 42) = .pointer (some ⟨b9, 0, none⟩) from hd.get 0 42 (by kernel_rfl) (by kernel_rfl))
          have ec : ∀ v, a'.eval (.const v) = v := fun _ => rfl
          have c0 := keep hb p0
          clear hs hd
          unfold Oper.wp
          generalize a'.eval = ρ at e0 ec ⊢
          simp [go_sem, e0, c0]
          exact hK _ _ (Below.refl _ _) rfl) <|
            allOps_cons (fun _ a' w' hb hs hd => rg_op fun K hK => by
          have e0 := (hs.get 3 (by kernel_rfl)).trans (show _ = .pointer (some ⟨w.heap.size, 0, none⟩) from rfl)
          have ec : ∀ v, a'.eval (.const v) = v := fun _ => rfl
          clear hs hd
          unfold Oper.wp
          generalize a'.eval = ρ at e0 ec ⊢
          simp [go_sem, e0]
          exact hK _ _ (Below.refl _ _) rfl) <|
            allOps_cons (fun _ a' w' hb hs hd => rg_op fun K hK => by
          have e0 := (show a'.eval (.tmp 44) = .pointer (some ⟨w.heap.size, 1, none⟩) from hd.get 2 44 (by kernel_rfl) (by kernel_rfl))
          have ec : ∀ v, a'.eval (.const v) = v := fun _ => rfl
          have c0 := keep hb L1
          clear hs hd
          unfold Oper.wp
          generalize a'.eval = ρ at e0 ec ⊢
          simp [go_sem, e0, c0]
          exact hK _ _ (Below.refl _ _) rfl) <|
            allOps_cons (fun _ a' w' hb hs hd => by
          exact rg_fn (φ := (mpEq (.int .i64 X')).p) (vs := #[.int .i64 X, .int .i64 dn]) rfl (enters_of Try.func141 (by kernel_rfl) rfl) (by simp [(show a'.eval (.tmp 43) = .int .i64 X from hd.get 1 43 (by kernel_rfl) (by kernel_rfl)), (show a'.eval (.tmp 45) = .int .i64 dn from hd.get 3 45 (by kernel_rfl) (by kernel_rfl))]) ((HF1.out w').mono (by rintro e w1 ⟨rfl, rfl⟩; exact ⟨_, rfl, Below.refl _ _, rfl⟩))) <|
            allOps_cons (fun _ a' w' hb hs hd => rg_op fun K hK => by
          have e0 := (hs.get 10 (by kernel_rfl)).trans (show _ = .pointer (some ⟨b9, 0, none⟩) from rfl)
          have ec : ∀ v, a'.eval (.const v) = v := fun _ => rfl
          clear hs hd
          unfold Oper.wp
          generalize a'.eval = ρ at e0 ec ⊢
          simp [go_sem, e0]
          exact hK _ _ (Below.refl _ _) rfl) <|
            allOps_cons (fun _ a' w' hb hs hd => rg_op fun K hK => by
          have e0 := (show a'.eval (.tmp 47) = .pointer (some ⟨b9, 1, none⟩) from hd.get 5 47 (by kernel_rfl) (by kernel_rfl))
          have ec : ∀ v, a'.eval (.const v) = v := fun _ => rfl
          have c0 := keep hb p1
          clear hs hd
          unfold Oper.wp
          generalize a'.eval = ρ at e0 ec ⊢
          simp [go_sem, e0, c0]
          exact hK _ _ (Below.refl _ _) rfl) <|
            allOps_cons (fun _ a' w' hb hs hd => rg_op fun K hK => by
          have e0 := (hs.get 3 (by kernel_rfl)).trans (show _ = .pointer (some ⟨w.heap.size, 0, none⟩) from rfl)
          have ec : ∀ v, a'.eval (.const v) = v := fun _ => rfl
          clear hs hd
          unfold Oper.wp
          generalize a'.eval = ρ at e0 ec ⊢
          simp [go_sem, e0]
          exact hK _ _ (Below.refl _ _) rfl) <|
            allOps_cons (fun _ a' w' hb hs hd => rg_op fun K hK => by
          have e0 := (show a'.eval (.tmp 49) = .pointer (some ⟨w.heap.size, 1, none⟩) from hd.get 7 49 (by kernel_rfl) (by kernel_rfl))
          have ec : ∀ v, a'.eval (.const v) = v := fun _ => rfl
          have c0 := keep hb L1
          clear hs hd
          unfold Oper.wp
          generalize a'.eval = ρ at e0 ec ⊢
          simp [go_sem, e0, c0]
          exact hK _ _ (Below.refl _ _) rfl) <|
            allOps_cons (fun _ a' w' hb hs hd => by
          exact rg_fn (φ := (mpEq (.int .i64 Y')).p) (vs := #[.int .i64 Y, .int .i64 dn]) rfl (enters_of Try.func141 (by kernel_rfl) rfl) (by simp [(show a'.eval (.tmp 48) = .int .i64 Y from hd.get 6 48 (by kernel_rfl) (by kernel_rfl)), (show a'.eval (.tmp 50) = .int .i64 dn from hd.get 8 50 (by kernel_rfl) (by kernel_rfl))]) ((HF2.out w').mono (by rintro e w1 ⟨rfl, rfl⟩; exact ⟨_, rfl, Below.refl _ _, rfl⟩))) <|
            allOps_cons (fun _ a' w' hb hs hd => rg_op fun K hK => by
          have e0 := (show a'.eval (.tmp 46) = .int .i64 X' from hd.get 4 46 (by kernel_rfl) (by kernel_rfl))
          have e1 := (show a'.eval (.tmp 51) = .int .i64 Y' from hd.get 9 51 (by kernel_rfl) (by kernel_rfl))
          have ec : ∀ v, a'.eval (.const v) = v := fun _ => rfl
          clear hs hd
          unfold Oper.wp
          generalize a'.eval = ρ at e0 e1 ec ⊢
          simp [go_sem, e0, e1]
          exact hK _ _ (Below.refl _ _) rfl) <| allOps_cons (fun h => absurd rfl h) <| allOps_nil) (fun V v1 hv1 hall K hK => ?_)
      have h52 : V 52 = .agg #[.int .i64 X', .int .i64 Y'] := hall.get 10 rfl (by decide)
      clear hall
      replace HZ1 := Lib.hid (HZ1.out.on hv1)
      replace HB1 := Lib.hid (belowT HB1.out hv1)
      refine op_stG (q := w.heap.size + 1) (o := 0) rfl rfl h52 (HZ1.out.2 0 (by omega)).1 (HZ1.out.2 1 (by omega)).1 (HZ1.out.2 0 (by omega)).2 (HZ1.out.2 1 (by omega)).2 ?_
      refine hK _ _ ?_
      simp only [pu0, maskPut, Nat.reduceAdd]
      have r0 := (HZ1.out.2 0 (by omega)).1
      have r1 := (HZ1.out.2 1 (by omega)).1
      clear h52 hK hv1 p0 p1
      go_wp2
      refine bodyPost_ret (v := .agg #[.int .i64 X', .int .i64 Y']) (by simp [results, Try.results115, go_sem, *]) rfl ⟨by rw [← hX', ← hY', ← hX, ← hY, hK], by have Bq := HB1.out; (repeat (first | with_reducible exact Below.refl _ _ | with_reducible assumption | with_reducible refine Below.alloc ?_ (by first | (simp; done) | (simp; omega) | omega) _ | with_reducible refine Below.setCell ?_ (by first | (simp; done) | (simp; omega) | omega) _ | with_reducible refine Below.drew ?_ | with_reducible refine below_drewN ?_ _))⟩
end Go.Proofs.Ytpkacfgmojblbaa
namespace Go.Proofs.Ytpkacfgmojblbaa
open Go.RowKit
attribute [local go_sem] old1 fro1 old2 fro2 old3 fro3 old4 fro4 old5 fro5 old6 fro6 old7 fro7 old8 fro8 old9 fro9 old10 fro10 old11 fro11 old12 fro12
/-- how many multiples of a number there are below another one -/
def dcN (n b : Nat) : Nat := (n + b - 1) / b
theorem dcN_lt {n b k : Nat} (hb : 0 < b) : k < dcN n b ↔ k * b < n := by
  unfold dcN
  have h := Nat.le_div_iff_mul_le (x := k + 1) (y := n + b - 1) hb
  rw [Nat.succ_mul] at h
  omega
def dcE (L : Nat) (xs : Nat → Int) (dn : Int) (n : Nat) (g : Nat → Int × Int) (by' : Int) : Int := if flE L xs dn = 0 then (if smE n g = 0 then rgE by' 1 400 else smE n g) else flE L xs dn
theorem dc_0 {L : Nat} {xs : Nat → Int} {dn : Int} {n : Nat} {g : Nat → Int × Int} {by' : Int} (h : dcE L xs dn n g by' = 0) : flE L xs dn = 0 ∧ smE n g = 0 ∧ rgE by' 1 400 = 0 := by
  unfold dcE at h
  by_cases h1 : flE L xs dn = 0
  · rw [if_pos h1] at h
    by_cases h2 : smE n g = 0
    · rw [if_pos h2] at h; exact ⟨h1, h2, h⟩
    · rw [if_neg h2] at h; exact absurd h h2
  · rw [if_neg h1] at h; exact absurd h h1
set_option maxRecDepth 100000 in
set_option maxHeartbeats 2000000 in
theorem decimatedS_err (A B : Option Addr) (L cL n c : Nat) (xs : Nat → Int) (dn : Int) (g : Nat → Int × Int) (by' E : Int) (hE : dcE L xs dn n g by' = E) (h0 : E ≠ 0) (w : World) (hL : L ≤ 1000000000) (hn : n ≤ 1000000000) (hA : IA w A L xs) (hB : GA w B n g) :
    Calls Try.prog 59 #[.agg #[.slice A L cL, .int .i64 dn], .slice B n c, .int .i64 by'] w fun e w' => e = .returned (.tuple #[.slice none 0 0, .int .i64 E]) ∧ Below w.heap.size w w' := by
  have HFC := Lib.hid (fun W (hW : Below w.heap.size w W) => filterCheck_chk A L cL xs dn W hL (hA.bel hW))
  have HSC := Lib.hid (fun W (hW : Below w.heap.size w W) => samplesCheck_chk B n c g W hn (hB.bel hW))
  have HRG := Lib.hid (fun W => range_chk by' 1 400 W)
  have hq : (E != 0) = true := by simpa using h0
  unfold dcE at hE
  clear h0 hA hB
  go_enter Try.func59, Try.ntmps59
  go_wp2_with (first
    | (go_at_call 114; (with_reducible refine Calls.mono (HFC.out _ (by (repeat (first | with_reducible exact Below.refl _ _ | with_reducible assumption | with_reducible refine Below.alloc ?_ (by first | (simp; done) | (simp; omega) | omega) _ | with_reducible refine Below.setCell ?_ (by first | (simp; done) | (simp; omega) | omega) _ | with_reducible refine Below.drew ?_ | with_reducible refine below_drewN ?_ _)))) ?_); rintro e y1 ⟨v0, rfl, hb1, g0, f0, rfl, hg0, hh0⟩; have BV := Lib.hid (belowT (show Below w.heap.size w _ by (repeat (first | with_reducible exact Below.refl _ _ | with_reducible assumption | with_reducible refine Below.alloc ?_ (by first | (simp; done) | (simp; omega) | omega) _ | with_reducible refine Below.setCell ?_ (by first | (simp; done) | (simp; omega) | omega) _ | with_reducible refine Below.drew ?_ | with_reducible refine below_drewN ?_ _))) hb1); have l0 := keep hb1 (b := w.heap.size) (o := 0) (v := .slice A L cL) (by simp [go_sem]); have l1 := keep hb1 (b := w.heap.size) (o := 1) (v := .int .i64 dn) (by simp [go_sem]); have K0 := Lib.hid (show Chk True _ (.func (.func g0) #[] f0) y1 from ⟨g0, f0, rfl, hg0, hh0⟩); clear hg0 hh0; clear hb1)
    | (go_at_call 108; (with_reducible refine Calls.mono (HSC.out _ BV.out) ?_); rintro e y2 ⟨v1, rfl, hb2, g1, f1, rfl, hg1, hh1⟩; replace l0 := keep hb2 l0; replace l1 := keep hb2 l1; replace BV := Lib.hid (belowT (show Below w.heap.size w _ by have Bq := BV.out; (repeat (first | with_reducible exact Below.refl _ _ | with_reducible assumption | with_reducible refine Below.alloc ?_ (by first | (simp; done) | (simp; omega) | omega) _ | with_reducible refine Below.setCell ?_ (by first | (simp; done) | (simp; omega) | omega) _ | with_reducible refine Below.drew ?_ | with_reducible refine below_drewN ?_ _))) hb2); have K1 := Lib.hid (show Chk True _ (.func (.func g1) #[] f1) y2 from ⟨g1, f1, rfl, hg1, hh1⟩); replace K0 := Lib.hid (K0.out.on hb2); clear hg1 hh1; clear hb2)
    | (go_at_call 88; (with_reducible refine Calls.mono (HRG.out _) ?_); rintro e y3 ⟨v2, rfl, hb3, g2, f2, rfl, hg2, hh2⟩; replace l0 := keep hb3 l0; replace l1 := keep hb3 l1; replace BV := Lib.hid (belowT (show Below w.heap.size w _ by have Bq := BV.out; (repeat (first | with_reducible exact Below.refl _ _ | with_reducible assumption | with_reducible refine Below.alloc ?_ (by first | (simp; done) | (simp; omega) | omega) _ | with_reducible refine Below.setCell ?_ (by first | (simp; done) | (simp; omega) | omega) _ | with_reducible refine Below.drew ?_ | with_reducible refine below_drewN ?_ _))) hb3); have K2 := Lib.hid (show Chk True _ (.func (.func g2) #[] f2) y3 from ⟨g2, f2, rfl, hg2, hh2⟩); replace K0 := Lib.hid (K0.out.on hb3); replace K1 := Lib.hid (K1.out.on hb3); clear hg2 hh2; clear hb3)
    | (go_at_call 87; (with_reducible refine Calls.mono (hE ▸ first_3 _ K0.out K1.out K2.out trivial (fun _ => trivial) (fun _ _ => trivial)) ?_); rintro e y4 ⟨rfl, hb4⟩; replace l0 := keep hb4 l0; replace l1 := keep hb4 l1; replace BV := Lib.hid (belowT (show Below w.heap.size w _ by have Bq := BV.out; (repeat (first | with_reducible exact Below.refl _ _ | with_reducible assumption | with_reducible refine Below.alloc ?_ (by first | (simp; done) | (simp; omega) | omega) _ | with_reducible refine Below.setCell ?_ (by first | (simp; done) | (simp; omega) | omega) _ | with_reducible refine Below.drew ?_ | with_reducible refine below_drewN ?_ _))) hb4); clear hb4))
  go_ret2
  exact ⟨rfl, BV.out⟩
set_option maxRecDepth 100000 in
set_option maxHeartbeats 2000000 in
theorem decimatedS_ok (A B : Option Addr) (L cL n c : Nat) (xs : Nat → Int) (dn : Int) (g : Nat → Int × Int) (b : Nat) (hE : dcE L xs dn n g b = 0) (w : World) (hLc : L ≤ cL) (hA : IA w A L xs) (hB : GA w B n g) :
    Calls Try.prog 59 #[.agg #[.slice A L cL, .int .i64 dn], .slice B n c, .int .i64 (b : Int)] w fun e w' => ∃ A' c', e = .returned (.tuple #[.slice A' (dcN n b) c', .int .i64 0]) ∧ Below w.heap.size w w' ∧ GA w' A' (dcN n b) (fun i => foS xs dn L g (i * b)) ∧ (A' = none → dcN n b = 0 ∧ c' = 0) := by
  obtain ⟨q1, q2, q3⟩ := dc_0 hE
  obtain ⟨⟨hL0, hL8⟩, ⟨d0, d1⟩, hx⟩ := fl_0 q1
  obtain ⟨hn, hg⟩ := sm_0 q2
  obtain ⟨b0, b1⟩ := rg_0 q3
  have HFC := Lib.hid (fun W (hW : Below w.heap.size w W) => filterCheck_chk A L cL xs dn W (by omega) (hA.bel hW))
  have HSC := Lib.hid (fun W (hW : Below w.heap.size w W) => samplesCheck_chk B n c g W (by omega) (hB.bel hW))
  have HRG := Lib.hid (fun W => range_chk b 1 400 W)
  have HOU := Lib.hid (fun (i : Nat) (hi : i < n) W (hW : Below w.heap.size w W) => (show Calls Try.prog 115 #[.agg #[.slice A L cL, .int .i64 dn], .slice B n c, .int .i64 (i : Int)] W fun e w' => e = .returned (.agg #[.int .i64 (foS xs dn L g i).1, .int .i64 (foS xs dn L g i).2]) ∧ Below W.heap.size W w' from outputAt_any A B L cL n c xs dn g i _ W hL0 hL8 hLc hn hi rfl d0 d1 (hA.bel hW) (hB.bel hW) hx hg))
  obtain ⟨i0, hi0, hz0, hz1, hz2⟩ := info_parts infoG
  have hdl := fun k => dcN_lt (n := n) (b := b) (k := k) (by omega)
  have HDL := Lib.hid hdl
  unfold dcE at hE
  clear q1 q2 q3 hx hg hA hB hdl
  go_enter Try.func59, Try.ntmps59
  go_wp2_with (first
    | (go_at_call 114; (with_reducible refine Calls.mono (HFC.out _ (by (repeat (first | with_reducible exact Below.refl _ _ | with_reducible assumption | with_reducible refine Below.alloc ?_ (by first | (simp; done) | (simp; omega) | omega) _ | with_reducible refine Below.setCell ?_ (by first | (simp; done) | (simp; omega) | omega) _ | with_reducible refine Below.drew ?_ | with_reducible refine below_drewN ?_ _)))) ?_); rintro e y1 ⟨v0, rfl, hb1, g0, f0, rfl, hg0, hh0⟩; have BV := Lib.hid (belowT (show Below w.heap.size w _ by (repeat (first | with_reducible exact Below.refl _ _ | with_reducible assumption | with_reducible refine Below.alloc ?_ (by first | (simp; done) | (simp; omega) | omega) _ | with_reducible refine Below.setCell ?_ (by first | (simp; done) | (simp; omega) | omega) _ | with_reducible refine Below.drew ?_ | with_reducible refine below_drewN ?_ _))) hb1); have l0 := keep hb1 (b := w.heap.size) (o := 0) (v := .slice A L cL) (by simp [go_sem]); have l1 := keep hb1 (b := w.heap.size) (o := 1) (v := .int .i64 dn) (by simp [go_sem]); have K0 := Lib.hid (show Chk True _ (.func (.func g0) #[] f0) y1 from ⟨g0, f0, rfl, hg0, hh0⟩); clear hg0 hh0; clear hb1)
    | (go_at_call 108; (with_reducible refine Calls.mono (HSC.out _ BV.out) ?_); rintro e y2 ⟨v1, rfl, hb2, g1, f1, rfl, hg1, hh1⟩; replace l0 := keep hb2 l0; replace l1 := keep hb2 l1; replace BV := Lib.hid (belowT (show Below w.heap.size w _ by have Bq := BV.out; (repeat (first | with_reducible exact Below.refl _ _ | with_reducible assumption | with_reducible refine Below.alloc ?_ (by first | (simp; done) | (simp; omega) | omega) _ | with_reducible refine Below.setCell ?_ (by first | (simp; done) | (simp; omega) | omega) _ | with_reducible refine Below.drew ?_ | with_reducible refine below_drewN ?_ _))) hb2); have K1 := Lib.hid (show Chk True _ (.func (.func g1) #[] f1) y2 from ⟨g1, f1, rfl, hg1, hh1⟩); replace K0 := Lib.hid (K0.out.on hb2); clear hg1 hh1; clear hb2)
    | (go_at_call 88; (with_reducible refine Calls.mono (HRG.out _) ?_); rintro e y3 ⟨v2, rfl, hb3, g2, f2, rfl, hg2, hh2⟩; replace l0 := keep hb3 l0; replace l1 := keep hb3 l1; replace BV := Lib.hid (belowT (show Below w.heap.size w _ by have Bq := BV.out; (repeat (first | with_reducible exact Below.refl _ _ | with_reducible assumption | with_reducible refine Below.alloc ?_ (by first | (simp; done) | (simp; omega) | omega) _ | with_reducible refine Below.setCell ?_ (by first | (simp; done) | (simp; omega) | omega) _ | with_reducible refine Below.drew ?_ | with_reducible refine below_drewN ?_ _))) hb3); have K2 := Lib.hid (show Chk True _ (.func (.func g2) #[] f2) y3 from ⟨g2, f2, rfl, hg2, hh2⟩); replace K0 := Lib.hid (K0.out.on hb3); replace K1 := Lib.hid (K1.out.on hb3); clear hg2 hh2; clear hb3)
    | (go_at_call 87; (with_reducible refine Calls.mono (hE ▸ first_3 _ K0.out K1.out K2.out trivial (fun _ => trivial) (fun _ _ => trivial)) ?_); rintro e y4 ⟨rfl, hb4⟩; replace l0 := keep hb4 l0; replace l1 := keep hb4 l1; replace BV := Lib.hid (belowT (show Below w.heap.size w _ by have Bq := BV.out; (repeat (first | with_reducible exact Below.refl _ _ | with_reducible assumption | with_reducible refine Below.alloc ?_ (by first | (simp; done) | (simp; omega) | omega) _ | with_reducible refine Below.setCell ?_ (by first | (simp; done) | (simp; omega) | omega) _ | with_reducible refine Below.drew ?_ | with_reducible refine below_drewN ?_ _))) hb4); clear hb4))
  clear HFC HSC HRG K0 K1 K2 hE
  have hwy := lt_of l0
  go_loopw [9, 10] (fun s9 s10 wr => ∃ k : Nat, k ≤ dcN n b ∧ s10 = .int .i64 ((k * b : Nat) : Int) ∧ Hid (Below w.heap.size w wr) ∧ Hid (wr.cell? ⟨w.heap.size, 0, none⟩ = some (.slice A L cL) ∧ wr.cell? ⟨w.heap.size, 1, none⟩ = some (.int .i64 dn)) ∧ Hid (wr.ownsRow (w.heap.size + 1) 23 2 s9 k (gV k (fun i => foS xs dn L g (i * b))))) (fun _ i _ => n + 400 - (intOf i).toNat)
  case atStart => exact ⟨0, Nat.zero_le _, by rw [Nat.zero_mul]; rfl, BV.out, ⟨l0, l1⟩, World.ownsRow_nil _ _ _ _⟩
  case round =>
    obtain ⟨k, hk, rfl, HB, HL, HO⟩ := hrel
    have hkb : k * b < n + 400 := by
      rcases Nat.eq_zero_or_pos k with h | h
      · subst h; omega
      · have := (HDL.out (k - 1)).1 (by omega)
        have e : k * b = (k - 1) * b + b := by
          obtain ⟨j, rfl⟩ : ∃ j, k = j + 1 := ⟨k - 1, by omega⟩
          rw [Nat.succ_mul, Nat.add_sub_cancel]
        omega
    by_cases hlt : k * b < n
    · have hk1 := (HDL.out k).2 hlt
      have HO1 := Lib.hid (HOU.out (k * b) hlt)
      have HS : Hid (gV (k + 1) (fun i => foS xs dn L g (i * b)) = gV k (fun i => foS xs dn L g (i * b)) ++ [.int .i64 (foS xs dn L g (k * b)).1, .int .i64 (foS xs dn L g (k * b)).2]) := rfl
      have l0' := HL.out.1
      have l1' := HL.out.2
      have hws := lt_of l0'
      have hkn : k ≤ 400 := by
        rcases Nat.lt_or_ge 400 k with h | h
        · have := Nat.mul_le_mul (Nat.le_of_lt h) (show 1 ≤ b by omega)
          omega
        · exact h
      have g2 : ((k * b : Nat) : Int) < (n : Int) := by omega
      have xs1 : IntKind.i64.wrap (((k * b : Nat) : Int) + (b : Int)) = (((k + 1) * b : Nat) : Int) := by
        rw [Nat.succ_mul, IntWalk.i64_in _ (by omega)]; omega
      have hkb1 : (k + 1) * b = k * b + b := Nat.succ_mul k b
      clear HOU HDL
      generalize hpx : (foS xs dn L g (k * b)).1 = px at *
      generalize hpy : (foS xs dn L g (k * b)).2 = py at *
      obtain ⟨kb, hkbe⟩ : ∃ kb, k * b = kb := ⟨_, rfl⟩
      obtain ⟨kb1, hkbe1⟩ : ∃ kb, (k + 1) * b = kb := ⟨_, rfl⟩
      rw [hkbe] at HO1 g2 xs1 hkb1 ⊢
      rw [hkbe1] at xs1 hkb1
      have hlt2 : kb < n := hkbe ▸ hlt
      have HKB := Lib.hid hkbe1
      clear hkb hlt hkbe1
      clear hkbe
      go_wp2_with (first
        | (go_at_call 115; (with_reducible refine Calls.mono (HO1.out _ HB.out) ?_); rintro e z5 ⟨rfl, hz5⟩; have HB1 := Lib.hid (belowT HB.out hz5); have q0 := keep hz5 l0'; have q1 := keep hz5 l1'; have HO5 := Lib.hid (own_bel HO.out hz5); have hz := hz5.size; clear hz5)
        | (at_builtin; go_loud (refine wpList_append_own_at _ rfl _ _ 42 rfl (w.heap.size + 1) 23 i0 _ 2 16 undGs hi0 hz0 hz1 hz2 rfl (by decide) u9 _ _ rfl (HO5.out.alloc _) ⟨z5.heap.size, 0, none⟩ 1 1 [.int .i64 px, .int .i64 py] rfl rfl (news2 _ _ _ _) (by simp [Value.oneCell']) (by unfold maxLen; omega) (by omega) (by simp; omega) ?_; intro v' w6 hown' hgrow hnil hloc; rw [← HS.out] at hown'; have HO6 := Lib.hid hown'; have BW := app_bel (by omega) HO5.out hgrow; have HB6 := Lib.hid (HB1.out.trans (BW.mono (by omega))); have HL6 := Lib.hid (And.intro ((BW.cell (p := ⟨w.heap.size, 0, none⟩) (by show w.heap.size < _; omega)).trans q0) ((BW.cell (p := ⟨w.heap.size, 1, none⟩) (by show w.heap.size < _; omega)).trans q1)); clear hown' hgrow hnil hloc BW)))
      go_roundw
      case rel => exact ⟨k + 1, by omega, by rw [HKB.out, hkb1, Int.natCast_add], HB6.out, HL6.out, HO6.out⟩
      case measure => simp [intOf]; omega
    · have hkd : ¬ k < dcN n b := fun h => hlt ((HDL.out k).1 h)
      obtain rfl : k = dcN n b := by omega
      have HGS := Lib.hid (own_gV HO.out)
      have g2 : ¬ ((dcN n b * b : Nat) : Int) < (n : Int) := by omega
      generalize hm : dcN n b = m at *
      obtain ⟨e9, h9⟩ := HGS.out
      generalize sA u9 = A9 at *
      generalize sC u9 = C9 at *
      subst e9
      have H9 := Lib.hid h9
      clear h9 HGS HDL hkb hlt hkd
      go_wp2
      go_ret2
      exact ⟨_, _, rfl, HB.out, H9.out⟩
theorem decimatedS_all (A B : Option Addr) (L cL n c : Nat) (xs : Nat → Int) (dn : Int) (g : Nat → Int × Int) (by' E : Int) (m : Nat) (hE : dcE L xs dn n g by' = E) (hm : E = 0 → m = dcN n by'.toNat) (hm' : E ≠ 0 → m = 0) (w : World) (hL : L ≤ 1000000000) (hn : n ≤ 1000000000) (hLc : L ≤ cL) (hA : IA w A L xs) (hB : GA w B n g) :
    Calls Try.prog 59 #[.agg #[.slice A L cL, .int .i64 dn], .slice B n c, .int .i64 by'] w fun e w' => ∃ A' c', e = .returned (.tuple #[.slice A' m c', .int .i64 E]) ∧ Below w.heap.size w w' ∧ GA w' A' m (fun i => foS xs dn L g (i * by'.toNat)) ∧ (A' = none → m = 0 ∧ c' = 0) := by
  by_cases h0 : E = 0
  · obtain rfl := hm h0
    subst h0
    obtain ⟨b0, b1⟩ := rg_0 (dc_0 hE).2.2
    obtain ⟨b, rfl⟩ : ∃ b : Nat, by' = b := ⟨by'.toNat, by omega⟩
    rw [Int.toNat_natCast]
    exact decimatedS_ok A B L cL n c xs dn g b hE w hLc hA hB
  · obtain rfl := hm' h0
    exact (decimatedS_err A B L cL n c xs dn g by' E hE h0 w hL hn hA hB).mono fun e w1 ⟨h1, h2⟩ => ⟨none, 0, h1, h2, ga_0 _ _ _, fun _ => ⟨rfl, rfl⟩⟩
theorem dcN_1 (n : Nat) : dcN n 1 = n := by unfold dcN; rw [Nat.div_one, Nat.add_sub_cancel]
set_option maxRecDepth 100000 in
set_option maxHeartbeats 800000 in
theorem filteredS_all (A B : Option Addr) (L cL n c : Nat) (xs : Nat → Int) (dn : Int) (g : Nat → Int × Int) (E : Int) (m : Nat) (hE : dcE L xs dn n g 1 = E) (hm : E = 0 → m = n) (hm' : E ≠ 0 → m = 0) (w : World) (hL : L ≤ 1000000000) (hn : n ≤ 1000000000) (hLc : L ≤ cL) (hA : IA w A L xs) (hB : GA w B n g) :
    Calls Try.prog 57 #[.agg #[.slice A L cL, .int .i64 dn], .slice B n c] w fun e w' => ∃ A' c', e = .returned (.tuple #[.slice A' m c', .int .i64 E]) ∧ Below w.heap.size w w' ∧ GA w' A' m (foS xs dn L g) ∧ (A' = none → m = 0 ∧ c' = 0) := by
  have HD := Lib.hid (fun W (hW : Below w.heap.size w W) => decimatedS_all A B L cL n c xs dn g 1 E m hE (fun h => (hm h).trans (dcN_1 n).symm) hm' W hL hn hLc (hA.bel hW) (hB.bel hW))
  rw [show (fun i => foS xs dn L g (i * (1 : Int).toNat)) = foS xs dn L g from funext fun i => congrArg _ (Nat.mul_one i)] at HD
  clear hE hm hm' hA hB
  go_enter Try.func57, Try.ntmps57
  go_wp2_with (go_at_call 59; (with_reducible refine Calls.mono (HD.out _ (by (repeat (first | with_reducible exact Below.refl _ _ | with_reducible assumption | with_reducible refine Below.alloc ?_ (by first | (simp; done) | (simp; omega) | omega) _ | with_reducible refine Below.setCell ?_ (by first | (simp; done) | (simp; omega) | omega) _ | with_reducible refine Below.drew ?_ | with_reducible refine below_drewN ?_ _)))) ?_); rintro e w1 ⟨A', c', rfl, hb1, hG1, hN1⟩; have B1 := Lib.hid (belowT (show Below w.heap.size w _ by (repeat (first | with_reducible exact Below.refl _ _ | with_reducible assumption | with_reducible refine Below.alloc ?_ (by first | (simp; done) | (simp; omega) | omega) _ | with_reducible refine Below.setCell ?_ (by first | (simp; done) | (simp; omega) | omega) _ | with_reducible refine Below.drew ?_ | with_reducible refine below_drewN ?_ _))) hb1); have H1 := Lib.hid (And.intro hG1 hN1); clear hb1 hG1 hN1)
  go_ret2
  exact ⟨A', c', rfl, B1.out, H1.out⟩
end Go.Proofs.Ytpkacfgmojblbaa
