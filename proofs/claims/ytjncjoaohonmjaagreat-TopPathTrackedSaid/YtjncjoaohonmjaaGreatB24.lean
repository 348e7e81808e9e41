/- Helpers: the times of receipt as numbers (the first time at which a signal has arrived, the last one at which it surely has not). -/
import Derived.Test.YtjncjoaohonmjaaGreatB23
import Derived.Test.YtjncjoaohonmjaaGreatB18
import Derived.Test.YtjncjoaohonmjaaGreatB22
import Derived.Test.YtjncjoaohonmjaaGreatB17
import Derived.Laws.EntriesVeiled
namespace Go.Proofs.YtjncjoaohonmjaaGreat
open Go.RowKit Go.Shelf Go.Sort
/-- The first number from lo on, of n ones, at which p holds; the one behind them if there is none. -/
def fstI (p : Int → Bool) : Int → Nat → Int
  | lo, 0 => lo
  | lo, n + 1 => if p lo then lo else fstI p (lo + 1) n
theorem fstI_RL (p : Int → Bool) : ∀ (n : Nat) (lo : Int), RL p lo (lo + n - 1) (fstI p lo n)
  | 0, lo => ⟨Int.le_refl _, by show lo ≤ _; omega, .inl rfl, .inl (by show lo = _; omega)⟩
  | n + 1, lo => by
    unfold fstI
    by_cases h : p lo = true
    · rw [if_pos h]
      exact ⟨Int.le_refl _, by omega, .inl rfl, .inr h⟩
    · rw [if_neg h]
      obtain ⟨a, b, c, d⟩ := fstI_RL p n (lo + 1)
      refine ⟨by omega, by omega, ?_, ?_⟩
      · rcases c with c | c
        · right; rw [c, Int.add_sub_cancel]; simpa using h
        · exact .inr c
      · rcases d with d | d
        · left; omega
        · exact .inr d
theorem RL_one {p : Int → Bool} {lo hi r r' : Int} (hm : ∀ x y, lo ≤ x → x ≤ y → y ≤ hi → p x = true → p y = true) (h : RL p lo hi r) (h' : RL p lo hi r') : r = r' := by
  obtain ⟨a1, a2, a3, a4⟩ := h
  obtain ⟨b1, b2, b3, b4⟩ := h'
  have key : ∀ x y, lo ≤ x → x < y → y ≤ hi + 1 → (y = lo ∨ p (y - 1) = false) → (x = hi + 1 ∨ p x = true) → False := by
    intro x y q0 q1 q2 q3 q4
    rcases q3 with z | z
    · omega
    · rcases q4 with u | u
      · omega
      · rw [hm x (y - 1) q0 (by omega) (by omega) u] at z; cases z
  rcases Int.lt_or_le r r' with q | q
  · exact (key r r' a1 q b2 b3 a4).elim
  · rcases Int.lt_or_le r' r with q' | q'
    · exact (key r' r b1 q' a2 a3 b4).elim
    · omega
def lastT (B : Trk) : Int := (B.k (B.n - 1)).t
def rcHi (A B : Trk) (s : Int) : Int := fstI (arrB A B s) s (lastT B + 1 - s).toNat
def rcPos (A B : Trk) (s : Int) : Int := fstI (fun r => !awayB A B s r) s (rcHi A B s + 1 - s).toNat
def rcLo (A B : Trk) (s : Int) : Int := max s (rcPos A B s - 1)
theorem TIn.last {B : Trk} {s : Int} (h : TIn B s) : s ≤ lastT B := (inside h.2).2
theorem TIn.first {B : Trk} {s : Int} (h : TIn B s) : (B.k 0).t ≤ s := (inside h.2).1
theorem TIn.to {B : Trk} {s r : Int} (h : TIn B s) (h1 : s ≤ r) (h2 : r ≤ lastT B) : TIn B r := ⟨h.1, inside_mk (by have := h.first; omega) h2⟩
theorem rcHi_RL {A B : Trk} {s : Int} (hB : TIn B s) : RL (arrB A B s) s (lastT B) (rcHi A B s) := by
  have := fstI_RL (arrB A B s) (lastT B + 1 - s).toNat s
  have h := hB.last
  rwa [show s + ((lastT B + 1 - s).toNat : Int) - 1 = lastT B by omega] at this
theorem hi_same {A B : Trk} {s r : Int} (hA : TIn A s) (hB : TIn B s) (h : RL (arrB A B s) s (lastT B) r) : r = rcHi A B s :=
  RL_one (fun _ _ q0 q1 q2 q => arr_mono hA q0 (hB.to q0 (by omega)) (hB.to (by omega) q2) q1 q) h (rcHi_RL hB)
theorem rcPos_RL {A B : Trk} {s : Int} (hB : TIn B s) : RL (fun r => !awayB A B s r) s (rcHi A B s) (rcPos A B s) := by
  have := fstI_RL (fun r => !awayB A B s r) (rcHi A B s + 1 - s).toNat s
  have h := (rcHi_RL (A := A) hB).1
  rwa [show s + ((rcHi A B s + 1 - s).toNat : Int) - 1 = rcHi A B s by omega] at this
theorem pos_same {A B : Trk} {s r : Int} (hA : TIn A s) (hB : TIn B s) (hl : rcHi A B s ≤ lastT B) (h : RL (fun r => !awayB A B s r) s (rcHi A B s) r) : r = rcPos A B s :=
  RL_one (fun x y q0 q1 q2 q => by
    rw [Bool.not_eq_true'] at q ⊢
    exact away_mono hA q0 (hB.to q0 (by omega)) (hB.to (by omega) (by omega)) q1 q) h (rcPos_RL hB)
theorem rc_bounds {A B : Trk} {s : Int} (hB : TIn B s) : s ≤ rcLo A B s ∧ rcLo A B s ≤ rcHi A B s := by
  have h1 := (rcHi_RL (A := A) hB).1
  have h2 := rcPos_RL (A := A) hB
  unfold rcLo
  have := h2.2.1
  omega
theorem lo_same {A B : Trk} {s L : Int} (hA : TIn A s) (hB : TIn B s) (hl : rcHi A B s ≤ lastT B) (h1 : s ≤ L) (h2 : L ≤ rcHi A B s) (h3 : L = s ∨ awayB A B s L = true) (h4 : L = rcHi A B s ∨ awayB A B s (L + 1) = false) : L = rcLo A B s := by
  unfold rcLo
  by_cases hw : awayB A B s L = true
  · have : L + 1 = rcPos A B s := pos_same hA hB hl ⟨by omega, by omega, .inr (by show (!awayB A B s (L + 1 - 1)) = false; rw [Int.add_sub_cancel, hw]; rfl), by
      rcases h4 with h | h
      · left; omega
      · right; show (!awayB A B s (L + 1)) = true; rw [h]; rfl⟩
    omega
  · have e : L = s := by
      rcases h3 with h | h
      · exact h
      · exact absurd h hw
    rw [e] at hw
    have : s = rcPos A B s := pos_same hA hB hl ⟨by omega, by omega, .inl rfl, .inr (by show (!awayB A B s s) = true; simpa using hw)⟩
    omega
theorem rc_none {A B : Trk} {s : Int} (hA : TIn A s) (hB : TIn B s) (h : arrB A B s (lastT B) = false) : lastT B < rcHi A B s := by
  obtain ⟨a, b, c, d⟩ := rcHi_RL (A := A) hB
  rcases d with d | d
  · omega
  · rcases Int.lt_or_le (lastT B) (rcHi A B s) with q | q
    · exact q
    · have := arr_mono hA a (hB.to a q) (hB.to hB.last (Int.le_refl _)) q d
      rw [h] at this; cases this
theorem rc_some {A B : Trk} {s : Int} (hB : TIn B s) (h : arrB A B s (lastT B) = true) : rcHi A B s ≤ lastT B := by
  obtain ⟨a, b, c, d⟩ := rcHi_RL (A := A) hB
  rcases c with c | c
  · have := hB.last; omega
  · rcases Int.lt_or_le (lastT B) (rcHi A B s) with q | q
    · rw [show rcHi A B s - 1 = lastT B by omega, h] at c; cases c
    · exact q
theorem rc_arr {A B : Trk} {s : Int} (hB : TIn B s) (h : rcHi A B s ≤ lastT B) : arrB A B s (rcHi A B s) = true := by
  obtain ⟨a, b, c, d⟩ := rcHi_RL (A := A) hB
  rcases d with d | d
  · omega
  · exact d
/-- A track's numbers alone. -/
def TV.t (A : TV) : Trk := ⟨0, 0, A.n, 0, A.k, A.d⟩
def rvE (A B : TV) (s : Int) : Int := if distErr A B s = 0 then (if lastT B.t < rcHi A.t B.t s then 12 else 0) else distErr A B s
def rvLo (A B : TV) (s : Int) : Int := if rvE A B s = 0 then rcLo A.t B.t s else 0
def rvHi (A B : TV) (s : Int) : Int := if rvE A B s = 0 then rcHi A.t B.t s else 0
theorem distErr_in {A B : TV} {s : Int} (h : distErr A B s = 0) : TIn A.t s ∧ TIn B.t s := by
  obtain ⟨a, b, c, d⟩ := distErr_0 h
  exact ⟨⟨a, c⟩, ⟨b, d⟩⟩
theorem same_arrN {A B A' B' : Trk} (hA : A.k = A'.k ∧ A.n = A'.n ∧ A.d = A'.d) (hB : B.k = B'.k ∧ B.n = B'.n ∧ B.d = B'.d) (s r : Int) : arrB A B s r = arrB A' B' s r ∧ awayB A B s r = awayB A' B' s r := by
  unfold arrB awayB sqF sqN Trk.p
  rw [hA.1, hA.2.1, hA.2.2, hB.1, hB.2.1, hB.2.2]
  exact ⟨rfl, rfl⟩
/-- The program's ReceivedAt, by these numbers. -/
theorem receivedAt_n (A B : TV) (s : Int) (w : World) (hA : A.At w) (hB : B.At w) :
    Calls Tryz.prog 24 #[.agg #[.slice A.a A.n A.c, .int .i64 A.d], .agg #[.slice B.a B.n B.c, .int .i64 B.d], .int .i64 s] w fun e w' => e = .returned (.tuple #[.agg #[.int .i64 (rvLo A B s), .int .i64 (rvHi A B s)], .int .i64 (rvE A B s)]) ∧ Below w.heap.size w w' := by
  refine (receivedAt_x A.a B.a A.n A.c B.n B.c A.k B.k A.d B.d s w hA hB).mono ?_
  rintro e w' ⟨hb, hh⟩
  refine ⟨?_, hb⟩
  change (if distErr A B s = 0 then _ else _) at hh
  by_cases hd : distErr A B s = 0
  · rw [if_pos hd] at hh
    obtain ⟨A', B', arr, hA', hB', h1, h2⟩ := hh
    obtain ⟨tA, tB⟩ := distErr_in hd
    have fa : arrB A' B' s = arrB A.t B.t s := funext fun r => (same_arrN (A' := A.t) (B' := B.t) hA' hB' s r).1
    have fw : (fun r => !awayB A' B' s r) = fun r => !awayB A.t B.t s r := funext fun r => by rw [(same_arrN (A' := A.t) (B' := B.t) hA' hB' s r).2]
    rw [fa] at h1
    have ea := hi_same tA tB h1
    have hl : (B.k (B.n - 1)).t = lastT B.t := rfl
    subst ea
    rcases h2 with ⟨q, rfl⟩ | ⟨q, pos, h3, rfl⟩
    · have e1 : rvE A B s = 12 := by unfold rvE; rw [if_pos hd, if_pos (by rw [← hl]; exact q)]
      unfold rvLo rvHi
      rw [e1, if_neg (by decide), if_neg (by decide)]
    · have e1 : rvE A B s = 0 := by unfold rvE; rw [if_pos hd, if_neg (by have q' : rcHi A.t B.t s ≤ lastT B.t := q; omega)]
      rw [fw] at h3
      have ep := pos_same tA tB (by rw [← hl]; exact q) h3
      subst ep
      unfold rvLo rvHi
      rw [e1, if_pos rfl, if_pos rfl]
      rfl
  · rw [if_neg hd] at hh
    have e1 : rvE A B s = distErr A B s := by unfold rvE; rw [if_neg hd]
    unfold rvLo rvHi
    rw [e1, if_neg hd, if_neg hd]
    exact hh
end Go.Proofs.YtjncjoaohonmjaaGreat
namespace Go.Proofs.YtjncjoaohonmjaaGreat
open Go.RowKit Go.Shelf Go.Sort
attribute [local go_sem] idx3_0 idx3_1 idx3_2 old1 fro1 old2 fro2 old3 fro3 old4 fro4 old5 fro5 old6 fro6 old7 fro7 old8 fro8 old9 fro9 old10 fro10 old11 fro11 old12 fro12
def mg0 : List Bool := [false, false, true, true, true, true, true, true, true, true, true, true]
def mg1 : List Bool := [false, false, false, false, false, false, true, true, true, true, true, true, true, true, true, true, true, true, false, false, false, false, false, false]
def vwErr (e : Int) (A B : TV) : Int := if e = 0 then bothErr A B else e
def visErr (e : Int) (A B : TV) (time : Int) : Int := if vwErr e A B = 0 then timesErr A B time else vwErr e A B
theorem ferr_vw (e : Int) (A B : TV) : ferr (fun i => if i = 0 then e else if i = 1 then A.err else B.err) 0 3 = vwErr e A B := by
  simp only [ferr, vwErr, bothErr]
  by_cases h : e = 0 <;> by_cases ha : A.err = 0 <;> by_cases hb : B.err = 0 <;> simp [h, ha, hb]
theorem ferr_vis (e : Int) (A B : TV) (time : Int) : ferr (fun i => if i = 0 then vwErr e A B else timesErr A B time) 0 2 = visErr e A B time := by
  simp only [ferr, visErr]
  by_cases h : vwErr e A B = 0 <;> by_cases ha : timesErr A B time = 0 <;> simp [h, ha]
theorem vw_0 {e : Int} {A B : TV} (h : vwErr e A B = 0) : e = 0 ∧ A.err = 0 ∧ B.err = 0 := by
  unfold vwErr at h
  by_cases he : e = 0
  · rw [if_pos he] at h
    unfold bothErr at h
    by_cases ha : A.err = 0
    · rw [if_pos ha] at h
      exact ⟨he, ha, h⟩
    · rw [if_neg ha] at h
      exact absurd h ha
  · rw [if_neg he] at h
    exact absurd h he
set_option maxRecDepth 100000 in
set_option maxHeartbeats 400000 in
theorem viewCheck1_any (ux uy uz : Int) (C : Option Addr) (n c : Nat) (k : Nat → Cone) (b : Nat) (w : World) (hn : n ≤ 9223372036854775807) (hk : KC w C n k) (u0 : w.cell? ⟨b, 0, none⟩ = some (.int .i64 ux)) (u1 : w.cell? ⟨b, 1, none⟩ = some (.int .i64 uy)) (u2 : w.cell? ⟨b, 2, none⟩ = some (.int .i64 uz)) (u3 : w.cell? ⟨b, 3, none⟩ = some (.slice C n c)) :
    Calls Tryz.prog 77 #[.pointer (some ⟨b, 0, none⟩)] w fun e w' => e = .returned (.int .i64 ((siteRes ux uy uz n k).2)) ∧ Below w.heap.size w w' := by
  have HS := Lib.hid (checkSite_any ux uy uz C n c k w hn hk)
  clear hk
  go_enter Tryz.func77, Tryz.ntmps77
  go_wp2_with (go_at_call 78; (with_reducible refine Calls.mono HS.out ?_); rintro e w1 ⟨rfl, hb1⟩)
  go_ret
  exact ⟨rfl, hb1⟩
set_option maxRecDepth 100000 in
set_option maxHeartbeats 2000000 in
theorem viewCheck2_any (ux uy uz : Int) (C SA SB : Option Addr) (n c na ca nb cb : Nat) (k : Nat → Cone) (ka kb : Nat → Knot) (da db : Int) (q b : Nat) (w : World) (hn : n ≤ 9223372036854775807) (hk : KC w C n k) (hA : TV.At (⟨SA, na, ca, ka, da⟩ : TV) w) (hB : TV.At (⟨SB, nb, cb, kb, db⟩ : TV) w) (s0 : w.cell? ⟨q, 0, none⟩ = some (.func (.func 77) #[] #[.pointer (some ⟨b, 0, none⟩)]))
    (u0 : w.cell? ⟨b, 0, none⟩ = some (.int .i64 ux)) (u1 : w.cell? ⟨b, 1, none⟩ = some (.int .i64 uy)) (u2 : w.cell? ⟨b, 2, none⟩ = some (.int .i64 uz)) (u3 : w.cell? ⟨b, 3, none⟩ = some (.slice C n c)) (a0 : w.cell? ⟨b, 4, none⟩ = some (.slice SA na ca)) (a1 : w.cell? ⟨b, 5, none⟩ = some (.int .i64 da)) (b0 : w.cell? ⟨b, 6, none⟩ = some (.slice SB nb cb)) (b1 : w.cell? ⟨b, 7, none⟩ = some (.int .i64 db)) :
    Calls Tryz.prog 79 #[.pointer (some ⟨q, 0, none⟩), .pointer (some ⟨b, 0, none⟩)] w fun e w' => e = .returned (.int .i64 (vwErr (siteRes ux uy uz n k).2 (⟨SA, na, ca, ka, da⟩ : TV) (⟨SB, nb, cb, kb, db⟩ : TV))) ∧ Below w.heap.size w w' := by
  have HK := Lib.hid hk
  have HVA := Lib.hid hA
  have HVB := Lib.hid hB
  clear hk hA hB
  go_enter Tryz.func79, Tryz.ntmps79
  go_wp2_with fail
  refine wp_region_mp [mpChk True ((siteRes ux uy uz n k).2), mpEq (.pointer (some ⟨b, 4, none⟩)), mpEq (.agg #[.slice SA na ca, .int .i64 da]), mpChk True (TV.err (⟨SA, na, ca, ka, da⟩ : TV)), mpEq (.pointer (some ⟨b, 6, none⟩)), mpEq (.agg #[.slice SB nb cb, .int .i64 db]), mpChk True (TV.err (⟨SB, nb, cb, kb, db⟩ : TV)), mpChks 3 (fun i => if i = 0 then (siteRes ux uy uz n k).2 else if i = 1 then TV.err (⟨SA, na, ca, ka, da⟩ : TV) else TV.err (⟨SB, nb, cb, kb, db⟩ : TV)), mpEq (.int .i64 (vwErr (siteRes ux uy uz n k).2 (⟨SA, na, ca, ka, da⟩ : TV) (⟨SB, nb, cb, kb, db⟩ : TV))), mpEq (.int .i64 (vwErr (siteRes ux uy uz n k).2 (⟨SA, na, ca, ka, da⟩ : TV) (⟨SB, nb, cb, kb, db⟩ : TV)))] mg0 (by kernel_rfl) (by kernel_rfl) (by kernel_rfl) (
      allOps_cons (fun a' w' hb hs hd => rg_op fun K hK => by
    have e1 := (hs.get 0 (by kernel_rfl)).trans (show _ = Value.pointer (some ⟨q, 0, none⟩) from rfl)
    have c0 := keep hb s0
    clear hs hd
    unfold Oper.wp
    generalize a'.eval = ρ at e1 ⊢
    simp [go_sem, e1, c0]
    exact hK _ _ (Below.refl _ _) ⟨_, _, rfl, (enters_of Tryz.func77 (by kernel_rfl) rfl), fun w1 h1 _ => viewCheck1_any ux uy uz C n c k b w1 hn (HK.out.bel (belowT hb h1)) (keep (belowT hb h1) u0) (keep (belowT hb h1) u1) (keep (belowT hb h1) u2) (keep (belowT hb h1) u3)⟩) <|
      allOps_cons (fun a' w' hb hs hd => rg_op fun K hK => by
    have e1 := (hs.get 1 (by kernel_rfl)).trans (show _ = Value.pointer (some ⟨b, 0, none⟩) from rfl)
    clear hs hd
    unfold Oper.wp
    generalize a'.eval = ρ at e1 ⊢
    simp [go_sem, e1]
    exact hK _ _ (Below.refl _ _) rfl) <|
      allOps_cons (fun a' w' hb hs hd => rg_op fun K hK => by
    have e1 := (show a'.eval (.tmp 4) = .pointer (some ⟨b, 4, none⟩) from hd.get 1 4 (by kernel_rfl) (by kernel_rfl))
    have c0 := keep hb a0
    have c1 := keep hb a1
    clear hs hd
    unfold Oper.wp
    generalize a'.eval = ρ at e1 ⊢
    simp [go_sem, e1, c0, c1]
    exact hK _ _ (Below.refl _ _) rfl) <|
      allOps_cons (fun a' w' hb hs hd => by
    exact rg_fn (φ := (mpChk True (TV.err (⟨SA, na, ca, ka, da⟩ : TV))).p) (vs := #[.agg #[.slice SA na ca, .int .i64 da]]) rfl (enters_of Tryz.func30 (by kernel_rfl) rfl) (by simp [(show a'.eval (.tmp 5) = .agg #[.slice SA na ca, .int .i64 da] from hd.get 2 5 (by kernel_rfl) (by kernel_rfl))]) (trackCheck_chk (⟨SA, na, ca, ka, da⟩ : TV) w' (HVA.out.below hb))) <|
      allOps_cons (fun a' w' hb hs hd => rg_op fun K hK => by
    have e1 := (hs.get 1 (by kernel_rfl)).trans (show _ = Value.pointer (some ⟨b, 0, none⟩) from rfl)
    clear hs hd
    unfold Oper.wp
    generalize a'.eval = ρ at e1 ⊢
    simp [go_sem, e1]
    exact hK _ _ (Below.refl _ _) rfl) <|
      allOps_cons (fun a' w' hb hs hd => rg_op fun K hK => by
    have e1 := (show a'.eval (.tmp 7) = .pointer (some ⟨b, 6, none⟩) from hd.get 4 7 (by kernel_rfl) (by kernel_rfl))
    have c0 := keep hb b0
    have c1 := keep hb b1
    clear hs hd
    unfold Oper.wp
    generalize a'.eval = ρ at e1 ⊢
    simp [go_sem, e1, c0, c1]
    exact hK _ _ (Below.refl _ _) rfl) <|
      allOps_cons (fun a' w' hb hs hd => by
    exact rg_fn (φ := (mpChk True (TV.err (⟨SB, nb, cb, kb, db⟩ : TV))).p) (vs := #[.agg #[.slice SB nb cb, .int .i64 db]]) rfl (enters_of Tryz.func30 (by kernel_rfl) rfl) (by simp [(show a'.eval (.tmp 8) = .agg #[.slice SB nb cb, .int .i64 db] from hd.get 5 8 (by kernel_rfl) (by kernel_rfl))]) (trackCheck_chk (⟨SB, nb, cb, kb, db⟩ : TV) w' (HVB.out.below hb))) <|
      allOps_cons (fun a' w' hb hs hd => rg_op fun K hK => by
    have k0 : (mpChk (True) ((siteRes ux uy uz n k).2)).p (a'.eval (.tmp 3)) w' := hd.get 0 3 (by kernel_rfl) (by kernel_rfl)
    have k1 : (mpChk (True) (TV.err (⟨SA, na, ca, ka, da⟩ : TV))).p (a'.eval (.tmp 6)) w' := hd.get 3 6 (by kernel_rfl) (by kernel_rfl)
    have k2 : (mpChk (True) (TV.err (⟨SB, nb, cb, kb, db⟩ : TV))).p (a'.eval (.tmp 9)) w' := hd.get 6 9 (by kernel_rfl) (by kernel_rfl)
    clear hs hd
    unfold Oper.wp
    generalize a'.eval = ρ at k0 k1 k2 ⊢
    obtain ⟨g0, f0, e0, h0⟩ := k0
    obtain ⟨g1, f1, e1, h1⟩ := k1
    obtain ⟨g2, f2, e2, h2⟩ := k2
    simp [go_sem, e0, e1, e2]
    have hx := (Below.refl w'.heap.size w').alloc (Nat.le_refl _) (.cells #[.func (.func g0) #[] f0, .func (.func g1) #[] f1, .func (.func g2) #[] f2] 69)
    refine hK _ _ hx ⟨_, rfl, fun i => if i = 0 then .func (.func g0) #[] f0 else if i = 1 then .func (.func g1) #[] f1 else .func (.func g2) #[] f2, fun i hi => ?_, fun i hi => ?_⟩
    · rcases (by omega : i = 0 ∨ i = 1 ∨ i = 2) with rfl | rfl | rfl <;> simp [go_sem]
    · rcases (by omega : i = 0 ∨ i = 1 ∨ i = 2) with rfl | rfl | rfl
      · exact Chk.imp (Chk.on (show Chk (True) ((siteRes ux uy uz n k).2) (.func (.func g0) #[] f0) w' from ⟨g0, f0, rfl, h0⟩) hx) (fun _ => trivial)
      · exact Chk.imp (Chk.on (show Chk (True) (TV.err (⟨SA, na, ca, ka, da⟩ : TV)) (.func (.func g1) #[] f1) w' from ⟨g1, f1, rfl, h1⟩) hx) (fun _ => trivial)
      · exact Chk.imp (Chk.on (show Chk (True) (TV.err (⟨SB, nb, cb, kb, db⟩ : TV)) (.func (.func g2) #[] f2) w' from ⟨g2, f2, rfl, h2⟩) hx) (fun _ => trivial)) <|
      allOps_cons (fun a' w' hb hs hd => by
    exact rg_fn (φ := (mpEq (.int .i64 (vwErr (siteRes ux uy uz n k).2 (⟨SA, na, ca, ka, da⟩ : TV) (⟨SB, nb, cb, kb, db⟩ : TV)))).p) (vs := #[a'.eval (.tmp 10)]) rfl (enters_of Tryz.func29 (by kernel_rfl) rfl) (by simp) ((first_chks (n := 3) (er := (fun i => if i = 0 then (siteRes ux uy uz n k).2 else if i = 1 then TV.err (⟨SA, na, ca, ka, da⟩ : TV) else TV.err (⟨SB, nb, cb, kb, db⟩ : TV))) (by omega) (by omega) (hd.get 7 10 (by kernel_rfl) (by kernel_rfl))).mono (by rintro e w1 ⟨rfl, h1⟩; exact ⟨_, rfl, h1, congrArg (Value.int .i64) (ferr_vw _ (⟨SA, na, ca, ka, da⟩ : TV) (⟨SB, nb, cb, kb, db⟩ : TV))⟩))) <|
      allOps_cons (fun a' w' hb hs hd => rg_op fun K hK => by
    have e1 := (show a'.eval (.tmp 11) = .int .i64 (vwErr (siteRes ux uy uz n k).2 (⟨SA, na, ca, ka, da⟩ : TV) (⟨SB, nb, cb, kb, db⟩ : TV)) from hd.get 8 11 (by kernel_rfl) (by kernel_rfl))
    clear hs hd
    unfold Oper.wp
    generalize a'.eval = ρ at e1 ⊢
    simp [go_sem, e1]
    exact hK _ _ (Below.refl _ _) rfl) <| allOps_nil) (fun V w' hb hall => ?_)
  have h8 : V 2 = .int .i64 (vwErr (siteRes ux uy uz n k).2 (⟨SA, na, ca, ka, da⟩ : TV) (⟨SB, nb, cb, kb, db⟩ : TV)) := hall.get 9 rfl
  clear hall
  simp only [mg0, maskPut, Nat.reduceAdd]
  rw [h8]
  clear h8
  go_wp2_with fail
  go_ret
  exact ⟨rfl, hb⟩
set_option maxRecDepth 100000 in
set_option maxHeartbeats 2000000 in
theorem viewCheck_chk (ux uy uz : Int) (C : Option Addr) (n c : Nat) (k : Nat → Cone) (A B : TV) (w : World) (hn : n ≤ 9223372036854775807) (hk : KC w C n k) (hA : A.At w) (hB : B.At w) :
    Calls Tryz.prog 39 #[.agg #[.int .i64 ux, .int .i64 uy, .int .i64 uz, .slice C n c, .slice A.a A.n A.c, .int .i64 A.d, .slice B.a B.n B.c, .int .i64 B.d]] w fun e w' => ∃ v, e = .returned v ∧ Below w.heap.size w w' ∧ Chk True (vwErr ((siteRes ux uy uz n k).2) A B) v w' := by
  obtain ⟨SA, na, ca, ka, da⟩ := A
  obtain ⟨SB, nb, cb, kb, db⟩ := B
  simp only at hA hB ⊢
  have HK := Lib.hid hk
  have HVA := Lib.hid hA
  have HVB := Lib.hid hB
  clear hk hA hB
  go_enter Tryz.func39, Tryz.ntmps39
  go_wp2
  go_ret
  refine ⟨_, rfl, by (repeat (first | with_reducible exact Below.refl _ _ | with_reducible assumption | with_reducible refine Below.alloc ?_ (by first | (simp; done) | (simp; omega) | omega) _ | with_reducible refine Below.setCell ?_ (by first | (simp; done) | (simp; omega) | omega) _ | with_reducible refine Below.drew ?_ | with_reducible refine below_drewN ?_ _)), _, _, rfl, (enters_of Tryz.func79 (by kernel_rfl) rfl), fun w1 h1 _ => ?_⟩
  have hb : Below w.heap.size w w1 := belowT (by (repeat (first | with_reducible exact Below.refl _ _ | with_reducible assumption | with_reducible refine Below.alloc ?_ (by first | (simp; done) | (simp; omega) | omega) _ | with_reducible refine Below.setCell ?_ (by first | (simp; done) | (simp; omega) | omega) _ | with_reducible refine Below.drew ?_ | with_reducible refine below_drewN ?_ _))) h1
  exact viewCheck2_any ux uy uz C SA SB n c na ca nb cb k ka kb da db (w.heap.size + 1) w.heap.size w1 hn (HK.out.bel hb) (HVA.out.below hb) (HVB.out.below hb) (keep h1 (by simp [go_sem])) (keep h1 (by simp [go_sem])) (keep h1 (by simp [go_sem])) (keep h1 (by simp [go_sem])) (keep h1 (by simp [go_sem])) (keep h1 (by simp [go_sem])) (keep h1 (by simp [go_sem])) (keep h1 (by simp [go_sem])) (keep h1 (by simp [go_sem]))
/-! ### the answer, by the numbers of the view -/
def alo (x y z d a b c : Int) : Int := a * x + b * y + c * z - (siz a * d + siz b * d + siz c * d)
def ahi (x y z d a b c : Int) : Int := a * x + b * y + c * z + (siz a * d + siz b * d + siz c * d)
def vwLo (A B : Trk) (time a b c : Int) : Int := alo (vx (A.p time) (B.p time)) (vy (A.p time) (B.p time)) (vz (A.p time) (B.p time)) (vd A.d B.d (A.p time) (B.p time)) a b c
def vwHi (A B : Trk) (time a b c : Int) : Int := ahi (vx (A.p time) (B.p time)) (vy (A.p time) (B.p time)) (vz (A.p time) (B.p time)) (vd A.d B.d (A.p time) (B.p time)) a b c
def hidF (k : Nat → Cone) (A B : Trk) (time : Int) (j : Nat) : Bool := hid (k j) (vwLo A B time (k j).x (k j).y (k j).z) (sqF A B time time)
def hidN (k : Nat → Cone) (A B : Trk) (time : Int) (j : Nat) : Bool := hid (k j) (vwHi A B time (k j).x (k j).y (k j).z) (sqN A B time time)
def ansAt (ux uy uz : Int) (n : Nat) (k : Nat → Cone) (A B : Trk) (time : Int) : Int :=
  ansOf (orB (hidF k A B time) (decide (vwHi A B time ux uy uz < 0)) n) (andB (hidN k A B time) (decide (0 ≤ vwLo A B time ux uy uz)) n)
theorem al_bd {x y z d a b c : Int} (x1 : -200000000000000 ≤ x) (x2 : x ≤ 200000000000000) (y1 : -200000000000000 ≤ y) (y2 : y ≤ 200000000000000) (z1 : -200000000000000 ≤ z) (z2 : z ≤ 200000000000000) (d1 : 0 ≤ d) (d2 : d ≤ 200000000000)
    (a1 : -100 ≤ a) (a2 : a ≤ 100) (b1 : -100 ≤ b) (b2 : b ≤ 100) (c1 : -100 ≤ c) (c2 : c ≤ 100) : (-70000000000000000 ≤ alo x y z d a b c ∧ alo x y z d a b c ≤ 70000000000000000) ∧ -70000000000000000 ≤ ahi x y z d a b c ∧ ahi x y z d a b c ≤ 70000000000000000 := by
  obtain ⟨p1, p2⟩ := axm_bd a1 a2 x1 x2
  obtain ⟨q1, q2⟩ := axm_bd b1 b2 y1 y2
  obtain ⟨r1, r2⟩ := axm_bd c1 c2 z1 z2
  have s1 : 0 ≤ siz a * d := Int.mul_nonneg (siz_nn a) d1
  have s2 : siz a * d ≤ 100 * 200000000000 := Int.mul_le_mul (siz_le (b := 100) a1 a2) d2 d1 (by omega)
  have t1 : 0 ≤ siz b * d := Int.mul_nonneg (siz_nn b) d1
  have t2 : siz b * d ≤ 100 * 200000000000 := Int.mul_le_mul (siz_le (b := 100) b1 b2) d2 d1 (by omega)
  have u1 : 0 ≤ siz c * d := Int.mul_nonneg (siz_nn c) d1
  have u2 : siz c * d ≤ 100 * 200000000000 := Int.mul_le_mul (siz_le (b := 100) c1 c2) d2 d1 (by omega)
  unfold alo ahi
  omega
theorem axis_bd {x y z : Int} (h : axErr x y z = 0) : (-100 ≤ x ∧ x ≤ 100) ∧ (-100 ≤ y ∧ y ≤ 100) ∧ (-100 ≤ z ∧ z ≤ 100) := by
  unfold axErr at h
  cases he : exc x y z 100 with
  | true => rw [he, if_pos rfl] at h; cases h
  | false => exact exc_f.1 he
theorem answerAt_any (ux uy uz : Int) (C : Option Addr) (n c : Nat) (k : Nat → Cone) (A B : Trk) (time : Int) (w : World) (h4 : n ≤ 4) (hk : KC w C n k) (hu : axErr ux uy uz = 0) (hc : ∀ i, i < n → coneErr (k i) = 0) (hA : VT w A time) (hB : VT w B time) :
    Calls Tryz.prog 40 #[.agg #[.int .i64 ux, .int .i64 uy, .int .i64 uz, .slice C n c, .slice (some ⟨A.b, A.off, none⟩) A.n A.c, .int .i64 A.d, .slice (some ⟨B.b, B.off, none⟩) B.n B.c, .int .i64 B.d], .int .i64 time] w fun e w' => e = .returned (.int .i64 (ansAt ux uy uz n k A B time)) ∧ Below w.heap.size w w' := by
  obtain ⟨_, ⟨x1, x2⟩, ⟨y1, y2⟩, ⟨z1, z2⟩, d1, d2⟩ := v_bd (plc_ok hA.2.1 hA.2.2) (plc_ok hB.2.1 hB.2.2) (valid_of hA.2.1).2.2.2 (valid_of hB.2.1).2.2.2
  obtain ⟨⟨u1, u2⟩, ⟨u3, u4⟩, u5, u6⟩ := axis_bd hu
  have lF : 0 ≤ sqF A B time time ∧ sqF A B time time ≤ 150000000000000000000000000000 := nsum_bd (fr_bd x1 x2 d1 d2) (fr_bd y1 y2 d1 d2) (fr_bd z1 z2 d1 d2) 3
  have lN : 0 ≤ sqN A B time time ∧ sqN A B time time ≤ 150000000000000000000000000000 := nsum_bd ⟨(nr_bd x1 x2 d1).1, Int.le_trans (nr_bd x1 x2 d1).2 (by decide)⟩ ⟨(nr_bd y1 y2 d1).1, Int.le_trans (nr_bd y1 y2 d1).2 (by decide)⟩ ⟨(nr_bd z1 z2 d1).1, Int.le_trans (nr_bd z1 z2 d1).2 (by decide)⟩ 3
  refine answerAt_x ux uy uz C _ _ n c A.n A.c B.n B.c k A.d B.d time (vx (A.p time) (B.p time)) (vy (A.p time) (B.p time)) (vz (A.p time) (B.p time)) (vn (A.p time) (B.p time)) (vd A.d B.d (A.p time) (B.p time)) (sqF A B time time) (sqN A B time time) (vwLo A B time ux uy uz) (vwHi A B time ux uy uz)
    (fun j => vwLo A B time (k j).x (k j).y (k j).z) (fun j => vwHi A B time (k j).x (k j).y (k j).z) (hidF k A B time) (hidN k A B time) w h4 hk
    (fun W hb => vectorBetween_e W A B time time (hA.below hb) (hB.below hb))
    (fun W => along_any _ _ _ _ _ ux uy uz W x1 x2 y1 y2 z1 z2 d1 d2 u1 u2 u3 u4 u5 u6)
    (fun j hj W => ?_) (fun W => farthestOf W A B time time hA.2 hB.2) (fun W => nearestOf W A B time time hA.2 hB.2) (fun j hj W => ?_) (fun j hj W => ?_)
  · obtain ⟨⟨⟨a1, a2⟩, ⟨b1, b2⟩, c1, c2⟩, _⟩ := cone_ok (hc j hj)
    exact along_any _ _ _ _ _ _ _ _ W x1 x2 y1 y2 z1 z2 d1 d2 a1 a2 b1 b2 c1 c2
  · obtain ⟨⟨⟨a1, a2⟩, ⟨b1, b2⟩, c1, c2⟩, _⟩ := cone_ok (hc j hj)
    obtain ⟨⟨p1, p2⟩, _⟩ := al_bd x1 x2 y1 y2 z1 z2 d1 d2 a1 a2 b1 b2 c1 c2
    exact hides_any (k j) _ _ W (hc j hj) p1 p2 lF.1 lF.2
  · obtain ⟨⟨⟨a1, a2⟩, ⟨b1, b2⟩, c1, c2⟩, _⟩ := cone_ok (hc j hj)
    obtain ⟨_, p1, p2⟩ := al_bd x1 x2 y1 y2 z1 z2 d1 d2 a1 a2 b1 b2 c1 c2
    exact hides_any (k j) _ _ W (hc j hj) p1 p2 lN.1 lN.2
theorem coFrom_none {k : Nat → Cone} : ∀ {n i : Nat}, coFrom k i n = none → ∀ j, i ≤ j → j < i + n → coneErr (k j) = 0
  | 0, i, _, j, h1, h2 => by omega
  | n + 1, i, h, j, h1, h2 => by
    unfold coFrom at h
    by_cases hz : coneErr (k i) = 0
    · rw [if_pos hz] at h
      by_cases e : j = i
      · rw [e]; exact hz
      · exact coFrom_none h j (by omega) (by omega)
    · rw [if_neg hz] at h; cases h
theorem coFrom_some {k : Nat → Cone} : ∀ {n i : Nat} {q : Nat × Int}, coFrom k i n = some q → q.2 ≠ 0
  | 0, i, q, h => by cases h
  | n + 1, i, q, h => by
    unfold coFrom at h
    by_cases hz : coneErr (k i) = 0
    · rw [if_pos hz] at h; exact coFrom_some h
    · rw [if_neg hz] at h; cases h; exact hz
theorem site_0 {x y z : Int} {n : Nat} {k : Nat → Cone} (h : (siteRes x y z n k).2 = 0) : axErr x y z = 0 ∧ n ≤ 4 ∧ ∀ i, i < n → coneErr (k i) = 0 := by
  unfold siteRes at h
  by_cases ha : axErr x y z = 0
  · rw [if_pos ha] at h
    by_cases h4 : 4 < n
    · rw [if_pos h4] at h; cases h
    · rw [if_neg h4] at h
      cases hc : coFrom k 0 n with
      | none => exact ⟨ha, by omega, fun i hi => coFrom_none hc i (Nat.zero_le _) (by omega)⟩
      | some q => rw [hc] at h; exact absurd h (coFrom_some hc)
  · rw [if_neg ha] at h
    exact absurd h ha
def visV (ux uy uz : Int) (n : Nat) (k : Nat → Cone) (A B : TV) (time : Int) : Int := if visErr (siteRes ux uy uz n k).2 A B time = 0 then ansAt ux uy uz n k A.t B.t time else 0
set_option maxRecDepth 100000 in
set_option maxHeartbeats 4000000 in
theorem visibleAt_x (ux uy uz : Int) (C SA SB : Option Addr) (n c na ca nb cb : Nat) (k : Nat → Cone) (ka kb : Nat → Knot) (da db time : Int) (w : World) (hn : n ≤ 9223372036854775807) (hk : KC w C n k) (hA : TV.At (⟨SA, na, ca, ka, da⟩ : TV) w) (hB : TV.At (⟨SB, nb, cb, kb, db⟩ : TV) w) :
    Calls Tryz.prog 13 #[.agg #[.int .i64 ux, .int .i64 uy, .int .i64 uz, .slice C n c, .slice SA na ca, .int .i64 da, .slice SB nb cb, .int .i64 db], .int .i64 time] w fun e w' => e = .returned (.tuple #[.int .i64 (visV ux uy uz n k (⟨SA, na, ca, ka, da⟩ : TV) (⟨SB, nb, cb, kb, db⟩ : TV) time), .int .i64 (visErr (siteRes ux uy uz n k).2 (⟨SA, na, ca, ka, da⟩ : TV) (⟨SB, nb, cb, kb, db⟩ : TV) time)]) ∧ Below w.heap.size w w' := by
  have HK := Lib.hid hk
  have HVA := Lib.hid hA
  have HVB := Lib.hid hB
  have HAN : Hid ((visErr (siteRes ux uy uz n k).2 (⟨SA, na, ca, ka, da⟩ : TV) (⟨SB, nb, cb, kb, db⟩ : TV) time) = 0 → ∀ W, Below w.heap.size w W → Calls Tryz.prog 40 #[.agg #[.int .i64 ux, .int .i64 uy, .int .i64 uz, .slice C n c, .slice SA na ca, .int .i64 da, .slice SB nb cb, .int .i64 db], .int .i64 time] W fun e w' => e = .returned (.int .i64 (visV ux uy uz n k (⟨SA, na, ca, ka, da⟩ : TV) (⟨SB, nb, cb, kb, db⟩ : TV) time)) ∧ Below W.heap.size W w') := by
    intro h W hb
    have h1 := h
    unfold visErr at h1
    by_cases hv : vwErr (siteRes ux uy uz n k).2 (⟨SA, na, ca, ka, da⟩ : TV) (⟨SB, nb, cb, kb, db⟩ : TV) = 0
    · rw [if_pos hv] at h1
      obtain ⟨hs, eA, eB⟩ := vw_0 hv
      obtain ⟨hu, h4, hc⟩ := site_0 hs
      obtain ⟨ba, oa, ea, hta⟩ := TV.valid (hA.below hb) eA
      obtain ⟨bb, ob, eb, htb⟩ := TV.valid (hB.below hb) eB
      simp only at ea eb
      subst ea eb
      obtain ⟨oA, oB⟩ : outside time ka na = false ∧ outside time kb nb = false := by
        unfold timesErr at h1
        simp only at h1
        revert h1
        cases outside time ka na <;> cases outside time kb nb <;> simp
      have := answerAt_any ux uy uz C n c k ⟨ba, oa, na, ca, ka, da⟩ ⟨bb, ob, nb, cb, kb, db⟩ time W h4 (hk.bel hb) hu hc ⟨hta, eA, oA⟩ ⟨htb, eB, oB⟩
      refine this.mono ?_
      rintro e w' ⟨rfl, h2⟩
      exact ⟨ret_int (by unfold visV; rw [if_pos h]; rfl), h2⟩
    · rw [if_neg hv] at h1
      exact absurd h1 hv
  clear hk hA hB
  go_enter Tryz.func13, Tryz.ntmps13
  go_wp2_with fail
  have u0 := (show (w.alloc (.cells #[.int .i64 ux, .int .i64 uy, .int .i64 uz, .slice C n c, .slice SA na ca, .int .i64 da, .slice SB nb cb, .int .i64 db] 31)).cell? ⟨w.heap.size, 0, none⟩ = some (.int .i64 ux) by simp [go_sem])
  have u1 := (show (w.alloc (.cells #[.int .i64 ux, .int .i64 uy, .int .i64 uz, .slice C n c, .slice SA na ca, .int .i64 da, .slice SB nb cb, .int .i64 db] 31)).cell? ⟨w.heap.size, 1, none⟩ = some (.int .i64 uy) by simp [go_sem])
  have u2 := (show (w.alloc (.cells #[.int .i64 ux, .int .i64 uy, .int .i64 uz, .slice C n c, .slice SA na ca, .int .i64 da, .slice SB nb cb, .int .i64 db] 31)).cell? ⟨w.heap.size, 2, none⟩ = some (.int .i64 uz) by simp [go_sem])
  have u3 := (show (w.alloc (.cells #[.int .i64 ux, .int .i64 uy, .int .i64 uz, .slice C n c, .slice SA na ca, .int .i64 da, .slice SB nb cb, .int .i64 db] 31)).cell? ⟨w.heap.size, 3, none⟩ = some (.slice C n c) by simp [go_sem])
  have a0 := (show (w.alloc (.cells #[.int .i64 ux, .int .i64 uy, .int .i64 uz, .slice C n c, .slice SA na ca, .int .i64 da, .slice SB nb cb, .int .i64 db] 31)).cell? ⟨w.heap.size, 4, none⟩ = some (.slice SA na ca) by simp [go_sem])
  have a1 := (show (w.alloc (.cells #[.int .i64 ux, .int .i64 uy, .int .i64 uz, .slice C n c, .slice SA na ca, .int .i64 da, .slice SB nb cb, .int .i64 db] 31)).cell? ⟨w.heap.size, 5, none⟩ = some (.int .i64 da) by simp [go_sem])
  have b0 := (show (w.alloc (.cells #[.int .i64 ux, .int .i64 uy, .int .i64 uz, .slice C n c, .slice SA na ca, .int .i64 da, .slice SB nb cb, .int .i64 db] 31)).cell? ⟨w.heap.size, 6, none⟩ = some (.slice SB nb cb) by simp [go_sem])
  have b1 := (show (w.alloc (.cells #[.int .i64 ux, .int .i64 uy, .int .i64 uz, .slice C n c, .slice SA na ca, .int .i64 da, .slice SB nb cb, .int .i64 db] 31)).cell? ⟨w.heap.size, 7, none⟩ = some (.int .i64 db) by simp [go_sem])
  have BV := Lib.hid (show Below w.heap.size w (w.alloc (.cells #[.int .i64 ux, .int .i64 uy, .int .i64 uz, .slice C n c, .slice SA na ca, .int .i64 da, .slice SB nb cb, .int .i64 db] 31)) by (repeat (first | with_reducible exact Below.refl _ _ | with_reducible assumption | with_reducible refine Below.alloc ?_ (by first | (simp; done) | (simp; omega) | omega) _ | with_reducible refine Below.setCell ?_ (by first | (simp; done) | (simp; omega) | omega) _ | with_reducible refine Below.drew ?_ | with_reducible refine below_drewN ?_ _)))
  replace HK := Lib.hid (HK.out.bel BV.out)
  replace HVA := Lib.hid (HVA.out.below BV.out)
  replace HVB := Lib.hid (HVB.out.below BV.out)
  generalize (w.alloc (.cells #[.int .i64 ux, .int .i64 uy, .int .i64 uz, .slice C n c, .slice SA na ca, .int .i64 da, .slice SB nb cb, .int .i64 db] 31)) = V at *
  refine wp_region_mp [mpEq (.agg #[.int .i64 ux, .int .i64 uy, .int .i64 uz, .slice C n c, .slice SA na ca, .int .i64 da, .slice SB nb cb, .int .i64 db]), mpChk True (vwErr (siteRes ux uy uz n k).2 (⟨SA, na, ca, ka, da⟩ : TV) (⟨SB, nb, cb, kb, db⟩ : TV)), mpEq (.int .i64 time), mpEq (.pointer (some ⟨w.heap.size, 4, none⟩)), mpEq (.agg #[.slice SA na ca, .int .i64 da]), mpEq (.pointer (some ⟨w.heap.size, 6, none⟩)), mpEq (.agg #[.slice SB nb cb, .int .i64 db]), mpTwo (⟨SA, na, ca, ka, da⟩ : TV) (⟨SB, nb, cb, kb, db⟩ : TV), mpChk (TV.err (⟨SA, na, ca, ka, da⟩ : TV) = 0 ∧ TV.err (⟨SB, nb, cb, kb, db⟩ : TV) = 0) (timesErr (⟨SA, na, ca, ka, da⟩ : TV) (⟨SB, nb, cb, kb, db⟩ : TV) time), mpChks 2 (fun i => if i = 0 then vwErr (siteRes ux uy uz n k).2 (⟨SA, na, ca, ka, da⟩ : TV) (⟨SB, nb, cb, kb, db⟩ : TV) else timesErr (⟨SA, na, ca, ka, da⟩ : TV) (⟨SB, nb, cb, kb, db⟩ : TV) time), mpEq (.int .i64 (visErr (siteRes ux uy uz n k).2 (⟨SA, na, ca, ka, da⟩ : TV) (⟨SB, nb, cb, kb, db⟩ : TV) time)), mpEq (.int .i64 (visErr (siteRes ux uy uz n k).2 (⟨SA, na, ca, ka, da⟩ : TV) (⟨SB, nb, cb, kb, db⟩ : TV) time))] mg1 (by kernel_rfl) (by kernel_rfl) (by kernel_rfl) (
      allOps_cons (fun a' w' hb hs hd => rg_op fun K hK => by
    have e1 := (hs.get 2 (by kernel_rfl)).trans (show _ = Value.pointer (some ⟨w.heap.size, 0, none⟩) from rfl)
    have c0 := keep hb u0
    have c1 := keep hb u1
    have c2 := keep hb u2
    have c3 := keep hb u3
    have c4 := keep hb a0
    have c5 := keep hb a1
    have c6 := keep hb b0
    have c7 := keep hb b1
    clear hs hd
    unfold Oper.wp
    generalize a'.eval = ρ at e1 ⊢
    simp [go_sem, e1, c0, c1, c2, c3, c4, c5, c6, c7]
    exact hK _ _ (Below.refl _ _) rfl) <|
      allOps_cons (fun a' w' hb hs hd => by
    exact rg_fn (φ := (mpChk True (vwErr (siteRes ux uy uz n k).2 (⟨SA, na, ca, ka, da⟩ : TV) (⟨SB, nb, cb, kb, db⟩ : TV))).p) (vs := #[.agg #[.int .i64 ux, .int .i64 uy, .int .i64 uz, .slice C n c, .slice SA na ca, .int .i64 da, .slice SB nb cb, .int .i64 db]]) rfl (enters_of Tryz.func39 (by kernel_rfl) rfl) (by simp [(show a'.eval (.tmp 7) = .agg #[.int .i64 ux, .int .i64 uy, .int .i64 uz, .slice C n c, .slice SA na ca, .int .i64 da, .slice SB nb cb, .int .i64 db] from hd.get 0 7 (by kernel_rfl) (by kernel_rfl))]) (viewCheck_chk ux uy uz C n c k (⟨SA, na, ca, ka, da⟩ : TV) (⟨SB, nb, cb, kb, db⟩ : TV) w' hn (HK.out.bel hb) (HVA.out.below hb) (HVB.out.below hb))) <|
      allOps_cons (fun a' w' hb hs hd => rg_op fun K hK => by
    have e1 := (hs.get 1 (by kernel_rfl)).trans (show _ = .int .i64 time from rfl)
    clear hs hd
    unfold Oper.wp
    generalize a'.eval = ρ at e1 ⊢
    simp [go_sem, e1]
    exact hK _ _ (Below.refl _ _) rfl) <|
      allOps_cons (fun a' w' hb hs hd => rg_op fun K hK => by
    have e1 := (hs.get 2 (by kernel_rfl)).trans (show _ = Value.pointer (some ⟨w.heap.size, 0, none⟩) from rfl)
    clear hs hd
    unfold Oper.wp
    generalize a'.eval = ρ at e1 ⊢
    simp [go_sem, e1]
    exact hK _ _ (Below.refl _ _) rfl) <|
      allOps_cons (fun a' w' hb hs hd => rg_op fun K hK => by
    have e1 := (show a'.eval (.tmp 10) = .pointer (some ⟨w.heap.size, 4, none⟩) from hd.get 3 10 (by kernel_rfl) (by kernel_rfl))
    have c0 := keep hb a0
    have c1 := keep hb a1
    clear hs hd
    unfold Oper.wp
    generalize a'.eval = ρ at e1 ⊢
    simp [go_sem, e1, c0, c1]
    exact hK _ _ (Below.refl _ _) rfl) <|
      allOps_cons (fun a' w' hb hs hd => rg_op fun K hK => by
    have e1 := (hs.get 2 (by kernel_rfl)).trans (show _ = Value.pointer (some ⟨w.heap.size, 0, none⟩) from rfl)
    clear hs hd
    unfold Oper.wp
    generalize a'.eval = ρ at e1 ⊢
    simp [go_sem, e1]
    exact hK _ _ (Below.refl _ _) rfl) <|
      allOps_cons (fun a' w' hb hs hd => rg_op fun K hK => by
    have e1 := (show a'.eval (.tmp 12) = .pointer (some ⟨w.heap.size, 6, none⟩) from hd.get 5 12 (by kernel_rfl) (by kernel_rfl))
    have c0 := keep hb b0
    have c1 := keep hb b1
    clear hs hd
    unfold Oper.wp
    generalize a'.eval = ρ at e1 ⊢
    simp [go_sem, e1, c0, c1]
    exact hK _ _ (Below.refl _ _) rfl) <|
      allOps_cons (fun a' w' hb hs hd => rg_op fun K hK => by
    have e1 := (show a'.eval (.tmp 11) = .agg #[.slice SA na ca, .int .i64 da] from hd.get 4 11 (by kernel_rfl) (by kernel_rfl))
    have e2 := (show a'.eval (.tmp 13) = .agg #[.slice SB nb cb, .int .i64 db] from hd.get 6 13 (by kernel_rfl) (by kernel_rfl))
    clear hs hd
    unfold Oper.wp
    generalize a'.eval = ρ at e1 e2 ⊢
    simp [go_sem, e1, e2]
    exact hK _ _ ((Below.refl _ _).alloc (Nat.le_refl _) _) ⟨_, rfl, by simp [go_sem], by simp [go_sem], by simp [go_sem], by simp [go_sem]⟩) <|
      allOps_cons (fun a' w' hb hs hd => by
    exact rg_fn (φ := (mpChk (TV.err (⟨SA, na, ca, ka, da⟩ : TV) = 0 ∧ TV.err (⟨SB, nb, cb, kb, db⟩ : TV) = 0) (timesErr (⟨SA, na, ca, ka, da⟩ : TV) (⟨SB, nb, cb, kb, db⟩ : TV) time)).p) (vs := #[.int .i64 time, a'.eval (.tmp 14)]) rfl (enters_of Tryz.func31 (by kernel_rfl) rfl) (by simp [(show a'.eval (.tmp 9) = .int .i64 time from hd.get 2 9 (by kernel_rfl) (by kernel_rfl))]) (timeCheck_chk (⟨SA, na, ca, ka, da⟩ : TV) (⟨SB, nb, cb, kb, db⟩ : TV) time _ w' (HVA.out.below hb) (HVB.out.below hb) (hd.get 7 14 (by kernel_rfl) (by kernel_rfl)))) <|
      allOps_cons (fun a' w' hb hs hd => rg_op fun K hK => by
    have k0 : (mpChk (True) (vwErr (siteRes ux uy uz n k).2 (⟨SA, na, ca, ka, da⟩ : TV) (⟨SB, nb, cb, kb, db⟩ : TV))).p (a'.eval (.tmp 8)) w' := hd.get 1 8 (by kernel_rfl) (by kernel_rfl)
    have k1 : (mpChk (TV.err (⟨SA, na, ca, ka, da⟩ : TV) = 0 ∧ TV.err (⟨SB, nb, cb, kb, db⟩ : TV) = 0) (timesErr (⟨SA, na, ca, ka, da⟩ : TV) (⟨SB, nb, cb, kb, db⟩ : TV) time)).p (a'.eval (.tmp 15)) w' := hd.get 8 15 (by kernel_rfl) (by kernel_rfl)
    clear hs hd
    unfold Oper.wp
    generalize a'.eval = ρ at k0 k1 ⊢
    obtain ⟨g0, f0, e0, h0⟩ := k0
    obtain ⟨g1, f1, e1, h1⟩ := k1
    simp [go_sem, e0, e1]
    have hx := (Below.refl w'.heap.size w').alloc (Nat.le_refl _) (.cells #[.func (.func g0) #[] f0, .func (.func g1) #[] f1] 69)
    refine hK _ _ hx ⟨_, rfl, fun i => if i = 0 then .func (.func g0) #[] f0 else .func (.func g1) #[] f1, fun i hi => ?_, fun i hi => ?_⟩
    · rcases (by omega : i = 0 ∨ i = 1) with rfl | rfl <;> simp [go_sem]
    · rcases (by omega : i = 0 ∨ i = 1) with rfl | rfl
      · exact Chk.imp (Chk.on (show Chk (True) (vwErr (siteRes ux uy uz n k).2 (⟨SA, na, ca, ka, da⟩ : TV) (⟨SB, nb, cb, kb, db⟩ : TV)) (.func (.func g0) #[] f0) w' from ⟨g0, f0, rfl, h0⟩) hx) (fun _ => trivial)
      · exact Chk.imp (Chk.on (show Chk (TV.err (⟨SA, na, ca, ka, da⟩ : TV) = 0 ∧ TV.err (⟨SB, nb, cb, kb, db⟩ : TV) = 0) (timesErr (⟨SA, na, ca, ka, da⟩ : TV) (⟨SB, nb, cb, kb, db⟩ : TV) time) (.func (.func g1) #[] f1) w' from ⟨g1, f1, rfl, h1⟩) hx) (fun hz => (vw_0 (hz 0 (by omega))).2)) <|
      allOps_cons (fun a' w' hb hs hd => by
    exact rg_fn (φ := (mpEq (.int .i64 (visErr (siteRes ux uy uz n k).2 (⟨SA, na, ca, ka, da⟩ : TV) (⟨SB, nb, cb, kb, db⟩ : TV) time))).p) (vs := #[a'.eval (.tmp 16)]) rfl (enters_of Tryz.func29 (by kernel_rfl) rfl) (by simp) ((first_chks (n := 2) (er := (fun i => if i = 0 then vwErr (siteRes ux uy uz n k).2 (⟨SA, na, ca, ka, da⟩ : TV) (⟨SB, nb, cb, kb, db⟩ : TV) else timesErr (⟨SA, na, ca, ka, da⟩ : TV) (⟨SB, nb, cb, kb, db⟩ : TV) time)) (by omega) (by omega) (hd.get 9 16 (by kernel_rfl) (by kernel_rfl))).mono (by rintro e w1 ⟨rfl, h1⟩; exact ⟨_, rfl, h1, congrArg (Value.int .i64) (ferr_vis _ (⟨SA, na, ca, ka, da⟩ : TV) (⟨SB, nb, cb, kb, db⟩ : TV) time)⟩))) <|
      allOps_cons (fun a' w' hb hs hd => rg_op fun K hK => by
    have e1 := (show a'.eval (.tmp 17) = .int .i64 (visErr (siteRes ux uy uz n k).2 (⟨SA, na, ca, ka, da⟩ : TV) (⟨SB, nb, cb, kb, db⟩ : TV) time) from hd.get 10 17 (by kernel_rfl) (by kernel_rfl))
    clear hs hd
    unfold Oper.wp
    generalize a'.eval = ρ at e1 ⊢
    simp [go_sem, e1]
    exact hK _ _ (Below.refl _ _) rfl) <| allOps_nil) (fun Q w1 hb hall => ?_)
  have h8 : Q 6 = .int .i64 (visErr (siteRes ux uy uz n k).2 (⟨SA, na, ca, ka, da⟩ : TV) (⟨SB, nb, cb, kb, db⟩ : TV) time) := hall.get 11 rfl
  clear hall
  simp only [mg1, maskPut, Nat.reduceAdd]
  rw [h8]
  clear h8
  replace u0 := keep hb u0
  replace u1 := keep hb u1
  replace u2 := keep hb u2
  replace u3 := keep hb u3
  replace a0 := keep hb a0
  replace a1 := keep hb a1
  replace b0 := keep hb b0
  replace b1 := keep hb b1
  replace BV := Lib.hid (belowT BV.out hb)
  clear hb HK HVA HVB
  by_cases hE : visErr (siteRes ux uy uz n k).2 (⟨SA, na, ca, ka, da⟩ : TV) (⟨SB, nb, cb, kb, db⟩ : TV) time = 0
  · have HC := Lib.hid (HAN.out hE)
    have HE := Lib.hid hE
    rw [hE]
    clear HAN hE
    go_wp2_with (go_at_call 40; (with_reducible refine Calls.mono (HC.out _ BV.out) ?_); rintro e w2 ⟨rfl, hb2⟩)
    go_ret2
    exact ⟨by rw [HE.out]; rfl, belowT BV.out hb2⟩
  · have hq : (visErr (siteRes ux uy uz n k).2 (⟨SA, na, ca, ka, da⟩ : TV) (⟨SB, nb, cb, kb, db⟩ : TV) time != 0) = true := by simpa using hE
    have HV : Hid (visV ux uy uz n k (⟨SA, na, ca, ka, da⟩ : TV) (⟨SB, nb, cb, kb, db⟩ : TV) time = 0) := by unfold visV; exact if_neg hE
    clear HAN hE
    generalize hEq : visErr (siteRes ux uy uz n k).2 (⟨SA, na, ca, ka, da⟩ : TV) (⟨SB, nb, cb, kb, db⟩ : TV) time = E at hq ⊢
    have HEQ := Lib.hid hEq
    clear hEq
    go_wp2_with fail
    go_ret2
    exact ⟨by rw [HV.out, HEQ.out]; rfl, BV.out⟩
end Go.Proofs.YtjncjoaohonmjaaGreat
namespace Go.Proofs.YtjncjoaohonmjaaGreat
open Go.RowKit Go.Shelf Go.Sort
/-- the quarter of a direction in a plane -/
def quad (x y : Int) : Int := if siz y ≤ siz x then (if 0 ≤ x then 0 else 2) else (if 0 < y then 1 else 3)
theorem quad_bd (x y : Int) : 0 ≤ quad x y ∧ quad x y ≤ 3 := by
  unfold quad
  by_cases h : siz y ≤ siz x
  · rw [if_pos h]
    split <;> omega
  · rw [if_neg h]
    split <;> omega
/-- the greater product -/
def pm (u lo hi : Int) : Int := max (u * lo) (u * hi)
def pn_ (u lo hi : Int) : Int := min (u * lo) (u * hi)
theorem prod_le {u lo hi n v : Int} (n0 : 0 < n) (h1 : lo * n ≤ v) (h2 : v ≤ hi * n) : u * v ≤ pm u lo hi * n := by
  have m1 : u * lo ≤ pm u lo hi := by unfold pm; omega
  have m2 : u * hi ≤ pm u lo hi := by unfold pm; omega
  have n1 := Int.mul_le_mul_of_nonneg_right m1 (Int.le_of_lt n0)
  have n2 := Int.mul_le_mul_of_nonneg_right m2 (Int.le_of_lt n0)
  rcases Int.le_total 0 u with h | h
  · have := Int.mul_le_mul_of_nonneg_left h2 h
    rw [← Int.mul_assoc] at this
    omega
  · have := Int.mul_le_mul_of_nonpos_left h h1
    rw [← Int.mul_assoc] at this
    omega
theorem side_enc {fx fn tx tn flo fhi tlo thi : Int} (f0 : 0 < fn) (t0 : 0 < tn) (a1 : flo * fn ≤ fx) (a2 : fx ≤ fhi * fn) (b1 : tlo * tn ≤ tx) (b2 : tx ≤ thi * tn) :
    (tlo - fhi) * (fn * tn) ≤ tx * fn - fx * tn ∧ tx * fn - fx * tn ≤ (thi - flo) * (fn * tn) := by
  have c1 := Int.mul_le_mul_of_nonneg_right b1 (Int.le_of_lt f0)
  have c2 := Int.mul_le_mul_of_nonneg_right b2 (Int.le_of_lt f0)
  have c3 := Int.mul_le_mul_of_nonneg_right a1 (Int.le_of_lt t0)
  have c4 := Int.mul_le_mul_of_nonneg_right a2 (Int.le_of_lt t0)
  have e : ∀ z : Int, z * (fn * tn) = z * tn * fn := fun z => by rw [Int.mul_comm fn tn, Int.mul_assoc]
  have e' : ∀ z : Int, z * (fn * tn) = z * fn * tn := fun z => by rw [Int.mul_assoc]
  rw [Int.sub_mul, Int.sub_mul, e tlo, e thi, e' fhi, e' flo]
  omega
theorem box_enc {x n d : Int} (n0 : 1 ≤ n) (d0 : 0 ≤ d) : (x / n - d) * n ≤ x ∧ x ≤ (-(-x / n) + d) * n := by
  have h1 := Int.ediv_mul_le x (show n ≠ 0 by omega)
  have h2 := Int.ediv_mul_le (-x) (show n ≠ 0 by omega)
  have h3 : 0 ≤ d * n := Int.mul_nonneg d0 (by omega)
  rw [Int.sub_mul, Int.add_mul, Int.neg_mul]
  omega
def bLo (x n d : Int) : Int := x / n - d
def bHi (x n d : Int) : Int := -(-x / n) + d
/-- the greatest product of a direction with the vectors from a box to another one -/
def pHi (ux uy uz : Int) (f t : Plc) (da db : Int) : Int :=
  pm ux (bLo t.x t.n db - bHi f.x f.n da) (bHi t.x t.n db - bLo f.x f.n da) + pm uy (bLo t.y t.n db - bHi f.y f.n da) (bHi t.y t.n db - bLo f.y f.n da) + pm uz (bLo t.z t.n db - bHi f.z f.n da) (bHi t.z t.n db - bLo f.z f.n da)
theorem pHi_nn {ux uy uz : Int} {f t : Plc} {da db : Int} (hf : 1 ≤ f.n) (ht : 1 ≤ t.n) (a0 : 0 ≤ da) (b0 : 0 ≤ db) (h : 0 ≤ ux * vx f t + uy * vy f t + uz * vz f t) : 0 ≤ pHi ux uy uz f t da db := by
  have hn : 0 < f.n * t.n := Int.mul_pos (by omega) (by omega)
  have key : ∀ (u fx tx : Int), u * (tx * f.n - fx * t.n) ≤ pm u (bLo tx t.n db - bHi fx f.n da) (bHi tx t.n db - bLo fx f.n da) * (f.n * t.n) := fun u fx tx => by
    obtain ⟨a1, a2⟩ := box_enc (x := fx) hf a0
    obtain ⟨b1, b2⟩ := box_enc (x := tx) ht b0
    obtain ⟨s1, s2⟩ := side_enc (f0 := by omega) (t0 := by omega) a1 a2 b1 b2
    exact prod_le hn s1 s2
  have k1 := key ux f.x t.x
  have k2 := key uy f.y t.y
  have k3 := key uz f.z t.z
  have hs : 0 ≤ pHi ux uy uz f t da db * (f.n * t.n) := by
    unfold pHi
    rw [Int.add_mul, Int.add_mul]
    unfold vx vy vz at h
    omega
  rcases Int.lt_or_le (pHi ux uy uz f t da db) 0 with q | q
  · have := Int.mul_le_mul_of_nonneg_right (show pHi ux uy uz f t da db ≤ -1 by omega) (Int.le_of_lt hn)
    rw [Int.neg_mul, Int.one_mul] at this
    omega
  · exact q
theorem andB_h {B : Nat → Bool} {h : Bool} : ∀ n, andB B h n = true → h = true
  | 0, q => q
  | n + 1, q => by
    unfold andB at q
    rw [Bool.and_eq_true] at q
    exact andB_h n q.1
/-- what is surely visible has a position that is not below the horizon -/
theorem seen_nn {ux uy uz : Int} {n : Nat} {k : Nat → Cone} {A B : Trk} {time : Int} (hA : ctErr A.k A.n A.d = 0 ∧ outside time A.k A.n = false) (hB : ctErr B.k B.n B.d = 0 ∧ outside time B.k B.n = false) (h : ansAt ux uy uz n k A B time = 2) : 0 ≤ pHi ux uy uz (A.p time) (B.p time) A.d B.d := by
  have oA := plc_ok hA.1 hA.2
  have oB := plc_ok hB.1 hB.2
  have dA := (valid_of hA.1).2.2.2
  have dB := (valid_of hB.1).2.2.2
  have h2 : andB (hidN k A B time) (decide (0 ≤ vwLo A B time ux uy uz)) n = true := by
    unfold ansAt ansOf at h
    revert h
    generalize orB (hidF k A B time) (decide (vwHi A B time ux uy uz < 0)) n = x
    generalize andB (hidN k A B time) (decide (0 ≤ vwLo A B time ux uy uz)) n = y
    cases x <;> cases y <;> simp
  have h3 : 0 ≤ vwLo A B time ux uy uz := by simpa using andB_h n h2
  obtain ⟨_, _, _, _, d1, _⟩ := v_bd oA oB dA dB
  refine pHi_nn oA.1.1 oB.1.1 dA.1 dB.1 ?_
  unfold vwLo alo at h3
  have s1 : 0 ≤ siz ux * vd A.d B.d (A.p time) (B.p time) := Int.mul_nonneg (siz_nn ux) d1
  have s2 : 0 ≤ siz uy * vd A.d B.d (A.p time) (B.p time) := Int.mul_nonneg (siz_nn uy) d1
  have s3 : 0 ≤ siz uz * vd A.d B.d (A.p time) (B.p time) := Int.mul_nonneg (siz_nn uz) d1
  omega
end Go.Proofs.YtjncjoaohonmjaaGreat
