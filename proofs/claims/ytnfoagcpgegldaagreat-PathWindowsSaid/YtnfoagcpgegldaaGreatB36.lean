/- Helpers: the reference's test whether a cone hides a vector. No condition but the hypotheses that each theorem names. -/
import Derived.Test.YtnfoagcpgegldaaGreatB09
import Derived.Test.YtnfoagcpgegldaaGreatB35
import Derived.Test.YtnfoagcpgegldaaGreatB26
import Derived.Test.YtnfoagcpgegldaaGreatB19
import Derived.Test.YtnfoagcpgegldaaGreatB07
import Derived.Test.YtnfoagcpgegldaaGreatB05
namespace Go.Proofs.YtnfoagcpgegldaaGreat
open Go.RowKit Go.Shelf Go.Sort
attribute [local go_sem] idx3_0 idx3_1 idx3_2 old1 fro1 old2 fro2 old3 fro3 old4 fro4 old5 fro5 old6 fro6 old7 fro7 old8 fro8 old9 fro9 old10 fro10 old11 fro11 old12 fro12
/-- a new variable of an int and a slice at the block p -/
structure NW (B p : Nat) (v : Value) (W : World) : Prop where
  val : v = .pointer (some ⟨p, 0, none⟩)
  new : B ≤ p
  lt : p < W.heap.size
  f0 : W.frozen? ⟨p, 0, none⟩ = false
  f1 : W.frozen? ⟨p, 1, none⟩ = false
  c0 : (W.cell? ⟨p, 0, none⟩).isSome = true
  c1 : (W.cell? ⟨p, 1, none⟩).isSome = true
theorem keepT {W W1 : World} {b o : Nat} (hb : Below W.heap.size W W1) (h : (W.cell? ⟨b, o, none⟩).isSome = true) : (W1.cell? ⟨b, o, none⟩).isSome = true := by
  obtain ⟨v, hv⟩ := Option.isSome_iff_exists.1 h
  rw [keep hb hv]
  rfl
theorem NW.below {B p : Nat} {v : Value} {W W1 : World} (h : NW B p v W) (hb : Below W.heap.size W W1) : NW B p v W1 :=
  ⟨h.val, h.new, Nat.lt_of_lt_of_le h.lt hb.size, (hb.frozen (p := ⟨p, 0, none⟩) h.lt).trans h.f0, (hb.frozen (p := ⟨p, 1, none⟩) h.lt).trans h.f1, keepT hb h.c0, keepT hb h.c1⟩
theorem NW.set {B p : Nat} {v u : Value} {W : World} {a : Addr} (h : NW B p v W) : NW B p v (W.setCell a u) :=
  ⟨h.val, h.new, by simpa [World.setCell] using h.lt, (World.frozen?_setCell _ _ _ _).trans h.f0, (World.frozen?_setCell _ _ _ _).trans h.f1, sSome h.c0, sSome h.c1⟩
theorem drFar {W : World} {X : Option Addr} {n c p i : Nat} {N : Int} {v : Value} (h : DR W X n c N) (hp : ∀ g, X = some ⟨g, 0, none⟩ → g ≠ p) : DR (W.setCell ⟨p, i, none⟩ v) X n c N :=
  ⟨h.1, fun g e => ⟨by have := (h.2 g e).1; simpa using this, fun j hj => (World.cell?_setCell_far _ _ _ _ (fun q => hp g e q.symm)).trans ((h.2 g e).2 j hj)⟩⟩
structure OneW (B : Nat) (N : Int) (lc lp ls : Bool) (vc vp : Value) (X : Option Addr) (c p : Nat) (W : World) : Prop where
  cV : lc = true → vc = WV N X c ∧ DR W X (ln (siz N)) c (siz N)
  nV : lp = true → NW B p vp W
  sV : ls = true → lc = true ∧ lp = true ∧ W.cell? ⟨p, 0, none⟩ = some (.int .i64 (sgn N)) ∧ W.cell? ⟨p, 1, none⟩ = some (.slice X (ln (siz N)) c)
  xp : lc = true → lp = true → ∀ g, X = some ⟨g, 0, none⟩ → g ≠ p
section
variable {B : Nat} {N : Int} {lc lp ls : Bool} {vc vp : Value} {X : Option Addr} {c p : Nat} {W : World}
theorem OneW.start : OneW B N false false false vc vp X c p W := ⟨nofun, nofun, nofun, nofun⟩
theorem OneW.below {W1 : World} (h : OneW B N lc lp ls vc vp X c p W) (hb : Below W.heap.size W W1) : OneW B N lc lp ls vc vp X c p W1 :=
  ⟨fun l => ⟨(h.cV l).1, (h.cV l).2.below hb⟩, fun l => (h.nV l).below hb, fun l => ⟨(h.sV l).1, (h.sV l).2.1, keep hb (h.sV l).2.2.1, keep hb (h.sV l).2.2.2⟩, h.xp⟩
theorem OneW.made {W1 : World} {X1 : Option Addr} {c1 : Nat} (hl : lc = false) (h : OneW B N lc lp ls vc vp X c p W) (hb : Below W.heap.size W W1) (hd : DN W W1 X1 (ln (siz N)) c1 (siz N)) : OneW B N true lp ls (WV N X1 c1) vp X1 c1 p W1 := by
  subst hl
  have g := h.below hb
  exact ⟨fun _ => ⟨rfl, hd.1⟩, g.nV, fun l => absurd (g.sV l).1 (by simp), fun _ l q hq => by have := (h.nV l).lt; have := hd.2 q hq; omega⟩
theorem OneW.newv {T : TypeId} (hl : lp = false) (hB : B ≤ W.heap.size) (h : OneW B N lc lp ls vc vp X c p W) : OneW B N lc true ls vc (.pointer (some ⟨W.heap.size, 0, none⟩)) X c W.heap.size (W.alloc (.cells #[.int .i64 0, .slice none 0 0] T)) := by
  subst hl
  have g := h.below ((Below.refl W.heap.size W).alloc (Nat.le_refl _) (.cells #[.int .i64 0, .slice none 0 0] T))
  exact ⟨g.cV, fun _ => ⟨rfl, hB, by simp, by simp [go_sem], by simp [go_sem], by simp [go_sem], by simp [go_sem]⟩, fun l => absurd (g.sV l).2.1 (by simp), fun l _ q hq => by have := ((h.cV l).2.2 q hq).1; omega⟩
theorem OneW.sto (hc : lc = true) (hp : lp = true) (h : OneW B N lc lp ls vc vp X c p W) : OneW B N lc lp true vc vp X c p ((W.setCell ⟨p, 0, none⟩ (.int .i64 (sgn N))).setCell ⟨p, 1, none⟩ (.slice X (ln (siz N)) c)) := by
  subst hc hp
  have k0 := h.nV rfl
  refine ⟨fun l => ⟨(h.cV l).1, drFar (drFar (h.cV l).2 (h.xp rfl rfl)) (h.xp rfl rfl)⟩, fun l => (h.nV l).set.set, fun _ => ⟨rfl, rfl, ?_, World.cell?_setCell_same' _ _ _ (sSome k0.c1)⟩, h.xp⟩
  rw [World.cell?_setCell_other _ _ _ _ (fun e => by injection e with _ e2; cases e2)]
  exact World.cell?_setCell_same' _ _ _ k0.c0
end
def mhA : List Bool := [false, false, false, false, false, false, false, true, false, true, true, true, true, true, true, false, false, false, false, false, false, false, false, false, false, false, false, false, false, false, false, false]
def mhB : List Bool := [false, false, false, false, false, false, false, false, true, false, false, false, false, false, false, true, true, true, true, true, true, true, true, true, false, false, false, false, false, false, false, false]
abbrev HA1 (V0 : World) (w : World) (_ _ _ _ cd p _ : Int) (_ : Option Addr) (_ : Nat) (L : Nat → Bool) (V : Nat → Value) (W : World) : Prop :=
  Below V0.heap.size V0 W ∧ (L 0 = true → V 9 = .int .i64 p) ∧ (L 2 = true → V 11 = .pointer (some ⟨w.heap.size, 4, none⟩)) ∧ (L 3 = true → V 12 = .int .i64 cd) ∧ (L 1 = true → L 7 = false → ∃ A c, V 10 = WV (p * p) A c ∧ DR W A (ln (siz (p * p))) c (siz (p * p))) ∧ (L 4 = true → L 7 = false → ∃ A c, V 13 = WV (cd) A c ∧ DR W A (ln (siz (cd))) c (siz (cd))) ∧ ∃ X c q, OneW V0.heap.size (p * p * cd) (L 5) (L 6) (L 7) (V 14) (V 7) X c q W
abbrev HA2 (V0 : World) (w : World) (cx cy cz cu _ _ L0 : Int) (A0 : Option Addr) (cc : Nat) (L : Nat → Bool) (V : Nat → Value) (W : World) : Prop :=
  Below V0.heap.size V0 W ∧ (L 1 = true → V 16 = .pointer (some ⟨w.heap.size, 3, none⟩)) ∧ (L 2 = true → V 17 = .int .i64 cu) ∧ (L 3 = true → V 18 = .pointer (some ⟨w.heap.size, 0, none⟩)) ∧ (L 4 = true → V 19 = .agg #[.int .i64 cx, .int .i64 cy, .int .i64 cz]) ∧ (L 5 = true → V 20 = .int .i64 (cx * cx + cy * cy + cz * cz)) ∧ (L 6 = true → V 21 = .int .i64 (cu * (cx * cx + cy * cy + cz * cz))) ∧ (L 0 = true → V 15 = WV L0 A0 cc) ∧ (L 7 = true → L 10 = false → ∃ A c, V 22 = WV (cu * (cx * cx + cy * cy + cz * cz)) A c ∧ DR W A (ln (siz (cu * (cx * cx + cy * cy + cz * cz)))) c (siz (cu * (cx * cx + cy * cy + cz * cz)))) ∧ ∃ X c q, OneW V0.heap.size (L0 * (cu * (cx * cx + cy * cy + cz * cz))) (L 8) (L 9) (L 10) (V 23) (V 8) X c q W
theorem bsqB (x y z : Int) (w : World) (a1 : -100 ≤ x) (a2 : x ≤ 100) (a3 : -100 ≤ y) (a4 : y ≤ 100) (a5 : -100 ≤ z) (a6 : z ≤ 100) :
    Calls Tryz.prog 120 #[.agg #[.int .i64 x, .int .i64 y, .int .i64 z]] w fun e w' => e = .returned (.int .i64 (x * x + y * y + z * z)) ∧ Below w.heap.size w w' := by
  have := bsquare_any x y z (by omega) (by omega) (by omega) (by omega) (by omega) (by omega) w
  unfold sq3 at this
  exact this
theorem sgn_gt (a b : Int) : decide (0 < sgn (a - b)) = decide (b < a) := by
  rw [decide_eq_decide]
  unfold sgn
  split
  · omega
  · split <;> omega
theorem bp25 {x : Int} (h1 : -1000000000000000000000000000000000000000 ≤ x) (h2 : x ≤ 1000000000000000000000000000000000000000) : siz x < bp 25 := by
  have h : bp 5 ≤ bp 25 := bp_mono (by decide)
  have h5 : bp 5 = 1000000000000000000000000000000000000000000000 := by decide
  have := siz_of x
  omega
theorem bp50 {x : Int} (h : siz x < bp 25) : siz x < bp 50 := Int.lt_of_lt_of_le h (bp_mono (by decide))
set_option maxRecDepth 100000 in
set_option maxHeartbeats 8000000 in
theorem rhides_x (cx cy cz cu cd p L0 : Int) (A0 : Option Addr) (cc : Nat) (w : World) (hD : DR w A0 (ln (siz L0)) cc (siz L0)) (b1 : -9223372036854775807 ≤ p) (b2 : p ≤ 9223372036854775807) (b5 : -9223372036854775807 ≤ cd) (b6 : cd ≤ 9223372036854775807)
    (b7 : -9223372036854775807 ≤ cu * (cx * cx + cy * cy + cz * cz)) (b8 : cu * (cx * cx + cy * cy + cz * cz) ≤ 9223372036854775807) (g1 : -100 ≤ cx) (g2 : cx ≤ 100) (g3 : -100 ≤ cy) (g4 : cy ≤ 100) (g5 : -100 ≤ cz) (g6 : cz ≤ 100)
    (s1 : siz (p * p) < bp 25) (s2 : siz cd < bp 25) (s3 : siz L0 < bp 25) (s4 : siz (cu * (cx * cx + cy * cy + cz * cz)) < bp 25) (s5 : siz (p * p * cd) < bp 50) (s6 : siz (L0 * (cu * (cx * cx + cy * cy + cz * cz))) < bp 50) :
    Calls Tryz.prog 84 #[.agg #[.int .i64 cx, .int .i64 cy, .int .i64 cz, .int .i64 cu, .int .i64 cd], .int .i64 p, WV L0 A0 cc] w fun e w' => e = .returned (.bool (decide (0 < p) && decide (L0 * (cu * (cx * cx + cy * cy + cz * cz)) < p * p * cd))) ∧ Below w.heap.size w w' := by
  have m1 : IntKind.i64.wrap (cu * (cx * cx + cy * cy + cz * cz)) = cu * (cx * cx + cy * cy + cz * cz) := IntWalk.i64_in _ (by omega)
  have HD := Lib.hid hD
  have HG := Lib.hid (sgn_gt (p * p * cd) (L0 * (cu * (cx * cx + cy * cy + cz * cz))))
  clear hD
  unfold WV
  go_enter Tryz.func84, Tryz.ntmps84
  go_wp2_with fail
  have BV := Lib.hid (show Below w.heap.size w ((w.alloc (.cells #[.int .i64 cx, .int .i64 cy, .int .i64 cz, .int .i64 cu, .int .i64 cd] 122)).alloc (.cells #[.int .i64 (sgn L0), .slice A0 (ln (siz L0)) cc] 107)) by (repeat (first | with_reducible exact Below.refl _ _ | with_reducible assumption | with_reducible refine Below.alloc ?_ (by first | (simp; done) | (simp; omega) | omega) _ | with_reducible refine Below.setCell ?_ (by first | (simp; done) | (simp; omega) | omega) _ | with_reducible refine Below.drew ?_ | with_reducible refine below_drewN ?_ _)))
  have k0_ := (show ((w.alloc (.cells #[.int .i64 cx, .int .i64 cy, .int .i64 cz, .int .i64 cu, .int .i64 cd] 122)).alloc (.cells #[.int .i64 (sgn L0), .slice A0 (ln (siz L0)) cc] 107)).cell? ⟨w.heap.size, 0, none⟩ = some (.int .i64 cx) by simp [go_sem])
  have k1_ := (show ((w.alloc (.cells #[.int .i64 cx, .int .i64 cy, .int .i64 cz, .int .i64 cu, .int .i64 cd] 122)).alloc (.cells #[.int .i64 (sgn L0), .slice A0 (ln (siz L0)) cc] 107)).cell? ⟨w.heap.size, 1, none⟩ = some (.int .i64 cy) by simp [go_sem])
  have k2_ := (show ((w.alloc (.cells #[.int .i64 cx, .int .i64 cy, .int .i64 cz, .int .i64 cu, .int .i64 cd] 122)).alloc (.cells #[.int .i64 (sgn L0), .slice A0 (ln (siz L0)) cc] 107)).cell? ⟨w.heap.size, 2, none⟩ = some (.int .i64 cz) by simp [go_sem])
  have k3_ := (show ((w.alloc (.cells #[.int .i64 cx, .int .i64 cy, .int .i64 cz, .int .i64 cu, .int .i64 cd] 122)).alloc (.cells #[.int .i64 (sgn L0), .slice A0 (ln (siz L0)) cc] 107)).cell? ⟨w.heap.size, 3, none⟩ = some (.int .i64 cu) by simp [go_sem])
  have k4_ := (show ((w.alloc (.cells #[.int .i64 cx, .int .i64 cy, .int .i64 cz, .int .i64 cu, .int .i64 cd] 122)).alloc (.cells #[.int .i64 (sgn L0), .slice A0 (ln (siz L0)) cc] 107)).cell? ⟨w.heap.size, 4, none⟩ = some (.int .i64 cd) by simp [go_sem])
  have l0_ := (show ((w.alloc (.cells #[.int .i64 cx, .int .i64 cy, .int .i64 cz, .int .i64 cu, .int .i64 cd] 122)).alloc (.cells #[.int .i64 (sgn L0), .slice A0 (ln (siz L0)) cc] 107)).cell? ⟨w.heap.size + 1, 0, none⟩ = some (.int .i64 (sgn L0)) by simp [go_sem])
  have l1_ := (show ((w.alloc (.cells #[.int .i64 cx, .int .i64 cy, .int .i64 cz, .int .i64 cu, .int .i64 cd] 122)).alloc (.cells #[.int .i64 (sgn L0), .slice A0 (ln (siz L0)) cc] 107)).cell? ⟨w.heap.size + 1, 1, none⟩ = some (.slice A0 (ln (siz L0)) cc) by simp [go_sem])
  replace HD := Lib.hid (HD.out.below BV.out)
  generalize ((w.alloc (.cells #[.int .i64 cx, .int .i64 cy, .int .i64 cz, .int .i64 cu, .int .i64 cd] 122)).alloc (.cells #[.int .i64 (sgn L0), .slice A0 (ln (siz L0)) cc] 107)) = V at *
  refine wp_region_inv mhA (by kernel_rfl) (HA1 V w cx cy cz cu cd p L0 A0 cc) rfl (by kernel_rfl) ⟨(Below.refl _ _).drew, nofun, nofun, nofun, nofun, nofun, none, 0, 0, OneW.start⟩ (allOps_cons (fun L a' w' hL hD hs hJ K hK => by
    obtain ⟨hb, h0, h2, h3, k1, k4, X, c, q, hT⟩ := hJ
    have e1 := (hs.get 1 (by kernel_rfl)).trans (show _ = Value.int .i64 p from rfl)
    unfold Oper.wp
    generalize a'.eval = ρ at e1 ⊢
    simp [go_sem, e1]
    exact hK _ _ ⟨hb, fun _ => rfl, h2, h3, k1, k4, X, c, q, hT⟩) <|
      allOps_cons (fun L a' w' hL hD hs hJ K hK => by
    obtain ⟨hb, h0, h2, h3, k1, k4, X, c, q, hT⟩ := hJ
    have e1 : a'.eval (.tmp 9) = .int .i64 p := h0 (dep_of hD 0 (by kernel_rfl))
    refine Oper.wp_mono ?_ (rg_fn (φ := fun v w'' => ∃ A c, v = WV (p * p) A c ∧ DR w'' A (ln (siz (p * p))) c (siz (p * p))) (vs := #[.int .i64 p]) rfl (enters_of Tryz.func75 (by kernel_rfl) rfl) (by simp [e1]) ((square_any p w' b1 b2).mono (by rintro e w1 ⟨A, c, rfl, hd, h⟩; exact ⟨_, rfl, h, A, c, rfl, hd.1⟩)))
    rintro a'' w'' ⟨v, rfl, h, A1, c1, rfl, hd⟩
    exact hK _ _ ⟨belowT hb h, h0, h2, h3, fun _ _ => ⟨A1, c1, rfl, hd⟩, fun l l2 => by obtain ⟨A, c, hv, hd⟩ := k4 l l2; exact ⟨A, c, hv, hd.below h⟩, X, c, q, hT.below h⟩) <|
      allOps_cons (fun L a' w' hL hD hs hJ K hK => by
    obtain ⟨hb, h0, h2, h3, k1, k4, X, c, q, hT⟩ := hJ
    have e1 := (hs.get 3 (by kernel_rfl)).trans (show _ = Value.pointer (some ⟨w.heap.size, 0, none⟩) from rfl)
    unfold Oper.wp
    generalize a'.eval = ρ at e1 ⊢
    simp [go_sem, e1]
    exact hK _ _ ⟨hb, h0, fun _ => rfl, h3, k1, k4, X, c, q, hT⟩) <|
      allOps_cons (fun L a' w' hL hD hs hJ K hK => by
    obtain ⟨hb, h0, h2, h3, k1, k4, X, c, q, hT⟩ := hJ
    have e1 : a'.eval (.tmp 11) = .pointer (some ⟨w.heap.size, 4, none⟩) := h2 (dep_of hD 2 (by kernel_rfl))
    have c0 := keep hb k4_
    unfold Oper.wp
    generalize a'.eval = ρ at e1 ⊢
    simp [go_sem, e1, c0]
    exact hK _ _ ⟨hb, h0, h2, fun _ => rfl, k1, k4, X, c, q, hT⟩) <|
      allOps_cons (fun L a' w' hL hD hs hJ K hK => by
    obtain ⟨hb, h0, h2, h3, k1, k4, X, c, q, hT⟩ := hJ
    have e1 : a'.eval (.tmp 12) = .int .i64 cd := h3 (dep_of hD 3 (by kernel_rfl))
    refine Oper.wp_mono ?_ (rg_fn (φ := fun v w'' => ∃ A c, v = WV (cd) A c ∧ DR w'' A (ln (siz (cd))) c (siz (cd))) (vs := #[.int .i64 cd]) rfl (enters_of Tryz.func104 (by kernel_rfl) rfl) (by simp [e1]) ((WideOf_any cd w' b5 b6).mono (by rintro e w1 ⟨A, c, rfl, hd, h⟩; exact ⟨_, rfl, h, A, c, rfl, hd.1⟩)))
    rintro a'' w'' ⟨v, rfl, h, A1, c1, rfl, hd⟩
    exact hK _ _ ⟨belowT hb h, h0, h2, h3, fun l l2 => by obtain ⟨A, c, hv, hd⟩ := k1 l l2; exact ⟨A, c, hv, hd.below h⟩, fun _ _ => ⟨A1, c1, rfl, hd⟩, X, c, q, hT.below h⟩) <|
      allOps_cons (fun L a' w' hL hD hs hJ K hK => by
    obtain ⟨hb, h0, h2, h3, k1, k4, X, c, q, hT⟩ := hJ
    have ls : L 7 = false := by
      cases hq : L 7 with
      | false => rfl
      | true =>
        have h5 := (hT.sV hq).1
        rw [hL] at h5
        cases h5
    obtain ⟨As, cs, es, ds⟩ := k1 (dep_of hD 1 (by kernel_rfl)) ls
    have es : a'.eval (.tmp 10) = WV (p * p) As cs := es
    obtain ⟨At, ct, et, dt⟩ := k4 (dep_of hD 4 (by kernel_rfl)) ls
    have et : a'.eval (.tmp 13) = WV (cd) At ct := et
    refine Oper.wp_mono ?_ (rg_fn (φ := fun v w'' => ∃ A c, v = WV (p * p * cd) A c ∧ DN w' w'' A (ln (siz (p * p * cd))) c (siz (p * p * cd))) (vs := #[WV (p * p) As cs, WV cd At ct]) rfl (enters_of Tryz.func110 (by kernel_rfl) rfl) (by simp [es, et]) ((WideMul_any (p * p) cd As At cs ct w' s1 s2 ds dt).mono (by rintro e w1 ⟨A, c, rfl, hd, h⟩; exact ⟨_, rfl, h, A, c, rfl, hd⟩)))
    rintro a'' w'' ⟨v, rfl, h, A1, c1, rfl, hd⟩
    exact hK _ _ ⟨belowT hb h, h0, h2, h3, fun l l2 => by obtain ⟨A, c, hv, hd⟩ := k1 l l2; exact ⟨A, c, hv, hd.below h⟩, fun l l2 => by obtain ⟨A, c, hv, hd⟩ := k4 l l2; exact ⟨A, c, hv, hd.below h⟩, A1, c1, q, hT.made hL h hd⟩) <|
      allOps_cons (fun L a' w' hL hD hs hJ K hK => by
    obtain ⟨hb, h0, h2, h3, k1, k4, X, c, q, hT⟩ := hJ
    unfold Oper.wp
    generalize a'.eval = ρ
    simp [go_sem]
    exact hK _ _ ⟨hb.alloc hb.size _, h0, h2, h3, fun l l2 => by obtain ⟨A, c, hv, hd⟩ := k1 l l2; exact ⟨A, c, hv, hd.below ((Below.refl _ _).alloc (Nat.le_refl _) _)⟩, fun l l2 => by obtain ⟨A, c, hv, hd⟩ := k4 l l2; exact ⟨A, c, hv, hd.below ((Below.refl _ _).alloc (Nat.le_refl _) _)⟩, X, c, _, hT.newv hL hb.size⟩) <|
      allOps_cons (fun L a' w' hL hD hs hJ K hK => by
    obtain ⟨hb, h0, h2, h3, k1, k4, X, c, q, hT⟩ := hJ
    have dc : L 5 = true := dep_of hD 5 (by kernel_rfl)
    have dp : L 6 = true := dep_of hD 6 (by kernel_rfl)
    have hn := hT.nV dp
    have e1 : a'.eval (.tmp 7) = .pointer (some ⟨q, 0, none⟩) := hn.val
    have e2 : a'.eval (.tmp 14) = WV (p * p * cd) X c := (hT.cV dc).1
    unfold WV at e2
    have f0 := hn.f0
    have f1 := hn.f1
    obtain ⟨v0, c0⟩ := Option.isSome_iff_exists.1 hn.c0
    obtain ⟨v1, c1⟩ := Option.isSome_iff_exists.1 hn.c1
    unfold Oper.wp
    generalize a'.eval = ρ at e1 e2 ⊢
    simp [go_sem, e1, e2, f0, f1, c0, c1]
    exact hK undef _ ⟨(hb.setCell hn.new _).setCell hn.new _, h0, h2, h3, fun _ l2 => Bool.noConfusion (show true = false from l2), fun _ l2 => Bool.noConfusion (show true = false from l2), X, c, q, hT.sto dc dp⟩) <| allOps_nil) (fun L Q V1 hall hJ => ?_)
  obtain ⟨hb, -, -, -, -, -, Xa, ca, qa, hT⟩ := hJ
  have n1 := (hT.nV (hall 6 (by kernel_rfl))).val
  obtain ⟨-, -, a0, a1⟩ := hT.sV (hall 7 (by kernel_rfl))
  have HX := Lib.hid (hT.cV (hall 5 (by kernel_rfl))).2
  simp only [mhA, maskPut, Nat.reduceAdd]
  rw [n1]
  clear hT hall n1
  replace k0_ := keep hb k0_
  replace k1_ := keep hb k1_
  replace k2_ := keep hb k2_
  replace k3_ := keep hb k3_
  replace k4_ := keep hb k4_
  replace l0_ := keep hb l0_
  replace l1_ := keep hb l1_
  replace HD := Lib.hid (HD.out.below hb)
  replace BV := Lib.hid (belowT BV.out hb)
  clear hb
  clear V
  go_wp2_with fail
  refine wp_region_inv mhB (by kernel_rfl) (HA2 V1 w cx cy cz cu cd p L0 A0 cc) rfl (by kernel_rfl) ⟨(Below.refl _ _).drew, nofun, nofun, nofun, nofun, nofun, nofun, nofun, nofun, none, 0, 0, OneW.start⟩ (allOps_cons (fun L a' w' hL hD hs hJ K hK => by
    obtain ⟨hb, h1, h2, h3, h4, h5, h6, h0, k7, X, c, q, hT⟩ := hJ
    have e1 := (hs.get 5 (by kernel_rfl)).trans (show _ = Value.pointer (some ⟨w.heap.size + 1, 0, none⟩) from rfl)
    have c0 := keep hb l0_
    have c1 := keep hb l1_
    unfold Oper.wp
    generalize a'.eval = ρ at e1 ⊢
    simp [go_sem, e1, c0, c1]
    exact hK _ _ ⟨hb, h1, h2, h3, h4, h5, h6, fun _ => rfl, k7, X, c, q, hT⟩) <|
      allOps_cons (fun L a' w' hL hD hs hJ K hK => by
    obtain ⟨hb, h1, h2, h3, h4, h5, h6, h0, k7, X, c, q, hT⟩ := hJ
    have e1 := (hs.get 3 (by kernel_rfl)).trans (show _ = Value.pointer (some ⟨w.heap.size, 0, none⟩) from rfl)
    unfold Oper.wp
    generalize a'.eval = ρ at e1 ⊢
    simp [go_sem, e1]
    exact hK _ _ ⟨hb, fun _ => rfl, h2, h3, h4, h5, h6, h0, k7, X, c, q, hT⟩) <|
      allOps_cons (fun L a' w' hL hD hs hJ K hK => by
    obtain ⟨hb, h1, h2, h3, h4, h5, h6, h0, k7, X, c, q, hT⟩ := hJ
    have e1 : a'.eval (.tmp 16) = .pointer (some ⟨w.heap.size, 3, none⟩) := h1 (dep_of hD 1 (by kernel_rfl))
    have c0 := keep hb k3_
    unfold Oper.wp
    generalize a'.eval = ρ at e1 ⊢
    simp [go_sem, e1, c0]
    exact hK _ _ ⟨hb, h1, fun _ => rfl, h3, h4, h5, h6, h0, k7, X, c, q, hT⟩) <|
      allOps_cons (fun L a' w' hL hD hs hJ K hK => by
    obtain ⟨hb, h1, h2, h3, h4, h5, h6, h0, k7, X, c, q, hT⟩ := hJ
    have e1 := (hs.get 3 (by kernel_rfl)).trans (show _ = Value.pointer (some ⟨w.heap.size, 0, none⟩) from rfl)
    unfold Oper.wp
    generalize a'.eval = ρ at e1 ⊢
    simp [go_sem, e1]
    exact hK _ _ ⟨hb, h1, h2, fun _ => rfl, h4, h5, h6, h0, k7, X, c, q, hT⟩) <|
      allOps_cons (fun L a' w' hL hD hs hJ K hK => by
    obtain ⟨hb, h1, h2, h3, h4, h5, h6, h0, k7, X, c, q, hT⟩ := hJ
    have e1 : a'.eval (.tmp 18) = .pointer (some ⟨w.heap.size, 0, none⟩) := h3 (dep_of hD 3 (by kernel_rfl))
    have c0 := keep hb k0_
    have c1 := keep hb k1_
    have c2 := keep hb k2_
    unfold Oper.wp
    generalize a'.eval = ρ at e1 ⊢
    simp [go_sem, e1, c0, c1, c2]
    exact hK _ _ ⟨hb, h1, h2, h3, fun _ => rfl, h5, h6, h0, k7, X, c, q, hT⟩) <|
      allOps_cons (fun L a' w' hL hD hs hJ K hK => by
    obtain ⟨hb, h1, h2, h3, h4, h5, h6, h0, k7, X, c, q, hT⟩ := hJ
    have e1 : a'.eval (.tmp 19) = .agg #[.int .i64 cx, .int .i64 cy, .int .i64 cz] := h4 (dep_of hD 4 (by kernel_rfl))
    refine Oper.wp_mono ?_ (rg_fn (φ := fun v w'' => v = .int .i64 (cx * cx + cy * cy + cz * cz)) (vs := #[.agg #[.int .i64 cx, .int .i64 cy, .int .i64 cz]]) rfl (enters_of Tryz.func120 (by kernel_rfl) rfl) (by simp [e1]) ((bsqB cx cy cz w' g1 g2 g3 g4 g5 g6).mono (by rintro e w1 ⟨rfl, h⟩; exact ⟨_, rfl, h, rfl⟩)))
    rintro a'' w'' ⟨v, rfl, h, rfl⟩
    exact hK _ _ ⟨belowT hb h, h1, h2, h3, h4, fun _ => rfl, h6, h0, fun l l2 => by obtain ⟨A, c, hv, hd⟩ := k7 l l2; exact ⟨A, c, hv, hd.below h⟩, X, c, q, hT.below h⟩) <|
      allOps_cons (fun L a' w' hL hD hs hJ K hK => by
    obtain ⟨hb, h1, h2, h3, h4, h5, h6, h0, k7, X, c, q, hT⟩ := hJ
    have e1 : a'.eval (.tmp 17) = .int .i64 cu := h2 (dep_of hD 2 (by kernel_rfl))
    have e2 : a'.eval (.tmp 20) = .int .i64 (cx * cx + cy * cy + cz * cz) := h5 (dep_of hD 5 (by kernel_rfl))
    unfold Oper.wp
    generalize a'.eval = ρ at e1 e2 ⊢
    simp [go_sem, e1, e2, m1]
    exact hK _ _ ⟨hb, h1, h2, h3, h4, h5, fun _ => rfl, h0, k7, X, c, q, hT⟩) <|
      allOps_cons (fun L a' w' hL hD hs hJ K hK => by
    obtain ⟨hb, h1, h2, h3, h4, h5, h6, h0, k7, X, c, q, hT⟩ := hJ
    have e1 : a'.eval (.tmp 21) = .int .i64 (cu * (cx * cx + cy * cy + cz * cz)) := h6 (dep_of hD 6 (by kernel_rfl))
    refine Oper.wp_mono ?_ (rg_fn (φ := fun v w'' => ∃ A c, v = WV (cu * (cx * cx + cy * cy + cz * cz)) A c ∧ DR w'' A (ln (siz (cu * (cx * cx + cy * cy + cz * cz)))) c (siz (cu * (cx * cx + cy * cy + cz * cz)))) (vs := #[.int .i64 (cu * (cx * cx + cy * cy + cz * cz))]) rfl (enters_of Tryz.func104 (by kernel_rfl) rfl) (by simp [e1]) ((WideOf_any (cu * (cx * cx + cy * cy + cz * cz)) w' b7 b8).mono (by rintro e w1 ⟨A, c, rfl, hd, h⟩; exact ⟨_, rfl, h, A, c, rfl, hd.1⟩)))
    rintro a'' w'' ⟨v, rfl, h, A1, c1, rfl, hd⟩
    exact hK _ _ ⟨belowT hb h, h1, h2, h3, h4, h5, h6, h0, fun _ _ => ⟨A1, c1, rfl, hd⟩, X, c, q, hT.below h⟩) <|
      allOps_cons (fun L a' w' hL hD hs hJ K hK => by
    obtain ⟨hb, h1, h2, h3, h4, h5, h6, h0, k7, X, c, q, hT⟩ := hJ
    have ls : L 10 = false := by
      cases hq : L 10 with
      | false => rfl
      | true =>
        have h5 := (hT.sV hq).1
        rw [hL] at h5
        cases h5
    have es : a'.eval (.tmp 15) = WV L0 A0 cc := h0 (dep_of hD 0 (by kernel_rfl))
    obtain ⟨At, ct, et, dt⟩ := k7 (dep_of hD 7 (by kernel_rfl)) ls
    have et : a'.eval (.tmp 22) = WV (cu * (cx * cx + cy * cy + cz * cz)) At ct := et
    refine Oper.wp_mono ?_ (rg_fn (φ := fun v w'' => ∃ A c, v = WV (L0 * (cu * (cx * cx + cy * cy + cz * cz))) A c ∧ DN w' w'' A (ln (siz (L0 * (cu * (cx * cx + cy * cy + cz * cz))))) c (siz (L0 * (cu * (cx * cx + cy * cy + cz * cz))))) (vs := #[WV L0 A0 cc, WV (cu * (cx * cx + cy * cy + cz * cz)) At ct]) rfl (enters_of Tryz.func110 (by kernel_rfl) rfl) (by simp [es, et]) ((WideMul_any L0 (cu * (cx * cx + cy * cy + cz * cz)) A0 At cc ct w' s3 s4 (HD.out.below hb) dt).mono (by rintro e w1 ⟨A, c, rfl, hd, h⟩; exact ⟨_, rfl, h, A, c, rfl, hd⟩)))
    rintro a'' w'' ⟨v, rfl, h, A1, c1, rfl, hd⟩
    exact hK _ _ ⟨belowT hb h, h1, h2, h3, h4, h5, h6, h0, fun l l2 => by obtain ⟨A, c, hv, hd⟩ := k7 l l2; exact ⟨A, c, hv, hd.below h⟩, A1, c1, q, hT.made hL h hd⟩) <|
      allOps_cons (fun L a' w' hL hD hs hJ K hK => by
    obtain ⟨hb, h1, h2, h3, h4, h5, h6, h0, k7, X, c, q, hT⟩ := hJ
    unfold Oper.wp
    generalize a'.eval = ρ
    simp [go_sem]
    exact hK _ _ ⟨hb.alloc hb.size _, h1, h2, h3, h4, h5, h6, h0, fun l l2 => by obtain ⟨A, c, hv, hd⟩ := k7 l l2; exact ⟨A, c, hv, hd.below ((Below.refl _ _).alloc (Nat.le_refl _) _)⟩, X, c, _, hT.newv hL hb.size⟩) <|
      allOps_cons (fun L a' w' hL hD hs hJ K hK => by
    obtain ⟨hb, h1, h2, h3, h4, h5, h6, h0, k7, X, c, q, hT⟩ := hJ
    have dc : L 8 = true := dep_of hD 8 (by kernel_rfl)
    have dp : L 9 = true := dep_of hD 9 (by kernel_rfl)
    have hn := hT.nV dp
    have e1 : a'.eval (.tmp 8) = .pointer (some ⟨q, 0, none⟩) := hn.val
    have e2 : a'.eval (.tmp 23) = WV (L0 * (cu * (cx * cx + cy * cy + cz * cz))) X c := (hT.cV dc).1
    unfold WV at e2
    have f0 := hn.f0
    have f1 := hn.f1
    obtain ⟨v0, c0⟩ := Option.isSome_iff_exists.1 hn.c0
    obtain ⟨v1, c1⟩ := Option.isSome_iff_exists.1 hn.c1
    unfold Oper.wp
    generalize a'.eval = ρ at e1 e2 ⊢
    simp [go_sem, e1, e2, f0, f1, c0, c1]
    exact hK undef _ ⟨(hb.setCell hn.new _).setCell hn.new _, h1, h2, h3, h4, h5, h6, h0, fun _ l2 => Bool.noConfusion (show true = false from l2), X, c, q, hT.sto dc dp⟩) <| allOps_nil) (fun L Q V2 hall hJ => ?_)
  obtain ⟨hb, -, -, -, -, -, -, -, -, Xb, cb, qb, hT⟩ := hJ
  have n1 := (hT.nV (hall 9 (by kernel_rfl))).val
  obtain ⟨-, -, d0, d1⟩ := hT.sV (hall 10 (by kernel_rfl))
  have HY := Lib.hid (hT.cV (hall 8 (by kernel_rfl))).2
  simp only [mhB, maskPut, Nat.reduceAdd]
  rw [n1]
  clear hT hall n1
  replace a0 := keep hb a0
  replace a1 := keep hb a1
  replace HX := Lib.hid (HX.out.below hb)
  replace k0_ := keep hb k0_
  replace k1_ := keep hb k1_
  replace k2_ := keep hb k2_
  replace k3_ := keep hb k3_
  replace k4_ := keep hb k4_
  replace l0_ := keep hb l0_
  replace l1_ := keep hb l1_
  replace HD := Lib.hid (HD.out.below hb)
  replace BV := Lib.hid (belowT BV.out hb)
  clear hb
  clear V1
  by_cases hp : 0 < p
  · have HC := Lib.hid (fun W a b => wideCmp_any (p * p * cd) (L0 * (cu * (cx * cx + cy * cy + cz * cz))) Xa Xb ca cb W s5 s6 a b)
    unfold WV at HC
    go_wp2_with (go_at_call 74; (with_reducible refine Calls.mono (HC.out _ HX.out HY.out) ?_); rintro e w9 ⟨rfl, hb9⟩)
    go_ret
    exact ⟨ret_bool (by rw [decide_eq_true hp, Bool.true_and]; exact HG.out), belowT BV.out hb9⟩
  · go_wp2_with fail
    go_ret
    exact ⟨ret_bool (by rw [decide_eq_false (show ¬ 0 < p by omega), Bool.false_and]), BV.out⟩
theorem rhides_any (c : Cone) (p L : Int) (A0 : Option Addr) (cc : Nat) (w : World) (hc : coneErr c = 0) (b1 : -70000000000000000 ≤ p) (b2 : p ≤ 70000000000000000) (hL0 : 0 ≤ L) (hL1 : L ≤ 150000000000000000000000000000) (hD : DR w A0 (ln (siz L)) cc (siz L)) :
    Calls Tryz.prog 84 #[.agg #[.int .i64 c.x, .int .i64 c.y, .int .i64 c.z, .int .i64 c.u, .int .i64 c.d], .int .i64 p, WV L A0 cc] w fun e w' => e = .returned (.bool (hid c p L)) ∧ Below w.heap.size w w' := by
  obtain ⟨a1, a2⟩ := ax2_bd hc
  obtain ⟨⟨⟨x1, x2⟩, ⟨y1, y2⟩, z1, z2⟩, ⟨d1, d2⟩, u1, u2⟩ := cone_ok hc
  have n0 : 0 ≤ c.u * ax2 c := Int.mul_nonneg u1 a1
  have n9 : c.u * ax2 c ≤ 100 * 30000 := Int.mul_le_mul (by omega) a2 a1 (by omega)
  have n8 : L * (c.u * ax2 c) ≤ 150000000000000000000000000000 * 3000000 := Int.mul_le_mul hL1 (by omega) n0 (by omega)
  have n7 : 0 ≤ L * (c.u * ax2 c) := Int.mul_nonneg hL0 n0
  have q0 := sq_nn p
  have q9 := @sq_bd p 70000000000000000 b1 b2
  have q8 : p * p * c.d ≤ (70000000000000000 * 70000000000000000) * 100 := Int.mul_le_mul q9 d2 (by omega) (by omega)
  have q7 : 0 ≤ p * p * c.d := Int.mul_nonneg q0 (by omega)
  exact rhides_x c.x c.y c.z c.u c.d p L A0 cc w hD (by omega) (by omega) (by omega) (by omega) (by unfold ax2 at n0; omega) (by unfold ax2 at n9; omega) x1 x2 y1 y2 z1 z2
    (bp25 (by omega) (by omega)) (bp25 (by omega) (by omega)) (bp25 (by omega) (by omega)) (bp25 (by unfold ax2 at n0; omega) (by unfold ax2 at n9; omega)) (bp50 (bp25 (by omega) (by omega))) (bp50 (bp25 (by unfold ax2 at n7; omega) (by unfold ax2 at n8; omega)))
end Go.Proofs.YtnfoagcpgegldaaGreat
namespace Go.Proofs.YtnfoagcpgegldaaGreat
open Go.RowKit Go.Shelf Go.Sort
attribute [local go_sem] idx3_0 idx3_1 idx3_2 old1 fro1 old2 fro2 old3 fro3 old4 fro4 old5 fro5 old6 fro6 old7 fro7 old8 fro8 old9 fro9 old10 fro10 old11 fro11 old12 fro12
set_option maxRecDepth 100000 in
set_option maxHeartbeats 800000 in
theorem bdotG_any (a b c x y z : Int) (a1 : -100 ≤ a) (a2 : a ≤ 100) (b1 : -100 ≤ b) (b2 : b ≤ 100) (c1 : -100 ≤ c) (c2 : c ≤ 100) (x1 : -200000000000000 ≤ x) (x2 : x ≤ 200000000000000) (y1 : -200000000000000 ≤ y) (y2 : y ≤ 200000000000000) (z1 : -200000000000000 ≤ z) (z2 : z ≤ 200000000000000) (w : World) :
    Calls Tryz.prog 82 #[.agg #[.int .i64 a, .int .i64 b, .int .i64 c], .agg #[.int .i64 x, .int .i64 y, .int .i64 z]] w fun e w' => e = .returned (.int .i64 (a * x + b * y + c * z)) ∧ Below w.heap.size w w' := by
  obtain ⟨p1, p2⟩ := axm_bd a1 a2 x1 x2
  obtain ⟨p3, p4⟩ := axm_bd b1 b2 y1 y2
  obtain ⟨p5, p6⟩ := axm_bd c1 c2 z1 z2
  have u1 : IntKind.i64.wrap (a * x) = a * x := IntWalk.i64_in _ (by omega)
  have u2 : IntKind.i64.wrap (b * y) = b * y := IntWalk.i64_in _ (by omega)
  have u3 : IntKind.i64.wrap (c * z) = c * z := IntWalk.i64_in _ (by omega)
  have u4 : IntKind.i64.wrap (a * x + b * y) = a * x + b * y := IntWalk.i64_in _ (by omega)
  have u5 : IntKind.i64.wrap (a * x + b * y + c * z) = a * x + b * y + c * z := IntWalk.i64_in _ (by omega)
  clear p1 p2 p3 p4 p5 p6
  go_enter Tryz.func82, Tryz.ntmps82
  go_wp2_with fail
  go_ret
  exact ⟨rfl, by (repeat (first | with_reducible exact Below.refl _ _ | with_reducible assumption | with_reducible refine Below.alloc ?_ (by first | (simp; done) | (simp; omega) | omega) _ | with_reducible refine Below.setCell ?_ (by first | (simp; done) | (simp; omega) | omega) _ | with_reducible refine Below.drew ?_ | with_reducible refine below_drewN ?_ _))⟩
set_option maxRecDepth 100000 in
set_option maxHeartbeats 800000 in
theorem spread_any (a b c : Int) (a1 : -100 ≤ a) (a2 : a ≤ 100) (b1 : -100 ≤ b) (b2 : b ≤ 100) (c1 : -100 ≤ c) (c2 : c ≤ 100) (w : World) :
    Calls Tryz.prog 83 #[.agg #[.int .i64 a, .int .i64 b, .int .i64 c]] w fun e w' => e = .returned (.int .i64 (siz a + siz b + siz c)) ∧ Below w.heap.size w w' := by
  have n1 := siz_nn a
  have n2 := siz_nn b
  have n3 := siz_nn c
  have m1 := siz_le (b := 100) a1 a2
  have m2 := siz_le (b := 100) b1 b2
  have m3 := siz_le (b := 100) c1 c2
  have u4 : IntKind.i64.wrap (siz a + siz b) = siz a + siz b := IntWalk.i64_in _ (by omega)
  have u5 : IntKind.i64.wrap (siz a + siz b + siz c) = siz a + siz b + siz c := IntWalk.i64_in _ (by omega)
  go_enter Tryz.func83, Tryz.ntmps83
  go_wp2_with fail
  go_quiet ((go_at_call 105; exact Calls.quiet_of_same ((bsize_any _ (by omega) (by omega) _).mono (fun _ _ h => ⟨h.1, h.2.symm⟩))))
  go_wp2_with fail
  go_ret
  exact ⟨rfl, by (repeat (first | with_reducible exact Below.refl _ _ | with_reducible assumption | with_reducible refine Below.alloc ?_ (by first | (simp; done) | (simp; omega) | omega) _ | with_reducible refine Below.setCell ?_ (by first | (simp; done) | (simp; omega) | omega) _ | with_reducible refine Below.drew ?_ | with_reducible refine below_drewN ?_ _))⟩
end Go.Proofs.YtnfoagcpgegldaaGreat
