/- Helpers: whole complex numbers: sums, products, norms; rows of them copied and compared; the reference's check of samples. No condition but the bounds that each theorem names. -/
import Derived.Test.YtpkacfgmojblbaaB10
namespace Go.Proofs.Ytpkacfgmojblbaa
open Go.RowKit
attribute [local go_sem] old1 fro1 old2 fro2 old3 fro3 old4 fro4 old5 fro5 old6 fro6 old7 fro7 old8 fro8 old9 fro9 old10 fro10 old11 fro11 old12 fro12
set_option maxRecDepth 100000 in
set_option maxHeartbeats 800000 in
theorem gmul_any (x y u v : Int) (x1 : -1000000 ≤ x) (x2 : x ≤ 1000000) (y1 : -1000000 ≤ y) (y2 : y ≤ 1000000) (u1 : -1000000 ≤ u) (u2 : u ≤ 1000000) (v1 : -1000000 ≤ v) (v2 : v ≤ 1000000) (w : World) :
    Calls Try.prog 71 #[.agg #[.int .i64 x, .int .i64 y], .agg #[.int .i64 u, .int .i64 v]] w fun e w' => e = .returned (.agg #[.int .i64 (x * u - y * v), .int .i64 (x * v + y * u)]) ∧ Below w.heap.size w w' := by
  have m1 := mbd (a := x) (b := u) (A := 1000000) (B := 1000000) (by omega) (by omega) (by omega) (by omega)
  have m2 := mbd (a := y) (b := v) (A := 1000000) (B := 1000000) (by omega) (by omega) (by omega) (by omega)
  have m3 := mbd (a := x) (b := v) (A := 1000000) (B := 1000000) (by omega) (by omega) (by omega) (by omega)
  have m4 := mbd (a := y) (b := u) (A := 1000000) (B := 1000000) (by omega) (by omega) (by omega) (by omega)
  have e1 : IntKind.i64.wrap (x * u) = x * u := IntWalk.i64_in _ (by omega)
  have e2 : IntKind.i64.wrap (y * v) = y * v := IntWalk.i64_in _ (by omega)
  have e3 : IntKind.i64.wrap (x * v) = x * v := IntWalk.i64_in _ (by omega)
  have e4 : IntKind.i64.wrap (y * u) = y * u := IntWalk.i64_in _ (by omega)
  have e5 : IntKind.i64.wrap (x * u - y * v) = x * u - y * v := IntWalk.i64_in _ (by omega)
  have e6 : IntKind.i64.wrap (x * v + y * u) = x * v + y * u := IntWalk.i64_in _ (by omega)
  clear m1 m2 m3 m4 x1 x2 y1 y2 u1 u2 v1 v2
  go_enter Try.func71, Try.ntmps71
  go_wp2
  refine bodyPost_ret (v := .agg #[.int .i64 (x * u - y * v), .int .i64 (x * v + y * u)]) (by simp [results, Try.results71, go_sem, *]) rfl ⟨rfl, by (repeat (first | with_reducible exact Below.refl _ _ | with_reducible assumption | with_reducible refine Below.alloc ?_ (by first | (simp; done) | (simp; omega) | omega) _ | with_reducible refine Below.setCell ?_ (by first | (simp; done) | (simp; omega) | omega) _ | with_reducible refine Below.drew ?_ | with_reducible refine below_drewN ?_ _))⟩
set_option maxRecDepth 100000 in
set_option maxHeartbeats 800000 in
theorem gadd_any (x y u v : Int) (x1 : -1000000000000 ≤ x) (x2 : x ≤ 1000000000000) (y1 : -1000000000000 ≤ y) (y2 : y ≤ 1000000000000) (u1 : -1000000000000 ≤ u) (u2 : u ≤ 1000000000000) (v1 : -1000000000000 ≤ v) (v2 : v ≤ 1000000000000) (w : World) :
    Calls Try.prog 122 #[.agg #[.int .i64 x, .int .i64 y], .agg #[.int .i64 u, .int .i64 v]] w fun e w' => e = .returned (.agg #[.int .i64 (x + u), .int .i64 (y + v)]) ∧ Below w.heap.size w w' := by
  have e5 : IntKind.i64.wrap (x + u) = x + u := IntWalk.i64_in _ (by omega)
  have e6 : IntKind.i64.wrap (y + v) = y + v := IntWalk.i64_in _ (by omega)
  clear x1 x2 y1 y2 u1 u2 v1 v2
  go_enter Try.func122, Try.ntmps122
  go_wp2
  refine bodyPost_ret (v := .agg #[.int .i64 (x + u), .int .i64 (y + v)]) (by simp [results, Try.results122, go_sem, *]) rfl ⟨rfl, by (repeat (first | with_reducible exact Below.refl _ _ | with_reducible assumption | with_reducible refine Below.alloc ?_ (by first | (simp; done) | (simp; omega) | omega) _ | with_reducible refine Below.setCell ?_ (by first | (simp; done) | (simp; omega) | omega) _ | with_reducible refine Below.drew ?_ | with_reducible refine below_drewN ?_ _))⟩
/-- the square of the size -/
def nrm (g : Int × Int) : Int := g.1 * g.1 + g.2 * g.2
set_option maxRecDepth 100000 in
set_option maxHeartbeats 800000 in
theorem gnorm_any (x y : Int) (x1 : -1000000000 ≤ x) (x2 : x ≤ 1000000000) (y1 : -1000000000 ≤ y) (y2 : y ≤ 1000000000) (w : World) :
    Calls Try.prog 79 #[.agg #[.int .i64 x, .int .i64 y]] w fun e w' => e = .returned (.int .i64 (nrm (x, y))) ∧ Below w.heap.size w w' := by
  have m1 := mbd (a := x) (b := x) (A := 1000000000) (B := 1000000000) (by omega) (by omega) (by omega) (by omega)
  have m2 := mbd (a := y) (b := y) (A := 1000000000) (B := 1000000000) (by omega) (by omega) (by omega) (by omega)
  have e1 : IntKind.i64.wrap (x * x) = x * x := IntWalk.i64_in _ (by omega)
  have e2 : IntKind.i64.wrap (y * y) = y * y := IntWalk.i64_in _ (by omega)
  have e3 : IntKind.i64.wrap (x * x + y * y) = x * x + y * y := IntWalk.i64_in _ (by omega)
  clear m1 m2 x1 x2 y1 y2
  go_enter Try.func79, Try.ntmps79
  go_wp2
  go_ret
  exact ⟨rfl, by (repeat (first | with_reducible exact Below.refl _ _ | with_reducible assumption | with_reducible refine Below.alloc ?_ (by first | (simp; done) | (simp; omega) | omega) _ | with_reducible refine Below.setCell ?_ (by first | (simp; done) | (simp; omega) | omega) _ | with_reducible refine Below.drew ?_ | with_reducible refine below_drewN ?_ _))⟩
set_option maxRecDepth 100000 in
set_option maxHeartbeats 800000 in
theorem npower_any (x y : Int) (x1 : -1000000000 ≤ x) (x2 : x ≤ 1000000000) (y1 : -1000000000 ≤ y) (y2 : y ≤ 1000000000) (w : World) :
    Calls Try.prog 145 #[.agg #[.int .i64 x, .int .i64 y]] w fun e w' => e = .returned (.int .i64 (nrm (x, y))) ∧ Below w.heap.size w w' := by
  have m1 := mbd (a := x) (b := x) (A := 1000000000) (B := 1000000000) (by omega) (by omega) (by omega) (by omega)
  have m2 := mbd (a := y) (b := y) (A := 1000000000) (B := 1000000000) (by omega) (by omega) (by omega) (by omega)
  have e1 : IntKind.i64.wrap (x * x) = x * x := IntWalk.i64_in _ (by omega)
  have e2 : IntKind.i64.wrap (y * y) = y * y := IntWalk.i64_in _ (by omega)
  have e3 : IntKind.i64.wrap (x * x + y * y) = x * x + y * y := IntWalk.i64_in _ (by omega)
  clear m1 m2 x1 x2 y1 y2
  go_enter Try.func145, Try.ntmps145
  go_wp2
  go_ret
  exact ⟨rfl, by (repeat (first | with_reducible exact Below.refl _ _ | with_reducible assumption | with_reducible refine Below.alloc ?_ (by first | (simp; done) | (simp; omega) | omega) _ | with_reducible refine Below.setCell ?_ (by first | (simp; done) | (simp; omega) | omega) _ | with_reducible refine Below.drew ?_ | with_reducible refine below_drewN ?_ _))⟩
def pa0 : List Bool := [false, false, true, true, true, true, true, true, true, true]
/-- the greater one -/
def mx2 (a b : Int) : Int := if a < b then b else a
def gpt (g : Int × Int) : Int := mx2 (siz g.1) (siz g.2)
set_option maxRecDepth 100000 in
set_option maxHeartbeats 800000 in
theorem gpart_any (x y : Int) (x1 : -1000000000 ≤ x) (x2 : x ≤ 1000000000) (y1 : -1000000000 ≤ y) (y2 : y ≤ 1000000000) (w : World) :
    Calls Try.prog 111 #[.agg #[.int .i64 x, .int .i64 y]] w fun e w' => e = .returned (.int .i64 (gpt (x, y))) ∧ Below w.heap.size w w' := by
  have HS1 := Lib.hid (fun W => bsize_any x (by omega) (by omega) W)
  have HS2 := Lib.hid (fun W => bsize_any y (by omega) (by omega) W)
  clear x1 x2 y1 y2
  unfold gpt
  generalize siz (x, y).1 = sx at *
  generalize siz (x, y).2 = sy at *
  go_enter Try.func111, Try.ntmps111
  go_wp2_with fail
  have p0 : (w.alloc (.cells #[.int .i64 x, .int .i64 y] 23)).cell? ⟨w.heap.size, 0, none⟩ = some (.int .i64 x) := by simp [go_sem]
  have p1 : (w.alloc (.cells #[.int .i64 x, .int .i64 y] 23)).cell? ⟨w.heap.size, 1, none⟩ = some (.int .i64 y) := by simp [go_sem]
  have hbw : Below w.heap.size w (w.alloc (.cells #[.int .i64 x, .int .i64 y] 23)) := by (repeat (first | with_reducible exact Below.refl _ _ | with_reducible assumption | with_reducible refine Below.alloc ?_ (by first | (simp; done) | (simp; omega) | omega) _ | with_reducible refine Below.setCell ?_ (by first | (simp; done) | (simp; omega) | omega) _ | with_reducible refine Below.drew ?_ | with_reducible refine below_drewN ?_ _))
  generalize (w.alloc (.cells #[.int .i64 x, .int .i64 y] 23)) = v0 at *
  refine wp_region_mp [mpEq (.pointer (some ⟨w.heap.size, 0, none⟩)), mpEq (.int .i64 x), mpEq (.int .i64 sx), mpEq (.pointer (some ⟨w.heap.size, 1, none⟩)), mpEq (.int .i64 y), mpEq (.int .i64 sy), mpEq (.int .i64 (mx2 sx sy)), mpEq (.int .i64 (mx2 sx sy))] pa0 (by kernel_rfl) (by kernel_rfl) (by kernel_rfl) (
        allOps_cons (fun a' w' hb hs hd => rg_op fun K hK => by
      have e0 := (hs.get 1 (by kernel_rfl)).trans (show _ = .pointer (some ⟨w.heap.size, 0, none⟩) from rfl)
      have ec : ∀ v, a'.eval (.const v) = v := fun _ => rfl
      clear hs hd
      unfold Oper.wp
      generalize a'.eval = ρ at e0 ec ⊢
      simp [go_sem, e0]
      exact hK _ _ (Below.refl _ _) rfl) <|
        allOps_cons (fun a' w' hb hs hd => rg_op fun K hK => by
      have e0 := (show a'.eval (.tmp 3) = .pointer (some ⟨w.heap.size, 0, none⟩) from hd.get 0 3 (by kernel_rfl) (by kernel_rfl))
      have ec : ∀ v, a'.eval (.const v) = v := fun _ => rfl
      have c0 := keep hb p0
      clear hs hd
      unfold Oper.wp
      generalize a'.eval = ρ at e0 ec ⊢
      simp [go_sem, e0, c0]
      exact hK _ _ (Below.refl _ _) rfl) <|
        allOps_cons (fun a' w' hb hs hd => by
      exact rg_fn (φ := (mpEq (.int .i64 sx)).p) (vs := #[.int .i64 x]) rfl (enters_of Try.func82 (by kernel_rfl) rfl) (by simp [(show a'.eval (.tmp 4) = .int .i64 x from hd.get 1 4 (by kernel_rfl) (by kernel_rfl))]) ((HS1.out w').mono (by rintro e w1 ⟨rfl, rfl⟩; exact ⟨_, rfl, Below.refl _ _, rfl⟩))) <|
        allOps_cons (fun a' w' hb hs hd => rg_op fun K hK => by
      have e0 := (hs.get 1 (by kernel_rfl)).trans (show _ = .pointer (some ⟨w.heap.size, 0, none⟩) from rfl)
      have ec : ∀ v, a'.eval (.const v) = v := fun _ => rfl
      clear hs hd
      unfold Oper.wp
      generalize a'.eval = ρ at e0 ec ⊢
      simp [go_sem, e0]
      exact hK _ _ (Below.refl _ _) rfl) <|
        allOps_cons (fun a' w' hb hs hd => rg_op fun K hK => by
      have e0 := (show a'.eval (.tmp 6) = .pointer (some ⟨w.heap.size, 1, none⟩) from hd.get 3 6 (by kernel_rfl) (by kernel_rfl))
      have ec : ∀ v, a'.eval (.const v) = v := fun _ => rfl
      have c0 := keep hb p1
      clear hs hd
      unfold Oper.wp
      generalize a'.eval = ρ at e0 ec ⊢
      simp [go_sem, e0, c0]
      exact hK _ _ (Below.refl _ _) rfl) <|
        allOps_cons (fun a' w' hb hs hd => by
      exact rg_fn (φ := (mpEq (.int .i64 sy)).p) (vs := #[.int .i64 y]) rfl (enters_of Try.func82 (by kernel_rfl) rfl) (by simp [(show a'.eval (.tmp 7) = .int .i64 y from hd.get 4 7 (by kernel_rfl) (by kernel_rfl))]) ((HS2.out w').mono (by rintro e w1 ⟨rfl, rfl⟩; exact ⟨_, rfl, Below.refl _ _, rfl⟩))) <|
        allOps_cons (fun a' w' hb hs hd => rg_op fun K hK => by
      have e0 := (show a'.eval (.tmp 5) = .int .i64 sx from hd.get 2 5 (by kernel_rfl) (by kernel_rfl))
      have e1 := (show a'.eval (.tmp 8) = .int .i64 sy from hd.get 5 8 (by kernel_rfl) (by kernel_rfl))
      have ec : ∀ v, a'.eval (.const v) = v := fun _ => rfl
      clear hs hd
      unfold Oper.wp
      generalize a'.eval = ρ at e0 e1 ec ⊢
      simp [go_sem, e0, e1]
      exact hK _ _ (Below.refl _ _) rfl) <|
        allOps_cons (fun a' w' hb hs hd => rg_op fun K hK => by
      have e0 := (show a'.eval (.tmp 9) = .int .i64 (mx2 sx sy) from hd.get 6 9 (by kernel_rfl) (by kernel_rfl))
      have ec : ∀ v, a'.eval (.const v) = v := fun _ => rfl
      clear hs hd
      unfold Oper.wp
      generalize a'.eval = ρ at e0 ec ⊢
      simp [go_sem, e0]
      exact hK _ _ (Below.refl _ _) rfl) <| allOps_nil) (fun V v1 hv1 hall => ?_)
  have h2 : V 2 = .int .i64 (mx2 sx sy) := hall.get 7 rfl
  clear hall
  simp only [pa0, maskPut, Nat.reduceAdd]
  rw [h2]
  clear h2
  go_wp2
  go_ret
  exact ⟨rfl, belowT hbw hv1⟩
theorem gLive {w : World} {a : Addr} {n : Nat} {g : Nat → Int × Int} (hA : GA w (some a) n g) : ∀ j u, (gV n g)[j]? = some u → w.cell? (a.add j) = some u := by
  intro j u hu
  have hj : j < n * 2 := by
    have := (List.getElem?_eq_some_iff.1 hu).1
    rwa [gV_len] at this
  obtain ⟨b, o, e, hc⟩ := hA (by omega)
  obtain rfl : a = ⟨b, o, none⟩ := by simpa using e
  obtain ⟨q, h⟩ : ∃ q, j = q * 2 ∨ j = q * 2 + 1 := ⟨j / 2, by omega⟩
  rcases h with rfl | rfl
  · rw [(gV_get g n q (by omega)).1] at hu
    cases hu
    rw [addr_addI]
    exact (hc q (by omega)).1
  · rw [(gV_get g n q (by omega)).2] at hu
    cases hu
    rw [addr_addI, ← Nat.add_assoc]
    exact (hc q (by omega)).2
theorem gV_ints (g : Nat → Int × Int) : ∀ n u, u ∈ gV n g → ∃ x, u = .int .i64 x
  | 0, u, h => by simp [gV] at h
  | n + 1, u, h => by
    simp only [gV, List.mem_append, List.mem_cons, List.not_mem_nil, or_false] at h
    rcases h with h | h | h
    · exact gV_ints g n u h
    · exact ⟨_, h⟩
    · exact ⟨_, h⟩
/-- a slice of pairs -/
def GS (w : World) (v : Value) (n : Nat) (g : Nat → Int × Int) : Prop := ∃ A c, v = .slice A n c ∧ GA w A n g ∧ (A = none → n = 0 ∧ c = 0)
theorem GS.on {w w1 : World} {v : Value} {n : Nat} {g : Nat → Int × Int} (h : GS w v n g) (hb : Below w.heap.size w w1) : GS w1 v n g := by
  obtain ⟨A, c, e, hA, hn⟩ := h
  exact ⟨A, c, e, hA.bel hb, hn⟩
def mpGS (n : Nat) (g : Nat → Int × Int) : MP := ⟨fun v w => GS w v n g, fun _ _ _ h hb => h.on hb⟩
theorem own_GS {w : World} {base e n : Nat} {v : Value} {g : Nat → Int × Int} (h : w.ownsRow base e 2 v n (gV n g)) : GS w v n g := by
  obtain ⟨e, h1, h2⟩ := own_gV h
  exact ⟨_, _, e, h1, h2⟩
set_option maxRecDepth 100000 in
set_option maxHeartbeats 800000 in
theorem copyG_some (a : Addr) (n c : Nat) (g : Nat → Int × Int) (w : World) (hn : n ≤ 1000000) (hA : GA w (some a) n g) :
    Calls Try.prog 49 #[.slice (some a) n c] w fun e w' => ∃ v, e = .returned v ∧ Below w.heap.size w w' ∧ GS w' v n g := by
  obtain ⟨i0, hi0, hz0, hz1, hz2⟩ := info_parts infoG
  have HN := Lib.hid (gLive hA)
  have hl := gV_len g n
  clear hA
  go_enter Try.func49, Try.ntmps49
  go_wp2_with (first
    | (at_builtin; go_loud (refine wpList_append_own_at _ rfl _ _ 42 rfl w.heap.size 23 i0 _ 2 16 undGs hi0 hz0 hz1 hz2 rfl (by decide) _ 0 [] rfl (World.ownsRow_made w #[] 0 (Nat.le_refl _) (by unfold maxLen; omega) rfl) a n c (gV n g) rfl hl (fun j u hu => (World.cell?_alloc_some w _ _ (by rw [HN.out j u hu]; rfl)).trans (HN.out j u hu)) (by simp [Value.oneCell']; intro u hu; obtain ⟨x, rfl⟩ := gV_ints g n u hu; rfl) (by unfold maxLen; omega) (by omega) (by simp) ?_; intro v' w5 hown' hgrow hnil hloc; have hA' := own_GS (g := g) (by simpa using hown'); have HB5 : Below w.heap.size w w5 := ((Below.refl w.heap.size w).alloc (Nat.le_refl _) _).grown hgrow (by first | (simp; done) | (simp; omega) | omega) (fun k h => by cases h; exact Nat.le_refl _); have HA5 := Lib.hid hA'; clear hown' hgrow hnil hloc hA'))
    | fail)
  go_ret
  exact ⟨_, rfl, HB5, HA5.out⟩
set_option maxRecDepth 100000 in
set_option maxHeartbeats 800000 in
theorem copyG_nil (g : Nat → Int × Int) (w : World) :
    Calls Try.prog 49 #[.slice none 0 0] w fun e w' => ∃ v, e = .returned v ∧ Below w.heap.size w w' ∧ GS w' v 0 g := by
  go_enter Try.func49, Try.ntmps49
  go_wp2_with fail
  go_ret
  exact ⟨_, rfl, by (repeat (first | with_reducible exact Below.refl _ _ | with_reducible assumption | with_reducible refine Below.alloc ?_ (by first | (simp; done) | (simp; omega) | omega) _ | with_reducible refine Below.setCell ?_ (by first | (simp; done) | (simp; omega) | omega) _ | with_reducible refine Below.drew ?_ | with_reducible refine below_drewN ?_ _)), _, _, rfl, fun h => absurd h (Nat.lt_irrefl 0), fun h => by cases h⟩
theorem copyG_any (v : Value) (n : Nat) (g : Nat → Int × Int) (w : World) (hn : n ≤ 1000000) (h : GS w v n g) :
    Calls Try.prog 49 #[v] w fun e w' => ∃ v, e = .returned v ∧ Below w.heap.size w w' ∧ GS w' v n g := by
  obtain ⟨A, c, rfl, hA, h0⟩ := h
  match A, hA, h0 with
  | none, _, h0 =>
    obtain ⟨rfl, rfl⟩ := h0 rfl
    exact copyG_nil g w
  | some a, hA, _ => exact copyG_some a n c g w hn hA
set_option maxRecDepth 100000 in
set_option maxHeartbeats 2000000 in
theorem gausses_any (A B : Option Addr) (n c m c' : Nat) (g h : Nat → Int × Int) (w : World) (hn : n ≤ 1000000) (hA : GA w A n g) (hB : GA w B m h) :
    Calls Try.prog 35 #[.slice A n c, .slice B m c'] w fun e w' => e = .returned (.bool (n == m && (List.range n).all fun i => decide (g i = h i))) ∧ Below w.heap.size w w' := by
  by_cases hnm : n = m
  · subst hnm
    have HA := Lib.hid hA
    have HB := Lib.hid hB
    clear hA hB
    go_enter Try.func35, Try.ntmps35
    go_wp2_with fail
    go_loopw [5] (fun i wr => ∃ k : Nat, k ≤ n ∧ i = .int .i64 k ∧ Hid (∀ j, j < k → g j = h j) ∧ Below w.heap.size w wr) (fun i _ => n - (intOf i).toNat)
    case atStart => exact ⟨0, Nat.zero_le _, rfl, fun j hj => absurd hj (Nat.not_lt_zero _), by (repeat (first | with_reducible exact Below.refl _ _ | with_reducible assumption | with_reducible refine Below.alloc ?_ (by first | (simp; done) | (simp; omega) | omega) _ | with_reducible refine Below.setCell ?_ (by first | (simp; done) | (simp; omega) | omega) _ | with_reducible refine Below.drew ?_ | with_reducible refine below_drewN ?_ _))⟩
    case round =>
      obtain ⟨k, hk, rfl, H, hbel⟩ := hrel
      by_cases hlt : k < n
      · obtain ⟨b1, o1, rfl, hc1⟩ := HA.out (by omega)
        obtain ⟨b2, o2, rfl, hc2⟩ := HB.out (by omega)
        have q1 := keep hbel (hc1 k hlt).1
        have q1' := keep hbel (hc1 k hlt).2
        have q2 := keep hbel (hc2 k hlt).1
        have q2' := keep hbel (hc2 k hlt).2
        have hws := hbel.size
        have p1 : (0 : Int) ≤ (k : Int) := by omega
        have p2 : (k : Int) < (n : Int) := by omega
        have HL := Lib.hid hlt
        clear hc1 hc2
        obtain ⟨x, y, hg⟩ : ∃ x y, g k = (x, y) := ⟨(g k).1, (g k).2, rfl⟩
        obtain ⟨u, v, hh⟩ : ∃ u v, h k = (u, v) := ⟨(h k).1, (h k).2, rfl⟩
        rw [hg] at q1 q1'
        rw [hh] at q2 q2'
        by_cases he : x = u ∧ y = v
        · obtain ⟨rfl, rfl⟩ := he
          have HE := Lib.hid (hg.trans hh.symm)
          clear hg hh
          go_wp2_with fail
          go_region_held3 (fun w' => (w'.cell? ⟨b1, o1 + k * 2, none⟩ = some (.int .i64 x) ∧ w'.cell? ⟨b1, o1 + k * 2 + 1, none⟩ = some (.int .i64 y)) ∧ w'.cell? ⟨b2, o2 + k * 2, none⟩ = some (.int .i64 x) ∧ w'.cell? ⟨b2, o2 + k * 2 + 1, none⟩ = some (.int .i64 y)) (simp [go_sem, *]) (first | fail)
          all_goals
            go_wp2
            go_roundw
            case rel => exact ⟨k + 1, by omega, by go_num, fun j hj => (by
              rcases Nat.lt_or_eq_of_le (Nat.le_of_lt_succ hj) with h | h
              · exact H.out j h
              · rw [h]; exact HE.out), by (repeat (first | with_reducible exact Below.refl _ _ | with_reducible assumption | with_reducible refine Below.alloc ?_ (by first | (simp; done) | (simp; omega) | omega) _ | with_reducible refine Below.setCell ?_ (by first | (simp; done) | (simp; omega) | omega) _ | with_reducible refine Below.drew ?_ | with_reducible refine below_drewN ?_ _))⟩
            case measure => simp [intOf]; omega
        · have HE : Hid (g k ≠ h k) := Lib.hid (by rw [hg, hh]; simpa using he)
          clear hg hh
          by_cases hx : x = u
          · subst hx
            have hy : ¬ y = v := fun e => he ⟨rfl, e⟩
            have hy2 : (y == v) = false := by simpa using hy
            clear he
            go_wp2_with fail
            go_region_held3 (fun w' => (w'.cell? ⟨b1, o1 + k * 2, none⟩ = some (.int .i64 x) ∧ w'.cell? ⟨b1, o1 + k * 2 + 1, none⟩ = some (.int .i64 y)) ∧ w'.cell? ⟨b2, o2 + k * 2, none⟩ = some (.int .i64 x) ∧ w'.cell? ⟨b2, o2 + k * 2 + 1, none⟩ = some (.int .i64 v)) (simp [go_sem, *]) (first | fail)
            all_goals
              go_wp2
              go_ret
              refine ⟨ret_bool ?_, by (repeat (first | with_reducible exact Below.refl _ _ | with_reducible assumption | with_reducible refine Below.alloc ?_ (by first | (simp; done) | (simp; omega) | omega) _ | with_reducible refine Below.setCell ?_ (by first | (simp; done) | (simp; omega) | omega) _ | with_reducible refine Below.drew ?_ | with_reducible refine below_drewN ?_ _))⟩
              simp only [beq_self_eq_true, Bool.true_and]
              refine (List.all_eq_false.2 ⟨k, List.mem_range.2 HL.out, ?_⟩).symm
              simpa using HE.out
          · have hx2 : (x == u) = false := by simpa using hx
            clear he
            go_wp2_with fail
            go_region_held3 (fun w' => (w'.cell? ⟨b1, o1 + k * 2, none⟩ = some (.int .i64 x) ∧ w'.cell? ⟨b1, o1 + k * 2 + 1, none⟩ = some (.int .i64 y)) ∧ w'.cell? ⟨b2, o2 + k * 2, none⟩ = some (.int .i64 u) ∧ w'.cell? ⟨b2, o2 + k * 2 + 1, none⟩ = some (.int .i64 v)) (simp [go_sem, *]) (first | fail)
            all_goals
              go_wp2
              go_ret
              refine ⟨ret_bool ?_, by (repeat (first | with_reducible exact Below.refl _ _ | with_reducible assumption | with_reducible refine Below.alloc ?_ (by first | (simp; done) | (simp; omega) | omega) _ | with_reducible refine Below.setCell ?_ (by first | (simp; done) | (simp; omega) | omega) _ | with_reducible refine Below.drew ?_ | with_reducible refine below_drewN ?_ _))⟩
              simp only [beq_self_eq_true, Bool.true_and]
              refine (List.all_eq_false.2 ⟨k, List.mem_range.2 HL.out, ?_⟩).symm
              simpa using HE.out
      · obtain rfl : k = n := by omega
        go_wp2
        go_ret
        refine ⟨ret_bool ?_, hbel⟩
        simp only [beq_self_eq_true, Bool.true_and]
        exact (List.all_eq_true.2 fun j hj => by simpa using H.out j (List.mem_range.1 hj)).symm
  · have g0 : (((n : Int) != (m : Int)) = true) := by simp; omega
    rw [show (n == m) = false by simpa using hnm]
    go_enter Try.func35, Try.ntmps35
    go_wp2_with fail
    go_ret
    exact ⟨rfl, by (repeat (first | with_reducible exact Below.refl _ _ | with_reducible assumption | with_reducible refine Below.alloc ?_ (by first | (simp; done) | (simp; omega) | omega) _ | with_reducible refine Below.setCell ?_ (by first | (simp; done) | (simp; omega) | omega) _ | with_reducible refine Below.drew ?_ | with_reducible refine below_drewN ?_ _))⟩
end Go.Proofs.Ytpkacfgmojblbaa
namespace Go.Proofs.Ytpkacfgmojblbaa
open Go.RowKit
theorem qRe_mod {a b : Int} (h : a % 4 = b % 4) : qRe a = qRe b := by unfold qRe; rw [h]
theorem qIm_mod {a b : Int} (h : a % 4 = b % 4) : qIm a = qIm b := by unfold qIm; rw [h]
/-- a pair turned by m quarters -/
def rt (m : Int) (g : Int × Int) : Int × Int := (rtR m g, rtI m g)
theorem rt_mod {a b : Int} (h : a % 4 = b % 4) (g : Int × Int) : rt a g = rt b g := by unfold rt rtR rtI; rw [qRe_mod h, qIm_mod h]
theorem rt_rt (m k : Int) (g : Int × Int) : rt k (rt m g) = rt (m + k) g := by
  unfold rt rtR rtI
  rcases q_cases m with ⟨h1, r1, r2⟩ | ⟨h1, r1, r2⟩ | ⟨h1, r1, r2⟩ | ⟨h1, r1, r2⟩ <;>
    rcases q_cases k with ⟨h2, s1, s2⟩ | ⟨h2, s1, s2⟩ | ⟨h2, s1, s2⟩ | ⟨h2, s1, s2⟩ <;>
    rcases q_cases (m + k) with ⟨h3, t1, t2⟩ | ⟨h3, t1, t2⟩ | ⟨h3, t1, t2⟩ | ⟨h3, t1, t2⟩ <;>
    first
      | (exfalso; omega)
      | (rw [r1, r2, s1, s2, t1, t2]; refine Prod.ext ?_ ?_ <;> simp <;> done)
      | (rw [r1, r2, s1, s2, t1, t2]; refine Prod.ext ?_ ?_ <;> (simp; try omega))
theorem rt_0 (g : Int × Int) : rt 0 g = g := by
  unfold rt rtR rtI
  rw [show qRe 0 = 1 from rfl, show qIm 0 = 0 from rfl]
  refine Prod.ext ?_ ?_ <;> simp
theorem nrm_rt (m : Int) (g : Int × Int) : nrm (rt m g) = nrm g := by
  unfold nrm rt rtR rtI
  rcases q_cases m with ⟨h1, r1, r2⟩ | ⟨h1, r1, r2⟩ | ⟨h1, r1, r2⟩ | ⟨h1, r1, r2⟩ <;> rw [r1, r2] <;> simp [Int.add_comm, Int.neg_mul, Int.mul_neg]
/-- samples that are mixed with a program, whose turns are multiplied by s -/
def mxS (s ph inc ch : Int) (g : Nat → Int × Int) (i : Nat) : Int × Int := rt (s * trn ph inc ch i) (g i)
/-- the program that begins later has the phases of the whole -/
theorem tri (a i : Int) : (a + i) * (a + i - 1) / 2 = a * (a - 1) / 2 + a * i + i * (i - 1) / 2 := by
  have e1 : ∀ n : Int, n * (n - 1) % 2 = 0 := fun n => by
    rcases (by omega : n % 2 = 0 ∨ n % 2 = 1) with h | h
    · rw [Int.mul_emod, h]; simp
    · rw [Int.mul_emod, show (n - 1) % 2 = 0 by omega]; simp
  have h1 := e1 a
  have h2 := e1 i
  have h3 : (a + i) * (a + i - 1) = a * (a - 1) + 2 * (a * i) + i * (i - 1) := by
    simp only [Int.mul_add, Int.add_mul, Int.mul_sub, Int.mul_one]
    have := Int.mul_comm a i
    omega
  rw [h3]
  omega
theorem phs_adv (ph inc ch a i : Int) : phs (phs ph inc ch a) ((inc + a * ch) % 4096) ch i = phs ph inc ch (a + i) := by
  unfold phs
  rw [tri]
  have q1 := Int.mul_ediv_add_emod (ph + a * inc + a * (a - 1) / 2 * ch) 4096
  have q2 := Int.mul_ediv_add_emod (inc + a * ch) 4096
  generalize (ph + a * inc + a * (a - 1) / 2 * ch) % 4096 = X at *
  generalize (inc + a * ch) % 4096 = Y at *
  generalize (ph + a * inc + a * (a - 1) / 2 * ch) / 4096 = U at *
  generalize (inc + a * ch) / 4096 = V at *
  obtain rfl : X = ph + a * inc + a * (a - 1) / 2 * ch - 4096 * U := by omega
  obtain rfl : Y = inc + a * ch - 4096 * V := by omega
  have e : ph + a * inc + a * (a - 1) / 2 * ch - 4096 * U + i * (inc + a * ch - 4096 * V) + i * (i - 1) / 2 * ch = (ph + (a + i) * inc + (a * (a - 1) / 2 + a * i + i * (i - 1) / 2) * ch) + 4096 * (-U - i * V) := by
    generalize a * (a - 1) / 2 = p at *
    generalize i * (i - 1) / 2 = r at *
    simp only [Int.mul_add, Int.add_mul, Int.mul_sub]
    rw [show i * (a * ch) = a * i * ch by rw [← Int.mul_assoc, Int.mul_comm i a], show i * (4096 * V) = 4096 * (i * V) by rw [← Int.mul_assoc, Int.mul_comm i 4096, Int.mul_assoc]]
    omega
  rw [e, Int.add_mul_emod_self_left]
theorem trn_adv (ph inc ch a i : Int) : trn (phs ph inc ch a) ((inc + a * ch) % 4096) ch i = trn ph inc ch (a + i) := by
  unfold trn
  rw [phs_adv]
/-- the sum of norms -/
def enS (g : Nat → Int × Int) : Nat → Int
  | 0 => 0
  | k + 1 => enS g k + nrm (g k)
theorem enS_same {g h : Nat → Int × Int} : ∀ n, (∀ i, i < n → nrm (g i) = nrm (h i)) → enS g n = enS h n
  | 0, _ => rfl
  | n + 1, H => by simp only [enS]; rw [enS_same n (fun i hi => H i (by omega)), H n (by omega)]
theorem nrm_bd {g : Int × Int} {M : Int} (h : (-M ≤ g.1 ∧ g.1 ≤ M) ∧ -M ≤ g.2 ∧ g.2 ≤ M) : 0 ≤ nrm g ∧ nrm g ≤ 2 * (M * M) := by
  obtain ⟨⟨a, b⟩, c, d⟩ := h
  have m1 := mbd a b a b
  have m2 := mbd c d c d
  have s1 := sq_nn g.1
  have s2 := sq_nn g.2
  unfold nrm
  omega
theorem enS_bd {g : Nat → Int × Int} {M : Int} {n : Nat} (h : ∀ i, i < n → (-M ≤ (g i).1 ∧ (g i).1 ≤ M) ∧ -M ≤ (g i).2 ∧ (g i).2 ≤ M) : ∀ k, k ≤ n → 0 ≤ enS g k ∧ enS g k ≤ 2 * (M * M) * k
  | 0, _ => by simp [enS]
  | k + 1, hk => by
    have ih := enS_bd h k (by omega)
    have hb := nrm_bd (h k (by omega))
    have e : 2 * (M * M) * ((k + 1 : Nat) : Int) = 2 * (M * M) * k + 2 * (M * M) := by rw [Int.natCast_add, Int.mul_add, Int.natCast_one, Int.mul_one]
    rw [e]
    simp only [enS]
    omega
end Go.Proofs.Ytpkacfgmojblbaa
namespace Go.Proofs.Ytpkacfgmojblbaa
open Go.RowKit
attribute [local go_sem] old1 fro1 old2 fro2 old3 fro3 old4 fro4 old5 fro5 old6 fro6 old7 fro7 old8 fro8 old9 fro9 old10 fro10 old11 fro11 old12 fro12
set_option maxRecDepth 100000 in
set_option maxHeartbeats 2000000 in
theorem samplesErr_any (A : Option Addr) (n c : Nat) (g : Nat → Int × Int) (w : World) (hn : n ≤ 1000000000) (hA : GA w A n g) :
    Calls Try.prog 53 #[.slice A n c] w fun e w' => e = .returned (.int .i64 (smE n g)) ∧ Below w.heap.size w w' := by
  have HA := Lib.hid hA
  clear hA
  by_cases h4 : n ≤ 400
  · have p0 : ¬ (n : Int) > 400 := by omega
    have HGE := Lib.hid (fun x y W => gaussErr_any x y 2000 (by omega) (by omega) W)
    have HE : Hid (smE n g = ferr (fun i => ptE 2000 (g i)) 0 n) := Lib.hid (by unfold smE atEG; rw [if_pos (by omega)])
    go_enter Try.func53, Try.ntmps53
    go_wp2_with fail
    go_loopw [3, 4] (fun s3 s4 wr => ∃ i : Nat, i ≤ n ∧ s3 = .int .i64 i ∧ Hid (Below w.heap.size w wr) ∧ Hid (ferr (fun i => ptE 2000 (g i)) 0 n = ferr (fun i => ptE 2000 (g i)) i (n - i))) (fun i _ _ => n - (intOf i).toNat)
    case atStart => exact ⟨0, Nat.zero_le _, rfl, Below.refl _ _, rfl⟩
    case round =>
      obtain ⟨i, hi, rfl, HB, H⟩ := hrel
      by_cases hlt : i < n
      · obtain ⟨bA, oA, rfl, hA2⟩ := HA.out (by omega)
        have c0 := keep HB.out (hA2 i hlt).1
        have c1 := keep HB.out (hA2 i hlt).2
        have g1 : (0 : Int) ≤ (i : Int) := by omega
        have g2 : (i : Int) < (n : Int) := by omega
        have HS : Hid (ferr (fun i => ptE 2000 (g i)) i (n - i) = if ptE 2000 (g i) = 0 then ferr (fun i => ptE 2000 (g i)) (i + 1) (n - (i + 1)) else ptE 2000 (g i)) := by
          rw [show n - i = (n - (i + 1)) + 1 from by omega]; rfl
        clear hA2
        obtain ⟨E, hE⟩ : ∃ E, ptE 2000 ((g i).1, (g i).2) = E := ⟨_, rfl⟩
        have HEE : Hid (ptE 2000 (g i) = E) := Lib.hid hE
        generalize (g i).1 = x at *
        generalize (g i).2 = y at *
        by_cases he : E = 0
        · subst he
          go_wp2_with (go_at_call 70; (with_reducible refine Calls.mono (HGE.out _ _ _) ?_); rintro e w3 ⟨rfl, hb3⟩; rw [hE]; have HB3 := Lib.hid (belowT HB.out hb3); clear hb3)
          go_roundw
          case rel => exact ⟨i + 1, by omega, by go_num, HB3.out, by show ferr _ 0 n = _; rw [H.out, HS.out, if_pos HEE.out]⟩
          case measure => simp [intOf]; omega
        · have hq : (E != 0) = true := by simpa using he
          go_wp2_with (go_at_call 70; (with_reducible refine Calls.mono (HGE.out _ _ _) ?_); rintro e w3 ⟨rfl, hb3⟩; rw [hE]; have HB3 := Lib.hid (belowT HB.out hb3); clear hb3)
          go_ret
          exact ⟨ret_int (by rw [HE.out, H.out, HS.out, HEE.out, if_neg he]), HB3.out⟩
      · obtain rfl : i = n := by omega
        go_wp2
        go_ret
        exact ⟨ret_int (by rw [HE.out, H.out, Nat.sub_self]; rfl), HB.out⟩
  · have p0 : (n : Int) > 400 := by omega
    have p1 : smE n g = 8 := by unfold smE atEG; rw [if_neg (by omega)]
    rw [p1]
    go_enter Try.func53, Try.ntmps53
    go_wp2_with fail
    go_ret
    exact ⟨rfl, by (repeat (first | with_reducible exact Below.refl _ _ | with_reducible assumption | with_reducible refine Below.alloc ?_ (by first | (simp; done) | (simp; omega) | omega) _ | with_reducible refine Below.setCell ?_ (by first | (simp; done) | (simp; omega) | omega) _ | with_reducible refine Below.drew ?_ | with_reducible refine below_drewN ?_ _))⟩
set_option maxRecDepth 100000 in
set_option maxHeartbeats 2000000 in
theorem power_any (m : Int) (w : World) :
    Calls Try.prog 112 #[.int .i64 m] w fun e w' => e = .returned (.agg #[.int .i64 (qRe m), .int .i64 (qIm m)]) ∧ Below w.heap.size w w' := by
  have HM := Lib.hid (fun W => bmod_any m 4 (by omega) (by omega) W)
  have e2 := Int.emod_nonneg m (show (4 : Int) ≠ 0 by decide)
  have e3 := Int.emod_lt_of_pos m (show (0 : Int) < 4 by decide)
  rw [show qRe m = qRe (m % 4) from qRe_mod (by omega), show qIm m = qIm (m % 4) from qIm_mod (by omega)]
  have HG := Lib.hid (fun (k : Nat) (hk : k < 4) W => gmul_any (qRe k) (qIm k) 0 1 (by rcases q_cases k with ⟨_, r1, r2⟩ | ⟨_, r1, r2⟩ | ⟨_, r1, r2⟩ | ⟨_, r1, r2⟩ <;> rw [r1] <;> decide) (by rcases q_cases k with ⟨_, r1, r2⟩ | ⟨_, r1, r2⟩ | ⟨_, r1, r2⟩ | ⟨_, r1, r2⟩ <;> rw [r1] <;> decide) (by rcases q_cases k with ⟨_, r1, r2⟩ | ⟨_, r1, r2⟩ | ⟨_, r1, r2⟩ | ⟨_, r1, r2⟩ <;> rw [r2] <;> decide) (by rcases q_cases k with ⟨_, r1, r2⟩ | ⟨_, r1, r2⟩ | ⟨_, r1, r2⟩ | ⟨_, r1, r2⟩ <;> rw [r2] <;> decide) (by decide) (by decide) (by decide) (by decide) W)
  generalize m % 4 = r at *
  obtain ⟨n, rfl⟩ : ∃ n : Nat, r = n := ⟨r.toNat, by omega⟩
  have hn : n < 4 := by omega
  clear e2 e3
  go_enter Try.func112, Try.ntmps112
  go_wp2_with fail
  go_loopw [4] (fun s4 wr => ∃ k : Nat, k ≤ n ∧ s4 = .int .i64 k ∧ Hid (Below w.heap.size w wr) ∧ Hid (IM wr (w.heap.size + 1) 2 (fun i => if i = 0 then qRe k else qIm k)) ∧ Hid (IM wr w.heap.size 2 (fun _ => 0))) (fun i _ => n - (intOf i).toNat)
  case atStart => exact ⟨0, Nat.zero_le _, rfl, by show Below w.heap.size w _; (repeat (first | with_reducible exact Below.refl _ _ | with_reducible assumption | with_reducible refine Below.alloc ?_ (by first | (simp; done) | (simp; omega) | omega) _ | with_reducible refine Below.setCell ?_ (by first | (simp; done) | (simp; omega) | omega) _ | with_reducible refine Below.drew ?_ | with_reducible refine below_drewN ?_ _)), ⟨by simp, fun i hi => (by rcases (by omega : i = 0 ∨ i = 1) with rfl | rfl <;> exact ⟨by simp [go_sem, qRe, qIm], by simp [go_sem]⟩)⟩, ⟨by simp; omega, fun i hi => (by rcases (by omega : i = 0 ∨ i = 1) with rfl | rfl <;> exact ⟨by simp [go_sem], by simp [go_sem]⟩)⟩⟩
  case round =>
    obtain ⟨k, hk, rfl, HB, HI, HZ⟩ := hrel
    have c0 := (HI.out.2 0 (by omega)).1
    have c1 := (HI.out.2 1 (by omega)).1
    have z0 := (HI.out.2 0 (by omega)).2
    have z1 := (HI.out.2 1 (by omega)).2
    simp only [if_true, Nat.one_ne_zero, if_false] at c0 c1
    by_cases hlt : k < n
    · have g1 : (k : Int) < (n : Int) := by omega
      have HG1 := Lib.hid (HG.out k (by omega))
      have HN : Hid (-qIm k = qRe (k + 1 : Nat) ∧ qRe k = qIm (k + 1 : Nat)) := Lib.hid (by
        rcases (by omega : k = 0 ∨ k = 1 ∨ k = 2) with rfl | rfl | rfl <;> exact ⟨rfl, rfl⟩)
      generalize qRe k = x at *
      generalize qIm k = y at *
      generalize hX : qRe (k + 1 : Nat) = x' at *
      generalize hY : qIm (k + 1 : Nat) = y' at *
      go_wp2_with (first
        | (go_at_call 37; (with_reducible refine Calls.mono (HM.out _) ?_); rintro e y9 ⟨rfl, rfl⟩)
        | (go_at_call 71; (with_reducible refine Calls.mono (HG1.out _) ?_); rintro e y8 ⟨rfl, hb⟩; have HB3 := Lib.hid (belowT HB.out hb); have HI3 := Lib.hid (HI.out.on hb); have HZ3 := Lib.hid (HZ.out.on hb); have d0 := (HI3.out.2 0 (by omega)).1; have d1 := (HI3.out.2 1 (by omega)).1; have f0 := (HI3.out.2 0 (by omega)).2; have f1 := (HI3.out.2 1 (by omega)).2; simp only [if_true, Nat.one_ne_zero, if_false] at d0 d1; clear hb))
      go_roundw
      case rel =>
        refine ⟨k + 1, by omega, by go_num, (HB3.out.setCell (by simp) _).setCell (by simp) _, ((HI3.out.set (k := 0) (by omega) _).set (k := 1) (by omega) _).same (fun i hi => ?_), ⟨by simpa using HZ3.out.1, fun i hi => ⟨?_, ?_⟩⟩⟩
        · rcases (by omega : i = 0 ∨ i = 1) with rfl | rfl
          · show -y = qRe ((k + 1 : Nat) : Int)
            exact HN.out.1.trans hX.symm
          · show x = qIm ((k + 1 : Nat) : Int)
            exact HN.out.2.trans hY.symm
        · exact (World.cell?_setCell_far _ _ _ _ (by simp)).trans ((World.cell?_setCell_far _ _ _ _ (by simp)).trans (HZ3.out.2 i hi).1)
        · exact (World.frozen?_setCell _ _ _ _).trans ((World.frozen?_setCell _ _ _ _).trans (HZ3.out.2 i hi).2)
      case measure => simp [intOf]; omega
    · obtain rfl : k = n := by omega
      have r0 := (HZ.out.2 0 (by omega)).1
      have r1 := (HZ.out.2 1 (by omega)).1
      have s0 := (HZ.out.2 0 (by omega)).2
      have s1 := (HZ.out.2 1 (by omega)).2
      generalize hx : qRe k = x at *
      generalize hy : qIm k = y at *
      go_wp2_with (go_at_call 37; (with_reducible refine Calls.mono (HM.out _) ?_); rintro e y9 ⟨rfl, rfl⟩)
      refine bodyPost_ret (v := .agg #[.int .i64 x, .int .i64 y]) (by simp [results, Try.results112, go_sem, *]) rfl ⟨by rw [hx, hy], by have Bq := HB.out; (repeat (first | with_reducible exact Below.refl _ _ | with_reducible assumption | with_reducible refine Below.alloc ?_ (by first | (simp; done) | (simp; omega) | omega) _ | with_reducible refine Below.setCell ?_ (by first | (simp; done) | (simp; omega) | omega) _ | with_reducible refine Below.drew ?_ | with_reducible refine below_drewN ?_ _))⟩
set_option maxRecDepth 100000 in
set_option maxHeartbeats 2000000 in
theorem energyOfR_any (A : Option Addr) (n c : Nat) (g : Nat → Int × Int) (w : World) (hn : n ≤ 1000) (hA : GA w A n g) (hg : ∀ i, i < n → (-1000000 ≤ (g i).1 ∧ (g i).1 ≤ 1000000) ∧ -1000000 ≤ (g i).2 ∧ (g i).2 ≤ 1000000) :
    Calls Try.prog 55 #[.slice A n c] w fun e w' => e = .returned (.int .i64 (enS g n)) ∧ Below w.heap.size w w' := by
  have HA := Lib.hid hA
  have HG := Lib.hid hg
  clear hA hg
  go_enter Try.func55, Try.ntmps55
  go_wp2_with fail
  go_loopw [3, 4] (fun s3 s4 wr => ∃ k : Nat, k ≤ n ∧ s4 = .int .i64 k ∧ s3 = .int .i64 (enS g k) ∧ Hid (Below w.heap.size w wr)) (fun _ i _ => n - (intOf i).toNat)
  case atStart => exact ⟨0, Nat.zero_le _, rfl, rfl, Below.refl _ _⟩
  case round =>
    obtain ⟨k, hk, rfl, rfl, HB⟩ := hrel
    by_cases hlt : k < n
    · obtain ⟨bA, oA, rfl, hA2⟩ := HA.out (by omega)
      have c0 := keep HB.out (hA2 k hlt).1
      have c1 := keep HB.out (hA2 k hlt).2
      have hb := HG.out k hlt
      have q1 := nrm_bd hb
      have q2 := enS_bd HG.out k hk
      have g1 : (0 : Int) ≤ (k : Int) := by omega
      have g2 : (k : Int) < (n : Int) := by omega
      have HN := Lib.hid (fun W => gnorm_any (g k).1 (g k).2 (by omega) (by omega) (by omega) (by omega) W)
      have HS : Hid (enS g k + nrm ((g k).1, (g k).2) = enS g (k + 1)) := Lib.hid rfl
      have w1 : IntKind.i64.wrap (enS g k + nrm ((g k).1, (g k).2)) = enS g (k + 1) := by
        rw [HS.out]
        refine IntWalk.i64_in _ ?_
        have := enS_bd HG.out (k + 1) (by omega)
        omega
      clear hb q1 q2 hA2
      generalize nrm ((g k).1, (g k).2) = z at *
      go_wp2_with (go_at_call 79; (with_reducible refine Calls.mono (HN.out _) ?_); rintro e w3 ⟨rfl, hb3⟩; have HB3 := Lib.hid (belowT HB.out hb3); clear hb3)
      go_roundw
      case rel => exact ⟨k + 1, by omega, by go_num, rfl, HB3.out⟩
      case measure => simp [intOf]; omega
    · obtain rfl : k = n := by omega
      go_wp2
      go_ret
      exact ⟨rfl, HB.out⟩
end Go.Proofs.Ytpkacfgmojblbaa
