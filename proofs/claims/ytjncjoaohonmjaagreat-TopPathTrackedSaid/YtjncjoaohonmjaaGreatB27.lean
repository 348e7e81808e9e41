/- Helpers: the document's own error of a knot is the program's. -/
import Derived.Test.YtjncjoaohonmjaaGreatB19
namespace Go.Proofs.YtjncjoaohonmjaaGreat
open Go.RowKit Go.Shelf Go.Sort
attribute [local go_sem] idx3_0 idx3_1 idx3_2 old1 fro1 old2 fro2 old3 fro3 old4 fro4 old5 fro5 old6 fro6 old7 fro7 old8 fro8 old9 fro9 old10 fro10 old11 fro11 old12 fro12
set_option maxRecDepth 100000 in
set_option maxHeartbeats 2000000 in
theorem rknot_bad (b off n c i : Nat) (w : World) (t1 x1 y1 z1 : Int) (hi : i < n) (_ : n ≤ 100) (_ : b < w.heap.size) (c1 : w.cell? ⟨b, off + i * 4, none⟩ = some (.int .i64 t1)) (c2 : w.cell? ⟨b, off + i * 4 + 1, none⟩ = some (.int .i64 x1)) (c3 : w.cell? ⟨b, off + i * 4 + 2, none⟩ = some (.int .i64 y1)) (c4 : w.cell? ⟨b, off + i * 4 + 3, none⟩ = some (.int .i64 z1))
    (hbad : (wi t1 0 1000000000000 && wi x1 (-1000000) 1000000 && wi y1 (-1000000) 1000000 && wi z1 (-1000000) 1000000) = false) :
    Calls Tryz.prog 116 #[.slice (some ⟨b, off, none⟩) n c, .int .i64 i] w fun e w' => e = .returned (.int .i64 2) ∧ Below w.heap.size w w' := by
  cases h1 : wi t1 0 1000000000000 <;> cases h2 : wi x1 (-1000000) 1000000 <;> cases h3 : wi y1 (-1000000) 1000000 <;> cases h4 : wi z1 (-1000000) 1000000
  case true.true.true.true => rw [h1, h2, h3, h4] at hbad; cases hbad
  all_goals
    clear hbad
    go_enter Tryz.func116, Tryz.ntmps116
    go_wp2_with (first | (go_at_call 121; (with_reducible refine (btick_any _ _).mono ?_); rintro e w' ⟨rfl, rfl⟩) | (go_at_call 27; (with_reducible refine (bwithin_any _ _ _ _).mono ?_); rintro e w' ⟨rfl, rfl⟩))
    go_ret
    exact ⟨rfl, by (repeat (first | with_reducible exact Below.refl _ _ | with_reducible assumption | with_reducible refine Below.alloc ?_ (by first | (simp; done) | (simp; omega) | omega) _ | with_reducible refine Below.setCell ?_ (by first | (simp; done) | (simp; omega) | omega) _ | with_reducible refine Below.drew ?_ | with_reducible refine below_drewN ?_ _))⟩
set_option maxRecDepth 100000 in
set_option maxHeartbeats 2000000 in
theorem rknot_0 (b off n c i : Nat) (w : World) (t1 x1 y1 z1 : Int) (hi : i < n) (_ : n ≤ 100) (_ : b < w.heap.size) (c1 : w.cell? ⟨b, off + i * 4, none⟩ = some (.int .i64 t1)) (c2 : w.cell? ⟨b, off + i * 4 + 1, none⟩ = some (.int .i64 x1)) (c3 : w.cell? ⟨b, off + i * 4 + 2, none⟩ = some (.int .i64 y1)) (c4 : w.cell? ⟨b, off + i * 4 + 3, none⟩ = some (.int .i64 z1))
    (h1 : wi t1 0 1000000000000 = true) (h2 : wi x1 (-1000000) 1000000 = true) (h3 : wi y1 (-1000000) 1000000 = true) (h4 : wi z1 (-1000000) 1000000 = true) (h0 : i = 0) :
    Calls Tryz.prog 116 #[.slice (some ⟨b, off, none⟩) n c, .int .i64 i] w fun e w' => e = .returned (.int .i64 0) ∧ Below w.heap.size w w' := by
  have hz : ((i : Int) == 0) = true := by simp [h0]
  clear h0
  go_enter Tryz.func116, Tryz.ntmps116
  go_wp2_with (first | (go_at_call 121; (with_reducible refine (btick_any _ _).mono ?_); rintro e w' ⟨rfl, rfl⟩) | (go_at_call 27; (with_reducible refine (bwithin_any _ _ _ _).mono ?_); rintro e w' ⟨rfl, rfl⟩))
  go_ret
  exact ⟨rfl, by (repeat (first | with_reducible exact Below.refl _ _ | with_reducible assumption | with_reducible refine Below.alloc ?_ (by first | (simp; done) | (simp; omega) | omega) _ | with_reducible refine Below.setCell ?_ (by first | (simp; done) | (simp; omega) | omega) _ | with_reducible refine Below.drew ?_ | with_reducible refine below_drewN ?_ _))⟩
def rkErr (t1 x1 y1 z1 t0 x0 y0 z0 : Int) : Int := if t1 - t0 ≤ 0 then 9 else if 10000 < t1 - t0 then 14 else brk (t1 - t0) (psum x1 y1 z1 x0 y0 z0 3)
set_option maxRecDepth 100000 in
set_option maxHeartbeats 2000000 in
theorem rknot_s (b off n c i : Nat) (w : World) (t1 x1 y1 z1 t0 x0 y0 z0 : Int) (hi : i < n) (hn2 : n ≤ 100) (hb : b < w.heap.size) (c1 : w.cell? ⟨b, off + i * 4, none⟩ = some (.int .i64 t1)) (c2 : w.cell? ⟨b, off + i * 4 + 1, none⟩ = some (.int .i64 x1)) (c3 : w.cell? ⟨b, off + i * 4 + 2, none⟩ = some (.int .i64 y1)) (c4 : w.cell? ⟨b, off + i * 4 + 3, none⟩ = some (.int .i64 z1))
    (h1 : wi t1 0 1000000000000 = true) (h2 : wi x1 (-1000000) 1000000 = true) (h3 : wi y1 (-1000000) 1000000 = true) (h4 : wi z1 (-1000000) 1000000 = true) (hi0 : 0 < i)
    (d1 : w.cell? ⟨b, off + (i - 1) * 4, none⟩ = some (.int .i64 t0)) (d2 : w.cell? ⟨b, off + (i - 1) * 4 + 1, none⟩ = some (.int .i64 x0)) (d3 : w.cell? ⟨b, off + (i - 1) * 4 + 2, none⟩ = some (.int .i64 y0)) (d4 : w.cell? ⟨b, off + (i - 1) * 4 + 3, none⟩ = some (.int .i64 z0))
    (g1 : 0 ≤ t0 ∧ t0 ≤ 1000000000000) (g2 : -1000000 ≤ x0 ∧ x0 ≤ 1000000) (g3 : -1000000 ≤ y0 ∧ y0 ≤ 1000000) (g4 : -1000000 ≤ z0 ∧ z0 ≤ 1000000) :
    Calls Tryz.prog 116 #[.slice (some ⟨b, off, none⟩) n c, .int .i64 i] w fun e w' => e = .returned (.int .i64 (rkErr t1 x1 y1 z1 t0 x0 y0 z0)) ∧ Below w.heap.size w w' := by
  have hz : ((i : Int) == 0) = false := by simp; omega
  have t1b := wi_t.1 h1
  obtain ⟨x1a, x1b⟩ := wi_t.1 h2
  obtain ⟨y1a, y1b⟩ := wi_t.1 h3
  obtain ⟨z1a, z1b⟩ := wi_t.1 h4
  obtain ⟨x0a, x0b⟩ := g2
  obtain ⟨y0a, y0b⟩ := g3
  obtain ⟨z0a, z0b⟩ := g4
  have u1 : IntKind.i64.wrap (t1 - t0) = t1 - t0 := IntWalk.i64_in _ (by omega)
  have HE : Hid (rkErr t1 x1 y1 z1 t0 x0 y0 z0 = if t1 - t0 ≤ 0 then 9 else if 10000 < t1 - t0 then 14 else brk (t1 - t0) (4 * sq3 (x1 - x0) (y1 - y0) (z1 - z0))) := by rw [← psum_sq3]; rfl
  obtain ⟨⟨s1, s2⟩, ⟨s3, s4⟩, ⟨s5, s6⟩⟩ := @sq3_bd (x1 - x0) (y1 - y0) (z1 - z0) (by omega) (by omega) (by omega) (by omega) (by omega) (by omega)
  have s7 : 0 ≤ sq3 (x1 - x0) (y1 - y0) (z1 - z0) ∧ sq3 (x1 - x0) (y1 - y0) (z1 - z0) ≤ 12000000000000 := by unfold sq3; omega
  have u2 : IntKind.i64.wrap (4 * sq3 (x1 - x0) (y1 - y0) (z1 - z0)) = 4 * sq3 (x1 - x0) (y1 - y0) (z1 - z0) := IntWalk.i64_in _ (by omega)
  generalize rkErr t1 x1 y1 z1 t0 x0 y0 z0 = E at HE ⊢
  clear s1 s2 s3 s4 s5 s6 s7
  by_cases h9 : t1 ≤ t0
  · go_enter Tryz.func116, Tryz.ntmps116
    go_wp2_with (first | (go_at_call 121; (with_reducible refine (btick_any _ _).mono ?_); rintro e w' ⟨rfl, rfl⟩) | (go_at_call 27; (with_reducible refine (bwithin_any _ _ _ _).mono ?_); rintro e w' ⟨rfl, rfl⟩))
    go_ret
    exact ⟨ret_int (by rw [HE.out, if_pos (by omega)]), by (repeat (first | with_reducible exact Below.refl _ _ | with_reducible assumption | with_reducible refine Below.alloc ?_ (by first | (simp; done) | (simp; omega) | omega) _ | with_reducible refine Below.setCell ?_ (by first | (simp; done) | (simp; omega) | omega) _ | with_reducible refine Below.drew ?_ | with_reducible refine below_drewN ?_ _))⟩
  · by_cases h14 : 10000 < t1 - t0
    · go_enter Tryz.func116, Tryz.ntmps116
      go_wp2_with (first | (go_at_call 121; (with_reducible refine (btick_any _ _).mono ?_); rintro e w' ⟨rfl, rfl⟩) | (go_at_call 27; (with_reducible refine (bwithin_any _ _ _ _).mono ?_); rintro e w' ⟨rfl, rfl⟩))
      go_ret
      exact ⟨ret_int (by rw [HE.out, if_neg (by omega), if_pos h14]), by (repeat (first | with_reducible exact Below.refl _ _ | with_reducible assumption | with_reducible refine Below.alloc ?_ (by first | (simp; done) | (simp; omega) | omega) _ | with_reducible refine Below.setCell ?_ (by first | (simp; done) | (simp; omega) | omega) _ | with_reducible refine Below.drew ?_ | with_reducible refine below_drewN ?_ _))⟩
    · have hq := @sq_bd (t1 - t0) 10000 (by omega) (by omega)
      have hq0 := sq_nn (t1 - t0)
      have u3 : IntKind.i64.wrap ((t1 - t0) * (t1 - t0)) = (t1 - t0) * (t1 - t0) := IntWalk.i64_in _ (by omega)
      clear hq hq0
      have HE2 : Hid (E = brk (t1 - t0) (4 * sq3 (x1 - x0) (y1 - y0) (z1 - z0))) := by
        show E = _
        rw [HE.out, if_neg (by omega), if_neg h14]
      clear HE
      go_enter Tryz.func116, Tryz.ntmps116
      go_wp2_with (first | (go_at_call 121; (with_reducible refine (btick_any _ _).mono ?_); rintro e w' ⟨rfl, rfl⟩) | (go_at_call 27; (with_reducible refine (bwithin_any _ _ _ _).mono ?_); rintro e w' ⟨rfl, rfl⟩))
      have HX : Hid ((-1000000 ≤ x1 ∧ x1 ≤ 1000000 ∧ -1000000 ≤ y1 ∧ y1 ≤ 1000000 ∧ -1000000 ≤ z1 ∧ z1 ≤ 1000000) ∧ (-1000000 ≤ x0 ∧ x0 ≤ 1000000 ∧ -1000000 ≤ y0 ∧ y0 ≤ 1000000 ∧ -1000000 ≤ z0 ∧ z0 ≤ 1000000)) := ⟨⟨x1a, x1b, y1a, y1b, z1a, z1b⟩, ⟨x0a, x0b, y0a, y0b, z0a, z0b⟩⟩
      have HM := fun W => Lib.hid (bminus_any x1 y1 z1 x0 y0 z0 x1a x1b y1a y1b z1a z1b x0a x0b y0a y0b z0a z0b W)
      have HS := fun W => Lib.hid (bsquare_any (x1 - x0) (y1 - y0) (z1 - z0) (by omega) (by omega) (by omega) (by omega) (by omega) (by omega) W)
      generalize sq3 (x1 - x0) (y1 - y0) (z1 - z0) = Q at *
      generalize x1 - x0 = dx at *
      generalize y1 - y0 = dy at *
      generalize z1 - z0 = dz at *
      generalize hel : t1 - t0 = el at *
      clear x1a x1b y1a y1b z1a z1b x0a x0b y0a y0b z0a z0b d1 d2 d3 d4 c1 c2 c3 c4 t1b g1 hz h1 h2 h3 h4
      go_region_held3 (fun w' => w'.cell? ⟨w.heap.size, 0, none⟩ = some (.int .i64 t1) ∧ w'.cell? ⟨w.heap.size, 1, none⟩ = some (.int .i64 x1) ∧ w'.cell? ⟨w.heap.size, 2, none⟩ = some (.int .i64 y1) ∧ w'.cell? ⟨w.heap.size, 3, none⟩ = some (.int .i64 z1) ∧ w'.cell? ⟨w.heap.size + 1, 0, none⟩ = some (.int .i64 t0) ∧ w'.cell? ⟨w.heap.size + 1, 1, none⟩ = some (.int .i64 x0) ∧ w'.cell? ⟨w.heap.size + 1, 2, none⟩ = some (.int .i64 y0) ∧ w'.cell? ⟨w.heap.size + 1, 3, none⟩ = some (.int .i64 z0)) (simp [go_sem, *])
        (first
          | (go_at_call 72; (with_reducible refine Calls.mono (HM _).out ?_); rintro e w2 ⟨rfl, hb2⟩; have B2 := thenB (show Below w.heap.size w _ by (repeat (first | with_reducible exact Below.refl _ _ | with_reducible assumption | with_reducible refine Below.alloc ?_ (by first | (simp; done) | (simp; omega) | omega) _ | with_reducible refine Below.setCell ?_ (by first | (simp; done) | (simp; omega) | omega) _ | with_reducible refine Below.drew ?_ | with_reducible refine below_drewN ?_ _))) hb2; have k0 := (hb2.cell (p := ⟨w.heap.size, 0, none⟩) (by first | (simp; done) | (simp; omega) | omega)).trans (show _ = some (.int .i64 t1) by simp [go_sem]); have k1 := (hb2.cell (p := ⟨w.heap.size, 1, none⟩) (by first | (simp; done) | (simp; omega) | omega)).trans (show _ = some (.int .i64 x1) by simp [go_sem]); have k2 := (hb2.cell (p := ⟨w.heap.size, 2, none⟩) (by first | (simp; done) | (simp; omega) | omega)).trans (show _ = some (.int .i64 y1) by simp [go_sem]); have k3 := (hb2.cell (p := ⟨w.heap.size, 3, none⟩) (by first | (simp; done) | (simp; omega) | omega)).trans (show _ = some (.int .i64 z1) by simp [go_sem]); have k4 := (hb2.cell (p := ⟨w.heap.size + 1, 0, none⟩) (by first | (simp; done) | (simp; omega) | omega)).trans (show _ = some (.int .i64 t0) by simp [go_sem]); have k5 := (hb2.cell (p := ⟨w.heap.size + 1, 1, none⟩) (by first | (simp; done) | (simp; omega) | omega)).trans (show _ = some (.int .i64 x0) by simp [go_sem]); have k6 := (hb2.cell (p := ⟨w.heap.size + 1, 2, none⟩) (by first | (simp; done) | (simp; omega) | omega)).trans (show _ = some (.int .i64 y0) by simp [go_sem]); have k7 := (hb2.cell (p := ⟨w.heap.size + 1, 3, none⟩) (by first | (simp; done) | (simp; omega) | omega)).trans (show _ = some (.int .i64 z0) by simp [go_sem]))
          | (go_at_call 122; (with_reducible refine Calls.mono (HS _).out ?_); rintro e w3 ⟨rfl, hb3⟩; have B3 := B2.trans (hb3.mono B2.size); have m0 := keep hb3 k0; have m1 := keep hb3 k1; have m2 := keep hb3 k2; have m3 := keep hb3 k3; have m4 := keep hb3 k4; have m5 := keep hb3 k5; have m6 := keep hb3 k6; have m7 := keep hb3 k7))
      all_goals
        go_wp2
        all_goals
          go_ret
          exact ⟨ret_int (by rw [HE2.out]; first | rw [brk_t (by assumption)] | rw [brk_f (by omega)]), B3⟩
theorem rknot_any (b off n c i : Nat) (w : World) (k : Nat → Knot) (hi : i < n) (hn2 : n ≤ 100) (hk : KAt w b off n k) (hp : 0 < i → (k (i - 1)).ok) :
    Calls Tryz.prog 116 #[.slice (some ⟨b, off, none⟩) n c, .int .i64 i] w fun e w' => e = .returned (.int .i64 (knotErr k i)) ∧ Below w.heap.size w w' := by
  obtain ⟨hb, hkk⟩ := hk
  obtain ⟨c1, c2, c3, c4⟩ := hkk i hi
  unfold knotErr
  by_cases hok : (k i).ok
  · rw [if_neg (by simpa using hok)]
    obtain ⟨ht, hx, hy, hz⟩ := hok
    by_cases h0 : i = 0
    · rw [if_pos h0]
      exact rknot_0 b off n c i w _ _ _ _ hi hn2 hb c1 c2 c3 c4 (wi_t.2 ht) (wi_t.2 hx) (wi_t.2 hy) (wi_t.2 hz) h0
    · rw [if_neg h0]
      obtain ⟨d1, d2, d3, d4⟩ := hkk (i - 1) (by omega)
      obtain ⟨gt, gx, gy, gz⟩ := hp (by omega)
      exact rknot_s b off n c i w _ _ _ _ _ _ _ _ hi hn2 hb c1 c2 c3 c4 (wi_t.2 ht) (wi_t.2 hx) (wi_t.2 hy) (wi_t.2 hz) (by omega) d1 d2 d3 d4 gt gx gy gz
  · rw [if_pos (by simpa using hok)]
    refine rknot_bad b off n c i w _ _ _ _ hi hn2 hb c1 c2 c3 c4 ?_
    cases h1 : wi (k i).t 0 1000000000000 <;> cases h2 : wi (k i).x (-1000000) 1000000 <;> cases h3 : wi (k i).y (-1000000) 1000000 <;> cases h4 : wi (k i).z (-1000000) 1000000 <;> first | rfl | exact absurd ⟨wi_t.1 h1, wi_t.1 h2, wi_t.1 h3, wi_t.1 h4⟩ hok
end Go.Proofs.YtjncjoaohonmjaaGreat
