/- Helpers: the document's own answer on which motions are accepted is the program's. -/
import Derived.Test.YtolondcbllkimaaY
import Derived.Test.YtolondcbllkimaaZ0
namespace Go.Proofs.Ytolondcbllkimaa
open Go.RowKit Go.Shelf Go.Sort
attribute [local go_sem] idx3_0 idx3_1 idx3_2 old1 fro1 old2 fro2 old3 fro3 old4 fro4 old5 fro5 old6 fro6 old7 fro7 old8 fro8 old9 fro9 old10 fro10 old11 fro11 old12 fro12
theorem cpE_1 {t lo hi ra x y bf : Int} (h : wi x lo hi = false) : cpE t lo hi ra x y bf = 23 := by unfold cpE; simp [h]
theorem cpE_2 {t lo hi ra x y bf : Int} (t1 : 1 ≤ t) (h : wi x lo hi = true) (h2 : ¬ (x - y) % t = 0) : cpE t lo hi ra x y bf = 13 := by
  have h3 : ((x - y).tmod t == 0) = false := by rw [← mod_zero _ _ t1]; simpa using h2
  unfold cpE
  rw [h, h3]
  rfl
theorem cpE_3 {t lo hi ra x y bf : Int} (t1 : 1 ≤ t) (h : wi x lo hi = true) (h2 : (x - y) % t = 0) (h4 : ¬ siz (x - bf) ≤ ra) : cpE t lo hi ra x y bf = 24 := by
  have h3 : ((x - y).tmod t == 0) = true := by rw [← mod_zero _ _ t1]; simpa using h2
  unfold cpE
  rw [h, h3]
  simp [h4]
theorem cpE_4 {t lo hi ra x y bf : Int} (t1 : 1 ≤ t) (h : wi x lo hi = true) (h2 : (x - y) % t = 0) (h4 : siz (x - bf) ≤ ra) : cpE t lo hi ra x y bf = 0 := by
  have h3 : ((x - y).tmod t == 0) = true := by rw [← mod_zero _ _ t1]; simpa using h2
  unfold cpE
  rw [h, h3]
  simp [h4]
theorem rhit {t lo hi st ra : Int} {n k : Nat} {xs ys : Nat → Int} {E : Int} (hk : k < n) (he : cpi t lo hi st ra xs ys k = E) (h0 : E ≠ 0) (hz : ∀ i, i < k → cpi t lo hi st ra xs ys i = 0) : cpTr t lo hi st ra n xs ys = 0 ∧ ferr (cpi t lo hi st ra xs ys) 0 n = E := by
  have h := ferr_hit (er := cpi t lo hi st ra xs ys) (k := k) (by rw [he]; exact h0) n 0 (Nat.zero_le _) (by omega) (fun j _ hj => hz j hj)
  rw [he] at h
  exact ⟨by unfold cpTr; rw [h, if_neg h0], h⟩
set_option maxRecDepth 100000 in
set_option maxHeartbeats 2000000 in
theorem rcheck_b (t lo hi st ra : Int) (A B : Option Addr) (n c m c' : Nat) (w : World) (_ : n ≤ 1000000) (_ : m ≤ 1000000) (hm : m ≠ n) :
    Calls Try.prog 21 #[.agg #[.int .i64 t, .int .i64 lo, .int .i64 hi, .int .i64 st, .int .i64 ra], .slice A n c, .slice B m c'] w fun e w' => e = .returned (.tuple #[.int .i64 0, .int .i64 10]) ∧ Below w.heap.size w w' := by
  have g1 : ((m : Int) != (n : Int)) = true := by simp; omega
  go_enter Try.func21, Try.ntmps21
  go_wp2_with fail
  go_ret2
  exact ⟨rfl, by (repeat (first | with_reducible exact Below.refl _ _ | with_reducible assumption | with_reducible refine Below.alloc ?_ (by first | (simp; done) | (simp; omega) | omega) _ | with_reducible refine Below.setCell ?_ (by first | (simp; done) | (simp; omega) | omega) _ | with_reducible refine Below.drew ?_ | with_reducible refine below_drewN ?_ _))⟩
set_option maxRecDepth 100000 in
set_option maxHeartbeats 2000000 in
theorem rcheck_c (t lo hi st ra : Int) (A B : Option Addr) (n c c' : Nat) (xs ys : Nat → Int) (w : World) (hn : n ≤ 1000000) (hA : IA w A n xs) (hB : IA w B n ys) (h0 : ptErr t lo hi st ra n xs = 0) :
    Calls Try.prog 21 #[.agg #[.int .i64 t, .int .i64 lo, .int .i64 hi, .int .i64 st, .int .i64 ra], .slice A n c, .slice B n c'] w fun e w' => e = .returned (.tuple #[.int .i64 (cpTr t lo hi st ra n xs ys), .int .i64 (ferr (cpi t lo hi st ra xs ys) 0 n)]) ∧ Below w.heap.size w w' := by
  obtain ⟨hd, hn40, hx⟩ := pt_ok h0
  obtain ⟨⟨t1, t2⟩, ⟨l1, l2⟩, ⟨h1, h2⟩, ⟨r0, r1⟩, f1, f2⟩ := drive_ok hd
  have HX := Lib.hid hx
  have HA := Lib.hid hA
  have HB := Lib.hid hB
  clear hx hA hB h0 hd
  go_enter Try.func21, Try.ntmps21
  go_wp2_with fail
  go_loopw [8, 9, 10] (fun s8 s9 s10 wr => ∃ k : Nat, k ≤ n ∧ s8 = .int .i64 (cbf st ys k) ∧ s9 = .int .i64 (ctv st ys k) ∧ s10 = .int .i64 k ∧ Below w.heap.size w wr ∧ w.heap.size < wr.heap.size ∧ (wr.cell? ⟨w.heap.size, 0, none⟩ = some (.int .i64 t) ∧ wr.cell? ⟨w.heap.size, 1, none⟩ = some (.int .i64 lo) ∧ wr.cell? ⟨w.heap.size, 2, none⟩ = some (.int .i64 hi) ∧ wr.cell? ⟨w.heap.size, 4, none⟩ = some (.int .i64 ra)) ∧ Hid (∀ i, i < k → cpi t lo hi st ra xs ys i = 0)) (fun _ _ i _ => n - (intOf i).toNat)
  case atStart => exact ⟨0, Nat.zero_le _, rfl, rfl, rfl, by (repeat (first | with_reducible exact Below.refl _ _ | with_reducible assumption | with_reducible refine Below.alloc ?_ (by first | (simp; done) | (simp; omega) | omega) _ | with_reducible refine Below.setCell ?_ (by first | (simp; done) | (simp; omega) | omega) _ | with_reducible refine Below.drew ?_ | with_reducible refine below_drewN ?_ _)), by simp, ⟨by simp [go_sem], by simp [go_sem], by simp [go_sem], by simp [go_sem]⟩, fun i hi => absurd hi (Nat.not_lt_zero i)⟩
  case round =>
    obtain ⟨k, hk, rfl, rfl, rfl, hbel, hws, ⟨d0, d1, d2, d4⟩, HOK⟩ := hrel
    by_cases hlt : k < n
    · obtain ⟨b1, o1, rfl, hc1⟩ := HA.out (by omega)
      obtain ⟨b2, o2, rfl, hc2⟩ := HB.out (by omega)
      have q1 := keep hbel (hc1 k hlt)
      have q2 := keep hbel (hc2 k hlt)
      have hb1 := lt_of (hc1 k hlt)
      have hb2 := lt_of (hc2 k hlt)
      clear hc1 hc2
      have hy := HX.out k hlt
      have hbf := cbf_in f1 f2 k HOK.out
      have htv := ctv_in r1 k HOK.out
      have hb0 := hbel.size
      have p1 : (0 : Int) ≤ (k : Int) := by omega
      have p2 : (k : Int) < (n : Int) := by omega
      have HI : Hid (cpi t lo hi st ra xs ys k = cpE t lo hi ra (ys k) (xs k) (cbf st ys k)) := rfl
      have HN : Hid (cbf st ys (k + 1) = ys k) := rfl
      have HT : Hid (ctv st ys (k + 1) = ctv st ys k + siz (ys k - cbf st ys k)) := rfl
      have HH : Hid (∀ E, cpE t lo hi ra (ys k) (xs k) (cbf st ys k) = E → E ≠ 0 → cpTr t lo hi st ra n xs ys = 0 ∧ ferr (cpi t lo hi st ra xs ys) 0 n = E) := fun E h1 h2 => rhit hlt (HI.out.trans h1) h2 HOK.out
      have HL := Lib.hid hlt
      generalize ctv st ys k = tk at *
      generalize cbf st ys k = bf at *
      generalize xs k = y at *
      generalize ys k = x at *
      cases hw : wi x lo hi
      · have HFE := Lib.hid (HH.out 23 (cpE_1 hw) (by decide))
        clear HI HH HN HT
        go_wp2_with fail
        go_region_held3 (fun w' => w'.cell? ⟨b1, o1 + k, none⟩ = some (.int .i64 y) ∧ w'.cell? ⟨b2, o2 + k, none⟩ = some (.int .i64 x) ∧ w'.cell? ⟨w.heap.size, 0, none⟩ = some (.int .i64 t) ∧ w'.cell? ⟨w.heap.size, 1, none⟩ = some (.int .i64 lo) ∧ w'.cell? ⟨w.heap.size, 2, none⟩ = some (.int .i64 hi) ∧ w'.cell? ⟨w.heap.size, 4, none⟩ = some (.int .i64 ra)) (simp [go_sem, *]) (first | (go_at_call 26; ((with_reducible refine (bwithin_any _ _ _ _).mono ?_); rintro e w1 ⟨rfl, rfl⟩)))
        all_goals
          go_wp2
          go_ret2
          exact ⟨ret2_int HFE.out.1.symm HFE.out.2.symm, by (repeat (first | with_reducible exact Below.refl _ _ | with_reducible assumption | with_reducible refine Below.alloc ?_ (by first | (simp; done) | (simp; omega) | omega) _ | with_reducible refine Below.setCell ?_ (by first | (simp; done) | (simp; omega) | omega) _ | with_reducible refine Below.drew ?_ | with_reducible refine below_drewN ?_ _))⟩
      · have hwx := wi_t.1 hw
        have u1 : IntKind.i64.wrap (x - y) = x - y := IntWalk.i64_in _ (by omega)
        by_cases hm : (x - y) % t = 0
        · have u2 : IntKind.i64.wrap (x - bf) = x - bf := IntWalk.i64_in _ (by omega)
          have g1 : ((x - y) % t != 0) = false := by simp [hm]
          by_cases hs : siz (x - bf) ≤ ra
          · have HE := Lib.hid (HI.out.trans (cpE_4 t1 hw hm hs))
            clear HI HH
            have sn := siz_nn (x - bf)
            have u3 : IntKind.i64.wrap (tk + siz (x - bf)) = tk + siz (x - bf) := IntWalk.i64_in _ (by omega)
            have HM := Lib.hid hm
            clear hm
            go_wp2_with fail
            go_region_held3 (fun w' => w'.cell? ⟨b1, o1 + k, none⟩ = some (.int .i64 y) ∧ w'.cell? ⟨b2, o2 + k, none⟩ = some (.int .i64 x) ∧ w'.cell? ⟨w.heap.size, 0, none⟩ = some (.int .i64 t) ∧ w'.cell? ⟨w.heap.size, 1, none⟩ = some (.int .i64 lo) ∧ w'.cell? ⟨w.heap.size, 2, none⟩ = some (.int .i64 hi) ∧ w'.cell? ⟨w.heap.size, 4, none⟩ = some (.int .i64 ra)) (simp [go_sem, *]) (first | (go_at_call 26; ((with_reducible refine (bwithin_any _ _ _ _).mono ?_); rintro e w1 ⟨rfl, rfl⟩)))
            all_goals
              go_wp2_with fail
              go_region_held3 (fun w' => w'.cell? ⟨b1, o1 + k, none⟩ = some (.int .i64 y) ∧ w'.cell? ⟨b2, o2 + k, none⟩ = some (.int .i64 x) ∧ w'.cell? ⟨w.heap.size, 0, none⟩ = some (.int .i64 t) ∧ w'.cell? ⟨w.heap.size, 1, none⟩ = some (.int .i64 lo) ∧ w'.cell? ⟨w.heap.size, 2, none⟩ = some (.int .i64 hi) ∧ w'.cell? ⟨w.heap.size, 4, none⟩ = some (.int .i64 ra)) (simp [go_sem, *]) (first | (go_at_call 64; ((with_reducible refine (bmod_any _ _ t1 (by omega) (by omega) (by omega) _).mono ?_); rintro e w1 ⟨rfl, rfl⟩)))
              all_goals
                go_wp2_with fail
                go_region_held3 (fun w' => w'.cell? ⟨b1, o1 + k, none⟩ = some (.int .i64 y) ∧ w'.cell? ⟨b2, o2 + k, none⟩ = some (.int .i64 x) ∧ w'.cell? ⟨w.heap.size, 0, none⟩ = some (.int .i64 t) ∧ w'.cell? ⟨w.heap.size, 1, none⟩ = some (.int .i64 lo) ∧ w'.cell? ⟨w.heap.size, 2, none⟩ = some (.int .i64 hi) ∧ w'.cell? ⟨w.heap.size, 4, none⟩ = some (.int .i64 ra)) (simp [go_sem, *]) (first | (go_at_call 65; ((with_reducible refine (bsize_any _ (by omega) (by omega) _).mono ?_); rintro e w1 ⟨rfl, rfl⟩)))
                all_goals
                  go_wp2_with (first | (go_at_call 65; ((with_reducible refine (bsize_any _ (by omega) (by omega) _).mono ?_); rintro e w1 ⟨rfl, rfl⟩)))
                  go_roundw
                  case rel => exact ⟨k + 1, by omega, by rw [HN.out], by rw [HT.out], by go_num, by (repeat (first | with_reducible exact Below.refl _ _ | with_reducible assumption | with_reducible refine Below.alloc ?_ (by first | (simp; done) | (simp; omega) | omega) _ | with_reducible refine Below.setCell ?_ (by first | (simp; done) | (simp; omega) | omega) _ | with_reducible refine Below.drew ?_ | with_reducible refine below_drewN ?_ _)), by simpa using hws, ⟨by simp [go_sem, *], by simp [go_sem, *], by simp [go_sem, *], by simp [go_sem, *]⟩, fun i hi => (by rcases Nat.lt_succ_iff_lt_or_eq.1 hi with h | h; exact HOK.out i h; rw [h]; exact HE.out)⟩
                  case measure => simp [intOf]; omega
          · have HFE := Lib.hid (HH.out 24 (cpE_3 t1 hw hm hs) (by decide))
            have hs2 : ra < siz (x - bf) := by omega
            have HM := Lib.hid hm
            clear HI HH HN HT hm hs
            go_wp2_with fail
            go_region_held3 (fun w' => w'.cell? ⟨b1, o1 + k, none⟩ = some (.int .i64 y) ∧ w'.cell? ⟨b2, o2 + k, none⟩ = some (.int .i64 x) ∧ w'.cell? ⟨w.heap.size, 0, none⟩ = some (.int .i64 t) ∧ w'.cell? ⟨w.heap.size, 1, none⟩ = some (.int .i64 lo) ∧ w'.cell? ⟨w.heap.size, 2, none⟩ = some (.int .i64 hi) ∧ w'.cell? ⟨w.heap.size, 4, none⟩ = some (.int .i64 ra)) (simp [go_sem, *]) (first | (go_at_call 26; ((with_reducible refine (bwithin_any _ _ _ _).mono ?_); rintro e w1 ⟨rfl, rfl⟩)))
            all_goals
              go_wp2_with fail
              go_region_held3 (fun w' => w'.cell? ⟨b1, o1 + k, none⟩ = some (.int .i64 y) ∧ w'.cell? ⟨b2, o2 + k, none⟩ = some (.int .i64 x) ∧ w'.cell? ⟨w.heap.size, 0, none⟩ = some (.int .i64 t) ∧ w'.cell? ⟨w.heap.size, 1, none⟩ = some (.int .i64 lo) ∧ w'.cell? ⟨w.heap.size, 2, none⟩ = some (.int .i64 hi) ∧ w'.cell? ⟨w.heap.size, 4, none⟩ = some (.int .i64 ra)) (simp [go_sem, *]) (first | (go_at_call 64; ((with_reducible refine (bmod_any _ _ t1 (by omega) (by omega) (by omega) _).mono ?_); rintro e w1 ⟨rfl, rfl⟩)))
              all_goals
                go_wp2_with fail
                go_region_held3 (fun w' => w'.cell? ⟨b1, o1 + k, none⟩ = some (.int .i64 y) ∧ w'.cell? ⟨b2, o2 + k, none⟩ = some (.int .i64 x) ∧ w'.cell? ⟨w.heap.size, 0, none⟩ = some (.int .i64 t) ∧ w'.cell? ⟨w.heap.size, 1, none⟩ = some (.int .i64 lo) ∧ w'.cell? ⟨w.heap.size, 2, none⟩ = some (.int .i64 hi) ∧ w'.cell? ⟨w.heap.size, 4, none⟩ = some (.int .i64 ra)) (simp [go_sem, *]) (first | (go_at_call 65; ((with_reducible refine (bsize_any _ (by omega) (by omega) _).mono ?_); rintro e w1 ⟨rfl, rfl⟩)))
                all_goals
                  go_wp2
                  go_ret2
                  exact ⟨ret2_int HFE.out.1.symm HFE.out.2.symm, by (repeat (first | with_reducible exact Below.refl _ _ | with_reducible assumption | with_reducible refine Below.alloc ?_ (by first | (simp; done) | (simp; omega) | omega) _ | with_reducible refine Below.setCell ?_ (by first | (simp; done) | (simp; omega) | omega) _ | with_reducible refine Below.drew ?_ | with_reducible refine below_drewN ?_ _))⟩
        · have HFE := Lib.hid (HH.out 13 (cpE_2 t1 hw hm) (by decide))
          have g1 : ((x - y) % t != 0) = true := by simp [hm]
          have HM := Lib.hid hm
          clear HI HH HN HT hm
          go_wp2_with fail
          go_region_held3 (fun w' => w'.cell? ⟨b1, o1 + k, none⟩ = some (.int .i64 y) ∧ w'.cell? ⟨b2, o2 + k, none⟩ = some (.int .i64 x) ∧ w'.cell? ⟨w.heap.size, 0, none⟩ = some (.int .i64 t) ∧ w'.cell? ⟨w.heap.size, 1, none⟩ = some (.int .i64 lo) ∧ w'.cell? ⟨w.heap.size, 2, none⟩ = some (.int .i64 hi) ∧ w'.cell? ⟨w.heap.size, 4, none⟩ = some (.int .i64 ra)) (simp [go_sem, *]) (first | (go_at_call 26; ((with_reducible refine (bwithin_any _ _ _ _).mono ?_); rintro e w1 ⟨rfl, rfl⟩)))
          all_goals
            go_wp2_with fail
            go_region_held3 (fun w' => w'.cell? ⟨b1, o1 + k, none⟩ = some (.int .i64 y) ∧ w'.cell? ⟨b2, o2 + k, none⟩ = some (.int .i64 x) ∧ w'.cell? ⟨w.heap.size, 0, none⟩ = some (.int .i64 t) ∧ w'.cell? ⟨w.heap.size, 1, none⟩ = some (.int .i64 lo) ∧ w'.cell? ⟨w.heap.size, 2, none⟩ = some (.int .i64 hi) ∧ w'.cell? ⟨w.heap.size, 4, none⟩ = some (.int .i64 ra)) (simp [go_sem, *]) (first | (go_at_call 64; ((with_reducible refine (bmod_any _ _ t1 (by omega) (by omega) (by omega) _).mono ?_); rintro e w1 ⟨rfl, rfl⟩)))
            all_goals
              go_wp2
              go_ret2
              exact ⟨ret2_int HFE.out.1.symm HFE.out.2.symm, by (repeat (first | with_reducible exact Below.refl _ _ | with_reducible assumption | with_reducible refine Below.alloc ?_ (by first | (simp; done) | (simp; omega) | omega) _ | with_reducible refine Below.setCell ?_ (by first | (simp; done) | (simp; omega) | omega) _ | with_reducible refine Below.drew ?_ | with_reducible refine below_drewN ?_ _))⟩
    · obtain rfl : k = n := by omega
      go_wp2_with fail
      go_ret2
      exact ⟨ret2_int (a := ctv st ys k) (b := 0) (by unfold cpTr; rw [ferr_miss k 0 (fun j _ hj => HOK.out j (by omega)), if_pos rfl]) (ferr_miss k 0 (fun j _ hj => HOK.out j (by omega))).symm, hbel⟩
end Go.Proofs.Ytolondcbllkimaa
