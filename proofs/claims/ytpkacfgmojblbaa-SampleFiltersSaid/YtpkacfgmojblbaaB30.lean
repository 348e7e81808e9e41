/- Helpers: the reference's filters. No condition but the bounds that each theorem names. -/
import Derived.Test.YtpkacfgmojblbaaB29
import Derived.Test.YtpkacfgmojblbaaB23
namespace Go.Proofs.Ytpkacfgmojblbaa
open Go.RowKit
attribute [local go_sem] old1 fro1 old2 fro2 old3 fro3 old4 fro4 old5 fro5 old6 fro6 old7 fro7 old8 fro8 old9 fro9 old10 fro10 old11 fro11 old12 fro12
def pw0 : List Bool := [false, false, false, false, false, true, false, false, false, false, false, false, false, false, false, false, false, false, false, false, false, false, false, false, false, false, false, false, false, false, false, false, false, false, false, false, false, false, false, false, false, false, false, false, false, false, false, false, false, false, false, false, false, false, false, false, false, false, true, true, true, true, true, true, true, true, true, true, true, true, false]
set_option maxRecDepth 100000 in
set_option maxHeartbeats 4000000 in
theorem filteredR_any (A B : Option Addr) (L cL n c : Nat) (xs : Nat → Int) (dn : Int) (g : Nat → Int × Int) (w : World) (hL8 : L ≤ 8) (hn : n ≤ 400) (d0 : 1 ≤ dn) (d1 : dn ≤ 100) (hA : IA w A L xs) (hB : GA w B n g) (hx : ∀ i, i < L → -100 ≤ xs i ∧ xs i ≤ 100) (hg : ∀ i, i < n → (-2000 ≤ (g i).1 ∧ (g i).1 ≤ 2000) ∧ -2000 ≤ (g i).2 ∧ (g i).2 ≤ 2000) :
    Calls Try.prog 62 #[.agg #[.slice A L cL, .int .i64 dn], .slice B n c] w fun e w' => ∃ v, e = .returned v ∧ Below w.heap.size w w' ∧ GS w' v n (foS xs dn L g) := by
  have HA := Lib.hid hA
  have HB2 := Lib.hid hB
  have HX := Lib.hid hx
  have HG := Lib.hid hg
  obtain ⟨i0, hi0, hz0, hz1, hz2⟩ := info_parts infoG
  clear hA hB hx hg
  go_enter Try.func62, Try.ntmps62
  go_wp2_with fail
  go_loopw [5, 6] (fun s5 s6 wr => ∃ i : Nat, i ≤ n ∧ s6 = .int .i64 i ∧ Hid (Below w.heap.size w wr) ∧ Hid (wr.cell? ⟨w.heap.size, 0, none⟩ = some (.slice A L cL) ∧ wr.cell? ⟨w.heap.size, 1, none⟩ = some (.int .i64 dn)) ∧ Hid (wr.ownsRow (w.heap.size + 1) 23 2 s5 i (gV i (foS xs dn L g)))) (fun _ i _ => n - (intOf i).toNat)
  case atStart => exact ⟨0, Nat.zero_le _, rfl, by show Below w.heap.size w _; (repeat (first | with_reducible exact Below.refl _ _ | with_reducible assumption | with_reducible refine Below.alloc ?_ (by first | (simp; done) | (simp; omega) | omega) _ | with_reducible refine Below.setCell ?_ (by first | (simp; done) | (simp; omega) | omega) _ | with_reducible refine Below.drew ?_ | with_reducible refine below_drewN ?_ _)), ⟨by simp [go_sem], by simp [go_sem]⟩, World.ownsRow_nil _ _ _ _⟩
  case round =>
    obtain ⟨i, hi, rfl, HB, HL, HO⟩ := hrel
    have l0 := HL.out.1
    have l1 := HL.out.2
    by_cases hlt : i < n
    · have HBD := Lib.hid (fs_bd (N := n) hlt HX.out HG.out)
      have g2 : (i : Int) < (n : Int) := by omega
      have hws := lt_of l0
      have HS : Hid (gV (i + 1) (foS xs dn L g) = gV i (foS xs dn L g) ++ [.int .i64 (foS xs dn L g i).1, .int .i64 (foS xs dn L g i).2]) := rfl
      obtain ⟨wo, rfl⟩ : ∃ wo : World, wo = wr := ⟨_, rfl⟩
      go_wp2_with fail
      go_loopw [7, 8, 9] (fun s7 s8 s9 wi => ∃ k : Nat, k ≤ min L (i + 1) ∧ s9 = .int .i64 k ∧ s7 = .int .i64 (fsS xs g i k).1 ∧ s8 = .int .i64 (fsS xs g i k).2 ∧ Hid (Below wo.heap.size wo wi)) (fun _ _ i _ => 400 - (intOf i).toNat)
      case atStart => exact ⟨0, Nat.zero_le _, rfl, rfl, rfl, Below.refl _ _⟩
      case round =>
        obtain ⟨k, hk, rfl, rfl, rfl, HI⟩ := hrel
        replace l0 := keep HI.out l0
        replace l1 := keep HI.out l1
        replace HB := Lib.hid (belowT HB.out HI.out)
        by_cases hkl : k < L
        · have q1 : (k : Int) < (L : Int) := by omega
          by_cases hki : k ≤ i
          · have q2 : (k : Int) ≤ (i : Int) := by omega
            obtain ⟨bA, oA, rfl, hA2⟩ := HA.out (by omega)
            obtain ⟨bB, oB, rfl, hB2⟩ := HB2.out (by omega)
            have x0 := keep HB.out (hA2 k hkl)
            have y0 := keep HB.out (hB2 (i - k) (by omega)).1
            have y1 := keep HB.out (hB2 (i - k) (by omega)).2
            have hxk := HX.out k hkl
            have hgk := HG.out (i - k) (by omega)
            obtain ⟨⟨S1, S2⟩, S3, S4⟩ := HBD.out k (by omega)
            obtain ⟨m1, m2⟩ := fs_pr hxk.1 hxk.2 hgk.1.1 hgk.1.2
            obtain ⟨m3, m4⟩ := fs_pr hxk.1 hxk.2 hgk.2.1 hgk.2.2
            have HSk : Hid (fsS xs g i (k + 1) = ((fsS xs g i k).1 + xs k * (g (i - k)).1, (fsS xs g i k).2 + xs k * (g (i - k)).2)) := rfl
            have xk : IntKind.i64.wrap ((i : Int) - (k : Int)) = ((i - k : Nat) : Int) := by rw [IntWalk.i64_in _ (by omega)]; omega
            have x1 : IntKind.i64.wrap (xs k * (g (i - k)).1) = xs k * (g (i - k)).1 := IntWalk.i64_in _ (by omega)
            have x2 : IntKind.i64.wrap (xs k * (g (i - k)).2) = xs k * (g (i - k)).2 := IntWalk.i64_in _ (by omega)
            have x3 : IntKind.i64.wrap ((fsS xs g i k).1 + xs k * (g (i - k)).1) = (fsS xs g i k).1 + xs k * (g (i - k)).1 := IntWalk.i64_in _ (by omega)
            have x4 : IntKind.i64.wrap ((fsS xs g i k).2 + xs k * (g (i - k)).2) = (fsS xs g i k).2 + xs k * (g (i - k)).2 := IntWalk.i64_in _ (by omega)
            have g3 : (0 : Int) ≤ ((i - k : Nat) : Int) := by omega
            have g4 : ((i - k : Nat) : Int) < (n : Int) := by omega
            have g5 : (0 : Int) ≤ (k : Int) := by omega
            clear hA2 hB2 hxk hgk S1 S2 S3 S4 m1 m2 m3 m4
            generalize (g (i - k)).1 = gx at *
            generalize (g (i - k)).2 = gy at *
            generalize xs k = xx at *
            generalize hX : (fsS xs g i k).1 = X at *
            generalize hY : (fsS xs g i k).2 = Y at *
            go_wp2_with fail
            go_region_held3 (fun w' => (w'.cell? ⟨w.heap.size, 0, none⟩ = some (.slice (some ⟨bA, oA, none⟩) L cL) ∧ w'.cell? ⟨bA, oA + k, none⟩ = some (.int .i64 xx)) ∧ w'.cell? ⟨bB, oB + (i - k) * 2, none⟩ = some (.int .i64 gx) ∧ w'.cell? ⟨bB, oB + (i - k) * 2 + 1, none⟩ = some (.int .i64 gy)) (simp [go_sem, *]) (first | fail)
            all_goals
              go_wp2
              go_roundw
              case rel => exact ⟨k + 1, by omega, by go_num, by rw [HSk.out], by rw [HSk.out], by have Bq := HI.out; show Below wo.heap.size wo _; (repeat (first | with_reducible exact Below.refl _ _ | with_reducible assumption | with_reducible refine Below.alloc ?_ (by first | (simp; done) | (simp; omega) | omega) _ | with_reducible refine Below.setCell ?_ (by first | (simp; done) | (simp; omega) | omega) _ | with_reducible refine Below.drew ?_ | with_reducible refine below_drewN ?_ _))⟩
              case measure => simp [intOf]; omega
          · have hkK : k = min L (i + 1) := by omega
            obtain ⟨⟨S1, S2⟩, S3, S4⟩ := HBD.out k (by omega)
            have HF1 := Lib.hid (fun W => bfloorI_any (fsS xs g i k).1 dn (by omega) (by omega) (by omega) (by omega) W)
            have HF2 := Lib.hid (fun W => bfloorI_any (fsS xs g i k).2 dn (by omega) (by omega) (by omega) (by omega) W)
            have HS2 : Hid (gV (i + 1) (foS xs dn L g) = gV i (foS xs dn L g) ++ [.int .i64 ((fsS xs g i k).1 / dn), .int .i64 ((fsS xs g i k).2 / dn)]) := Lib.hid (by rw [hkK]; exact HS.out)
            have HO2 := Lib.hid (own_bel HO.out HI.out)
            have q9 : ¬ (k : Int) ≤ (i : Int) := by omega
            clear S1 S2 S3 S4 HS hkK
            generalize (fsS xs g i k).1 = X at *
            generalize (fsS xs g i k).2 = Y at *
            generalize X / dn = X' at *
            generalize Y / dn = Y' at *
            have hws2 := lt_of l0
            go_wp2_with fail
            refine wp_region_app [mpEq (u5), mpEq (.int .i64 X), mpEq (.pointer (some ⟨w.heap.size, 1, none⟩)), mpEq (.int .i64 dn), mpEq (.int .i64 X'), mpEq (.int .i64 Y), mpEq (.pointer (some ⟨w.heap.size, 1, none⟩)), mpEq (.int .i64 dn), mpEq (.int .i64 Y'), mpEq (.agg #[.int .i64 X', .int .i64 Y']), mpNG wr.heap.size X' Y'] 11 12 pw0 (by kernel_rfl) (by kernel_rfl) (by kernel_rfl) rfl rfl rfl (by kernel_rfl) (by kernel_rfl) (
                  allOps_cons (fun _ _ a' w' hb hs hd => rg_op fun K hK => by
                have e0 := (hs.get 5 (by kernel_rfl)).trans (show _ = u5 from rfl)
                have ec : ∀ v, a'.eval (.const v) = v := fun _ => rfl
                clear hs hd
                unfold Oper.wp
                generalize a'.eval = ρ at e0 ec ⊢
                simp [go_sem, e0]
                exact hK _ _ (Below.refl _ _) rfl) <|
                  allOps_cons (fun _ _ a' w' hb hs hd => rg_op fun K hK => by
                have e0 := (hs.get 7 (by kernel_rfl)).trans (show _ = .int .i64 X from rfl)
                have ec : ∀ v, a'.eval (.const v) = v := fun _ => rfl
                clear hs hd
                unfold Oper.wp
                generalize a'.eval = ρ at e0 ec ⊢
                simp [go_sem, e0]
                exact hK _ _ (Below.refl _ _) rfl) <|
                  allOps_cons (fun _ _ a' w' hb hs hd => rg_op fun K hK => by
                have e0 := (hs.get 2 (by kernel_rfl)).trans (show _ = .pointer (some ⟨w.heap.size, 0, none⟩) from rfl)
                have ec : ∀ v, a'.eval (.const v) = v := fun _ => rfl
                clear hs hd
                unfold Oper.wp
                generalize a'.eval = ρ at e0 ec ⊢
                simp [go_sem, e0]
                exact hK _ _ (Below.refl _ _) rfl) <|
                  allOps_cons (fun _ _ a' w' hb hs hd => rg_op fun K hK => by
                have e0 := (show a'.eval (.tmp 60) = .pointer (some ⟨w.heap.size, 1, none⟩) from hd.get 2 60 (by kernel_rfl) (by kernel_rfl))
                have ec : ∀ v, a'.eval (.const v) = v := fun _ => rfl
                have c0 := keep hb l1
                clear hs hd
                unfold Oper.wp
                generalize a'.eval = ρ at e0 ec ⊢
                simp [go_sem, e0, c0]
                exact hK _ _ (Below.refl _ _) rfl) <|
                  allOps_cons (fun _ _ a' w' hb hs hd => by
                exact rg_fn (φ := (mpEq (.int .i64 X')).p) (vs := #[.int .i64 X, .int .i64 dn]) rfl (enters_of Try.func104 (by kernel_rfl) rfl) (by simp [(show a'.eval (.tmp 59) = .int .i64 X from hd.get 1 59 (by kernel_rfl) (by kernel_rfl)), (show a'.eval (.tmp 61) = .int .i64 dn from hd.get 3 61 (by kernel_rfl) (by kernel_rfl))]) ((HF1.out w').mono (by rintro e w1 ⟨rfl, rfl⟩; exact ⟨_, rfl, Below.refl _ _, rfl⟩))) <|
                  allOps_cons (fun _ _ a' w' hb hs hd => rg_op fun K hK => by
                have e0 := (hs.get 8 (by kernel_rfl)).trans (show _ = .int .i64 Y from rfl)
                have ec : ∀ v, a'.eval (.const v) = v := fun _ => rfl
                clear hs hd
                unfold Oper.wp
                generalize a'.eval = ρ at e0 ec ⊢
                simp [go_sem, e0]
                exact hK _ _ (Below.refl _ _) rfl) <|
                  allOps_cons (fun _ _ a' w' hb hs hd => rg_op fun K hK => by
                have e0 := (hs.get 2 (by kernel_rfl)).trans (show _ = .pointer (some ⟨w.heap.size, 0, none⟩) from rfl)
                have ec : ∀ v, a'.eval (.const v) = v := fun _ => rfl
                clear hs hd
                unfold Oper.wp
                generalize a'.eval = ρ at e0 ec ⊢
                simp [go_sem, e0]
                exact hK _ _ (Below.refl _ _) rfl) <|
                  allOps_cons (fun _ _ a' w' hb hs hd => rg_op fun K hK => by
                have e0 := (show a'.eval (.tmp 64) = .pointer (some ⟨w.heap.size, 1, none⟩) from hd.get 6 64 (by kernel_rfl) (by kernel_rfl))
                have ec : ∀ v, a'.eval (.const v) = v := fun _ => rfl
                have c0 := keep hb l1
                clear hs hd
                unfold Oper.wp
                generalize a'.eval = ρ at e0 ec ⊢
                simp [go_sem, e0, c0]
                exact hK _ _ (Below.refl _ _) rfl) <|
                  allOps_cons (fun _ _ a' w' hb hs hd => by
                exact rg_fn (φ := (mpEq (.int .i64 Y')).p) (vs := #[.int .i64 Y, .int .i64 dn]) rfl (enters_of Try.func104 (by kernel_rfl) rfl) (by simp [(show a'.eval (.tmp 63) = .int .i64 Y from hd.get 5 63 (by kernel_rfl) (by kernel_rfl)), (show a'.eval (.tmp 65) = .int .i64 dn from hd.get 7 65 (by kernel_rfl) (by kernel_rfl))]) ((HF2.out w').mono (by rintro e w1 ⟨rfl, rfl⟩; exact ⟨_, rfl, Below.refl _ _, rfl⟩))) <|
                  allOps_cons (fun _ _ a' w' hb hs hd => rg_op fun K hK => by
                have e0 := (show a'.eval (.tmp 62) = .int .i64 X' from hd.get 4 62 (by kernel_rfl) (by kernel_rfl))
                have e1 := (show a'.eval (.tmp 66) = .int .i64 Y' from hd.get 8 66 (by kernel_rfl) (by kernel_rfl))
                have ec : ∀ v, a'.eval (.const v) = v := fun _ => rfl
                clear hs hd
                unfold Oper.wp
                generalize a'.eval = ρ at e0 e1 ec ⊢
                simp [go_sem, e0, e1]
                exact hK _ _ (Below.refl _ _) rfl) <|
                  allOps_cons (fun _ _ a' w' hb hs hd => rg_op fun K hK => by
                have e0 := (show a'.eval (.tmp 67) = .agg #[.int .i64 X', .int .i64 Y'] from hd.get 9 67 (by kernel_rfl) (by kernel_rfl))
                have hz := hb.size
                clear hs hd
                unfold Oper.wp
                generalize a'.eval = ρ at e0 hz ⊢
                simp [go_sem, e0]
                exact hK _ _ ((Below.refl _ _).alloc (Nat.le_refl _) _) ⟨_, rfl, hz, by simp [go_sem], by simp [go_sem]⟩) <| allOps_cons (fun h => absurd rfl h) <| allOps_cons (fun _ h => absurd rfl h) <| allOps_nil) (fun V v1 hv1 hall K hK => ?_)
            have h58 : V 58 = u5 := hall.get 0 rfl (by decide) (by decide)
            have h68 : (mpNG wr.heap.size X' Y').p (V 68) v1 := hall.get 10 rfl (by decide) (by decide)
            clear hall
            obtain ⟨qn, hq68, hqn, n0, n1⟩ := h68
            have HO3 := own_bel HO2.out hv1
            refine wp_append_own _ (.tmp 58) (.tmp 68) 42 rfl (w.heap.size + 1) 23 i0 _ 2 16 undGs hi0 hz0 hz1 hz2 rfl (by decide) u5 i (gV i (foS xs dn L g)) h58 HO3 ⟨qn, 0, none⟩ 1 1 [.int .i64 X', .int .i64 Y'] hq68 rfl (news_2 n0 n1) (by simp [Value.oneCell']) (by unfold maxLen; omega) (by omega) (by have := hv1.size; omega) ?_
            intro v' w6 hown' hgrow _
            rw [← HS2.out] at hown'
            have HB6 : Hid (Below (w.heap.size + 1) wr w6) := Lib.hid ((hv1.mono (by omega)).trans (app_bel2 (by have := hv1.size; omega) HO3 hgrow))
            have HO6 := Lib.hid hown'
            refine hK _ _ ?_
            simp only [pw0, maskPut, Nat.reduceAdd]
            have hcell : ∀ o v, wr.cell? ⟨w.heap.size, o, none⟩ = some v → w6.cell? ⟨w.heap.size, o, none⟩ = some v := fun o v h => (HB6.out.cell (p := ⟨w.heap.size, o, none⟩) (by show w.heap.size < _; omega)).trans h
            have HL6 := Lib.hid (show _ ∧ _ from ⟨hcell 0 _ l0, hcell 1 _ l1⟩)
            have HB7 := Lib.hid (HB.out.trans (HB6.out.mono (by omega)))
            clear hcell hK hv1 hown' hgrow HO3 n0 n1 hq68 hqn h58 l0 l1
            go_wp2
            go_roundw
            case rel => exact ⟨i + 1, by omega, by go_num, HB7.out, HL6.out, HO6.out⟩
            case measure => simp [intOf]; omega
        · have hkK : k = min L (i + 1) := by omega
          obtain ⟨⟨S1, S2⟩, S3, S4⟩ := HBD.out k (by omega)
          have HF1 := Lib.hid (fun W => bfloorI_any (fsS xs g i k).1 dn (by omega) (by omega) (by omega) (by omega) W)
          have HF2 := Lib.hid (fun W => bfloorI_any (fsS xs g i k).2 dn (by omega) (by omega) (by omega) (by omega) W)
          have HS2 : Hid (gV (i + 1) (foS xs dn L g) = gV i (foS xs dn L g) ++ [.int .i64 ((fsS xs g i k).1 / dn), .int .i64 ((fsS xs g i k).2 / dn)]) := Lib.hid (by rw [hkK]; exact HS.out)
          have HO2 := Lib.hid (own_bel HO.out HI.out)
          have q9 : ¬ (k : Int) < (L : Int) := by omega
          clear S1 S2 S3 S4 HS hkK
          generalize (fsS xs g i k).1 = X at *
          generalize (fsS xs g i k).2 = Y at *
          generalize X / dn = X' at *
          generalize Y / dn = Y' at *
          have hws2 := lt_of l0
          go_wp2_with fail
          refine wp_region_app [mpEq (u5), mpEq (.int .i64 X), mpEq (.pointer (some ⟨w.heap.size, 1, none⟩)), mpEq (.int .i64 dn), mpEq (.int .i64 X'), mpEq (.int .i64 Y), mpEq (.pointer (some ⟨w.heap.size, 1, none⟩)), mpEq (.int .i64 dn), mpEq (.int .i64 Y'), mpEq (.agg #[.int .i64 X', .int .i64 Y']), mpNG wr.heap.size X' Y'] 11 12 pw0 (by kernel_rfl) (by kernel_rfl) (by kernel_rfl) rfl rfl rfl (by kernel_rfl) (by kernel_rfl) (
                allOps_cons (fun _ _ a' w' hb hs hd => rg_op fun K hK => by
              have e0 := (hs.get 5 (by kernel_rfl)).trans (show _ = u5 from rfl)
              have ec : ∀ v, a'.eval (.const v) = v := fun _ => rfl
              clear hs hd
              unfold Oper.wp
              generalize a'.eval = ρ at e0 ec ⊢
              simp [go_sem, e0]
              exact hK _ _ (Below.refl _ _) rfl) <|
                allOps_cons (fun _ _ a' w' hb hs hd => rg_op fun K hK => by
              have e0 := (hs.get 7 (by kernel_rfl)).trans (show _ = .int .i64 X from rfl)
              have ec : ∀ v, a'.eval (.const v) = v := fun _ => rfl
              clear hs hd
              unfold Oper.wp
              generalize a'.eval = ρ at e0 ec ⊢
              simp [go_sem, e0]
              exact hK _ _ (Below.refl _ _) rfl) <|
                allOps_cons (fun _ _ a' w' hb hs hd => rg_op fun K hK => by
              have e0 := (hs.get 2 (by kernel_rfl)).trans (show _ = .pointer (some ⟨w.heap.size, 0, none⟩) from rfl)
              have ec : ∀ v, a'.eval (.const v) = v := fun _ => rfl
              clear hs hd
              unfold Oper.wp
              generalize a'.eval = ρ at e0 ec ⊢
              simp [go_sem, e0]
              exact hK _ _ (Below.refl _ _) rfl) <|
                allOps_cons (fun _ _ a' w' hb hs hd => rg_op fun K hK => by
              have e0 := (show a'.eval (.tmp 60) = .pointer (some ⟨w.heap.size, 1, none⟩) from hd.get 2 60 (by kernel_rfl) (by kernel_rfl))
              have ec : ∀ v, a'.eval (.const v) = v := fun _ => rfl
              have c0 := keep hb l1
              clear hs hd
              unfold Oper.wp
              generalize a'.eval = ρ at e0 ec ⊢
              simp [go_sem, e0, c0]
              exact hK _ _ (Below.refl _ _) rfl) <|
                allOps_cons (fun _ _ a' w' hb hs hd => by
              exact rg_fn (φ := (mpEq (.int .i64 X')).p) (vs := #[.int .i64 X, .int .i64 dn]) rfl (enters_of Try.func104 (by kernel_rfl) rfl) (by simp [(show a'.eval (.tmp 59) = .int .i64 X from hd.get 1 59 (by kernel_rfl) (by kernel_rfl)), (show a'.eval (.tmp 61) = .int .i64 dn from hd.get 3 61 (by kernel_rfl) (by kernel_rfl))]) ((HF1.out w').mono (by rintro e w1 ⟨rfl, rfl⟩; exact ⟨_, rfl, Below.refl _ _, rfl⟩))) <|
                allOps_cons (fun _ _ a' w' hb hs hd => rg_op fun K hK => by
              have e0 := (hs.get 8 (by kernel_rfl)).trans (show _ = .int .i64 Y from rfl)
              have ec : ∀ v, a'.eval (.const v) = v := fun _ => rfl
              clear hs hd
              unfold Oper.wp
              generalize a'.eval = ρ at e0 ec ⊢
              simp [go_sem, e0]
              exact hK _ _ (Below.refl _ _) rfl) <|
                allOps_cons (fun _ _ a' w' hb hs hd => rg_op fun K hK => by
              have e0 := (hs.get 2 (by kernel_rfl)).trans (show _ = .pointer (some ⟨w.heap.size, 0, none⟩) from rfl)
              have ec : ∀ v, a'.eval (.const v) = v := fun _ => rfl
              clear hs hd
              unfold Oper.wp
              generalize a'.eval = ρ at e0 ec ⊢
              simp [go_sem, e0]
              exact hK _ _ (Below.refl _ _) rfl) <|
                allOps_cons (fun _ _ a' w' hb hs hd => rg_op fun K hK => by
              have e0 := (show a'.eval (.tmp 64) = .pointer (some ⟨w.heap.size, 1, none⟩) from hd.get 6 64 (by kernel_rfl) (by kernel_rfl))
              have ec : ∀ v, a'.eval (.const v) = v := fun _ => rfl
              have c0 := keep hb l1
              clear hs hd
              unfold Oper.wp
              generalize a'.eval = ρ at e0 ec ⊢
              simp [go_sem, e0, c0]
              exact hK _ _ (Below.refl _ _) rfl) <|
                allOps_cons (fun _ _ a' w' hb hs hd => by
              exact rg_fn (φ := (mpEq (.int .i64 Y')).p) (vs := #[.int .i64 Y, .int .i64 dn]) rfl (enters_of Try.func104 (by kernel_rfl) rfl) (by simp [(show a'.eval (.tmp 63) = .int .i64 Y from hd.get 5 63 (by kernel_rfl) (by kernel_rfl)), (show a'.eval (.tmp 65) = .int .i64 dn from hd.get 7 65 (by kernel_rfl) (by kernel_rfl))]) ((HF2.out w').mono (by rintro e w1 ⟨rfl, rfl⟩; exact ⟨_, rfl, Below.refl _ _, rfl⟩))) <|
                allOps_cons (fun _ _ a' w' hb hs hd => rg_op fun K hK => by
              have e0 := (show a'.eval (.tmp 62) = .int .i64 X' from hd.get 4 62 (by kernel_rfl) (by kernel_rfl))
              have e1 := (show a'.eval (.tmp 66) = .int .i64 Y' from hd.get 8 66 (by kernel_rfl) (by kernel_rfl))
              have ec : ∀ v, a'.eval (.const v) = v := fun _ => rfl
              clear hs hd
              unfold Oper.wp
              generalize a'.eval = ρ at e0 e1 ec ⊢
              simp [go_sem, e0, e1]
              exact hK _ _ (Below.refl _ _) rfl) <|
                allOps_cons (fun _ _ a' w' hb hs hd => rg_op fun K hK => by
              have e0 := (show a'.eval (.tmp 67) = .agg #[.int .i64 X', .int .i64 Y'] from hd.get 9 67 (by kernel_rfl) (by kernel_rfl))
              have hz := hb.size
              clear hs hd
              unfold Oper.wp
              generalize a'.eval = ρ at e0 hz ⊢
              simp [go_sem, e0]
              exact hK _ _ ((Below.refl _ _).alloc (Nat.le_refl _) _) ⟨_, rfl, hz, by simp [go_sem], by simp [go_sem]⟩) <| allOps_cons (fun h => absurd rfl h) <| allOps_cons (fun _ h => absurd rfl h) <| allOps_nil) (fun V v1 hv1 hall K hK => ?_)
          have h58 : V 58 = u5 := hall.get 0 rfl (by decide) (by decide)
          have h68 : (mpNG wr.heap.size X' Y').p (V 68) v1 := hall.get 10 rfl (by decide) (by decide)
          clear hall
          obtain ⟨qn, hq68, hqn, n0, n1⟩ := h68
          have HO3 := own_bel HO2.out hv1
          refine wp_append_own _ (.tmp 58) (.tmp 68) 42 rfl (w.heap.size + 1) 23 i0 _ 2 16 undGs hi0 hz0 hz1 hz2 rfl (by decide) u5 i (gV i (foS xs dn L g)) h58 HO3 ⟨qn, 0, none⟩ 1 1 [.int .i64 X', .int .i64 Y'] hq68 rfl (news_2 n0 n1) (by simp [Value.oneCell']) (by unfold maxLen; omega) (by omega) (by have := hv1.size; omega) ?_
          intro v' w6 hown' hgrow _
          rw [← HS2.out] at hown'
          have HB6 : Hid (Below (w.heap.size + 1) wr w6) := Lib.hid ((hv1.mono (by omega)).trans (app_bel2 (by have := hv1.size; omega) HO3 hgrow))
          have HO6 := Lib.hid hown'
          refine hK _ _ ?_
          simp only [pw0, maskPut, Nat.reduceAdd]
          have hcell : ∀ o v, wr.cell? ⟨w.heap.size, o, none⟩ = some v → w6.cell? ⟨w.heap.size, o, none⟩ = some v := fun o v h => (HB6.out.cell (p := ⟨w.heap.size, o, none⟩) (by show w.heap.size < _; omega)).trans h
          have HL6 := Lib.hid (show _ ∧ _ from ⟨hcell 0 _ l0, hcell 1 _ l1⟩)
          have HB7 := Lib.hid (HB.out.trans (HB6.out.mono (by omega)))
          clear hcell hK hv1 hown' hgrow HO3 n0 n1 hq68 hqn h58 l0 l1
          go_wp2
          go_roundw
          case rel => exact ⟨i + 1, by omega, by go_num, HB7.out, HL6.out, HO6.out⟩
          case measure => simp [intOf]; omega
    · obtain rfl : i = n := by omega
      have HGS := Lib.hid (own_GS HO.out)
      go_wp2
      go_ret
      exact ⟨_, rfl, HB.out, HGS.out⟩
end Go.Proofs.Ytpkacfgmojblbaa
