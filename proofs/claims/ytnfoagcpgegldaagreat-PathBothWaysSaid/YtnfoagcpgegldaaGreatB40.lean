/- Helpers: the document's own SentAt. -/
import Derived.Test.YtnfoagcpgegldaaGreatB29
import Derived.Test.YtnfoagcpgegldaaGreatB38
import Derived.Test.YtnfoagcpgegldaaGreatB27
import Derived.Test.YtnfoagcpgegldaaGreatB31
import Derived.ProofKit
import Derived.OpenShut
import Derived.ShutString
import Derived.ChangeOld
import Derived.Below
import Derived.Lib.SmallJoins
import Derived.Deep.Slices
namespace Go.Proofs.YtnfoagcpgegldaaGreat
open Go.RowKit Go.Shelf Go.Sort
attribute [local go_sem] idx3_0 idx3_1 idx3_2 old1 fro1 old2 fro2 old3 fro3 old4 fro4 old5 fro5 old6 fro6 old7 fro7 old8 fro8 old9 fro9 old10 fro10 old11 fro11 old12 fro12
set_option maxRecDepth 100000 in
set_option maxHeartbeats 4000000 in
theorem rsent_no (ba oa na ca bb ob nb cb : Nat) (da db F r : Int) (w : World) (hn : 0 < na) (hn2 : na ≤ 100)
    (hL : ∀ W, Below w.heap.size w W → W.cell? ⟨ba, oa, none⟩ = some (.int .i64 F))
    (hY : ∀ W, Below w.heap.size w W → Calls Tryz.prog 28 #[.agg #[.slice (some ⟨ba, oa, none⟩) na ca, .int .i64 da], .agg #[.slice (some ⟨bb, ob, none⟩) nb cb, .int .i64 db], .int .i64 F, .int .i64 r] W fun e w' => e = .returned (.bool false) ∧ Below W.heap.size W w') :
    Calls Tryz.prog 23 #[.agg #[.slice (some ⟨ba, oa, none⟩) na ca, .int .i64 da], .agg #[.slice (some ⟨bb, ob, none⟩) nb cb, .int .i64 db], .int .i64 r] w fun e w' => e = .returned (.tuple #[.agg #[.int .i64 0, .int .i64 0], .bool false]) ∧ Below w.heap.size w w' := by
  have HL := Lib.hid hL
  have HY := Lib.hid hY
  clear hL hY
  go_enter Tryz.func23, Tryz.ntmps23
  go_wp2_with fail
  go_region_held3 (fun w' => w'.cell? ⟨w.heap.size, 0, none⟩ = some (.slice (some ⟨ba, oa, none⟩) na ca) ∧ w'.cell? ⟨w.heap.size, 1, none⟩ = some (.int .i64 da) ∧ w'.cell? ⟨w.heap.size + 1, 0, none⟩ = some (.slice (some ⟨bb, ob, none⟩) nb cb) ∧ w'.cell? ⟨w.heap.size + 1, 1, none⟩ = some (.int .i64 db)) (simp [go_sem, *])
    (first | (go_at_call 30; (with_reducible refine Calls.mono (rfirst_any ba oa na ca da F _ hn hn2 (HL.out _ (by (repeat (first | with_reducible exact Below.refl _ _ | with_reducible assumption | with_reducible refine Below.alloc ?_ (by first | (simp; done) | (simp; omega) | omega) _ | with_reducible refine Below.setCell ?_ (by first | (simp; done) | (simp; omega) | omega) _ | with_reducible refine Below.drew ?_ | with_reducible refine below_drewN ?_ _))))) ?_); rintro e w1 ⟨rfl, o1, rfl⟩) | (go_at_call 28; (with_reducible refine Calls.mono (HY.out _ (show Below w.heap.size w _ by (repeat (first | with_reducible exact Below.refl _ _ | with_reducible assumption | with_reducible refine Below.alloc ?_ (by first | (simp; done) | (simp; omega) | omega) _ | with_reducible refine Below.setCell ?_ (by first | (simp; done) | (simp; omega) | omega) _ | with_reducible refine Below.drew ?_ | with_reducible refine below_drewN ?_ _)))) ?_); rintro e w2 ⟨rfl, hb2⟩; have B2 := Lib.hid (thenB (show Below w.heap.size w _ by (repeat (first | with_reducible exact Below.refl _ _ | with_reducible assumption | with_reducible refine Below.alloc ?_ (by first | (simp; done) | (simp; omega) | omega) _ | with_reducible refine Below.setCell ?_ (by first | (simp; done) | (simp; omega) | omega) _ | with_reducible refine Below.drew ?_ | with_reducible refine below_drewN ?_ _))) hb2); go_must (have a0 := keep hb2 (b := w.heap.size) (o := 0) (v := .slice (some ⟨ba, oa, none⟩) na ca) (by simp [go_sem, *])); go_must (have a1 := keep hb2 (b := w.heap.size) (o := 1) (v := .int .i64 da) (by simp [go_sem, *])); go_must (have b0 := keep hb2 (b := w.heap.size + 1) (o := 0) (v := .slice (some ⟨bb, ob, none⟩) nb cb) (by simp [go_sem, *])); go_must (have b1 := keep hb2 (b := w.heap.size + 1) (o := 1) (v := .int .i64 db) (by simp [go_sem, *])); go_must (have r0 := keep hb2 (b := w.heap.size + 1 + 1) (o := 0) (v := .int .i64 0) (by simp [go_sem, *])); go_must (have r1 := keep hb2 (b := w.heap.size + 1 + 1) (o := 1) (v := .int .i64 0) (by simp [go_sem, *])); go_must (have q0 := (hb2.frozen (p := ⟨w.heap.size + 1 + 1, 0, none⟩) (by first | (simp; done) | (simp; omega) | omega)).trans (show _ = false by simp [go_sem, *])); go_must (have q1 := (hb2.frozen (p := ⟨w.heap.size + 1 + 1, 1, none⟩) (by first | (simp; done) | (simp; omega) | omega)).trans (show _ = false by simp [go_sem, *])); have sz2 := lt_of r0; clear hb2) | fail)
  all_goals
    go_wp2_with fail
    refine bodyPost_ret (v := .tuple #[.agg #[.int .i64 0, .int .i64 0], .bool false]) (by simp [results, Tryz.results23, go_sem, *]) rfl ⟨rfl, ?_⟩
    have Bq := B2.out
    (repeat (first | with_reducible exact Below.refl _ _ | with_reducible assumption | with_reducible refine Below.alloc ?_ (by first | (simp; done) | (simp; omega) | omega) _ | with_reducible refine Below.setCell ?_ (by first | (simp; done) | (simp; omega) | omega) _ | with_reducible refine Below.drew ?_ | with_reducible refine below_drewN ?_ _))
set_option maxRecDepth 100000 in
set_option maxHeartbeats 4000000 in
theorem rsent_yes (ba oa na ca bb ob nb cb : Nat) (da db F r : Int) (fA fW : Int → Bool) (Lo Hi : Int) (w : World) (hn : 0 < na) (hn2 : na ≤ 100) (s0 : 0 ≤ F) (sT : F ≤ r) (T1 : r ≤ 1000000000000)
    (hL : ∀ W, Below w.heap.size w W → W.cell? ⟨ba, oa, none⟩ = some (.int .i64 F)) (hT : fA F = true)
    (hA : ∀ W s, Below w.heap.size w W → F ≤ s → s ≤ r → Calls Tryz.prog 28 #[.agg #[.slice (some ⟨ba, oa, none⟩) na ca, .int .i64 da], .agg #[.slice (some ⟨bb, ob, none⟩) nb cb, .int .i64 db], .int .i64 s, .int .i64 r] W fun e w' => e = .returned (.bool (fA s)) ∧ Below W.heap.size W w')
    (hW : ∀ W s, Below w.heap.size w W → F ≤ s → s ≤ r → Calls Tryz.prog 29 #[.agg #[.slice (some ⟨ba, oa, none⟩) na ca, .int .i64 da], .agg #[.slice (some ⟨bb, ob, none⟩) nb cb, .int .i64 db], .int .i64 s, .int .i64 r] W fun e w' => e = .returned (.bool (fW s)) ∧ Below W.heap.size W w')
    (hLo : ∀ x, F ≤ x → x ≤ r → fA x = true → (x = r ∨ fA (x + 1) = false) → x = Lo)
    (hHi : ∀ x, Lo ≤ x → x ≤ r → (x = Lo ∨ fW (x - 1) = false) → (x = r ∨ fW x = true) → x = Hi) :
    Calls Tryz.prog 23 #[.agg #[.slice (some ⟨ba, oa, none⟩) na ca, .int .i64 da], .agg #[.slice (some ⟨bb, ob, none⟩) nb cb, .int .i64 db], .int .i64 r] w fun e w' => e = .returned (.tuple #[.agg #[.int .i64 Lo, .int .i64 Hi], .bool true]) ∧ Below w.heap.size w w' := by
  have HY : Hid (∀ W, Below w.heap.size w W → Calls Tryz.prog 28 #[.agg #[.slice (some ⟨ba, oa, none⟩) na ca, .int .i64 da], .agg #[.slice (some ⟨bb, ob, none⟩) nb cb, .int .i64 db], .int .i64 F, .int .i64 r] W fun e w' => e = .returned (.bool true) ∧ Below W.heap.size W w') := Lib.hid (fun W hb => by have := hA W F hb (Int.le_refl _) sT; rwa [hT] at this)
  have HL := Lib.hid hL
  have HT := Lib.hid hT
  have HA := Lib.hid hA
  have HW := Lib.hid hW
  have HHI := Lib.hid hHi
  have HLO := Lib.hid hLo
  clear hL hA hW hHi hLo hT
  go_enter Tryz.func23, Tryz.ntmps23
  go_wp2_with fail
  go_region_held3 (fun w' => w'.cell? ⟨w.heap.size, 0, none⟩ = some (.slice (some ⟨ba, oa, none⟩) na ca) ∧ w'.cell? ⟨w.heap.size, 1, none⟩ = some (.int .i64 da) ∧ w'.cell? ⟨w.heap.size + 1, 0, none⟩ = some (.slice (some ⟨bb, ob, none⟩) nb cb) ∧ w'.cell? ⟨w.heap.size + 1, 1, none⟩ = some (.int .i64 db)) (simp [go_sem, *])
    (first | (go_at_call 30; (with_reducible refine Calls.mono (rfirst_any ba oa na ca da F _ hn hn2 (HL.out _ (by (repeat (first | with_reducible exact Below.refl _ _ | with_reducible assumption | with_reducible refine Below.alloc ?_ (by first | (simp; done) | (simp; omega) | omega) _ | with_reducible refine Below.setCell ?_ (by first | (simp; done) | (simp; omega) | omega) _ | with_reducible refine Below.drew ?_ | with_reducible refine below_drewN ?_ _))))) ?_); rintro e w1 ⟨rfl, o1, rfl⟩) | (go_at_call 28; (with_reducible refine Calls.mono (HY.out _ (show Below w.heap.size w _ by (repeat (first | with_reducible exact Below.refl _ _ | with_reducible assumption | with_reducible refine Below.alloc ?_ (by first | (simp; done) | (simp; omega) | omega) _ | with_reducible refine Below.setCell ?_ (by first | (simp; done) | (simp; omega) | omega) _ | with_reducible refine Below.drew ?_ | with_reducible refine below_drewN ?_ _)))) ?_); rintro e w2 ⟨rfl, hb2⟩; have B2 := Lib.hid (thenB (show Below w.heap.size w _ by (repeat (first | with_reducible exact Below.refl _ _ | with_reducible assumption | with_reducible refine Below.alloc ?_ (by first | (simp; done) | (simp; omega) | omega) _ | with_reducible refine Below.setCell ?_ (by first | (simp; done) | (simp; omega) | omega) _ | with_reducible refine Below.drew ?_ | with_reducible refine below_drewN ?_ _))) hb2); go_must (have a0 := keep hb2 (b := w.heap.size) (o := 0) (v := .slice (some ⟨ba, oa, none⟩) na ca) (by simp [go_sem, *])); go_must (have a1 := keep hb2 (b := w.heap.size) (o := 1) (v := .int .i64 da) (by simp [go_sem, *])); go_must (have b0 := keep hb2 (b := w.heap.size + 1) (o := 0) (v := .slice (some ⟨bb, ob, none⟩) nb cb) (by simp [go_sem, *])); go_must (have b1 := keep hb2 (b := w.heap.size + 1) (o := 1) (v := .int .i64 db) (by simp [go_sem, *])); go_must (have r0 := keep hb2 (b := w.heap.size + 1 + 1) (o := 0) (v := .int .i64 0) (by simp [go_sem, *])); go_must (have r1 := keep hb2 (b := w.heap.size + 1 + 1) (o := 1) (v := .int .i64 0) (by simp [go_sem, *])); go_must (have q0 := (hb2.frozen (p := ⟨w.heap.size + 1 + 1, 0, none⟩) (by first | (simp; done) | (simp; omega) | omega)).trans (show _ = false by simp [go_sem, *])); go_must (have q1 := (hb2.frozen (p := ⟨w.heap.size + 1 + 1, 1, none⟩) (by first | (simp; done) | (simp; omega) | omega)).trans (show _ = false by simp [go_sem, *])); have sz2 := lt_of r0; clear hb2) | fail)
  all_goals
    go_wp2_with (go_at_call 30; (with_reducible refine Calls.mono (rfirst_any ba oa na ca da F _ hn hn2 (HL.out _ (by have Bq := B2.out; have Bz := Bq.size; (repeat (first | with_reducible exact Below.refl _ _ | with_reducible assumption | with_reducible refine Below.alloc ?_ (by first | (simp; done) | (simp; omega) | omega) _ | with_reducible refine Below.setCell ?_ (by first | (simp; done) | (simp; omega) | omega) _ | with_reducible refine Below.drew ?_ | with_reducible refine below_drewN ?_ _))))) ?_); rintro e w1 ⟨rfl, o1, rfl⟩)
    have hRX : RX w (some ⟨ba, oa, none⟩) (some ⟨bb, ob, none⟩) na ca nb cb da db w2 := ⟨B2.out, ⟨a0, a1⟩, ⟨b0, b1⟩, ⟨r0, r1⟩, ⟨q0, q1⟩⟩
    clear a0 a1 b0 b1 r0 r1 q0 q1
    go_loopw [8, 9] (fun s8 s9 wr => ∃ lo hi : Int, s8 = .int .i64 lo ∧ s9 = .int .i64 hi ∧ F ≤ lo ∧ lo ≤ hi ∧ hi ≤ r ∧ RX w (some ⟨ba, oa, none⟩) (some ⟨bb, ob, none⟩) na ca nb cb da db wr ∧ Hid (fA lo = true ∧ (hi = r ∨ fA (hi + 1) = false))) (fun s8 s9 _ => (intOf s9 - intOf s8).toNat)
    case atStart => exact ⟨F, r, rfl, rfl, Int.le_refl _, sT, Int.le_refl _, hRX.to (show Below w2.heap.size w2 _ by (repeat (first | with_reducible exact Below.refl _ _ | with_reducible assumption | with_reducible refine Below.alloc ?_ (by first | (simp; done) | (simp; omega) | omega) _ | with_reducible refine Below.setCell ?_ (by first | (simp; done) | (simp; omega) | omega) _ | with_reducible refine Below.drew ?_ | with_reducible refine below_drewN ?_ _))), ⟨HT.out, .inl rfl⟩⟩
    case round =>
      clear hRX
      obtain ⟨lo, hi, rfl, rfl, l1, l2, l3, hrx, I⟩ := hrel
      by_cases hlt : lo < hi
      · have HX := Lib.hid hrx
        obtain ⟨p, ⟨a0, a1⟩, ⟨b0, b1⟩, ⟨r0, r1⟩, ⟨q0, q1⟩⟩ := hrx
        have hc := HA.out wr ((lo + hi + 1) / 2) p (by omega) (by omega)
        clear p
        cases hp : fA ((lo + hi + 1) / 2) <;> rw [hp] at hc <;> have HP := Lib.hid hp <;> clear hp
        · go_wp2_with (go_at_call 28; (with_reducible refine Calls.mono hc ?_); rintro e w3 ⟨rfl, hb3⟩)
          go_roundw
          case rel => exact ⟨lo, (lo + hi + 1) / 2 - 1, rfl, rfl, l1, by omega, by omega, HX.out.to hb3, ⟨I.out.1, .inr (by rw [Int.sub_add_cancel]; exact HP.out)⟩⟩
          case measure => simp [intOf]; omega
        · go_wp2_with (go_at_call 28; (with_reducible refine Calls.mono hc ?_); rintro e w3 ⟨rfl, hb3⟩)
          go_roundw
          case rel => exact ⟨(lo + hi + 1) / 2, hi, rfl, rfl, by omega, by omega, l3, HX.out.to hb3, ⟨HP.out, I.out.2⟩⟩
          case measure => simp [intOf]; omega
      · obtain rfl : hi = lo := by omega
        obtain rfl : hi = Lo := HLO.out hi l1 l3 I.out.1 I.out.2
        obtain ⟨wo, rfl⟩ : ∃ wo : World, wo = wr := ⟨_, rfl⟩
        have HX := Lib.hid hrx
        obtain ⟨p, ⟨a0, a1⟩, ⟨b0, b1⟩, ⟨r0, r1⟩, ⟨q0, q1⟩⟩ := hrx
        have pz := p.size
        have HPp := Lib.hid p
        have sr := lt_of r0
        clear p
        go_wp2_with fail
        go_loopw [12] (fun s12 wr => ∃ f H : Int, s12 = .int .i64 f ∧ hi ≤ f ∧ f ≤ H ∧ H ≤ r ∧ RX w (some ⟨ba, oa, none⟩) (some ⟨bb, ob, none⟩) na ca nb cb da db wr ∧ (wo.heap.size < wr.heap.size ∧ wr.cell? ⟨wo.heap.size, 0, none⟩ = some (.int .i64 hi) ∧ wr.cell? ⟨wo.heap.size, 1, none⟩ = some (.int .i64 H) ∧ wr.frozen? ⟨wo.heap.size, 1, none⟩ = false) ∧ Hid ((f = hi ∨ fW (f - 1) = false) ∧ (H = r ∨ fW H = true))) (fun s12 wr => (intOf ((wr.cell? ⟨wo.heap.size, 1, none⟩).getD (.int .i64 0)) - intOf s12).toNat)
        case atStart => exact ⟨hi, r, rfl, Int.le_refl _, l3, Int.le_refl _, HX.out.to (show Below wo.heap.size wo _ by (repeat (first | with_reducible exact Below.refl _ _ | with_reducible assumption | with_reducible refine Below.alloc ?_ (by first | (simp; done) | (simp; omega) | omega) _ | with_reducible refine Below.setCell ?_ (by first | (simp; done) | (simp; omega) | omega) _ | with_reducible refine Below.drew ?_ | with_reducible refine below_drewN ?_ _))), ⟨by simp, by simp [go_sem, *], by simp [go_sem, *], by simp [go_sem, *]⟩, ⟨.inl rfl, .inl rfl⟩⟩
        case round =>
          clear a0 a1 b0 b1 r0 r1 q0 q1
          obtain ⟨f, H, rfl, m1, m2, m3, hrx, ⟨d0, d1, d2, d3⟩, J⟩ := hrel
          have HX2 := Lib.hid hrx
          obtain ⟨p, ⟨a0, a1⟩, ⟨b0, b1⟩, ⟨r0, r1⟩, ⟨q0, q1⟩⟩ := hrx
          by_cases hlt2 : f < H
          · have hc := HW.out wr ((f + H) / 2) p (by omega) (by omega)
            have HPq := Lib.hid p
            clear p
            cases hp : fW ((f + H) / 2) <;> rw [hp] at hc <;> have HP := Lib.hid hp <;> clear hp
            · go_wp2_with (go_at_call 29; (with_reducible refine Calls.mono hc ?_); rintro e w3 ⟨rfl, hb3⟩)
              go_roundw
              case rel => exact ⟨(f + H) / 2 + 1, H, rfl, by omega, by omega, m3, HX2.out.to hb3, ⟨Nat.lt_of_lt_of_le d0 hb3.size, keep hb3 d1, keep hb3 d2, (hb3.frozen (p := ⟨wo.heap.size, 1, none⟩) d0).trans d3⟩, ⟨.inr (by rw [Int.add_sub_cancel]; exact HP.out), J.out.2⟩⟩
              case measure => rw [keep hb3 d2, d2]; simp [intOf]; omega
            · go_wp2_with (go_at_call 29; (with_reducible refine Calls.mono hc ?_); rintro e w3 ⟨rfl, hb3⟩; have e0 := keep hb3 d1; have e2 := keep hb3 d2; have e3 := (hb3.frozen (p := ⟨wo.heap.size, 1, none⟩) d0).trans d3; have ez := Nat.lt_of_lt_of_le d0 hb3.size; have HB3 := Lib.hid hb3; clear hb3)
              go_roundw
              case rel => exact ⟨f, (f + H) / 2, rfl, m1, by omega, by omega, (HX2.out.to HB3.out).set (by omega) ez, ⟨by simpa [World.setCell] using ez, by simp [go_sem, *], by simp [go_sem, *], by simp [go_sem, *]⟩, ⟨J.out.1, .inr HP.out⟩⟩
              case measure => rw [d2]; simp [go_sem, intOf, *]; omega
          · obtain rfl : H = f := by omega
            obtain rfl : H = Hi := HHI.out H m1 m3 J.out.1 J.out.2
            have HPq := Lib.hid p
            clear p
            go_wp2_with fail
            refine bodyPost_ret (v := .tuple #[.agg #[.int .i64 hi, .int .i64 H], .bool true]) (by simp [results, Tryz.results23, go_sem, *]) rfl ⟨rfl, ?_⟩
            have Bq := HPq.out
            (repeat (first | with_reducible exact Below.refl _ _ | with_reducible assumption | with_reducible refine Below.alloc ?_ (by first | (simp; done) | (simp; omega) | omega) _ | with_reducible refine Below.setCell ?_ (by first | (simp; done) | (simp; omega) | omega) _ | with_reducible refine Below.drew ?_ | with_reducible refine below_drewN ?_ _))
theorem rst_facts {W : World} {A B : Trk} {r : Int} (hA : VT W A r) (hB : VT W B r) :
    (0 < A.n ∧ A.n ≤ 100) ∧ 0 ≤ firstT A ∧ firstT A ≤ r ∧ r ≤ 1000000000000 ∧ (∀ W', Below W.heap.size W W' → W'.cell? ⟨A.b, A.off, none⟩ = some (.int .i64 (firstT A))) ∧
    ∀ W' s, Below W.heap.size W W' → firstT A ≤ s → s ≤ r → VT W' A s ∧ VT W' B r ∧ r - s ≤ 20000000000 := by
  have tA : TIn A r := hA.2
  have f : firstT A ≤ r := tA.first
  have l1 := time_bd (tA.back (Int.le_refl _) f)
  have l2 := time_bd tA
  refine ⟨⟨hA.1.1, hA.1.2.1⟩, l1.1, f, l2.2, fun W' hb => ?_, fun W' s hb h1 h2 => ⟨hA.back hb h1 h2, hB.below hb, ?_⟩⟩
  · have := ((hA.1.below hb).2.2.2 0 hA.1.1).1
    rwa [show A.off + 0 * 4 = A.off by omega] at this
  · have := span_t hA.2.1 (hA.back hb h1 h2).2.2 hA.2.2
    omega
theorem rst_no (A B : Trk) (r : Int) (W : World) (hA : VT W A r) (hB : VT W B r) (h : arrB A B (firstT A) r = false) :
    Calls Tryz.prog 23 #[.agg #[.slice (some ⟨A.b, A.off, none⟩) A.n A.c, .int .i64 A.d], .agg #[.slice (some ⟨B.b, B.off, none⟩) B.n B.c, .int .i64 B.d], .int .i64 r] W fun e w' => e = .returned (.tuple #[.agg #[.int .i64 0, .int .i64 0], .bool false]) ∧ Below W.heap.size W w' := by
  obtain ⟨⟨n1, n2⟩, s0, sT, T1, hL, hV⟩ := rst_facts hA hB
  exact rsent_no A.b A.off A.n A.c B.b B.off B.n B.c A.d B.d (firstT A) r W n1 n2 hL (fun W' hb => by
    obtain ⟨v1, v2, v3⟩ := hV W' (firstT A) hb (Int.le_refl _) sT
    have := rarrived_any W' A B (firstT A) r v1 v2 sT v3
    rw [h] at this
    exact this)
theorem rst_yes (A B : Trk) (r : Int) (W : World) (hA : VT W A r) (hB : VT W B r) (h : arrB A B (firstT A) r = true) :
    Calls Tryz.prog 23 #[.agg #[.slice (some ⟨A.b, A.off, none⟩) A.n A.c, .int .i64 A.d], .agg #[.slice (some ⟨B.b, B.off, none⟩) B.n B.c, .int .i64 B.d], .int .i64 r] W fun e w' => e = .returned (.tuple #[.agg #[.int .i64 (snD A B r - 1), .int .i64 (min r (snL A B r))], .bool true]) ∧ Below W.heap.size W w' := by
  obtain ⟨⟨n1, n2⟩, s0, sT, T1, hL, hV⟩ := rst_facts hA hB
  have hD := sn_some (B := B) (show TIn A r from hA.2) h
  exact rsent_yes A.b A.off A.n A.c B.b B.off B.n B.c A.d B.d (firstT A) r (fun s => arrB A B s r) (fun s => awayB A B s r) (snD A B r - 1) (min r (snL A B r)) W n1 n2 s0 sT T1 hL h
    (fun W' s hb h1 h2 => by
      obtain ⟨v1, v2, v3⟩ := hV W' s hb h1 h2
      exact rarrived_any W' A B s r v1 v2 h2 v3)
    (fun W' s hb h1 h2 => by
      obtain ⟨v1, v2, v3⟩ := hV W' s hb h1 h2
      exact raway_any W' A B s r v1 v2 h2 v3)
    (fun x h1 h2 h3 h4 => lo_is hA.2 hB.2 h1 h2 h3 h4)
    (fun x h1 h2 h3 h4 => hi_is hA.2 hB.2 hD h1 h2 h3 h4)
theorem st_2 {A B : TV} {s : Int} (hd : distErr A B s = 0) (h : arrB A.t B.t (firstT A.t) s = false) : stE A B s = 12 := by
  obtain ⟨tA, tB⟩ := distErr_in hd
  unfold stE
  rw [if_pos hd, if_pos (sn_none tA tB h)]
theorem st_3 {A B : TV} {s : Int} (hd : distErr A B s = 0) (h : arrB A.t B.t (firstT A.t) s = true) : stE A B s = 0 ∧ stLo A B s = snD A.t B.t s - 1 ∧ stHi A B s = min s (snL A.t B.t s) := by
  obtain ⟨tA, tB⟩ := distErr_in hd
  have := sn_some (B := B.t) tA h
  have e : stE A B s = 0 := by
    unfold stE
    rw [if_pos hd, if_neg (by omega)]
  exact ⟨e, by unfold stLo; rw [if_pos e], by unfold stHi; rw [if_pos e]⟩
end Go.Proofs.YtnfoagcpgegldaaGreat
namespace Go.Proofs.YtnfoagcpgegldaaGreat
open Go.ChangeShapes Go.WideShapes Go.ChangeAt Go.RowKit Go.Joins Go.Deep
theorem owned : ownKnob Tryz.prog.godebug = none := by kernel_rfl
theorem laidAll : laidOutB Tryz.prog = true := by kernel_rfl
theorem cells1 : Tryz.prog.cellsOf 3 = 1 := by kernel_rfl
theorem cells3 : Tryz.prog.cellsOf 114 = 3 := by kernel_rfl
theorem cells4 : Tryz.prog.cellsOf 116 = 4 := by kernel_rfl
theorem cells2 : Tryz.prog.cellsOf 24 = 2 := by kernel_rfl
instance : Inhabited Knot := ⟨⟨0, 0, 0, 0⟩⟩
set_option maxRecDepth 100000 in
theorem read_point {H : Type} {enc : TypeId × Value → H} {w : World} {base : Nat} {sp : Nat → Bool} {held : Bool} {n : Nat} {c0 c1 c2 : Value} {x : DataW H × List MemPlace} (h : DataW.trod enc Tryz.prog w base sp held n 114 [c0, c1, c2] = some x) : ∃ a b c : Int, c0 = .int .i64 a ∧ c1 = .int .i64 b ∧ c2 = .int .i64 c := by
  obtain ⟨xs, m, _, _, hl, hlen, hg⟩ := DataW.trod_struct Tryz.underlying114 h
  match xs, hlen with
  | [y0, y1, y2], _ =>
    have h0 := hg 0 _ rfl
    have h1 := hg 1 _ rfl
    have h2 := hg 2 _ rfl
    simp [cells1] at h0 h1 h2
    obtain ⟨a, e0, _, _⟩ := DataW.trod_int Tryz.underlying3 h0
    obtain ⟨b, e1, _, _⟩ := DataW.trod_int Tryz.underlying3 h1
    obtain ⟨c, e2, _, _⟩ := DataW.trod_int Tryz.underlying3 h2
    simp at e0 e1 e2
    exact ⟨a, b, c, e0, e1, e2⟩
set_option maxRecDepth 100000 in
theorem read_knot {H : Type} {enc : TypeId × Value → H} {w : World} {base : Nat} {sp : Nat → Bool} {held : Bool} {n : Nat} {c0 c1 c2 c3 : Value} {x : DataW H × List MemPlace} (h : DataW.trod enc Tryz.prog w base sp held n 116 [c0, c1, c2, c3] = some x) : ∃ q : Knot, c0 = .int .i64 q.t ∧ c1 = .int .i64 q.x ∧ c2 = .int .i64 q.y ∧ c3 = .int .i64 q.z := by
  obtain ⟨xs, m, _, _, hl, hlen, hg⟩ := DataW.trod_struct Tryz.underlying116 h
  match xs, hlen with
  | [y0, y1], _ =>
    have h0 := hg 0 _ rfl
    have h1 := hg 1 _ rfl
    simp [cells1, cells3] at h0 h1
    obtain ⟨a, e0, _, _⟩ := DataW.trod_int Tryz.underlying3 h0
    obtain ⟨b, c, d, e1, e2, e3⟩ := read_point h1
    simp at e0
    exact ⟨⟨a, b, c, d⟩, e0, e1, e2, e3⟩
set_option maxRecDepth 100000 in
theorem open_track {H : Type} {enc : TypeId × Value → H} {w : World} {base : Nat} {sp : Nat → Bool} {held : Bool} {r : Reach} {b0 : Nat} {v : Value} {d : DataW H} {p : List MemPlace} (hv : Value.okWide Tryz.prog w r b0 24 v) (h : DataW.Trod enc Tryz.prog w base sp held 24 v d p) :
    ∃ (A : Option Addr) (n c : Nat) (k : Nat → Knot) (db : Int), v = .agg #[.slice A n c, .int .i64 db] ∧ n ≤ 9223372036854775807 ∧ (A = none → n = 0 ∧ c = 0) ∧ KA w A n k := by
  obtain ⟨c0, c1, y0, y1, m, rfl, _, _, hy0, hy1⟩ := open_agg2 Tryz.underlying24 (by kernel_rfl) cells2 hv h
  obtain ⟨db, e1, _, _⟩ := DataW.trod_int Tryz.underlying3 hy1
  simp at e1
  subst e1
  rcases open_slice Tryz.underlying22 hy0 with ⟨hcs, _⟩ | ⟨a, len, cap, m', n', D, Pl, hcs, _, hl, hm, hmm, _, hx⟩
  · simp at hcs
    subst hcs
    exact ⟨none, 0, 0, fun _ => default, db, rfl, by omega, fun _ => ⟨rfl, rfl⟩, fun h => absurd h (Nat.lt_irrefl 0)⟩
  · simp at hcs
    subst hcs
    rw [cells4] at hx
    have hlm : len ≤ m' := by rw [hmm]; split <;> omega
    have hq : ∀ i, i < len → ∃ q : Knot, w.cell? (a.add (i * 4)) = some (.int .i64 q.t) ∧ w.cell? ((a.add (i * 4)).add 1) = some (.int .i64 q.x) ∧ w.cell? ((a.add (i * 4)).add 2) = some (.int .i64 q.y) ∧ w.cell? ((a.add (i * 4)).add 3) = some (.int .i64 q.z) := by
      intro i hi
      obtain ⟨cs', g1, g2⟩ := hx i (by omega)
      obtain ⟨_, hlen, hc⟩ := World.cells?_some g1
      match cs', hlen with
      | [v0, v1, v2, v3], _ =>
        obtain ⟨q, rfl, rfl, rfl, rfl⟩ := read_knot g2
        have z0 := hc 0 (by omega)
        have z1 := hc 1 (by omega)
        have z2 := hc 2 (by omega)
        have z3 := hc 3 (by omega)
        refine ⟨q, ?_, z1, z2, z3⟩
        simpa [Addr.add] using z0
    obtain ⟨k, hk⟩ := choose_lt hq
    refine ⟨some a, len, cap, k, db, rfl, by unfold maxLen at hm; omega, fun h => (by cases h), fun h0 => ?_⟩
    obtain ⟨b, off, spot⟩ := a
    have hc := (hk 0 h0).1
    have hspot : spot = none := by simpa [Addr.add] using World.cell?_spot hc
    subst hspot
    have hc2 : w.cell? ⟨b, off, none⟩ = some (.int .i64 (k 0).t) := by simpa [Addr.add] using hc
    refine ⟨b, off, rfl, lt_of hc2, fun i hi => ?_⟩
    obtain ⟨z0, z1, z2, z3⟩ := hk i hi
    rw [addr_add] at z0 z1 z2 z3
    rw [addr_add] at z1 z2 z3
    exact ⟨z0, z1, z2, z3⟩
end Go.Proofs.YtnfoagcpgegldaaGreat
