/- Helpers: energies and saturated samples. No condition but the bounds that each theorem names. -/
import Derived.Test.YtpkacfgmojblbaaB17
namespace Go.Proofs.Ytpkacfgmojblbaa
open Go.RowKit
attribute [local go_sem] old1 fro1 old2 fro2 old3 fro3 old4 fro4 old5 fro5 old6 fro6 old7 fro7 old8 fro8 old9 fro9 old10 fro10 old11 fro11 old12 fro12
def pe0 : List Bool := [false, false, false, false, false, false, false, false, false, false, false, false, false, false, false, false, false, false, false, false, false, true, true, true, true, true, true, true, true, false, false, false, false, false, false]
theorem newsI (w : World) (x : Value) (t : TypeId) : ∀ j u, [x][j]? = some u → (w.alloc (.cells #[x] t)).cell? ((⟨w.heap.size, 0, none⟩ : Addr).add j) = some u := by
  intro j u hj
  match j, hj with
  | 0, hj => simp at hj; subst hj; simp [Addr.add]
  | j + 1, hj => simp at hj
/-- the indices of saturated samples -/
def stL (g : Nat → Int × Int) : Nat → List Int
  | 0 => []
  | k + 1 => if gpt (g k) = 2000 then stL g k ++ [(k : Int)] else stL g k
theorem stL_len (g : Nat → Int × Int) : ∀ k, (stL g k).length ≤ k
  | 0 => Nat.le_refl _
  | k + 1 => by
    have := stL_len g k
    simp only [stL]
    split <;> simp <;> omega
theorem own_listI {w : World} {base e : Nat} {v : Value} {L : List Int} (h : w.ownsRow base e 1 v L.length (L.map iv)) : v = .slice (sA v) L.length (sC v) ∧ IA w (sA v) L.length (fun i => L.getD i 0) := by
  have e1 : L.map iv = intsV L.length (fun i => L.getD i 0) := by
    refine List.ext_getElem (by simp [intsV]) fun i h1 h2 => ?_
    simp only [List.length_map] at h1
    simp [intsV, iv, h1]
  rw [e1] at h
  exact own_intsV h
set_option maxRecDepth 100000 in
set_option maxHeartbeats 2000000 in
theorem energy_any (A : Option Addr) (n c : Nat) (g : Nat → Int × Int) (w : World) (hn : n ≤ 1000) (hA : GA w A n g) (hg : ∀ i, i < n → (-1000000 ≤ (g i).1 ∧ (g i).1 ≤ 1000000) ∧ -1000000 ≤ (g i).2 ∧ (g i).2 ≤ 1000000) :
    Calls Try.prog 110 #[.slice A n c] w fun e w' => e = .returned (.int .i64 (enS g n)) ∧ Below w.heap.size w w' := by
  have HA := Lib.hid hA
  have HG := Lib.hid hg
  clear hA hg
  go_enter Try.func110, Try.ntmps110
  go_wp2_with fail
  go_loopw [3, 8] (fun s3 s8 wr => ∃ k : Nat, k ≤ n ∧ s8 = .int .i64 k ∧ s3 = .int .i64 (enS g k) ∧ Hid (Below w.heap.size w wr)) (fun _ i _ => n - (intOf i).toNat)
  case atStart => exact ⟨0, Nat.zero_le _, rfl, rfl, Below.refl _ _⟩
  case round =>
    obtain ⟨k, hk, rfl, rfl, HB⟩ := hrel
    by_cases hlt : k < n
    · obtain ⟨bA, oA, rfl, hA2⟩ := HA.out (by omega)
      have c0 := keep HB.out (hA2 k hlt).1
      have c1 := keep HB.out (hA2 k hlt).2
      have hb := HG.out k hlt
      have q1 := nrm_bd hb
      have q2 := enS_bd HG.out k hk
      have g1 : (0 : Int) ≤ (k : Int) := by omega
      have g2 : (k : Int) < (n : Int) := by omega
      have HN := Lib.hid (fun W => npower_any (g k).1 (g k).2 (by omega) (by omega) (by omega) (by omega) W)
      have HS : Hid (enS g k + nrm ((g k).1, (g k).2) = enS g (k + 1)) := Lib.hid rfl
      have w1 : IntKind.i64.wrap (enS g k + nrm ((g k).1, (g k).2)) = enS g (k + 1) := by
        rw [HS.out]
        refine IntWalk.i64_in _ ?_
        have := enS_bd HG.out (k + 1) (by omega)
        omega
      clear hb q1 q2 hA2
      generalize nrm ((g k).1, (g k).2) = z at *
      go_wp2_with (go_at_call 145; (with_reducible refine Calls.mono (HN.out _) ?_); rintro e w3 ⟨rfl, hb3⟩; have HB3 := Lib.hid (belowT (show Below w.heap.size w _ by have Bq := HB.out; have Bz := Bq.size; (repeat (first | with_reducible exact Below.refl _ _ | with_reducible assumption | with_reducible refine Below.alloc ?_ (by first | (simp; done) | (simp; omega) | omega) _ | with_reducible refine Below.setCell ?_ (by first | (simp; done) | (simp; omega) | omega) _ | with_reducible refine Below.drew ?_ | with_reducible refine below_drewN ?_ _))) hb3); clear hb3)
      go_roundw
      case rel => exact ⟨k + 1, by omega, by go_num, rfl, HB3.out⟩
      case measure => simp [intOf]; omega
    · obtain rfl : k = n := by omega
      go_wp2
      go_ret
      exact ⟨rfl, HB.out⟩
set_option maxRecDepth 100000 in
set_option maxHeartbeats 800000 in
theorem energyOfS_any (A : Option Addr) (n c : Nat) (g : Nat → Int × Int) (w : World) (hn : n ≤ 1000000000) (hA : GA w A n g) :
    Calls Try.prog 52 #[.slice A n c] w fun e w' => e = .returned (.tuple #[.int .i64 (if smE n g = 0 then enS g n else 0), .int .i64 (smE n g)]) ∧ Below w.heap.size w w' := by
  have HSC := Lib.hid (samplesCheck_chk A n c g w hn hA)
  obtain ⟨E, hE⟩ : ∃ E, smE n g = E := ⟨_, rfl⟩
  rw [hE] at HSC ⊢
  by_cases h0 : E = 0
  · subst h0
    obtain ⟨hn4, hg⟩ := sm_0 hE
    have HEN := Lib.hid (fun W (hW : Below w.heap.size w W) => energy_any A n c g W (by omega) (hA.bel hW) (fun i hi => by have := hg i hi; omega))
    rw [if_pos rfl]
    clear hA hE hg
    go_enter Try.func52, Try.ntmps52
    go_wp2_with (first
      | (go_at_call 108; (with_reducible refine Calls.mono HSC.out ?_); rintro e y1 ⟨v0, rfl, hb1, g0, f0, rfl, hg0, hh0⟩; have heg : ∀ args w, (callFunc g0 args).run Try.prog w = .ok (.enter g0 args) w := hg0; have K0 := Lib.hid hh0; have BV := Lib.hid hb1; clear hb1 hg0 hh0)
      | (go_at_fn g0; (with_reducible refine Calls.mono (K0.out _ (Below.refl _ _) trivial) ?_); rintro e y2 ⟨rfl, hb2⟩; replace BV := Lib.hid (belowT BV.out hb2); clear hb2)
      | (go_at_call 110; (with_reducible refine Calls.mono (HEN.out _ BV.out) ?_); rintro e y3 ⟨rfl, hb3⟩; replace BV := Lib.hid (belowT BV.out hb3); clear hb3))
    go_ret2
    exact ⟨rfl, BV.out⟩
  · have hq : (E != 0) = true := by simpa using h0
    rw [if_neg h0]
    clear h0 hA hE
    go_enter Try.func52, Try.ntmps52
    go_wp2_with (first
      | (go_at_call 108; (with_reducible refine Calls.mono HSC.out ?_); rintro e y1 ⟨v0, rfl, hb1, g0, f0, rfl, hg0, hh0⟩; have heg : ∀ args w, (callFunc g0 args).run Try.prog w = .ok (.enter g0 args) w := hg0; have K0 := Lib.hid hh0; have BV := Lib.hid hb1; clear hb1 hg0 hh0)
      | (go_at_fn g0; (with_reducible refine Calls.mono (K0.out _ (Below.refl _ _) trivial) ?_); rintro e y2 ⟨rfl, hb2⟩; replace BV := Lib.hid (belowT BV.out hb2); clear hb2))
    go_ret2
    exact ⟨rfl, BV.out⟩
set_option maxRecDepth 100000 in
set_option maxHeartbeats 800000 in
theorem saturatedS_err (A : Option Addr) (n c : Nat) (g : Nat → Int × Int) (E : Int) (hE : smE n g = E) (h0 : E ≠ 0) (w : World) (hn : n ≤ 1000000000) (hA : GA w A n g) :
    Calls Try.prog 51 #[.slice A n c] w fun e w' => e = .returned (.tuple #[.slice none 0 0, .int .i64 E]) ∧ Below w.heap.size w w' := by
  have HSC := Lib.hid (samplesCheck_chk A n c g w hn hA)
  rw [hE] at HSC
  have hq : (E != 0) = true := by simpa using h0
  clear h0 hA hE
  go_enter Try.func51, Try.ntmps51
  go_wp2_with (first
    | (go_at_call 108; (with_reducible refine Calls.mono HSC.out ?_); rintro e y1 ⟨v0, rfl, hb1, g0, f0, rfl, hg0, hh0⟩; have heg : ∀ args w, (callFunc g0 args).run Try.prog w = .ok (.enter g0 args) w := hg0; have K0 := Lib.hid hh0; have BV := Lib.hid hb1; clear hb1 hg0 hh0)
    | (go_at_fn g0; (with_reducible refine Calls.mono (K0.out _ (Below.refl _ _) trivial) ?_); rintro e y2 ⟨rfl, hb2⟩; replace BV := Lib.hid (belowT BV.out hb2); clear hb2))
  go_ret2
  exact ⟨rfl, BV.out⟩
set_option maxRecDepth 100000 in
set_option maxHeartbeats 2000000 in
theorem saturatedS_ok (A : Option Addr) (n c : Nat) (g : Nat → Int × Int) (hE : smE n g = 0) (w : World) (hA : GA w A n g) :
    Calls Try.prog 51 #[.slice A n c] w fun e w' => ∃ A' c', e = .returned (.tuple #[.slice A' (stL g n).length c', .int .i64 0]) ∧ Below w.heap.size w w' ∧ IA w' A' (stL g n).length (fun i => (stL g n).getD i 0) := by
  obtain ⟨hn, hg⟩ := sm_0 hE
  have HSC := Lib.hid (samplesCheck_chk A n c g w (by omega) hA)
  rw [hE] at HSC
  have HA := Lib.hid hA
  have HG := Lib.hid hg
  obtain ⟨i0, hi0, hz0, hz1, hz2⟩ := info_parts infoInt
  clear hA hE hg
  go_enter Try.func51, Try.ntmps51
  go_wp2_with (first
    | (go_at_call 108; (with_reducible refine Calls.mono HSC.out ?_); rintro e y1 ⟨v0, rfl, hb1, g0, f0, rfl, hg0, hh0⟩; have heg : ∀ args w, (callFunc g0 args).run Try.prog w = .ok (.enter g0 args) w := hg0; have K0 := Lib.hid hh0; have BV := Lib.hid hb1; clear hb1 hg0 hh0)
    | (go_at_fn g0; (with_reducible refine Calls.mono (K0.out _ (Below.refl _ _) trivial) ?_); rintro e y2 ⟨rfl, hb2⟩; replace BV := Lib.hid (belowT BV.out hb2); clear hb2))
  clear HSC K0
  go_loopw [5, 16] (fun s5 s16 wr => ∃ k : Nat, k ≤ n ∧ s16 = .int .i64 k ∧ Hid (Below w.heap.size w wr) ∧ Hid (wr.ownsRow w.heap.size 3 1 s5 (stL g k).length ((stL g k).map iv))) (fun _ i _ => n - (intOf i).toNat)
  case atStart => exact ⟨0, Nat.zero_le _, rfl, BV.out, World.ownsRow_nil _ _ _ _⟩
  case round =>
    obtain ⟨k, hk, rfl, HB, HO⟩ := hrel
    have hlen := stL_len g k
    by_cases hlt : k < n
    · obtain ⟨bA, oA, rfl, hA2⟩ := HA.out (by omega)
      have x0 := keep HB.out (hA2 k hlt).1
      have x1 := keep HB.out (hA2 k hlt).2
      have hgk := HG.out k hlt
      have HS1 := Lib.hid (fun W => size_any (g k).1 (by omega) (by omega) W)
      have HS2 := Lib.hid (fun W => size_any (g k).2 (by omega) (by omega) W)
      have HL : Hid (stL g (k + 1) = if gpt (g k) = 2000 then stL g k ++ [(k : Int)] else stL g k) := rfl
      have hgp : gpt (g k) = mx2 (siz (g k).1) (siz (g k).2) := rfl
      rw [hgp] at HL
      have g1 : (0 : Int) ≤ (k : Int) := by omega
      have g2 : (k : Int) < (n : Int) := by omega
      clear hA2 hgk hgp
      generalize siz (g k).1 = sx at *
      generalize siz (g k).2 = sy at *
      generalize hgx : (g k).1 = gx at *
      generalize hgy : (g k).2 = gy at *
      generalize hL0 : stL g k = L0 at *
      have hws := HB.out.size
      go_upto_region 8 with fail
      have hbw : Below wr.heap.size wr (wr.alloc (.cells #[.int .i64 gx, .int .i64 gy] 23)) := (Below.refl _ _).alloc (Nat.le_refl _) _
      have p0 : (wr.alloc (.cells #[.int .i64 gx, .int .i64 gy] 23)).cell? ⟨wr.heap.size, 0, none⟩ = some (.int .i64 gx) := by simp [go_sem]
      have p1 : (wr.alloc (.cells #[.int .i64 gx, .int .i64 gy] 23)).cell? ⟨wr.heap.size, 1, none⟩ = some (.int .i64 gy) := by simp [go_sem]
      generalize (wr.alloc (.cells #[.int .i64 gx, .int .i64 gy] 23)) = v0 at *
      obtain ⟨b, hbE⟩ : ∃ b, (mx2 sx sy == 2000) = b := ⟨_, rfl⟩
      refine wp_region_mp [mpEq (.pointer (some ⟨wr.heap.size, 0, none⟩)), mpEq (.int .i64 gx), mpEq (.int .i64 sx), mpEq (.pointer (some ⟨wr.heap.size, 1, none⟩)), mpEq (.int .i64 gy), mpEq (.int .i64 sy), mpEq (.int .i64 (mx2 sx sy)), mpEq (.bool b)] pe0 (by kernel_rfl) (by kernel_rfl) (by kernel_rfl) (
            allOps_cons (fun a' w' hb hs hd => rg_op fun K hK => by
          have e0 := (hs.get 7 (by kernel_rfl)).trans (show _ = .pointer (some ⟨wr.heap.size, 0, none⟩) from rfl)
          have ec : ∀ v, a'.eval (.const v) = v := fun _ => rfl
          clear hs hd
          unfold Oper.wp
          generalize a'.eval = ρ at e0 ec ⊢
          simp [go_sem, e0]
          exact hK _ _ (Below.refl _ _) rfl) <|
            allOps_cons (fun a' w' hb hs hd => rg_op fun K hK => by
          have e0 := (show a'.eval (.tmp 21) = .pointer (some ⟨wr.heap.size, 0, none⟩) from hd.get 0 21 (by kernel_rfl) (by kernel_rfl))
          have ec : ∀ v, a'.eval (.const v) = v := fun _ => rfl
          have c0 := keep hb p0
          clear hs hd
          unfold Oper.wp
          generalize a'.eval = ρ at e0 ec ⊢
          simp [go_sem, e0, c0]
          exact hK _ _ (Below.refl _ _) rfl) <|
            allOps_cons (fun a' w' hb hs hd => by
          exact rg_fn (φ := (mpEq (.int .i64 sx)).p) (vs := #[.int .i64 gx]) rfl (enters_of Try.func109 (by kernel_rfl) rfl) (by simp [(show a'.eval (.tmp 22) = .int .i64 gx from hd.get 1 22 (by kernel_rfl) (by kernel_rfl))]) ((HS1.out w').mono (by rintro e w1 ⟨rfl, rfl⟩; exact ⟨_, rfl, Below.refl _ _, rfl⟩))) <|
            allOps_cons (fun a' w' hb hs hd => rg_op fun K hK => by
          have e0 := (hs.get 7 (by kernel_rfl)).trans (show _ = .pointer (some ⟨wr.heap.size, 0, none⟩) from rfl)
          have ec : ∀ v, a'.eval (.const v) = v := fun _ => rfl
          clear hs hd
          unfold Oper.wp
          generalize a'.eval = ρ at e0 ec ⊢
          simp [go_sem, e0]
          exact hK _ _ (Below.refl _ _) rfl) <|
            allOps_cons (fun a' w' hb hs hd => rg_op fun K hK => by
          have e0 := (show a'.eval (.tmp 24) = .pointer (some ⟨wr.heap.size, 1, none⟩) from hd.get 3 24 (by kernel_rfl) (by kernel_rfl))
          have ec : ∀ v, a'.eval (.const v) = v := fun _ => rfl
          have c0 := keep hb p1
          clear hs hd
          unfold Oper.wp
          generalize a'.eval = ρ at e0 ec ⊢
          simp [go_sem, e0, c0]
          exact hK _ _ (Below.refl _ _) rfl) <|
            allOps_cons (fun a' w' hb hs hd => by
          exact rg_fn (φ := (mpEq (.int .i64 sy)).p) (vs := #[.int .i64 gy]) rfl (enters_of Try.func109 (by kernel_rfl) rfl) (by simp [(show a'.eval (.tmp 25) = .int .i64 gy from hd.get 4 25 (by kernel_rfl) (by kernel_rfl))]) ((HS2.out w').mono (by rintro e w1 ⟨rfl, rfl⟩; exact ⟨_, rfl, Below.refl _ _, rfl⟩))) <|
            allOps_cons (fun a' w' hb hs hd => rg_op fun K hK => by
          have e0 := (show a'.eval (.tmp 23) = .int .i64 sx from hd.get 2 23 (by kernel_rfl) (by kernel_rfl))
          have e1 := (show a'.eval (.tmp 26) = .int .i64 sy from hd.get 5 26 (by kernel_rfl) (by kernel_rfl))
          have ec : ∀ v, a'.eval (.const v) = v := fun _ => rfl
          clear hs hd
          unfold Oper.wp
          generalize a'.eval = ρ at e0 e1 ec ⊢
          simp [go_sem, e0, e1]
          exact hK _ _ (Below.refl _ _) rfl) <|
            allOps_cons (fun a' w' hb hs hd => rg_op fun K hK => by
          have e0 := (show a'.eval (.tmp 27) = .int .i64 (mx2 sx sy) from hd.get 6 27 (by kernel_rfl) (by kernel_rfl))
          have ec : ∀ v, a'.eval (.const v) = v := fun _ => rfl
          clear hs hd
          unfold Oper.wp
          generalize a'.eval = ρ at e0 ec ⊢
          simp [go_sem, e0, ec, hbE]
          exact hK _ _ (Below.refl _ _) rfl) <| allOps_nil) (fun V v1 hv1 hall => ?_)
      have h28 : V 28 = .bool b := hall.get 7 rfl
      clear hall
      simp only [pe0, maskPut, Nat.reduceAdd]
      rw [h28]
      clear h28
      have HB1 := Lib.hid (belowT HB.out (belowT hbw hv1))
      have HO1 := Lib.hid (own_bel HO.out (belowT hbw hv1))
      have hws1 := HB1.out.size
      clear hbw hv1 p0 p1 x0 x1
      cases b
      · have hS : Hid (stL g (k + 1) = L0) := Lib.hid (by rw [HL.out, if_neg (by simpa using hbE)])
        go_wp2
        go_roundw
        case rel => exact ⟨k + 1, by omega, by go_num, HB1.out, by rw [hS.out]; exact HO1.out⟩
        case measure => simp [intOf]; omega
      · have hS : Hid (stL g (k + 1) = L0 ++ [(k : Int)]) := Lib.hid (by rw [HL.out, if_pos (by simpa using hbE)])
        go_wp2_with (at_builtin; go_loud (refine wpList_append_own_at _ rfl _ _ 38 rfl w.heap.size 3 i0 _ 1 8 undInts hi0 hz0 hz1 hz2 rfl (by decide) u5 _ _ rfl (HO1.out.alloc _) ⟨v1.heap.size, 0, none⟩ 1 1 [.int .i64 k] rfl rfl (newsI _ _ _) (by simp [Value.oneCell']) (by unfold maxLen; omega) (by omega) (by simp; omega) ?_; intro v' z6 hown' hgrow hnil hloc; have HO6 := Lib.hid hown'; have BW := app_bel (by omega) HO1.out hgrow; have HB6 := Lib.hid (HB1.out.trans BW); clear hown' hgrow hnil hloc BW))
        go_roundw
        case rel => exact ⟨k + 1, by omega, by go_num, HB6.out, by rw [hS.out, List.length_append, List.map_append]; exact HO6.out⟩
        case measure => simp [intOf]; omega
    · obtain rfl : k = n := by omega
      obtain ⟨e5, h5⟩ := own_listI HO.out
      have HG5 := Lib.hid h5
      generalize sA u5 = A5 at *
      generalize sC u5 = C5 at *
      subst e5
      clear h5
      go_wp2
      go_ret2
      exact ⟨_, _, rfl, HB.out, HG5.out⟩
set_option maxRecDepth 100000 in
set_option maxHeartbeats 2000000 in
theorem saturatedR_any (A : Option Addr) (n c : Nat) (g : Nat → Int × Int) (hE : smE n g = 0) (w : World) (hA : GA w A n g) :
    Calls Try.prog 54 #[.slice A n c] w fun e w' => ∃ A' c', e = .returned (.slice A' (stL g n).length c') ∧ Below w.heap.size w w' ∧ IA w' A' (stL g n).length (fun i => (stL g n).getD i 0) := by
  obtain ⟨hn, hg⟩ := sm_0 hE
  have HA := Lib.hid hA
  have HG := Lib.hid hg
  obtain ⟨i0, hi0, hz0, hz1, hz2⟩ := info_parts infoInt
  clear hA hE hg
  go_enter Try.func54, Try.ntmps54
  go_wp2_with fail
  go_loopw [3, 4] (fun s3 s4 wr => ∃ k : Nat, k ≤ n ∧ s4 = .int .i64 k ∧ Hid (Below w.heap.size w wr) ∧ Hid (wr.ownsRow w.heap.size 3 1 s3 (stL g k).length ((stL g k).map iv))) (fun _ i _ => n - (intOf i).toNat)
  case atStart => exact ⟨0, Nat.zero_le _, rfl, Below.refl _ _, World.ownsRow_nil _ _ _ _⟩
  case round =>
    obtain ⟨k, hk, rfl, HB, HO⟩ := hrel
    have hlen := stL_len g k
    by_cases hlt : k < n
    · obtain ⟨bA, oA, rfl, hA2⟩ := HA.out (by omega)
      have x0 := keep HB.out (hA2 k hlt).1
      have x1 := keep HB.out (hA2 k hlt).2
      have hgk := HG.out k hlt
      have HGP := Lib.hid (fun W => gpart_any (g k).1 (g k).2 (by omega) (by omega) (by omega) (by omega) W)
      have HL : Hid (stL g (k + 1) = if gpt ((g k).1, (g k).2) = 2000 then stL g k ++ [(k : Int)] else stL g k) := rfl
      have g1 : (0 : Int) ≤ (k : Int) := by omega
      have g2 : (k : Int) < (n : Int) := by omega
      clear hA2 hgk
      generalize gpt ((g k).1, (g k).2) = gp at *
      generalize hgx : (g k).1 = gx at *
      generalize hgy : (g k).2 = gy at *
      generalize hL0 : stL g k = L0 at *
      have hws := HB.out.size
      obtain ⟨b, hbE⟩ : ∃ b, (gp == 2000) = b := ⟨_, rfl⟩
      cases b
      · have hS : Hid (stL g (k + 1) = L0) := Lib.hid (by rw [HL.out, if_neg (by simpa using hbE)])
        go_wp2_with (go_at_call 111; (with_reducible refine Calls.mono (HGP.out _) ?_); rintro e z5 ⟨rfl, hz5⟩; have HB1 := Lib.hid (belowT HB.out hz5); have HO1 := Lib.hid (own_bel HO.out hz5); clear hz5)
        go_roundw
        case rel => exact ⟨k + 1, by omega, by go_num, HB1.out, by rw [hS.out]; exact HO1.out⟩
        case measure => simp [intOf]; omega
      · have hS : Hid (stL g (k + 1) = L0 ++ [(k : Int)]) := Lib.hid (by rw [HL.out, if_pos (by simpa using hbE)])
        go_wp2_with (first
          | (go_at_call 111; (with_reducible refine Calls.mono (HGP.out _) ?_); rintro e z5 ⟨rfl, hz5⟩; have HB1 := Lib.hid (belowT HB.out hz5); have HO1 := Lib.hid (own_bel HO.out hz5); have hws1 := HB1.out.size; clear hz5)
          | (at_builtin; go_loud (refine wpList_append_own_at _ rfl _ _ 38 rfl w.heap.size 3 i0 _ 1 8 undInts hi0 hz0 hz1 hz2 rfl (by decide) u3 _ _ rfl (HO1.out.alloc _) ⟨z5.heap.size, 0, none⟩ 1 1 [.int .i64 k] rfl rfl (newsI _ _ _) (by simp [Value.oneCell']) (by unfold maxLen; omega) (by omega) (by simp; omega) ?_; intro v' z6 hown' hgrow hnil hloc; have HO6 := Lib.hid hown'; have BW := app_bel (by omega) HO1.out hgrow; have HB6 := Lib.hid (HB1.out.trans BW); clear hown' hgrow hnil hloc BW)))
        go_roundw
        case rel => exact ⟨k + 1, by omega, by go_num, HB6.out, by rw [hS.out, List.length_append, List.map_append]; exact HO6.out⟩
        case measure => simp [intOf]; omega
    · obtain rfl : k = n := by omega
      obtain ⟨e5, h5⟩ := own_listI HO.out
      have HG5 := Lib.hid h5
      generalize sA u3 = A5 at *
      generalize sC u3 = C5 at *
      subst e5
      clear h5
      go_wp2
      go_ret
      exact ⟨_, _, rfl, HB.out, HG5.out⟩
/-- samples that are not too many, or some more -/
def shr (n : Nat) : Bool := decide (n ≤ 60) || decide (400 < n ∧ n ≤ 404)
set_option maxRecDepth 100000 in
set_option maxHeartbeats 800000 in
theorem short_any (A : Option Addr) (n c : Nat) (w : World) : Calls Try.prog 47 #[.slice A n c] w fun e w' => e = .returned (.bool (shr n)) ∧ Below w.heap.size w w' := by
  by_cases h1 : n ≤ 60
  · have p1 : (n : Int) ≤ 60 := by omega
    rw [show shr n = true by simp [shr, h1]]
    go_enter Try.func47, Try.ntmps47
    go_wp2
    go_ret
    exact ⟨rfl, by (repeat (first | with_reducible exact Below.refl _ _ | with_reducible assumption | with_reducible refine Below.alloc ?_ (by first | (simp; done) | (simp; omega) | omega) _ | with_reducible refine Below.setCell ?_ (by first | (simp; done) | (simp; omega) | omega) _ | with_reducible refine Below.drew ?_ | with_reducible refine below_drewN ?_ _))⟩
  · have p1 : ¬ (n : Int) ≤ 60 := by omega
    by_cases h2 : 400 < n
    · have p2 : (n : Int) > 400 := by omega
      by_cases h3 : n ≤ 404
      · have p3 : (n : Int) ≤ 404 := by omega
        rw [show shr n = true by simp [shr, h2, h3]]
        go_enter Try.func47, Try.ntmps47
        go_wp2
        go_ret
        exact ⟨rfl, by (repeat (first | with_reducible exact Below.refl _ _ | with_reducible assumption | with_reducible refine Below.alloc ?_ (by first | (simp; done) | (simp; omega) | omega) _ | with_reducible refine Below.setCell ?_ (by first | (simp; done) | (simp; omega) | omega) _ | with_reducible refine Below.drew ?_ | with_reducible refine below_drewN ?_ _))⟩
      · have p3 : ¬ (n : Int) ≤ 404 := by omega
        rw [show shr n = false by simp [shr, h1, h3]]
        go_enter Try.func47, Try.ntmps47
        go_wp2
        go_ret
        exact ⟨rfl, by (repeat (first | with_reducible exact Below.refl _ _ | with_reducible assumption | with_reducible refine Below.alloc ?_ (by first | (simp; done) | (simp; omega) | omega) _ | with_reducible refine Below.setCell ?_ (by first | (simp; done) | (simp; omega) | omega) _ | with_reducible refine Below.drew ?_ | with_reducible refine below_drewN ?_ _))⟩
    · have p2 : ¬ (n : Int) > 400 := by omega
      rw [show shr n = false by simp [shr, h1, h2]]
      go_enter Try.func47, Try.ntmps47
      go_wp2
      go_ret
      exact ⟨rfl, by (repeat (first | with_reducible exact Below.refl _ _ | with_reducible assumption | with_reducible refine Below.alloc ?_ (by first | (simp; done) | (simp; omega) | omega) _ | with_reducible refine Below.setCell ?_ (by first | (simp; done) | (simp; omega) | omega) _ | with_reducible refine Below.drew ?_ | with_reducible refine below_drewN ?_ _))⟩
end Go.Proofs.Ytpkacfgmojblbaa
