/- The statement PathDistancesSaid: whatever the two tracks and the two times, the law PathDistances returns true, and its arguments read afterwards as before. -/
import Derived.Test.YtnfoagcpgegldaaGreatB32
import Derived.Test.YtnfoagcpgegldaaGreatB34
namespace Go.Proofs.YtnfoagcpgegldaaGreat
open Go.ChangeShapes Go.WideShapes Go.ChangeAt Go.RowKit Go.Joins Go.Deep Go.Shelf Go.Sort
set_option maxRecDepth 100000 in
set_option maxHeartbeats 800000 in
theorem dist_0 (A B : Option Addr) (na nb ca cb : Nat) (da db T0 T1 : Int) (w : World)
    (hFW : ∀ W, Calls Tryz.prog 12 #[.agg #[.slice A na ca, .int .i64 da], .agg #[.slice B nb cb, .int .i64 db]] W fun e w' => e = .returned (.bool false) ∧ Below W.heap.size W w') :
    Calls Tryz.prog 3 #[.agg #[.slice A na ca, .int .i64 da], .agg #[.slice B nb cb, .int .i64 db], .agg #[.int .i64 T0, .int .i64 T1]] w fun e w' => e = .returned (.bool true) ∧ Below w.heap.size w w' := by
  have HFW := Lib.hid hFW
  clear hFW
  go_enter Tryz.func3, Tryz.ntmps3
  go_wp2_with (first
    | (go_at_call 11; (with_reducible refine Calls.mono (awake_any _) ?_); rintro e w1 ⟨rfl, hb1⟩; have B1 := Lib.hid (thenB (show Below w.heap.size w _ by (repeat (first | with_reducible exact Below.refl _ _ | with_reducible assumption | with_reducible refine Below.alloc ?_ (by first | (simp; done) | (simp; omega) | omega) _ | with_reducible refine Below.setCell ?_ (by first | (simp; done) | (simp; omega) | omega) _ | with_reducible refine Below.drew ?_ | with_reducible refine below_drewN ?_ _))) hb1); have a0 := keep hb1 (b := w.heap.size) (o := 0) (v := .slice A na ca) (by simp [go_sem]); have a1 := keep hb1 (b := w.heap.size) (o := 1) (v := .int .i64 da) (by simp [go_sem]); have b0 := keep hb1 (b := w.heap.size + 1) (o := 0) (v := .slice B nb cb) (by simp [go_sem]); have b1 := keep hb1 (b := w.heap.size + 1) (o := 1) (v := .int .i64 db) (by simp [go_sem]); clear hb1)
    | (go_at_call 12; (with_reducible refine Calls.mono (HFW.out _) ?_); rintro e w2 ⟨rfl, hb2⟩; have B2 := Lib.hid (thenB B1.out hb2); clear hb2)
    | fail)
  go_ret
  exact ⟨rfl, B2.out⟩
theorem pathDistances_any (A B : Option Addr) (na nb ca cb : Nat) (da db T0 T1 : Int) (ka kb : Nat → Knot) (w : World) (hn : na ≤ 9223372036854775807) (hm : nb ≤ 9223372036854775807) (hA0 : A = none → na = 0 ∧ ca = 0) (hB0 : B = none → nb = 0 ∧ cb = 0) (hA : KA w A na ka) (hB : KA w B nb kb) :
    Calls Tryz.prog 3 #[.agg #[.slice A na ca, .int .i64 da], .agg #[.slice B nb cb, .int .i64 db], .agg #[.int .i64 T0, .int .i64 T1]] w fun e w' => e = .returned (.bool true) ∧ Below w.heap.size w w' := by
  have hF := fun W => few2_any A B na ca nb cb da db W hn hm
  by_cases h : na ≤ 14 ∧ nb ≤ 14
  · obtain ⟨na1, nb1⟩ := h
    have q : (decide ((na : Int) ≤ 14) && decide ((nb : Int) ≤ 14)) = true := by simp; omega
    rw [q] at hF
    have hRA : ∀ W X cx Y cy, KA W X na ka → KA W Y nb kb → Calls Tryz.prog 13 #[.agg #[.slice X na cx, .int .i64 da], .agg #[.slice Y nb cy, .int .i64 db], .int .i64 T0] W fun e w' => e = .returned (.tuple #[.agg #[.int .i64 (dsLo ⟨A, na, ca, ka, da⟩ ⟨B, nb, cb, kb, db⟩ T0), .int .i64 (dsHi ⟨A, na, ca, ka, da⟩ ⟨B, nb, cb, kb, db⟩ T0)], .int .i64 (distErr ⟨A, na, ca, ka, da⟩ ⟨B, nb, cb, kb, db⟩ T0)]) ∧ Below W.heap.size W w' :=
      fun W X cx Y cy h1 h2 => distanceAt_n ⟨X, na, cx, ka, da⟩ ⟨Y, nb, cy, kb, db⟩ T0 W ⟨h1, by show na ≤ _; omega⟩ ⟨h2, by show nb ≤ _; omega⟩
    have hSA : ∀ W X cx Y cy, KA W X na ka → KA W Y nb kb → Calls Tryz.prog 15 #[.agg #[.slice X na cx, .int .i64 da], .agg #[.slice Y nb cy, .int .i64 db], .agg #[.int .i64 T0, .int .i64 T1]] W fun e w' => e = .returned (.tuple #[.agg #[.int .i64 (chLo ⟨A, na, ca, ka, da⟩ ⟨B, nb, cb, kb, db⟩ T0 T1), .int .i64 (chHi ⟨A, na, ca, ka, da⟩ ⟨B, nb, cb, kb, db⟩ T0 T1)], .int .i64 (chE ⟨A, na, ca, ka, da⟩ ⟨B, nb, cb, kb, db⟩ T0 T1)]) ∧ Below W.heap.size W w' :=
      fun W X cx Y cy h1 h2 => changeOf_x X Y na cx nb cy ka kb da db T0 T1 W ⟨h1, by show na ≤ _; omega⟩ ⟨h2, by show nb ≤ _; omega⟩
    have hBE := fun W (h1 : KA W A na ka) (h2 : KA W B nb kb) => bothErr_any A B na ca nb cb da db ka kb W hn hm h1 h2
    by_cases hD : (if ctErr ka na da = 0 then ctErr kb nb db else ctErr ka na da) = 0
    · rw [hD] at hBE
      have eA : ctErr ka na da = 0 := by
        by_cases e : ctErr ka na da = 0
        · exact e
        · rw [if_neg e] at hD; exact hD
      have eB : ctErr kb nb db = 0 := by rw [if_pos eA] at hD; exact hD
      obtain ⟨va1, va2, _, _⟩ := valid_of eA
      obtain ⟨vb1, vb2, _, _⟩ := valid_of eB
      have at0 : ∀ W, KA W A na ka → KA W B nb kb → ∃ ba oa bb ob, A = some ⟨ba, oa, none⟩ ∧ B = some ⟨bb, ob, none⟩ ∧ (Trk.mk ba oa na ca ka da).At W ∧ (Trk.mk bb ob nb cb kb db).At W := by
        intro W h1 h2
        obtain ⟨ba, oa, e1, hta⟩ := TV.valid (t := ⟨A, na, ca, ka, da⟩) (w := W) ⟨h1, by show na ≤ _; omega⟩ eA
        obtain ⟨bb, ob, e2, htb⟩ := TV.valid (t := ⟨B, nb, cb, kb, db⟩) (w := W) ⟨h2, by show nb ≤ _; omega⟩ eB
        exact ⟨ba, oa, bb, ob, e1, e2, hta, htb⟩
      have hTE : ∀ (T : Int) W, KA W A na ka → KA W B nb kb → Calls Tryz.prog 17 #[.agg #[.slice A na ca, .int .i64 da], .agg #[.slice B nb cb, .int .i64 db], .int .i64 T] W fun e w' => e = .returned (.int .i64 (timesErr ⟨A, na, ca, ka, da⟩ ⟨B, nb, cb, kb, db⟩ T)) ∧ Below W.heap.size W w' := by
        intro T W h1 h2
        obtain ⟨ba, oa, bb, ob, rfl, rfl, hta, htb⟩ := at0 W h1 h2
        exact timesErr_any ba oa bb ob na ca nb cb da db T ka kb W va1 (by omega) vb1 (by omega) hta.2.2 htb.2.2
      have hTE0 := hTE T0
      have hTE1 := hTE T1
      have hch : distErr ⟨A, na, ca, ka, da⟩ ⟨B, nb, cb, kb, db⟩ T0 = timesErr ⟨A, na, ca, ka, da⟩ ⟨B, nb, cb, kb, db⟩ T0 := by unfold distErr bothErr; rw [if_pos (show TV.err ⟨A, na, ca, ka, da⟩ = 0 from eA), if_pos (show TV.err ⟨B, nb, cb, kb, db⟩ = 0 from eB)]
      by_cases hT : timesErr ⟨A, na, ca, ka, da⟩ ⟨B, nb, cb, kb, db⟩ T0 = 0
      · rw [hT] at hTE0 hch
        obtain ⟨_, _, oA, oB⟩ := distErr_0 hch
        have ec : chE ⟨A, na, ca, ka, da⟩ ⟨B, nb, cb, kb, db⟩ T0 T1 = if timesErr ⟨A, na, ca, ka, da⟩ ⟨B, nb, cb, kb, db⟩ T1 = 0 then (if T0 ≤ T1 then 0 else 9) else timesErr ⟨A, na, ca, ka, da⟩ ⟨B, nb, cb, kb, db⟩ T1 := by unfold chE; rw [if_pos hch]
        have el : dsLo ⟨A, na, ca, ka, da⟩ ⟨B, nb, cb, kb, db⟩ T0 = dLo (TV.t ⟨A, na, ca, ka, da⟩) (TV.t ⟨B, nb, cb, kb, db⟩) T0 := by unfold dsLo; rw [if_pos hch]
        have eh : dsHi ⟨A, na, ca, ka, da⟩ ⟨B, nb, cb, kb, db⟩ T0 = dHi (TV.t ⟨A, na, ca, ka, da⟩) (TV.t ⟨B, nb, cb, kb, db⟩) T0 := by unfold dsHi; rw [if_pos hch]
        rw [el, eh, hch] at hRA
        have hRR : ∀ (T : Int), outside T ka na = false → outside T kb nb = false → ∀ W, KA W A na ka → KA W B nb kb → Calls Tryz.prog 18 #[.agg #[.slice A na ca, .int .i64 da], .agg #[.slice B nb cb, .int .i64 db], .int .i64 T] W fun e w' => e = .returned (.agg #[.int .i64 (dLo (TV.t ⟨A, na, ca, ka, da⟩) (TV.t ⟨B, nb, cb, kb, db⟩) T), .int .i64 (dHi (TV.t ⟨A, na, ca, ka, da⟩) (TV.t ⟨B, nb, cb, kb, db⟩) T)]) ∧ Below W.heap.size W w' := by
          intro T o1 o2 W h1 h2
          obtain ⟨ba, oa, bb, ob, rfl, rfl, hta, htb⟩ := at0 W h1 h2
          exact rdist_n ⟨ba, oa, na, ca, ka, da⟩ ⟨bb, ob, nb, cb, kb, db⟩ T W ⟨hta, eA, o1⟩ ⟨htb, eB, o2⟩
        have hR0 := hRR T0 oA oB
        by_cases hU : timesErr ⟨A, na, ca, ka, da⟩ ⟨B, nb, cb, kb, db⟩ T1 = 0
        · rw [hU] at hTE1
          rw [if_pos hU] at ec
          obtain ⟨_, _, oA1, oB1⟩ := distErr_0 (rv_0 (A := ⟨A, na, ca, ka, da⟩) (B := ⟨B, nb, cb, kb, db⟩) eA eB hU)
          by_cases hO : T0 ≤ T1
          · rw [if_pos hO] at ec
            have cl : chLo ⟨A, na, ca, ka, da⟩ ⟨B, nb, cb, kb, db⟩ T0 T1 = dLo (TV.t ⟨A, na, ca, ka, da⟩) (TV.t ⟨B, nb, cb, kb, db⟩) T1 - dHi (TV.t ⟨A, na, ca, ka, da⟩) (TV.t ⟨B, nb, cb, kb, db⟩) T0 := by unfold chLo; rw [if_pos ec]
            have chh : chHi ⟨A, na, ca, ka, da⟩ ⟨B, nb, cb, kb, db⟩ T0 T1 = dHi (TV.t ⟨A, na, ca, ka, da⟩) (TV.t ⟨B, nb, cb, kb, db⟩) T1 - dLo (TV.t ⟨A, na, ca, ka, da⟩) (TV.t ⟨B, nb, cb, kb, db⟩) T0 := by unfold chHi; rw [if_pos ec]
            rw [ec, cl, chh] at hSA
            obtain ⟨v1, n1, f1, b1⟩ := sqF_lt (A := TV.t ⟨A, na, ca, ka, da⟩) (B := TV.t ⟨B, nb, cb, kb, db⟩) (s := T0) (r := T0) ⟨eA, oA⟩ ⟨eB, oB⟩
            obtain ⟨v2, n2, f2, b2⟩ := sqF_lt (A := TV.t ⟨A, na, ca, ka, da⟩) (B := TV.t ⟨B, nb, cb, kb, db⟩) (s := T1) (r := T1) ⟨eA, oA1⟩ ⟨eB, oB1⟩
            have g1 := (lo_spec n1 (dLo_RL (TV.t ⟨A, na, ca, ka, da⟩) (TV.t ⟨B, nb, cb, kb, db⟩) T0)).1
            have g2 := (dLo_RL (TV.t ⟨A, na, ca, ka, da⟩) (TV.t ⟨B, nb, cb, kb, db⟩) T0).2.1
            have g3 := (dHi_RL (TV.t ⟨A, na, ca, ka, da⟩) (TV.t ⟨B, nb, cb, kb, db⟩) T0).1
            have g4 := (dHi_RL (TV.t ⟨A, na, ca, ka, da⟩) (TV.t ⟨B, nb, cb, kb, db⟩) T0).2.1
            have g5 := (lo_spec n2 (dLo_RL (TV.t ⟨A, na, ca, ka, da⟩) (TV.t ⟨B, nb, cb, kb, db⟩) T1)).1
            have g6 := (dLo_RL (TV.t ⟨A, na, ca, ka, da⟩) (TV.t ⟨B, nb, cb, kb, db⟩) T1).2.1
            have g7 := (dHi_RL (TV.t ⟨A, na, ca, ka, da⟩) (TV.t ⟨B, nb, cb, kb, db⟩) T1).1
            have g8 := (dHi_RL (TV.t ⟨A, na, ca, ka, da⟩) (TV.t ⟨B, nb, cb, kb, db⟩) T1).2.1
            have hR1 := hRR T1 oA1 oB1
            exact dist_G A B na nb ca cb da db T0 T1 _ _ _ _ ka kb w hA0 hB0 hA hB na1 nb1 hF hRA hSA hBE hTE0 hR0 hTE1 hO (fun W h1 h2 => rchange_w A B na ca nb cb da db T0 T1 _ _ _ _ W (by omega) (by omega) (by omega) (by omega) (by omega) (by omega) (by omega) (by omega) (fun W' hb => hR0 W' (KA.bel h1 hb) (KA.bel h2 hb)) (fun W' hb => hR1 W' (KA.bel h1 hb) (KA.bel h2 hb)))
          · rw [if_neg hO] at ec
            unfold chLo chHi at hSA
            rw [ec] at hSA
            change ∀ W X cx Y cy, _ → _ → Calls _ _ _ _ (fun e w' => e = .returned (.tuple #[.agg #[.int .i64 0, .int .i64 0], .int .i64 9]) ∧ _) at hSA
            exact dist_O A B na nb ca cb da db T0 T1 _ _ ka kb w hA0 hB0 hA hB na1 nb1 hF hRA hSA hBE hTE0 hR0 hTE1 (by omega)
        · rw [if_neg hU] at ec
          generalize timesErr ⟨A, na, ca, ka, da⟩ ⟨B, nb, cb, kb, db⟩ T1 = U at *
          unfold chLo chHi at hSA
          rw [ec] at hSA
          simp only [if_neg hU] at hSA
          exact dist_U A B na nb ca cb da db T0 T1 _ _ U ka kb w hA0 hB0 hA hB na1 nb1 hF hRA hSA hBE hTE0 hR0 hTE1 (by simpa using hU) (by simpa using hU)
      · generalize timesErr ⟨A, na, ca, ka, da⟩ ⟨B, nb, cb, kb, db⟩ T0 = T at *
        have ec : chE ⟨A, na, ca, ka, da⟩ ⟨B, nb, cb, kb, db⟩ T0 T1 = T := by unfold chE; rw [hch, if_neg hT]
        unfold dsLo dsHi at hRA
        unfold chLo chHi at hSA
        rw [hch] at hRA
        rw [ec] at hSA
        simp only [if_neg hT] at hRA hSA
        exact dist_T A B na nb ca cb da db T0 T1 T ka kb w hA0 hB0 hA hB na1 nb1 hF hRA hSA hBE hTE0 (by simpa using hT)
    · have hd : distErr ⟨A, na, ca, ka, da⟩ ⟨B, nb, cb, kb, db⟩ T0 = if ctErr ka na da = 0 then ctErr kb nb db else ctErr ka na da := by
        unfold distErr bothErr TV.err
        exact if_neg hD
      generalize (if ctErr ka na da = 0 then ctErr kb nb db else ctErr ka na da) = D at *
      have ec : chE ⟨A, na, ca, ka, da⟩ ⟨B, nb, cb, kb, db⟩ T0 T1 = D := by unfold chE; rw [hd, if_neg hD]
      unfold dsLo dsHi at hRA
      unfold chLo chHi at hSA
      rw [hd] at hRA
      rw [ec] at hSA
      simp only [if_neg hD] at hRA hSA
      exact dist_D A B na nb ca cb da db T0 T1 D ka kb w hA0 hB0 hA hB na1 nb1 hF hRA hSA hBE (by simpa using hD) (by simpa using hD)
  · have q : (decide ((na : Int) ≤ 14) && decide ((nb : Int) ≤ 14)) = false := by simp; omega
    rw [q] at hF
    exact dist_0 A B na nb ca cb da db T0 T1 w hF
theorem cells2i : Tryz.prog.cellsOf 25 = 2 := by kernel_rfl
set_option maxRecDepth 100000 in
theorem open_pair {H : Type} {enc : TypeId × Value → H} {w : World} {base : Nat} {sp : Nat → Bool} {held : Bool} {r : Reach} {b0 : Nat} {v : Value} {d : DataW H} {p : List MemPlace} (hv : Value.okWide Tryz.prog w r b0 25 v) (h : DataW.Trod enc Tryz.prog w base sp held 25 v d p) :
    ∃ a b : Int, v = .agg #[.int .i64 a, .int .i64 b] := by
  obtain ⟨cs, rfl, hsz⟩ : ∃ cs, v = .agg cs ∧ cs.size = Tryz.prog.cellsOf 25 := by
    simp only [Value.okWide, Tryz.underlying25] at hv
    obtain ⟨cs, h1, h2, _⟩ := hv
    exact ⟨cs, h1, h2⟩
  obtain ⟨c0, c1, rfl⟩ := array2 (hsz.trans cells2i)
  obtain ⟨fuel, hf⟩ := h
  obtain ⟨xs, m, _, _, hl, hlen, hg⟩ := DataW.trod_array Tryz.underlying25 hf
  match xs, hlen with
  | [y0, y1], _ =>
    have h0 := hg 0 (by omega)
    have h1 := hg 1 (by omega)
    simp [cells1, Value.cells] at h0 h1
    obtain ⟨a, e0, _, _⟩ := DataW.trod_int Tryz.underlying3 h0
    obtain ⟨b, e1, _, _⟩ := DataW.trod_int Tryz.underlying3 h1
    simp at e0 e1
    exact ⟨a, b, by rw [e0, e1]⟩
set_option maxRecDepth 100000 in
theorem pathDistances_lifted (os : Os) (started : os.Started) (H : Type) (enc : TypeId × Value → H) :
    ReturnsInHanded {} Tryz.checked os 3 .any (Rows.pathDistancesSpec.pre6 enc Tryz.prog Tryz.f3 Rows.pathDistancesRow.domain false) (Rows.pathDistancesSpec.post enc Tryz.prog Tryz.f3 false true false false) := by
  refine returnsInHanded_of_change (C := Tryz.checked) owned started (by kernel_rfl) Tryz.func3
    (ChangeSpec.witness6 (enc := enc) (C := Tryz.checked) false ⟨#[], #[.agg #[.slice none 0 0, .int .i64 0], .agg #[.slice none 0 0, .int .i64 0], .agg #[.int .i64 0, .int .i64 0]], []⟩ 8 (by kernel_rfl) (by kernel_rfl) (by kernel_rfl) (by kernel_rfl)) ?_
  intro W base args ds gs before hval0 hW hcnd _
  have hval : ∀ (j : Nat) t v, Tryz.f3.params[j]? = some t → args[j]? = some v → Value.okWide Tryz.prog W .any base t v := hval0
  have hW' := hW
  obtain ⟨p, q, hA0, hV, rfl, hfz, hnd⟩ := hW
  have hA : DataW.TrodAll enc Tryz.prog W 0 (fun _ => true) true Tryz.f3.params.toList args.toList ds p := hA0
  rw [Tryz.params3] at hA hval
  obtain ⟨v0, vs0, d0, ds0, p0, q0, hargs, rfl, rfl, h0, r0⟩ := trodAll_cons hA
  obtain ⟨v1, vs1, d1, ds1, p1, q1, rfl, rfl, rfl, h1, r1⟩ := trodAll_cons r0
  obtain ⟨v2, vs2, d2, ds2, p2, q2, rfl, rfl, rfl, h2, r2⟩ := trodAll_cons r1
  obtain ⟨rfl, rfl, rfl⟩ := trodAll_nil r2
  obtain rfl : args = #[v0, v1, v2] := by cases args; simp_all
  obtain ⟨rfl, rfl⟩ := trodVars_none hV
  have k0 := h0
  have k1 := h1
  have lt0 : ∀ x ∈ p0, x.block < W.heap.size := by obtain ⟨m, hm⟩ := k0; exact DataW.trod_lt m _ _ _ hm
  have lt1 : ∀ x ∈ p1, x.block < W.heap.size := by obtain ⟨m, hm⟩ := k1; exact DataW.trod_lt m _ _ _ hm
  obtain ⟨A, n, c, k, db, rfl, hn, hA1, hA2⟩ := open_track (hval 0 24 v0 rfl rfl) h0
  obtain ⟨B, m, c', k', db', rfl, hm, hB1, hB2⟩ := open_track (hval 1 24 v1 rfl rfl) h1
  have k2 := h2
  have lt2 : ∀ x ∈ p2, x.block < W.heap.size := by obtain ⟨m, hm⟩ := k2; exact DataW.trod_lt m _ _ _ hm
  obtain ⟨T0, T1, rfl⟩ := open_pair (hval 2 25 v2 rfl rfl) h2
  clear hA0 hval0
  refine (pathDistances_any A B n m c c' db db' T0 T1 k k' W hn hm hA1 hB1 hA2 hB2).mono fun e W' ⟨he, bel⟩ => ?_
  subst he
  exact ⟨_, rfl, _, _, _, [], _, [], hW', trodAll_mk1 (shut_bool Tryz.underlying4 _), (trodAll_cons_mk (Below.trod laidAll (by kernel_rfl) (of_decide_eq_true (by kernel_rfl)) k0 bel lt0) (trodAll_cons_mk (Below.trod laidAll (by kernel_rfl) (of_decide_eq_true (by kernel_rfl)) k1 bel lt1) (trodAll_cons_mk (Below.trod laidAll (by kernel_rfl) (of_decide_eq_true (by kernel_rfl)) k2 bel lt2) trodAll_mk0))), rfl, bel.frame _, fun h => by cases h⟩
theorem pathDistances_over : Rows.pathDistancesRow.holds Tryz.pinned (OpenSpec.ofChange Rows.pathDistancesSpec) :=
  OpenClaim.holds_of_wide 3 Tryz.f3 rfl rfl rfl rfl rfl rfl rfl ⟨by kernel_rfl, by kernel_rfl, by kernel_rfl, by kernel_rfl, by kernel_rfl⟩ rfl rfl rfl rfl rfl (by kernel_rfl) Tryz.func3 (by kernel_rfl)
    (of_decide_eq_true (by kernel_rfl)) (by unfold Func.isWrapper; first | (rw [if_pos (by decide +kernel)]; kernel_rfl) | (rw [if_neg (by decide +kernel)]; exact ⟨rfl, rfl⟩))
    (fun os started H enc _ => pathDistances_lifted os started H enc)
/-- THE STATEMENT. -/
theorem pathDistances_holds : Rows.PathDistancesSaid := pathDistances_over
end Go.Proofs.YtnfoagcpgegldaaGreat
