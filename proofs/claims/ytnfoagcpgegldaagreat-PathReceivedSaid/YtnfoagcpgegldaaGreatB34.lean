/- The statement PathReceivedSaid: whatever the two tracks and the time, the law PathReceived returns true, and its arguments read afterwards as before. -/
import Derived.Test.YtnfoagcpgegldaaGreatB33
import Derived.Test.YtnfoagcpgegldaaGreatB30
namespace Go.Proofs.YtnfoagcpgegldaaGreat
open Go.ChangeShapes Go.WideShapes Go.ChangeAt Go.RowKit Go.Joins Go.Deep Go.Shelf Go.Sort
set_option maxRecDepth 100000 in
set_option maxHeartbeats 800000 in
theorem recv_0 (A B : Option Addr) (na nb ca cb : Nat) (da db s : Int) (w : World)
    (hFW : ∀ W, Calls Tryz.prog 12 #[.agg #[.slice A na ca, .int .i64 da], .agg #[.slice B nb cb, .int .i64 db]] W fun e w' => e = .returned (.bool false) ∧ Below W.heap.size W w') :
    Calls Tryz.prog 4 #[.agg #[.slice A na ca, .int .i64 da], .agg #[.slice B nb cb, .int .i64 db], .int .i64 s] w fun e w' => e = .returned (.bool true) ∧ Below w.heap.size w w' := by
  have HFW := Lib.hid hFW
  clear hFW
  go_enter Tryz.func4, Tryz.ntmps4
  go_wp2_with (first
    | (go_at_call 11; (with_reducible refine Calls.mono (awake_any _) ?_); rintro e w1 ⟨rfl, hb1⟩; have B1 := Lib.hid (thenB (show Below w.heap.size w _ by (repeat (first | with_reducible exact Below.refl _ _ | with_reducible assumption | with_reducible refine Below.alloc ?_ (by first | (simp; done) | (simp; omega) | omega) _ | with_reducible refine Below.setCell ?_ (by first | (simp; done) | (simp; omega) | omega) _ | with_reducible refine Below.drew ?_ | with_reducible refine below_drewN ?_ _))) hb1); have a0 := keep hb1 (b := w.heap.size) (o := 0) (v := .slice A na ca) (by simp [go_sem]); have a1 := keep hb1 (b := w.heap.size) (o := 1) (v := .int .i64 da) (by simp [go_sem]); have b0 := keep hb1 (b := w.heap.size + 1) (o := 0) (v := .slice B nb cb) (by simp [go_sem]); have b1 := keep hb1 (b := w.heap.size + 1) (o := 1) (v := .int .i64 db) (by simp [go_sem]); clear hb1)
    | (go_at_call 12; (with_reducible refine Calls.mono (HFW.out _) ?_); rintro e w2 ⟨rfl, hb2⟩; have B2 := Lib.hid (thenB B1.out hb2); clear hb2)
    | fail)
  go_ret
  exact ⟨rfl, B2.out⟩
theorem pathReceived_any (A B : Option Addr) (na nb ca cb : Nat) (da db s : Int) (ka kb : Nat → Knot) (w : World) (hn : na ≤ 9223372036854775807) (hm : nb ≤ 9223372036854775807) (hA0 : A = none → na = 0 ∧ ca = 0) (hB0 : B = none → nb = 0 ∧ cb = 0) (hA : KA w A na ka) (hB : KA w B nb kb) :
    Calls Tryz.prog 4 #[.agg #[.slice A na ca, .int .i64 da], .agg #[.slice B nb cb, .int .i64 db], .int .i64 s] w fun e w' => e = .returned (.bool true) ∧ Below w.heap.size w w' := by
  have hF := fun W => few2_any A B na ca nb cb da db W hn hm
  by_cases h : na ≤ 14 ∧ nb ≤ 14
  · obtain ⟨na1, nb1⟩ := h
    have q : (decide ((na : Int) ≤ 14) && decide ((nb : Int) ≤ 14)) = true := by simp; omega
    rw [q] at hF
    have hRA : ∀ W X cx Y cy, KA W X na ka → KA W Y nb kb → Calls Tryz.prog 20 #[.agg #[.slice X na cx, .int .i64 da], .agg #[.slice Y nb cy, .int .i64 db], .int .i64 s] W fun e w' => e = .returned (.tuple #[.agg #[.int .i64 (rvLo ⟨A, na, ca, ka, da⟩ ⟨B, nb, cb, kb, db⟩ s), .int .i64 (rvHi ⟨A, na, ca, ka, da⟩ ⟨B, nb, cb, kb, db⟩ s)], .int .i64 (rvE ⟨A, na, ca, ka, da⟩ ⟨B, nb, cb, kb, db⟩ s)]) ∧ Below W.heap.size W w' :=
      fun W X cx Y cy h1 h2 => receivedAt_n ⟨X, na, cx, ka, da⟩ ⟨Y, nb, cy, kb, db⟩ s W ⟨h1, by show na ≤ _; omega⟩ ⟨h2, by show nb ≤ _; omega⟩
    have hSA : ∀ W X cx Y cy, KA W X na ka → KA W Y nb kb → Calls Tryz.prog 21 #[.agg #[.slice X na cx, .int .i64 da], .agg #[.slice Y nb cy, .int .i64 db], .int .i64 s] W fun e w' => e = .returned (.tuple #[.agg #[.int .i64 (stLo ⟨A, na, ca, ka, da⟩ ⟨B, nb, cb, kb, db⟩ s), .int .i64 (stHi ⟨A, na, ca, ka, da⟩ ⟨B, nb, cb, kb, db⟩ s)], .int .i64 (stE ⟨A, na, ca, ka, da⟩ ⟨B, nb, cb, kb, db⟩ s)]) ∧ Below W.heap.size W w' :=
      fun W X cx Y cy h1 h2 => sentAt_n X Y na cx nb cy ka kb da db s W ⟨h1, by show na ≤ _; omega⟩ ⟨h2, by show nb ≤ _; omega⟩
    have hBE := fun W (h1 : KA W A na ka) (h2 : KA W B nb kb) => bothErr_any A B na ca nb cb da db ka kb W hn hm h1 h2
    by_cases hD : (if ctErr ka na da = 0 then ctErr kb nb db else ctErr ka na da) = 0
    · rw [hD] at hBE
      have eA : ctErr ka na da = 0 := by
        by_cases e : ctErr ka na da = 0
        · exact e
        · rw [if_neg e] at hD; exact hD
      have eB : ctErr kb nb db = 0 := by rw [if_pos eA] at hD; exact hD
      obtain ⟨va1, va2, _, _⟩ := valid_of eA
      obtain ⟨vb1, vb2, _, _⟩ := valid_of eB
      have at0 : ∀ W, KA W A na ka → KA W B nb kb → ∃ ba oa bb ob, A = some ⟨ba, oa, none⟩ ∧ B = some ⟨bb, ob, none⟩ ∧ (Trk.mk ba oa na ca ka da).At W ∧ (Trk.mk bb ob nb cb kb db).At W := by
        intro W h1 h2
        obtain ⟨ba, oa, e1, hta⟩ := TV.valid (t := ⟨A, na, ca, ka, da⟩) (w := W) ⟨h1, by show na ≤ _; omega⟩ eA
        obtain ⟨bb, ob, e2, htb⟩ := TV.valid (t := ⟨B, nb, cb, kb, db⟩) (w := W) ⟨h2, by show nb ≤ _; omega⟩ eB
        exact ⟨ba, oa, bb, ob, e1, e2, hta, htb⟩
      have hTE : ∀ W, KA W A na ka → KA W B nb kb → Calls Tryz.prog 17 #[.agg #[.slice A na ca, .int .i64 da], .agg #[.slice B nb cb, .int .i64 db], .int .i64 s] W fun e w' => e = .returned (.int .i64 (timesErr ⟨A, na, ca, ka, da⟩ ⟨B, nb, cb, kb, db⟩ s)) ∧ Below W.heap.size W w' := by
        intro W h1 h2
        obtain ⟨ba, oa, bb, ob, rfl, rfl, hta, htb⟩ := at0 W h1 h2
        exact timesErr_any ba oa bb ob na ca nb cb da db s ka kb W va1 (by omega) vb1 (by omega) hta.2.2 htb.2.2
      by_cases hT : timesErr ⟨A, na, ca, ka, da⟩ ⟨B, nb, cb, kb, db⟩ s = 0
      · rw [hT] at hTE
        have hd := rv_0 (A := ⟨A, na, ca, ka, da⟩) (B := ⟨B, nb, cb, kb, db⟩) eA eB hT
        obtain ⟨_, _, oA, oB⟩ := distErr_0 hd
        have atV : ∀ W, KA W A na ka → KA W B nb kb → ∃ ba oa bb ob, A = some ⟨ba, oa, none⟩ ∧ B = some ⟨bb, ob, none⟩ ∧ VT W (Trk.mk ba oa na ca ka da) s ∧ VT W (Trk.mk bb ob nb cb kb db) s := by
          intro W h1 h2
          obtain ⟨ba, oa, bb, ob, e1, e2, hta, htb⟩ := at0 W h1 h2
          exact ⟨ba, oa, bb, ob, e1, e2, ⟨hta, eA, oA⟩, ⟨htb, eB, oB⟩⟩
        have RN : arrB (TV.t ⟨A, na, ca, ka, da⟩) (TV.t ⟨B, nb, cb, kb, db⟩) s (lastT (TV.t ⟨B, nb, cb, kb, db⟩)) = false → ∀ W, KA W A na ka → KA W B nb kb → Calls Tryz.prog 22 #[.agg #[.slice A na ca, .int .i64 da], .agg #[.slice B nb cb, .int .i64 db], .int .i64 s] W fun e w' => e = .returned (.tuple #[.agg #[.int .i64 0, .int .i64 0], .bool false]) ∧ Below W.heap.size W w' := by
          intro hq W h1 h2
          obtain ⟨ba, oa, bb, ob, rfl, rfl, v1, v2⟩ := atV W h1 h2
          exact rrcv_no ⟨ba, oa, na, ca, ka, da⟩ ⟨bb, ob, nb, cb, kb, db⟩ s W v1 v2 hq
        have RY : arrB (TV.t ⟨A, na, ca, ka, da⟩) (TV.t ⟨B, nb, cb, kb, db⟩) s (lastT (TV.t ⟨B, nb, cb, kb, db⟩)) = true → ∀ W, KA W A na ka → KA W B nb kb → Calls Tryz.prog 22 #[.agg #[.slice A na ca, .int .i64 da], .agg #[.slice B nb cb, .int .i64 db], .int .i64 s] W fun e w' => e = .returned (.tuple #[.agg #[.int .i64 (rcLo (TV.t ⟨A, na, ca, ka, da⟩) (TV.t ⟨B, nb, cb, kb, db⟩) s), .int .i64 (rcHi (TV.t ⟨A, na, ca, ka, da⟩) (TV.t ⟨B, nb, cb, kb, db⟩) s)], .bool true]) ∧ Below W.heap.size W w' := by
          intro hq W h1 h2
          obtain ⟨ba, oa, bb, ob, rfl, rfl, v1, v2⟩ := atV W h1 h2
          exact rrcv_yes ⟨ba, oa, na, ca, ka, da⟩ ⟨bb, ob, nb, cb, kb, db⟩ s W v1 v2 hq
        have SN : arrB (TV.t ⟨A, na, ca, ka, da⟩) (TV.t ⟨B, nb, cb, kb, db⟩) (firstT (TV.t ⟨A, na, ca, ka, da⟩)) s = false → ∀ W, KA W A na ka → KA W B nb kb → Calls Tryz.prog 23 #[.agg #[.slice A na ca, .int .i64 da], .agg #[.slice B nb cb, .int .i64 db], .int .i64 s] W fun e w' => e = .returned (.tuple #[.agg #[.int .i64 0, .int .i64 0], .bool false]) ∧ Below W.heap.size W w' := by
          intro hq W h1 h2
          obtain ⟨ba, oa, bb, ob, rfl, rfl, v1, v2⟩ := atV W h1 h2
          exact rst_no ⟨ba, oa, na, ca, ka, da⟩ ⟨bb, ob, nb, cb, kb, db⟩ s W v1 v2 hq
        have SY : arrB (TV.t ⟨A, na, ca, ka, da⟩) (TV.t ⟨B, nb, cb, kb, db⟩) (firstT (TV.t ⟨A, na, ca, ka, da⟩)) s = true → ∀ W, KA W A na ka → KA W B nb kb → Calls Tryz.prog 23 #[.agg #[.slice A na ca, .int .i64 da], .agg #[.slice B nb cb, .int .i64 db], .int .i64 s] W fun e w' => e = .returned (.tuple #[.agg #[.int .i64 (snD (TV.t ⟨A, na, ca, ka, da⟩) (TV.t ⟨B, nb, cb, kb, db⟩) s - 1), .int .i64 (min s (snL (TV.t ⟨A, na, ca, ka, da⟩) (TV.t ⟨B, nb, cb, kb, db⟩) s))], .bool true]) ∧ Below W.heap.size W w' := by
          intro hq W h1 h2
          obtain ⟨ba, oa, bb, ob, rfl, rfl, v1, v2⟩ := atV W h1 h2
          exact rst_yes ⟨ba, oa, na, ca, ka, da⟩ ⟨bb, ob, nb, cb, kb, db⟩ s W v1 v2 hq
        cases q1 : arrB (TV.t ⟨A, na, ca, ka, da⟩) (TV.t ⟨B, nb, cb, kb, db⟩) s (lastT (TV.t ⟨B, nb, cb, kb, db⟩))
        · have e1 := rv_2 hd q1
          unfold rvLo rvHi at hRA
          rw [e1] at hRA
          change ∀ W X cx Y cy, _ → _ → Calls _ _ _ _ (fun e w' => e = .returned (.tuple #[.agg #[.int .i64 0, .int .i64 0], .int .i64 12]) ∧ _) at hRA
          cases q2 : arrB (TV.t ⟨A, na, ca, ka, da⟩) (TV.t ⟨B, nb, cb, kb, db⟩) (firstT (TV.t ⟨A, na, ca, ka, da⟩)) s
          · have e2 := st_2 hd q2
            unfold stLo stHi at hSA
            rw [e2] at hSA
            change ∀ W X cx Y cy, _ → _ → Calls _ _ _ _ (fun e w' => e = .returned (.tuple #[.agg #[.int .i64 0, .int .i64 0], .int .i64 12]) ∧ _) at hSA
            exact recv_nn A B na nb ca cb da db s ka kb w hA0 hB0 hA hB na1 nb1 hF hRA hSA hBE hTE (RN q1) (SN q2)
          · obtain ⟨e2, e3, e4⟩ := st_3 hd q2
            rw [e2, e3, e4] at hSA
            exact recv_ny A B na nb ca cb da db s _ _ ka kb w hA0 hB0 hA hB na1 nb1 hF hRA hSA hBE hTE (RN q1) (SY q2)
        · obtain ⟨f1, f2, f3⟩ := rv_3 hd q1
          rw [f1, f2, f3] at hRA
          cases q2 : arrB (TV.t ⟨A, na, ca, ka, da⟩) (TV.t ⟨B, nb, cb, kb, db⟩) (firstT (TV.t ⟨A, na, ca, ka, da⟩)) s
          · have e2 := st_2 hd q2
            unfold stLo stHi at hSA
            rw [e2] at hSA
            change ∀ W X cx Y cy, _ → _ → Calls _ _ _ _ (fun e w' => e = .returned (.tuple #[.agg #[.int .i64 0, .int .i64 0], .int .i64 12]) ∧ _) at hSA
            exact recv_yn A B na nb ca cb da db s _ _ ka kb w hA0 hB0 hA hB na1 nb1 hF hRA hSA hBE hTE (RY q1) (SN q2)
          · obtain ⟨e2, e3, e4⟩ := st_3 hd q2
            rw [e2, e3, e4] at hSA
            exact recv_yy A B na nb ca cb da db s _ _ _ _ ka kb w hA0 hB0 hA hB na1 nb1 hF hRA hSA hBE hTE (RY q1) (SY q2)
      · have hd : distErr ⟨A, na, ca, ka, da⟩ ⟨B, nb, cb, kb, db⟩ s = timesErr ⟨A, na, ca, ka, da⟩ ⟨B, nb, cb, kb, db⟩ s := by unfold distErr bothErr; rw [if_pos (show TV.err ⟨A, na, ca, ka, da⟩ = 0 from eA), if_pos (show TV.err ⟨B, nb, cb, kb, db⟩ = 0 from eB)]
        generalize timesErr ⟨A, na, ca, ka, da⟩ ⟨B, nb, cb, kb, db⟩ s = T at *
        have e1 : rvE ⟨A, na, ca, ka, da⟩ ⟨B, nb, cb, kb, db⟩ s = T := by unfold rvE; rw [hd, if_neg hT]
        have e2 : stE ⟨A, na, ca, ka, da⟩ ⟨B, nb, cb, kb, db⟩ s = T := by unfold stE; rw [hd, if_neg hT]
        unfold rvLo rvHi at hRA
        unfold stLo stHi at hSA
        rw [e1] at hRA
        rw [e2] at hSA
        simp only [if_neg hT] at hRA hSA
        exact recv_T A B na nb ca cb da db s T ka kb w hA0 hB0 hA hB na1 nb1 hF hRA hSA hBE hTE (by simpa using hT)
    · have hd : distErr ⟨A, na, ca, ka, da⟩ ⟨B, nb, cb, kb, db⟩ s = if ctErr ka na da = 0 then ctErr kb nb db else ctErr ka na da := by
        unfold distErr bothErr TV.err
        exact if_neg hD
      generalize (if ctErr ka na da = 0 then ctErr kb nb db else ctErr ka na da) = D at *
      have e1 : rvE ⟨A, na, ca, ka, da⟩ ⟨B, nb, cb, kb, db⟩ s = D := by unfold rvE; rw [hd, if_neg hD]
      have e2 : stE ⟨A, na, ca, ka, da⟩ ⟨B, nb, cb, kb, db⟩ s = D := by unfold stE; rw [hd, if_neg hD]
      unfold rvLo rvHi at hRA
      unfold stLo stHi at hSA
      rw [e1] at hRA
      rw [e2] at hSA
      simp only [if_neg hD] at hRA hSA
      exact recv_D A B na nb ca cb da db s D ka kb w hA0 hB0 hA hB na1 nb1 hF hRA hSA hBE (by simpa using hD) (by simpa using hD)
  · have q : (decide ((na : Int) ≤ 14) && decide ((nb : Int) ≤ 14)) = false := by simp; omega
    rw [q] at hF
    exact recv_0 A B na nb ca cb da db s w hF
set_option maxRecDepth 100000 in
theorem pathReceived_lifted (os : Os) (started : os.Started) (H : Type) (enc : TypeId × Value → H) :
    ReturnsInHanded {} Tryz.checked os 4 .any (Rows.pathReceivedSpec.pre6 enc Tryz.prog Tryz.f4 Rows.pathReceivedRow.domain false) (Rows.pathReceivedSpec.post enc Tryz.prog Tryz.f4 false true false false) := by
  refine returnsInHanded_of_change (C := Tryz.checked) owned started (by kernel_rfl) Tryz.func4
    (ChangeSpec.witness6 (enc := enc) (C := Tryz.checked) false ⟨#[], #[.agg #[.slice none 0 0, .int .i64 0], .agg #[.slice none 0 0, .int .i64 0], .int .i64 0], []⟩ 8 (by kernel_rfl) (by kernel_rfl) (by kernel_rfl) (by kernel_rfl)) ?_
  intro W base args ds gs before hval0 hW hcnd _
  have hval : ∀ (j : Nat) t v, Tryz.f4.params[j]? = some t → args[j]? = some v → Value.okWide Tryz.prog W .any base t v := hval0
  have hW' := hW
  obtain ⟨p, q, hA0, hV, rfl, hfz, hnd⟩ := hW
  have hA : DataW.TrodAll enc Tryz.prog W 0 (fun _ => true) true Tryz.f4.params.toList args.toList ds p := hA0
  rw [Tryz.params4] at hA hval
  obtain ⟨v0, vs0, d0, ds0, p0, q0, hargs, rfl, rfl, h0, r0⟩ := trodAll_cons hA
  obtain ⟨v1, vs1, d1, ds1, p1, q1, rfl, rfl, rfl, h1, r1⟩ := trodAll_cons r0
  obtain ⟨v2, vs2, d2, ds2, p2, q2, rfl, rfl, rfl, h2, r2⟩ := trodAll_cons r1
  obtain ⟨rfl, rfl, rfl⟩ := trodAll_nil r2
  obtain rfl : args = #[v0, v1, v2] := by cases args; simp_all
  obtain ⟨rfl, rfl⟩ := trodVars_none hV
  have k0 := h0
  have k1 := h1
  have lt0 : ∀ x ∈ p0, x.block < W.heap.size := by obtain ⟨m, hm⟩ := k0; exact DataW.trod_lt m _ _ _ hm
  have lt1 : ∀ x ∈ p1, x.block < W.heap.size := by obtain ⟨m, hm⟩ := k1; exact DataW.trod_lt m _ _ _ hm
  obtain ⟨A, n, c, k, db, rfl, hn, hA1, hA2⟩ := open_track (hval 0 24 v0 rfl rfl) h0
  obtain ⟨B, m, c', k', db', rfl, hm, hB1, hB2⟩ := open_track (hval 1 24 v1 rfl rfl) h1
  obtain ⟨a1, rfl, rfl, rfl, w1⟩ := open_int Tryz.underlying3 (hval 2 3 v2 rfl rfl) h2
  clear hA0 hval0
  refine (pathReceived_any A B n m c c' db db' a1 k k' W hn hm hA1 hB1 hA2 hB2).mono fun e W' ⟨he, bel⟩ => ?_
  subst he
  exact ⟨_, rfl, _, _, _, [], _, [], hW', trodAll_mk1 (shut_bool Tryz.underlying4 _), (trodAll_cons_mk (Below.trod laidAll (by kernel_rfl) (of_decide_eq_true (by kernel_rfl)) k0 bel lt0) (trodAll_cons_mk (Below.trod laidAll (by kernel_rfl) (of_decide_eq_true (by kernel_rfl)) k1 bel lt1) (trodAll_cons_mk (shut_int Tryz.underlying3 w1) trodAll_mk0))), rfl, bel.frame _, fun h => by cases h⟩
theorem pathReceived_over : Rows.pathReceivedRow.holds Tryz.pinned (OpenSpec.ofChange Rows.pathReceivedSpec) :=
  OpenClaim.holds_of_wide 4 Tryz.f4 rfl rfl rfl rfl rfl rfl rfl ⟨by kernel_rfl, by kernel_rfl, by kernel_rfl, by kernel_rfl, by kernel_rfl⟩ rfl rfl rfl rfl rfl (by kernel_rfl) Tryz.func4 (by kernel_rfl)
    (of_decide_eq_true (by kernel_rfl)) (by unfold Func.isWrapper; first | (rw [if_pos (by decide +kernel)]; kernel_rfl) | (rw [if_neg (by decide +kernel)]; exact ⟨rfl, rfl⟩))
    (fun os started H enc _ => pathReceived_lifted os started H enc)
/-- THE STATEMENT. -/
theorem pathReceived_holds : Rows.PathReceivedSaid := pathReceived_over
end Go.Proofs.YtnfoagcpgegldaaGreat
