/- Helpers: CheckReceived as a number. -/
import Derived.Test.YtnfoagcpgegldaaGreatB34
import Derived.Test.YtnfoagcpgegldaaGreatB29
import Derived.Test.YtnfoagcpgegldaaGreatB38
namespace Go.Proofs.YtnfoagcpgegldaaGreat
open Go.RowKit Go.Shelf Go.Sort
attribute [local go_sem] idx3_0 idx3_1 idx3_2 old1 fro1 old2 fro2 old3 fro3 old4 fro4 old5 fro5 old6 fro6 old7 fro7 old8 fro8 old9 fro9 old10 fro10 old11 fro11 old12 fro12
def crEr (A B : TV) (S L H : Int) (i : Nat) : Int :=
  if i = 0 then A.err else if i = 1 then B.err else if i = 2 then timesErr A B S else if i = 3 then timesErr A B L else if i = 4 then timesErr A B H else
  if i = 5 then (if (decide (S ≤ L) && decide (L ≤ H)) = true then 0 else 9) else if i = 6 then (if (decide (L = S) || awayB A.t B.t S L) = true then 0 else 19) else (if arrB A.t B.t S H = true then 0 else 19)
def crE (A B : TV) (S L H : Int) : Int := ferr (crEr A B S L H) 0 8
theorem cr_valid {A B : TV} {S L H : Int} (h : ∀ j, j < 6 → crEr A B S L H j = 0) : A.err = 0 ∧ B.err = 0 ∧ timesErr A B S = 0 ∧ timesErr A B L = 0 ∧ timesErr A B H = 0 ∧ S ≤ L ∧ L ≤ H := by
  refine ⟨h 0 (by omega), h 1 (by omega), h 2 (by omega), h 3 (by omega), h 4 (by omega), ?_⟩
  have q : (if (decide (S ≤ L) && decide (L ≤ H)) = true then (0 : Int) else 9) = 0 := h 5 (by omega)
  by_cases hq : (decide (S ≤ L) && decide (L ≤ H)) = true
  · simpa using hq
  · rw [if_neg hq] at q; omega
theorem crt_0 {A B : TV} {s : Int} (h : timesErr A B s = 0) : outside s A.k A.n = false ∧ outside s B.k B.n = false := by
  unfold timesErr at h
  cases h1 : outside s A.k A.n <;> cases h2 : outside s B.k B.n <;> simp [h1, h2] at h ⊢
theorem cr_span {A : Trk} {s r : Int} (hA : TIn A s) (hB : TIn A r) : r - s ≤ 120000 := span_t hA.1 hA.2 hB.2
set_option maxRecDepth 100000 in
set_option maxHeartbeats 800000 in
theorem cr1_any (X p q : Nat) (S L H : Int) (w : World) (x0 : w.cell? ⟨X, 0, none⟩ = some (.int .i64 S)) (p0 : w.cell? ⟨p, 0, none⟩ = some (.int .i64 L)) (q0 : w.cell? ⟨q, 0, none⟩ = some (.int .i64 H)) :
    Calls Tryz.prog 71 #[.pointer (some ⟨X, 0, none⟩), .pointer (some ⟨p, 0, none⟩), .pointer (some ⟨q, 0, none⟩)] w fun e w' => e = .returned (.bool (decide (S ≤ L) && decide (L ≤ H))) ∧ Below w.heap.size w w' := by
  by_cases h1 : S ≤ L
  · have d1 : decide (S ≤ L) = true := by simp [h1]
    rw [d1]
    clear h1
    go_enter Tryz.func71, Tryz.ntmps71
    go_wp2_with fail
    go_ret
    exact ⟨ret_bool (by simp), by (repeat (first | with_reducible exact Below.refl _ _ | with_reducible assumption | with_reducible refine Below.alloc ?_ (by first | (simp; done) | (simp; omega) | omega) _ | with_reducible refine Below.setCell ?_ (by first | (simp; done) | (simp; omega) | omega) _ | with_reducible refine Below.drew ?_ | with_reducible refine below_drewN ?_ _))⟩
  · have d1 : decide (S ≤ L) = false := by simp [h1]
    rw [d1]
    clear h1
    go_enter Tryz.func71, Tryz.ntmps71
    go_wp2_with fail
    go_ret
    exact ⟨ret_bool (by simp), by (repeat (first | with_reducible exact Below.refl _ _ | with_reducible assumption | with_reducible refine Below.alloc ?_ (by first | (simp; done) | (simp; omega) | omega) _ | with_reducible refine Below.setCell ?_ (by first | (simp; done) | (simp; omega) | omega) _ | with_reducible refine Below.drew ?_ | with_reducible refine below_drewN ?_ _))⟩
set_option maxRecDepth 100000 in
set_option maxHeartbeats 800000 in
theorem cr2_any (X p a b : Nat) (S L : Int) (A B : Trk) (w : World) (hA : VT w A S) (hB : VT w B L) (hsr : S ≤ L) (hr : L - S ≤ 20000000000) (x0 : w.cell? ⟨X, 0, none⟩ = some (.int .i64 S)) (p0 : w.cell? ⟨p, 0, none⟩ = some (.int .i64 L))
    (a0 : w.cell? ⟨a, 0, none⟩ = some (.slice (some ⟨A.b, A.off, none⟩) A.n A.c)) (a1 : w.cell? ⟨a, 1, none⟩ = some (.int .i64 A.d)) (b0 : w.cell? ⟨b, 0, none⟩ = some (.slice (some ⟨B.b, B.off, none⟩) B.n B.c)) (b1 : w.cell? ⟨b, 1, none⟩ = some (.int .i64 B.d)) :
    Calls Tryz.prog 72 #[.pointer (some ⟨p, 0, none⟩), .pointer (some ⟨X, 0, none⟩), .pointer (some ⟨a, 0, none⟩), .pointer (some ⟨b, 0, none⟩)] w fun e w' => e = .returned (.bool (decide (L = S) || awayB A B S L)) ∧ Below w.heap.size w w' := by
  have HC := Lib.hid (surelyNotArrived_any w A B S L hA hB hsr hr)
  clear hA hB
  generalize awayB A B S L = q at *
  by_cases h1 : L = S
  · subst h1
    have HQ : Hid ((decide (L = L) || q) = true) := by unfold Hid; simp
    rw [HQ.out]
    clear hsr hr HC
    go_enter Tryz.func72, Tryz.ntmps72
    go_wp2_with fail
    go_ret
    exact ⟨ret_bool (by simp), by (repeat (first | with_reducible exact Below.refl _ _ | with_reducible assumption | with_reducible refine Below.alloc ?_ (by first | (simp; done) | (simp; omega) | omega) _ | with_reducible refine Below.setCell ?_ (by first | (simp; done) | (simp; omega) | omega) _ | with_reducible refine Below.drew ?_ | with_reducible refine below_drewN ?_ _))⟩
  · have HQ : Hid ((decide (L = S) || q) = q) := by unfold Hid; simp [h1]
    rw [HQ.out]
    have d1 : (L == S) = false := by simpa using h1
    clear h1
    go_enter Tryz.func72, Tryz.ntmps72
    go_wp2_with (go_at_call 67; (with_reducible refine Calls.mono HC.out ?_); rintro e w1 ⟨rfl, hb1⟩)
    go_ret
    exact ⟨ret_bool (by simp), by (repeat (first | with_reducible exact Below.refl _ _ | with_reducible assumption | with_reducible refine Below.alloc ?_ (by first | (simp; done) | (simp; omega) | omega) _ | with_reducible refine Below.setCell ?_ (by first | (simp; done) | (simp; omega) | omega) _ | with_reducible refine Below.drew ?_ | with_reducible refine below_drewN ?_ _))⟩
set_option maxRecDepth 100000 in
set_option maxHeartbeats 800000 in
theorem cr3_any (X q a b : Nat) (S H : Int) (A B : Trk) (w : World) (hA : VT w A S) (hB : VT w B H) (hsr : S ≤ H) (hr : H - S ≤ 20000000000) (x0 : w.cell? ⟨X, 0, none⟩ = some (.int .i64 S)) (q0 : w.cell? ⟨q, 0, none⟩ = some (.int .i64 H))
    (a0 : w.cell? ⟨a, 0, none⟩ = some (.slice (some ⟨A.b, A.off, none⟩) A.n A.c)) (a1 : w.cell? ⟨a, 1, none⟩ = some (.int .i64 A.d)) (b0 : w.cell? ⟨b, 0, none⟩ = some (.slice (some ⟨B.b, B.off, none⟩) B.n B.c)) (b1 : w.cell? ⟨b, 1, none⟩ = some (.int .i64 B.d)) :
    Calls Tryz.prog 73 #[.pointer (some ⟨a, 0, none⟩), .pointer (some ⟨b, 0, none⟩), .pointer (some ⟨X, 0, none⟩), .pointer (some ⟨q, 0, none⟩)] w fun e w' => e = .returned (.bool (arrB A B S H)) ∧ Below w.heap.size w w' := by
  have HC := Lib.hid (surelyArrived_any w A B S H hA hB hsr hr)
  clear hA hB
  generalize arrB A B S H = r at *
  go_enter Tryz.func73, Tryz.ntmps73
  go_wp2_with (go_at_call 65; (with_reducible refine Calls.mono HC.out ?_); rintro e w1 ⟨rfl, hb1⟩)
  go_ret
  exact ⟨rfl, hb1⟩
/-- the cells that the three conditions read -/
def SCell (w : World) (X p q a b : Nat) (A B : TV) (S L H : Int) : Prop :=
  w.cell? ⟨X, 0, none⟩ = some (.int .i64 S) ∧ w.cell? ⟨p, 0, none⟩ = some (.int .i64 L) ∧ w.cell? ⟨q, 0, none⟩ = some (.int .i64 H) ∧ w.cell? ⟨a, 0, none⟩ = some (.slice A.a A.n A.c) ∧ w.cell? ⟨a, 1, none⟩ = some (.int .i64 A.d) ∧ w.cell? ⟨b, 0, none⟩ = some (.slice B.a B.n B.c) ∧ w.cell? ⟨b, 1, none⟩ = some (.int .i64 B.d)
theorem SCell.on {w w2 : World} {X p q a b : Nat} {A B : TV} {S L H : Int} (h : SCell w X p q a b A B S L H) (hb : Below w.heap.size w w2) : SCell w2 X p q a b A B S L H := by
  obtain ⟨h1, h2, h3, h4, h5, h6, h7⟩ := h
  exact ⟨keep hb h1, keep hb h2, keep hb h3, keep hb h4, keep hb h5, keep hb h6, keep hb h7⟩
theorem cr1_cnd (X p q a b : Nat) (A B : TV) (S L H : Int) (w : World) (h : SCell w X p q a b A B S L H) :
    Cnd True (decide (S ≤ L) && decide (L ≤ H)) (.func (.func 71) #[] #[.pointer (some ⟨X, 0, none⟩), .pointer (some ⟨p, 0, none⟩), .pointer (some ⟨q, 0, none⟩)]) w :=
  ⟨_, _, rfl, (enters_of Tryz.func71 (by kernel_rfl) rfl), fun w1 h1 _ => cr1_any X p q S L H w1 (h.on h1).1 (h.on h1).2.1 (h.on h1).2.2.1⟩
theorem cr2_cnd (X p q a b : Nat) (A B : TV) (S L H : Int) (w : World) (hA : A.At w) (hB : B.At w) (h : SCell w X p q a b A B S L H) :
    Cnd (∀ j, j < 6 → crEr A B S L H j = 0) (decide (L = S) || awayB A.t B.t S L) (.func (.func 72) #[] #[.pointer (some ⟨p, 0, none⟩), .pointer (some ⟨X, 0, none⟩), .pointer (some ⟨a, 0, none⟩), .pointer (some ⟨b, 0, none⟩)]) w := by
  refine ⟨_, _, rfl, (enters_of Tryz.func72 (by kernel_rfl) rfl), fun w1 h1 hp => ?_⟩
  obtain ⟨eA, eB, e1, e2, e3, o1, o2⟩ := cr_valid hp
  obtain ⟨ba, oa, xa, ha⟩ := TV.valid (hA.below h1) eA
  obtain ⟨bb, ob, xb, hb⟩ := TV.valid (hB.below h1) eB
  obtain ⟨c1, c2, c3, c4, c5, c6, c7⟩ := h.on h1
  rw [xa] at c4
  rw [xb] at c6
  have sp := cr_span (A := ⟨ba, oa, A.n, A.c, A.k, A.d⟩) (s := S) (r := L) ⟨eA, (crt_0 e1).1⟩ ⟨eA, (crt_0 e2).1⟩
  exact cr2_any X p a b S L ⟨ba, oa, A.n, A.c, A.k, A.d⟩ ⟨bb, ob, B.n, B.c, B.k, B.d⟩ w1 ⟨ha, eA, (crt_0 e1).1⟩ ⟨hb, eB, (crt_0 e2).2⟩ o1 (by omega) c1 c2 c4 c5 c6 c7
theorem cr3_cnd (X p q a b : Nat) (A B : TV) (S L H : Int) (w : World) (hA : A.At w) (hB : B.At w) (h : SCell w X p q a b A B S L H) :
    Cnd (∀ j, j < 6 → crEr A B S L H j = 0) (arrB A.t B.t S H) (.func (.func 73) #[] #[.pointer (some ⟨a, 0, none⟩), .pointer (some ⟨b, 0, none⟩), .pointer (some ⟨X, 0, none⟩), .pointer (some ⟨q, 0, none⟩)]) w := by
  refine ⟨_, _, rfl, (enters_of Tryz.func73 (by kernel_rfl) rfl), fun w1 h1 hp => ?_⟩
  obtain ⟨eA, eB, e1, e2, e3, o1, o2⟩ := cr_valid hp
  obtain ⟨ba, oa, xa, ha⟩ := TV.valid (hA.below h1) eA
  obtain ⟨bb, ob, xb, hb⟩ := TV.valid (hB.below h1) eB
  obtain ⟨c1, c2, c3, c4, c5, c6, c7⟩ := h.on h1
  rw [xa] at c4
  rw [xb] at c6
  have sp := cr_span (A := ⟨ba, oa, A.n, A.c, A.k, A.d⟩) (s := S) (r := H) ⟨eA, (crt_0 e1).1⟩ ⟨eA, (crt_0 e3).1⟩
  exact cr3_any X q a b S H ⟨ba, oa, A.n, A.c, A.k, A.d⟩ ⟨bb, ob, B.n, B.c, B.k, B.d⟩ w1 ⟨ha, eA, (crt_0 e1).1⟩ ⟨hb, eB, (crt_0 e3).2⟩ (by omega) (by omega) c1 c3 c4 c5 c6 c7
set_option maxRecDepth 100000 in
set_option maxHeartbeats 8000000 in
theorem checkReceived_n (sa sb : Option Addr) (na ca nb cb : Nat) (ka kb : Nat → Knot) (da db S L H : Int) (w : World) (hA : TV.At (⟨sa, na, ca, ka, da⟩ : TV) w) (hB : TV.At (⟨sb, nb, cb, kb, db⟩ : TV) w) :
    Calls Tryz.prog 24 #[.agg #[.slice sa na ca, .int .i64 da], .agg #[.slice sb nb cb, .int .i64 db], .agg #[.int .i64 S, .int .i64 L, .int .i64 H]] w fun e w' => e = .returned (.int .i64 (crE (⟨sa, na, ca, ka, da⟩ : TV) (⟨sb, nb, cb, kb, db⟩ : TV) S L H)) ∧ Below w.heap.size w w' := by
  have HA := Lib.hid hA
  have HB := Lib.hid hB
  clear hA hB
  go_enter Tryz.func24, Tryz.ntmps24
  go_wp2_with fail
  go_cut [7, 8] from 9 to 14 (fun s7 s8 wx => ∃ p q : Nat, s7 = .pointer (some ⟨p, 0, none⟩) ∧ s8 = .pointer (some ⟨q, 0, none⟩) ∧ Below w.heap.size w wx ∧ SCell wx (w.heap.size + 1 + 1) p q (w.heap.size) (w.heap.size + 1) (⟨sa, na, ca, ka, da⟩ : TV) (⟨sb, nb, cb, kb, db⟩ : TV) S L H)
  case first =>
    go_region
    all_goals
      go_wp2_with fail
      go_meet
      case rel => exact ⟨_, _, rfl, rfl, by (repeat (first | with_reducible exact Below.refl _ _ | with_reducible assumption | with_reducible refine Below.alloc ?_ (by first | (simp; done) | (simp; omega) | omega) _ | with_reducible refine Below.setCell ?_ (by first | (simp; done) | (simp; omega) | omega) _ | with_reducible refine Below.drew ?_ | with_reducible refine below_drewN ?_ _)), by simp [go_sem], by simp [go_sem], by simp [go_sem], by simp [go_sem], by simp [go_sem], by simp [go_sem], by simp [go_sem]⟩
  case rest =>
    obtain ⟨p, q, rfl, rfl, hw, hs0⟩ := hcut
    have HS := Lib.hid hs0
    have HW := Lib.hid hw
    have HVA := Lib.hid (HA.out.below hw)
    have HVB := Lib.hid (HB.out.below hw)
    obtain ⟨x0, p0, q0, a0, a1, b0, b1⟩ := hs0
    clear hw
    go_wp2_with fail
    refine wp_region_mp [mpEq (.agg #[.slice sa na ca, .int .i64 da]), mpChk True (TV.err (⟨sa, na, ca, ka, da⟩ : TV)), mpEq (.agg #[.slice sb nb cb, .int .i64 db]), mpChk True (TV.err (⟨sb, nb, cb, kb, db⟩ : TV)), mpEq (.pointer (some ⟨w.heap.size + 1 + 1, 0, none⟩)), mpEq (.int .i64 S), mpEq (.agg #[.slice sa na ca, .int .i64 da]), mpEq (.agg #[.slice sb nb cb, .int .i64 db]), mpTwo (⟨sa, na, ca, ka, da⟩ : TV) (⟨sb, nb, cb, kb, db⟩ : TV), mpChk (TV.err (⟨sa, na, ca, ka, da⟩ : TV) = 0 ∧ TV.err (⟨sb, nb, cb, kb, db⟩ : TV) = 0) (timesErr (⟨sa, na, ca, ka, da⟩ : TV) (⟨sb, nb, cb, kb, db⟩ : TV) S), mpEq (.int .i64 L), mpEq (.agg #[.slice sa na ca, .int .i64 da]), mpEq (.agg #[.slice sb nb cb, .int .i64 db]), mpTwo (⟨sa, na, ca, ka, da⟩ : TV) (⟨sb, nb, cb, kb, db⟩ : TV), mpChk (TV.err (⟨sa, na, ca, ka, da⟩ : TV) = 0 ∧ TV.err (⟨sb, nb, cb, kb, db⟩ : TV) = 0) (timesErr (⟨sa, na, ca, ka, da⟩ : TV) (⟨sb, nb, cb, kb, db⟩ : TV) L), mpEq (.int .i64 H), mpEq (.agg #[.slice sa na ca, .int .i64 da]), mpEq (.agg #[.slice sb nb cb, .int .i64 db]), mpTwo (⟨sa, na, ca, ka, da⟩ : TV) (⟨sb, nb, cb, kb, db⟩ : TV), mpChk (TV.err (⟨sa, na, ca, ka, da⟩ : TV) = 0 ∧ TV.err (⟨sb, nb, cb, kb, db⟩ : TV) = 0) (timesErr (⟨sa, na, ca, ka, da⟩ : TV) (⟨sb, nb, cb, kb, db⟩ : TV) H), mpCnd True (decide (S ≤ L) && decide (L ≤ H)), mpChk True (if (decide (S ≤ L) && decide (L ≤ H)) = true then 0 else 9), mpCnd (∀ j, j < 6 → crEr (⟨sa, na, ca, ka, da⟩ : TV) (⟨sb, nb, cb, kb, db⟩ : TV) S L H j = 0) (decide (L = S) || awayB (TV.t (⟨sa, na, ca, ka, da⟩ : TV)) (TV.t (⟨sb, nb, cb, kb, db⟩ : TV)) S L), mpChk (∀ j, j < 6 → crEr (⟨sa, na, ca, ka, da⟩ : TV) (⟨sb, nb, cb, kb, db⟩ : TV) S L H j = 0) (if (decide (L = S) || awayB (TV.t (⟨sa, na, ca, ka, da⟩ : TV)) (TV.t (⟨sb, nb, cb, kb, db⟩ : TV)) S L) = true then 0 else 19), mpCnd (∀ j, j < 6 → crEr (⟨sa, na, ca, ka, da⟩ : TV) (⟨sb, nb, cb, kb, db⟩ : TV) S L H j = 0) (arrB (TV.t (⟨sa, na, ca, ka, da⟩ : TV)) (TV.t (⟨sb, nb, cb, kb, db⟩ : TV)) S H), mpChk (∀ j, j < 6 → crEr (⟨sa, na, ca, ka, da⟩ : TV) (⟨sb, nb, cb, kb, db⟩ : TV) S L H j = 0) (if (arrB (TV.t (⟨sa, na, ca, ka, da⟩ : TV)) (TV.t (⟨sb, nb, cb, kb, db⟩ : TV)) S H) = true then 0 else 19), mpChks 8 (fun i => crEr (⟨sa, na, ca, ka, da⟩ : TV) (⟨sb, nb, cb, kb, db⟩ : TV) S L H i), mpEq (.int .i64 (crE (⟨sa, na, ca, ka, da⟩ : TV) (⟨sb, nb, cb, kb, db⟩ : TV) S L H)), mpEq (.int .i64 (crE (⟨sa, na, ca, ka, da⟩ : TV) (⟨sb, nb, cb, kb, db⟩ : TV) S L H))] [false, false, false, false, false, false, true, false, false, false, false, false, false, false, false, true, true, true, true, true, true, true, true, true, true, true, true, true, true, true, true, true, true, true, true, true, true, true, true, true, true, true, true] (by kernel_rfl) (by kernel_rfl) (by kernel_rfl) (
      allOps_cons (fun a' w' hb hs hd => rg_op fun K hK => by
    have e1 := (hs.get 3 (by kernel_rfl)).trans (show _ = Value.pointer (some ⟨w.heap.size, 0, none⟩) from rfl)
    have c0 := keep hb a0
    have c1 := keep hb a1
    clear hs hd
    unfold Oper.wp
    generalize a'.eval = ρ at e1 ⊢
    simp [go_sem, e1, c0, c1]
    exact hK _ _ (Below.refl _ _) rfl) <|
      allOps_cons (fun a' w' hb hs hd => rg_fn (φ := (mpChk True (TV.err (⟨sa, na, ca, ka, da⟩ : TV))).p) (vs := #[.agg #[.slice sa na ca, .int .i64 da]]) rfl (enters_of Tryz.func52 (by kernel_rfl) rfl) (by simp [(show a'.eval (.tmp 15) = .agg #[.slice sa na ca, .int .i64 da] from hd.get 0 15 (by kernel_rfl) (by kernel_rfl))]) (trackCheck_chk (⟨sa, na, ca, ka, da⟩ : TV) w' (HVA.out.below hb))) <|
      allOps_cons (fun a' w' hb hs hd => rg_op fun K hK => by
    have e1 := (hs.get 4 (by kernel_rfl)).trans (show _ = Value.pointer (some ⟨w.heap.size + 1, 0, none⟩) from rfl)
    have c0 := keep hb b0
    have c1 := keep hb b1
    clear hs hd
    unfold Oper.wp
    generalize a'.eval = ρ at e1 ⊢
    simp [go_sem, e1, c0, c1]
    exact hK _ _ (Below.refl _ _) rfl) <|
      allOps_cons (fun a' w' hb hs hd => rg_fn (φ := (mpChk True (TV.err (⟨sb, nb, cb, kb, db⟩ : TV))).p) (vs := #[.agg #[.slice sb nb cb, .int .i64 db]]) rfl (enters_of Tryz.func52 (by kernel_rfl) rfl) (by simp [(show a'.eval (.tmp 17) = .agg #[.slice sb nb cb, .int .i64 db] from hd.get 2 17 (by kernel_rfl) (by kernel_rfl))]) (trackCheck_chk (⟨sb, nb, cb, kb, db⟩ : TV) w' (HVB.out.below hb))) <|
      allOps_cons (fun a' w' hb hs hd => rg_op fun K hK => by
    have e1 := (hs.get 5 (by kernel_rfl)).trans (show _ = Value.pointer (some ⟨w.heap.size + 1 + 1, 0, none⟩) from rfl)
    clear hs hd
    unfold Oper.wp
    generalize a'.eval = ρ at e1 ⊢
    simp [go_sem, e1]
    exact hK _ _ (Below.refl _ _) rfl) <|
      allOps_cons (fun a' w' hb hs hd => rg_op fun K hK => by
    have e1 := (show a'.eval (.tmp 19) = .pointer (some ⟨w.heap.size + 1 + 1, 0, none⟩) from hd.get 4 19 (by kernel_rfl) (by kernel_rfl))
    have c0 := keep hb x0
    clear hs hd
    unfold Oper.wp
    generalize a'.eval = ρ at e1 ⊢
    simp [go_sem, e1, c0]
    exact hK _ _ (Below.refl _ _) rfl) <|
      allOps_cons (fun a' w' hb hs hd => rg_op fun K hK => by
    have e1 := (hs.get 3 (by kernel_rfl)).trans (show _ = Value.pointer (some ⟨w.heap.size, 0, none⟩) from rfl)
    have c0 := keep hb a0
    have c1 := keep hb a1
    clear hs hd
    unfold Oper.wp
    generalize a'.eval = ρ at e1 ⊢
    simp [go_sem, e1, c0, c1]
    exact hK _ _ (Below.refl _ _) rfl) <|
      allOps_cons (fun a' w' hb hs hd => rg_op fun K hK => by
    have e1 := (hs.get 4 (by kernel_rfl)).trans (show _ = Value.pointer (some ⟨w.heap.size + 1, 0, none⟩) from rfl)
    have c0 := keep hb b0
    have c1 := keep hb b1
    clear hs hd
    unfold Oper.wp
    generalize a'.eval = ρ at e1 ⊢
    simp [go_sem, e1, c0, c1]
    exact hK _ _ (Below.refl _ _) rfl) <|
      allOps_cons (fun a' w' hb hs hd => rg_op fun K hK => by
    have e1 := (show a'.eval (.tmp 21) = .agg #[.slice sa na ca, .int .i64 da] from hd.get 6 21 (by kernel_rfl) (by kernel_rfl))
    have e2 := (show a'.eval (.tmp 22) = .agg #[.slice sb nb cb, .int .i64 db] from hd.get 7 22 (by kernel_rfl) (by kernel_rfl))
    clear hs hd
    unfold Oper.wp
    generalize a'.eval = ρ at e1 e2 ⊢
    simp [go_sem, e1, e2]
    exact hK _ _ ((Below.refl _ _).alloc (Nat.le_refl _) _) ⟨_, rfl, by simp [go_sem], by simp [go_sem], by simp [go_sem], by simp [go_sem]⟩) <|
      allOps_cons (fun a' w' hb hs hd => rg_fn (φ := (mpChk (TV.err (⟨sa, na, ca, ka, da⟩ : TV) = 0 ∧ TV.err (⟨sb, nb, cb, kb, db⟩ : TV) = 0) (timesErr (⟨sa, na, ca, ka, da⟩ : TV) (⟨sb, nb, cb, kb, db⟩ : TV) S)).p) (vs := #[.int .i64 S, a'.eval (.tmp 23)]) rfl (enters_of Tryz.func53 (by kernel_rfl) rfl) (by simp [(show a'.eval (.tmp 20) = .int .i64 S from hd.get 5 20 (by kernel_rfl) (by kernel_rfl))]) (timeCheck_chk (⟨sa, na, ca, ka, da⟩ : TV) (⟨sb, nb, cb, kb, db⟩ : TV) S _ w' (HVA.out.below hb) (HVB.out.below hb) (hd.get 8 23 (by kernel_rfl) (by kernel_rfl)))) <|
      allOps_cons (fun a' w' hb hs hd => rg_op fun K hK => by
    have e1 := (hs.get 7 (by kernel_rfl)).trans (show _ = Value.pointer (some ⟨p, 0, none⟩) from rfl)
    have c0 := keep hb p0
    clear hs hd
    unfold Oper.wp
    generalize a'.eval = ρ at e1 ⊢
    simp [go_sem, e1, c0]
    exact hK _ _ (Below.refl _ _) rfl) <|
      allOps_cons (fun a' w' hb hs hd => rg_op fun K hK => by
    have e1 := (hs.get 3 (by kernel_rfl)).trans (show _ = Value.pointer (some ⟨w.heap.size, 0, none⟩) from rfl)
    have c0 := keep hb a0
    have c1 := keep hb a1
    clear hs hd
    unfold Oper.wp
    generalize a'.eval = ρ at e1 ⊢
    simp [go_sem, e1, c0, c1]
    exact hK _ _ (Below.refl _ _) rfl) <|
      allOps_cons (fun a' w' hb hs hd => rg_op fun K hK => by
    have e1 := (hs.get 4 (by kernel_rfl)).trans (show _ = Value.pointer (some ⟨w.heap.size + 1, 0, none⟩) from rfl)
    have c0 := keep hb b0
    have c1 := keep hb b1
    clear hs hd
    unfold Oper.wp
    generalize a'.eval = ρ at e1 ⊢
    simp [go_sem, e1, c0, c1]
    exact hK _ _ (Below.refl _ _) rfl) <|
      allOps_cons (fun a' w' hb hs hd => rg_op fun K hK => by
    have e1 := (show a'.eval (.tmp 26) = .agg #[.slice sa na ca, .int .i64 da] from hd.get 11 26 (by kernel_rfl) (by kernel_rfl))
    have e2 := (show a'.eval (.tmp 27) = .agg #[.slice sb nb cb, .int .i64 db] from hd.get 12 27 (by kernel_rfl) (by kernel_rfl))
    clear hs hd
    unfold Oper.wp
    generalize a'.eval = ρ at e1 e2 ⊢
    simp [go_sem, e1, e2]
    exact hK _ _ ((Below.refl _ _).alloc (Nat.le_refl _) _) ⟨_, rfl, by simp [go_sem], by simp [go_sem], by simp [go_sem], by simp [go_sem]⟩) <|
      allOps_cons (fun a' w' hb hs hd => rg_fn (φ := (mpChk (TV.err (⟨sa, na, ca, ka, da⟩ : TV) = 0 ∧ TV.err (⟨sb, nb, cb, kb, db⟩ : TV) = 0) (timesErr (⟨sa, na, ca, ka, da⟩ : TV) (⟨sb, nb, cb, kb, db⟩ : TV) L)).p) (vs := #[.int .i64 L, a'.eval (.tmp 28)]) rfl (enters_of Tryz.func53 (by kernel_rfl) rfl) (by simp [(show a'.eval (.tmp 25) = .int .i64 L from hd.get 10 25 (by kernel_rfl) (by kernel_rfl))]) (timeCheck_chk (⟨sa, na, ca, ka, da⟩ : TV) (⟨sb, nb, cb, kb, db⟩ : TV) L _ w' (HVA.out.below hb) (HVB.out.below hb) (hd.get 13 28 (by kernel_rfl) (by kernel_rfl)))) <|
      allOps_cons (fun a' w' hb hs hd => rg_op fun K hK => by
    have e1 := (hs.get 8 (by kernel_rfl)).trans (show _ = Value.pointer (some ⟨q, 0, none⟩) from rfl)
    have c0 := keep hb q0
    clear hs hd
    unfold Oper.wp
    generalize a'.eval = ρ at e1 ⊢
    simp [go_sem, e1, c0]
    exact hK _ _ (Below.refl _ _) rfl) <|
      allOps_cons (fun a' w' hb hs hd => rg_op fun K hK => by
    have e1 := (hs.get 3 (by kernel_rfl)).trans (show _ = Value.pointer (some ⟨w.heap.size, 0, none⟩) from rfl)
    have c0 := keep hb a0
    have c1 := keep hb a1
    clear hs hd
    unfold Oper.wp
    generalize a'.eval = ρ at e1 ⊢
    simp [go_sem, e1, c0, c1]
    exact hK _ _ (Below.refl _ _) rfl) <|
      allOps_cons (fun a' w' hb hs hd => rg_op fun K hK => by
    have e1 := (hs.get 4 (by kernel_rfl)).trans (show _ = Value.pointer (some ⟨w.heap.size + 1, 0, none⟩) from rfl)
    have c0 := keep hb b0
    have c1 := keep hb b1
    clear hs hd
    unfold Oper.wp
    generalize a'.eval = ρ at e1 ⊢
    simp [go_sem, e1, c0, c1]
    exact hK _ _ (Below.refl _ _) rfl) <|
      allOps_cons (fun a' w' hb hs hd => rg_op fun K hK => by
    have e1 := (show a'.eval (.tmp 31) = .agg #[.slice sa na ca, .int .i64 da] from hd.get 16 31 (by kernel_rfl) (by kernel_rfl))
    have e2 := (show a'.eval (.tmp 32) = .agg #[.slice sb nb cb, .int .i64 db] from hd.get 17 32 (by kernel_rfl) (by kernel_rfl))
    clear hs hd
    unfold Oper.wp
    generalize a'.eval = ρ at e1 e2 ⊢
    simp [go_sem, e1, e2]
    exact hK _ _ ((Below.refl _ _).alloc (Nat.le_refl _) _) ⟨_, rfl, by simp [go_sem], by simp [go_sem], by simp [go_sem], by simp [go_sem]⟩) <|
      allOps_cons (fun a' w' hb hs hd => rg_fn (φ := (mpChk (TV.err (⟨sa, na, ca, ka, da⟩ : TV) = 0 ∧ TV.err (⟨sb, nb, cb, kb, db⟩ : TV) = 0) (timesErr (⟨sa, na, ca, ka, da⟩ : TV) (⟨sb, nb, cb, kb, db⟩ : TV) H)).p) (vs := #[.int .i64 H, a'.eval (.tmp 33)]) rfl (enters_of Tryz.func53 (by kernel_rfl) rfl) (by simp [(show a'.eval (.tmp 30) = .int .i64 H from hd.get 15 30 (by kernel_rfl) (by kernel_rfl))]) (timeCheck_chk (⟨sa, na, ca, ka, da⟩ : TV) (⟨sb, nb, cb, kb, db⟩ : TV) H _ w' (HVA.out.below hb) (HVB.out.below hb) (hd.get 18 33 (by kernel_rfl) (by kernel_rfl)))) <|
      allOps_cons (fun a' w' hb hs hd => rg_op fun K hK => by
    have e0 := (hs.get 5 (by kernel_rfl)).trans (show _ = Value.pointer (some ⟨w.heap.size + 1 + 1, 0, none⟩) from rfl)
    have e1 := (hs.get 7 (by kernel_rfl)).trans (show _ = Value.pointer (some ⟨p, 0, none⟩) from rfl)
    have e2 := (hs.get 8 (by kernel_rfl)).trans (show _ = Value.pointer (some ⟨q, 0, none⟩) from rfl)
    clear hs hd
    unfold Oper.wp
    generalize a'.eval = ρ at e0 e1 e2 ⊢
    simp [go_sem, e0, e1, e2]
    exact hK _ _ (Below.refl _ _) (cr1_cnd (w.heap.size + 1 + 1) p q (w.heap.size) (w.heap.size + 1) (⟨sa, na, ca, ka, da⟩ : TV) (⟨sb, nb, cb, kb, db⟩ : TV) S L H w' (HS.out.on hb))) <|
      allOps_cons (fun a' w' hb hs hd => rg_fn (φ := (mpChk True (if (decide (S ≤ L) && decide (L ≤ H)) = true then 0 else 9)).p) (vs := #[.int .i64 9, a'.eval (.tmp 35)]) rfl (enters_of Tryz.func56 (by kernel_rfl) rfl) (by simp [show a'.eval (.const (.int .i64 9)) = .int .i64 9 from rfl]) (require_chk 9 _ w' (hd.get 20 35 (by kernel_rfl) (by kernel_rfl)))) <|
      allOps_cons (fun a' w' hb hs hd => rg_op fun K hK => by
    have e0 := (hs.get 7 (by kernel_rfl)).trans (show _ = Value.pointer (some ⟨p, 0, none⟩) from rfl)
    have e1 := (hs.get 5 (by kernel_rfl)).trans (show _ = Value.pointer (some ⟨w.heap.size + 1 + 1, 0, none⟩) from rfl)
    have e2 := (hs.get 3 (by kernel_rfl)).trans (show _ = Value.pointer (some ⟨w.heap.size, 0, none⟩) from rfl)
    have e3 := (hs.get 4 (by kernel_rfl)).trans (show _ = Value.pointer (some ⟨w.heap.size + 1, 0, none⟩) from rfl)
    clear hs hd
    unfold Oper.wp
    generalize a'.eval = ρ at e0 e1 e2 e3 ⊢
    simp [go_sem, e0, e1, e2, e3]
    exact hK _ _ (Below.refl _ _) (cr2_cnd (w.heap.size + 1 + 1) p q (w.heap.size) (w.heap.size + 1) (⟨sa, na, ca, ka, da⟩ : TV) (⟨sb, nb, cb, kb, db⟩ : TV) S L H w' (HVA.out.below hb) (HVB.out.below hb) (HS.out.on hb))) <|
      allOps_cons (fun a' w' hb hs hd => rg_fn (φ := (mpChk (∀ j, j < 6 → crEr (⟨sa, na, ca, ka, da⟩ : TV) (⟨sb, nb, cb, kb, db⟩ : TV) S L H j = 0) (if (decide (L = S) || awayB (TV.t (⟨sa, na, ca, ka, da⟩ : TV)) (TV.t (⟨sb, nb, cb, kb, db⟩ : TV)) S L) = true then 0 else 19)).p) (vs := #[.int .i64 19, a'.eval (.tmp 37)]) rfl (enters_of Tryz.func56 (by kernel_rfl) rfl) (by simp [show a'.eval (.const (.int .i64 19)) = .int .i64 19 from rfl]) (require_chk 19 _ w' (hd.get 22 37 (by kernel_rfl) (by kernel_rfl)))) <|
      allOps_cons (fun a' w' hb hs hd => rg_op fun K hK => by
    have e0 := (hs.get 3 (by kernel_rfl)).trans (show _ = Value.pointer (some ⟨w.heap.size, 0, none⟩) from rfl)
    have e1 := (hs.get 4 (by kernel_rfl)).trans (show _ = Value.pointer (some ⟨w.heap.size + 1, 0, none⟩) from rfl)
    have e2 := (hs.get 5 (by kernel_rfl)).trans (show _ = Value.pointer (some ⟨w.heap.size + 1 + 1, 0, none⟩) from rfl)
    have e3 := (hs.get 8 (by kernel_rfl)).trans (show _ = Value.pointer (some ⟨q, 0, none⟩) from rfl)
    clear hs hd
    unfold Oper.wp
    generalize a'.eval = ρ at e0 e1 e2 e3 ⊢
    simp [go_sem, e0, e1, e2, e3]
    exact hK _ _ (Below.refl _ _) (cr3_cnd (w.heap.size + 1 + 1) p q (w.heap.size) (w.heap.size + 1) (⟨sa, na, ca, ka, da⟩ : TV) (⟨sb, nb, cb, kb, db⟩ : TV) S L H w' (HVA.out.below hb) (HVB.out.below hb) (HS.out.on hb))) <|
      allOps_cons (fun a' w' hb hs hd => rg_fn (φ := (mpChk (∀ j, j < 6 → crEr (⟨sa, na, ca, ka, da⟩ : TV) (⟨sb, nb, cb, kb, db⟩ : TV) S L H j = 0) (if (arrB (TV.t (⟨sa, na, ca, ka, da⟩ : TV)) (TV.t (⟨sb, nb, cb, kb, db⟩ : TV)) S H) = true then 0 else 19)).p) (vs := #[.int .i64 19, a'.eval (.tmp 39)]) rfl (enters_of Tryz.func56 (by kernel_rfl) rfl) (by simp [show a'.eval (.const (.int .i64 19)) = .int .i64 19 from rfl]) (require_chk 19 _ w' (hd.get 24 39 (by kernel_rfl) (by kernel_rfl)))) <|
      allOps_cons (fun a' w' hb hs hd => rg_op fun K hK => by
    have k0 : (mpChk True (TV.err (⟨sa, na, ca, ka, da⟩ : TV))).p (a'.eval (.tmp 16)) w' := hd.get 1 16 (by kernel_rfl) (by kernel_rfl)
    have k1 : (mpChk True (TV.err (⟨sb, nb, cb, kb, db⟩ : TV))).p (a'.eval (.tmp 18)) w' := hd.get 3 18 (by kernel_rfl) (by kernel_rfl)
    have k2 : (mpChk (TV.err (⟨sa, na, ca, ka, da⟩ : TV) = 0 ∧ TV.err (⟨sb, nb, cb, kb, db⟩ : TV) = 0) (timesErr (⟨sa, na, ca, ka, da⟩ : TV) (⟨sb, nb, cb, kb, db⟩ : TV) S)).p (a'.eval (.tmp 24)) w' := hd.get 9 24 (by kernel_rfl) (by kernel_rfl)
    have k3 : (mpChk (TV.err (⟨sa, na, ca, ka, da⟩ : TV) = 0 ∧ TV.err (⟨sb, nb, cb, kb, db⟩ : TV) = 0) (timesErr (⟨sa, na, ca, ka, da⟩ : TV) (⟨sb, nb, cb, kb, db⟩ : TV) L)).p (a'.eval (.tmp 29)) w' := hd.get 14 29 (by kernel_rfl) (by kernel_rfl)
    have k4 : (mpChk (TV.err (⟨sa, na, ca, ka, da⟩ : TV) = 0 ∧ TV.err (⟨sb, nb, cb, kb, db⟩ : TV) = 0) (timesErr (⟨sa, na, ca, ka, da⟩ : TV) (⟨sb, nb, cb, kb, db⟩ : TV) H)).p (a'.eval (.tmp 34)) w' := hd.get 19 34 (by kernel_rfl) (by kernel_rfl)
    have k5 : (mpChk True (if (decide (S ≤ L) && decide (L ≤ H)) = true then 0 else 9)).p (a'.eval (.tmp 36)) w' := hd.get 21 36 (by kernel_rfl) (by kernel_rfl)
    have k6 : (mpChk (∀ j, j < 6 → crEr (⟨sa, na, ca, ka, da⟩ : TV) (⟨sb, nb, cb, kb, db⟩ : TV) S L H j = 0) (if (decide (L = S) || awayB (TV.t (⟨sa, na, ca, ka, da⟩ : TV)) (TV.t (⟨sb, nb, cb, kb, db⟩ : TV)) S L) = true then 0 else 19)).p (a'.eval (.tmp 38)) w' := hd.get 23 38 (by kernel_rfl) (by kernel_rfl)
    have k7 : (mpChk (∀ j, j < 6 → crEr (⟨sa, na, ca, ka, da⟩ : TV) (⟨sb, nb, cb, kb, db⟩ : TV) S L H j = 0) (if (arrB (TV.t (⟨sa, na, ca, ka, da⟩ : TV)) (TV.t (⟨sb, nb, cb, kb, db⟩ : TV)) S H) = true then 0 else 19)).p (a'.eval (.tmp 40)) w' := hd.get 25 40 (by kernel_rfl) (by kernel_rfl)
    clear hs hd
    unfold Oper.wp
    generalize a'.eval = ρ at k0 k1 k2 k3 k4 k5 k6 k7 ⊢
    obtain ⟨g0, f0, e0, h0⟩ := k0
    obtain ⟨g1, f1, e1, h1⟩ := k1
    obtain ⟨g2, f2, e2, h2⟩ := k2
    obtain ⟨g3, f3, e3, h3⟩ := k3
    obtain ⟨g4, f4, e4, h4⟩ := k4
    obtain ⟨g5, f5, e5, h5⟩ := k5
    obtain ⟨g6, f6, e6, h6⟩ := k6
    obtain ⟨g7, f7, e7, h7⟩ := k7
    simp [go_sem, e0, e1, e2, e3, e4, e5, e6, e7]
    have hx := (Below.refl w'.heap.size w').alloc (Nat.le_refl _) (.cells #[.func (.func g0) #[] f0, .func (.func g1) #[] f1, .func (.func g2) #[] f2, .func (.func g3) #[] f3, .func (.func g4) #[] f4, .func (.func g5) #[] f5, .func (.func g6) #[] f6, .func (.func g7) #[] f7] 93)
    refine hK _ _ hx ⟨_, rfl, fun i => if i = 0 then .func (.func g0) #[] f0 else if i = 1 then .func (.func g1) #[] f1 else if i = 2 then .func (.func g2) #[] f2 else if i = 3 then .func (.func g3) #[] f3 else if i = 4 then .func (.func g4) #[] f4 else if i = 5 then .func (.func g5) #[] f5 else if i = 6 then .func (.func g6) #[] f6 else .func (.func g7) #[] f7, fun i hi => ?_, fun i hi => ?_⟩
    · rcases (by omega : i = 0 ∨ i = 1 ∨ i = 2 ∨ i = 3 ∨ i = 4 ∨ i = 5 ∨ i = 6 ∨ i = 7) with rfl | rfl | rfl | rfl | rfl | rfl | rfl | rfl <;> simp [go_sem]
    · rcases (by omega : i = 0 ∨ i = 1 ∨ i = 2 ∨ i = 3 ∨ i = 4 ∨ i = 5 ∨ i = 6 ∨ i = 7) with rfl | rfl | rfl | rfl | rfl | rfl | rfl | rfl
      · exact Chk.imp (Chk.on (show Chk True (TV.err (⟨sa, na, ca, ka, da⟩ : TV)) (.func (.func g0) #[] f0) w' from ⟨g0, f0, rfl, h0⟩) hx) (fun _ => trivial)
      · exact Chk.imp (Chk.on (show Chk True (TV.err (⟨sb, nb, cb, kb, db⟩ : TV)) (.func (.func g1) #[] f1) w' from ⟨g1, f1, rfl, h1⟩) hx) (fun _ => trivial)
      · exact Chk.imp (Chk.on (show Chk (TV.err (⟨sa, na, ca, ka, da⟩ : TV) = 0 ∧ TV.err (⟨sb, nb, cb, kb, db⟩ : TV) = 0) (timesErr (⟨sa, na, ca, ka, da⟩ : TV) (⟨sb, nb, cb, kb, db⟩ : TV) S) (.func (.func g2) #[] f2) w' from ⟨g2, f2, rfl, h2⟩) hx) (fun hz => ⟨hz 0 (by omega), hz 1 (by omega)⟩)
      · exact Chk.imp (Chk.on (show Chk (TV.err (⟨sa, na, ca, ka, da⟩ : TV) = 0 ∧ TV.err (⟨sb, nb, cb, kb, db⟩ : TV) = 0) (timesErr (⟨sa, na, ca, ka, da⟩ : TV) (⟨sb, nb, cb, kb, db⟩ : TV) L) (.func (.func g3) #[] f3) w' from ⟨g3, f3, rfl, h3⟩) hx) (fun hz => ⟨hz 0 (by omega), hz 1 (by omega)⟩)
      · exact Chk.imp (Chk.on (show Chk (TV.err (⟨sa, na, ca, ka, da⟩ : TV) = 0 ∧ TV.err (⟨sb, nb, cb, kb, db⟩ : TV) = 0) (timesErr (⟨sa, na, ca, ka, da⟩ : TV) (⟨sb, nb, cb, kb, db⟩ : TV) H) (.func (.func g4) #[] f4) w' from ⟨g4, f4, rfl, h4⟩) hx) (fun hz => ⟨hz 0 (by omega), hz 1 (by omega)⟩)
      · exact Chk.imp (Chk.on (show Chk True (if (decide (S ≤ L) && decide (L ≤ H)) = true then 0 else 9) (.func (.func g5) #[] f5) w' from ⟨g5, f5, rfl, h5⟩) hx) (fun _ => trivial)
      · exact Chk.imp (Chk.on (show Chk (∀ j, j < 6 → crEr (⟨sa, na, ca, ka, da⟩ : TV) (⟨sb, nb, cb, kb, db⟩ : TV) S L H j = 0) (if (decide (L = S) || awayB (TV.t (⟨sa, na, ca, ka, da⟩ : TV)) (TV.t (⟨sb, nb, cb, kb, db⟩ : TV)) S L) = true then 0 else 19) (.func (.func g6) #[] f6) w' from ⟨g6, f6, rfl, h6⟩) hx) (fun hz => hz)
      · exact Chk.imp (Chk.on (show Chk (∀ j, j < 6 → crEr (⟨sa, na, ca, ka, da⟩ : TV) (⟨sb, nb, cb, kb, db⟩ : TV) S L H j = 0) (if (arrB (TV.t (⟨sa, na, ca, ka, da⟩ : TV)) (TV.t (⟨sb, nb, cb, kb, db⟩ : TV)) S H) = true then 0 else 19) (.func (.func g7) #[] f7) w' from ⟨g7, f7, rfl, h7⟩) hx) (fun hz j hj => hz j (by omega))) <|
      allOps_cons (fun a' w' hb hs hd => rg_fn (φ := (mpEq (.int .i64 (crE (⟨sa, na, ca, ka, da⟩ : TV) (⟨sb, nb, cb, kb, db⟩ : TV) S L H))).p) (vs := #[a'.eval (.tmp 41)]) rfl (enters_of Tryz.func51 (by kernel_rfl) rfl) (by simp) ((first_chks (n := 8) (er := (fun i => crEr (⟨sa, na, ca, ka, da⟩ : TV) (⟨sb, nb, cb, kb, db⟩ : TV) S L H i)) (by omega) (by omega) (hd.get 26 41 (by kernel_rfl) (by kernel_rfl))).mono (by rintro e w1 ⟨rfl, h1⟩; exact ⟨_, rfl, h1, rfl⟩))) <|
      allOps_cons (fun a' w' hb hs hd => rg_op fun K hK => by
    have e1 := (show a'.eval (.tmp 42) = .int .i64 (crE (⟨sa, na, ca, ka, da⟩ : TV) (⟨sb, nb, cb, kb, db⟩ : TV) S L H) from hd.get 27 42 (by kernel_rfl) (by kernel_rfl))
    clear hs hd
    unfold Oper.wp
    generalize a'.eval = ρ at e1 ⊢
    simp [go_sem, e1]
    exact hK _ _ (Below.refl _ _) rfl) <| allOps_nil) (fun V w' hb hall => ?_)
    have h28 : V 6 = .int .i64 (crE (⟨sa, na, ca, ka, da⟩ : TV) (⟨sb, nb, cb, kb, db⟩ : TV) S L H) := hall.get 28 rfl
    have HR := Lib.hid (thenB HW.out hb)
    clear hall hb
    simp only [maskPut, Nat.reduceAdd]
    rw [h28]
    clear h28
    go_wp2_with fail
    go_ret
    exact ⟨rfl, HR.out⟩
end Go.Proofs.YtnfoagcpgegldaaGreat
namespace Go.Proofs.YtnfoagcpgegldaaGreat
open Go.RowKit Go.Shelf Go.Sort
def sgF (S L H : Int) (aw ar : Bool) : Int := if S ≤ L ∧ L ≤ H then (if (L = S ∨ aw = true) ∧ ar = true then 0 else 19) else 9
def sgR (E : Nat → Int) (F : Int) : Int := if E 0 = 0 then (if E 1 = 0 then (if E 2 = 0 then F else E 2) else E 1) else E 0
theorem sgR_at {E : Nat → Int} {F : Int} {k : Nat} (hk : k < 3) (h0 : ∀ j, j < k → E j = 0) (h : E k ≠ 0) : sgR E F = E k := by
  rcases (by omega : k = 0 ∨ k = 1 ∨ k = 2) with rfl | rfl | rfl
  · simp [sgR, h]
  · simp [sgR, h, h0 0 (by omega)]
  · simp [sgR, h, h0 0 (by omega), h0 1 (by omega)]
theorem sgR_end {E : Nat → Int} {F : Int} (h0 : ∀ j, j < 3 → E j = 0) : sgR E F = F := by simp [sgR, h0 0 (by omega), h0 1 (by omega), h0 2 (by omega)]
theorem upto_succ {E : Nat → Int} {k : Nat} (h : ∀ j, j < k → E j = 0) (h2 : E k = 0) : ∀ j, j < k + 1 → E j = 0 := fun j hj => by
  rcases Nat.lt_or_eq_of_le (Nat.le_of_lt_succ hj) with h3 | rfl
  · exact h j h3
  · exact h2
def TFn (S L H : Int) (k : Nat) : Int := if k = 0 then S else if k = 1 then L else H
theorem crE_eq (A B : TV) (S L H : Int) : crE A B S L H = if A.err = 0 then (if B.err = 0 then (if timesErr A B S = 0 then (if timesErr A B L = 0 then (if timesErr A B H = 0 then
    (if (if (decide (S ≤ L) && decide (L ≤ H)) = true then (0 : Int) else 9) = 0 then (if (if (decide (L = S) || awayB A.t B.t S L) = true then (0 : Int) else 19) = 0 then (if (if arrB A.t B.t S H = true then (0 : Int) else 19) = 0 then 0 else (if arrB A.t B.t S H = true then (0 : Int) else 19)) else (if (decide (L = S) || awayB A.t B.t S L) = true then (0 : Int) else 19)) else (if (decide (S ≤ L) && decide (L ≤ H)) = true then (0 : Int) else 9))
    else timesErr A B H) else timesErr A B L) else timesErr A B S) else B.err) else A.err := rfl
theorem cr_both {A B : TV} {S L H : Int} (h : bothErr A B ≠ 0) : crE A B S L H = bothErr A B := by
  rw [crE_eq]
  unfold bothErr at h ⊢
  by_cases hA : A.err = 0
  · rw [if_pos hA] at h
    rw [if_pos hA, if_pos hA, if_neg h]
  · rw [if_neg hA, if_neg hA]
theorem cr_none {A B : TV} {S L H : Int} (hA : A.err = 0) (hB : B.err = 0) : crE A B S L H = sgR (fun k => timesErr A B (TFn S L H k)) (sgF S L H (awayB A.t B.t S L) (arrB A.t B.t S H)) := by
  rw [crE_eq, if_pos hA, if_pos hB]
  show _ = if timesErr A B S = 0 then (if timesErr A B L = 0 then (if timesErr A B H = 0 then _ else timesErr A B H) else timesErr A B L) else timesErr A B S
  by_cases h0 : timesErr A B S = 0
  · rw [if_pos h0, if_pos h0]
    by_cases h1 : timesErr A B L = 0
    · rw [if_pos h1, if_pos h1]
      by_cases h2 : timesErr A B H = 0
      · rw [if_pos h2, if_pos h2]
        unfold sgF
        by_cases h3 : S ≤ L ∧ L ≤ H
        · have q : (decide (S ≤ L) && decide (L ≤ H)) = true := by simp [h3.1, h3.2]
          rw [if_pos h3, q]
          cases awayB A.t B.t S L <;> cases arrB A.t B.t S H <;> by_cases h4 : L = S <;> simp [h4]
        · have q : (decide (S ≤ L) && decide (L ≤ H)) = false := by
            simp only [Bool.and_eq_false_iff, decide_eq_false_iff_not]
            omega
          rw [if_neg h3, q]
          simp
      · rw [if_neg h2, if_neg h2]
    · rw [if_neg h1, if_neg h1]
  · rw [if_neg h0, if_neg h0]
end Go.Proofs.YtnfoagcpgegldaaGreat
namespace Go.Proofs.YtnfoagcpgegldaaGreat
open Go.RowKit Go.Shelf Go.Sort
theorem cr_sound {A B : TV} {s : Int} (hd : distErr A B s = 0) (he : rcHi A.t B.t s ≤ lastT B.t) (h : crE A B s (rcLo A.t B.t s) (rcHi A.t B.t s) ≠ 0) :
    crE A B s (rcLo A.t B.t s) (rcHi A.t B.t s) = 2 ∧ timesErr A B (rcHi A.t B.t s) = 2 := by
  obtain ⟨eA, eB, oA, oB⟩ := distErr_0 hd
  obtain ⟨tA, tB⟩ := distErr_in hd
  have b := rc_bounds (A := A.t) tB
  have h0 := te_in oA oB
  rw [cr_none eA eB] at h ⊢
  have e0 : TFn s (rcLo A.t B.t s) (rcHi A.t B.t s) 0 = s := rfl
  have e1 : TFn s (rcLo A.t B.t s) (rcHi A.t B.t s) 1 = rcLo A.t B.t s := rfl
  have e2 : TFn s (rcLo A.t B.t s) (rcHi A.t B.t s) 2 = rcHi A.t B.t s := rfl
  simp only [sgR, e0, e1, e2] at h ⊢
  rw [if_pos h0] at h ⊢
  have oL : outside (rcLo A.t B.t s) B.k B.n = false := (tB.to b.1 (by omega)).2
  by_cases h1 : timesErr A B (rcLo A.t B.t s) = 0
  · rw [if_pos h1] at h ⊢
    by_cases h2 : timesErr A B (rcHi A.t B.t s) = 0
    · exfalso
      rw [if_pos h2] at h
      apply h
      unfold sgF
      rw [if_pos b, if_pos]
      refine ⟨?_, rc_arr tB he⟩
      rcases Int.lt_or_le s (rcLo A.t B.t s) with q | q
      · exact .inr (rc_lo_away tB q)
      · exact .inl (by omega)
    · rw [if_neg h2]
      rcases te_or A B (rcHi A.t B.t s) with q | q
      · exact absurd q h2
      · exact ⟨q, q⟩
  · rw [if_neg h1]
    rcases te_or A B (rcLo A.t B.t s) with q | q
    · exact absurd q h1
    · refine ⟨q, ?_⟩
      rcases te_or A B (rcHi A.t B.t s) with z | z
      · exfalso
        obtain ⟨z1, _⟩ := crt_0 z
        have i1 := inside (A := A.t) z1
        have i2 := inside (A := A.t) oA
        exact h1 (te_in (inside_mk (A := A.t) (by omega) (by omega)) oL)
      · exact z
end Go.Proofs.YtnfoagcpgegldaaGreat
