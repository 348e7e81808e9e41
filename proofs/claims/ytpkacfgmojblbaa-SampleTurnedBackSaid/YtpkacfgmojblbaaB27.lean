/- Helpers: the law SampleTurnedBack. No condition but the hypotheses that each theorem names. -/
import Derived.Test.YtpkacfgmojblbaaB26
namespace Go.Proofs.Ytpkacfgmojblbaa
open Go.RowKit
attribute [local go_sem] old1 fro1 old2 fro2 old3 fro3 old4 fro4 old5 fro5 old6 fro6 old7 fro7 old8 fro8 old9 fro9 old10 fro10 old11 fro11 old12 fro12
def ps0 : List Bool := [false, false, false, false, false, false, false, false, true, true, false, false, false, false, false, false, false, false, false, false, false, false, false, false, false, false, false, false, false, false, false, false, false, false, false, false, false, false, false, false, false, false, false, false, false, false, true, true, true, true, true, true, true, false, false, false, false, false, false, false, false, false, false, false, false, false, false, false, false, false, false, false, false, false, false, false, false, false, false, false, false, false, false, false, false, false, false, false, false, false, false, false, false, false, false, false, false, false, false, false, false, false, false, false, false, false, false, false, false, false, false, false, false, false, false, false, false, false, false, false, false, false, false, false, false, false, false, false, false, false, false, false, false, false, false, false, false, false, false, false, false, false, false, false, false, false, false, false, false, false, false, false, false, false, false, false, false, false, false, false, false, false, false, false, false, false, false, false, false, false, false, false, false, false, false, false, false, false, false, false, false, false, false, false, false]
def ps1 : List Bool := [false, false, false, false, false, false, false, false, false, false, true, true, false, false, false, false, false, false, false, false, false, false, false, false, false, false, false, false, false, false, false, false, false, false, false, false, false, false, false, false, false, false, false, false, false, false, false, false, false, false, false, false, false, false, false, false, false, false, false, false, false, false, false, false, false, false, false, true, true, true, true, true, true, true, false, false, false, false, false, false, false, false, false, false, false, false, false, false, false, false, false, false, false, false, false, false, false, false, false, false, false, false, false, false, false, false, false, false, false, false, false, false, false, false, false, false, false, false, false, false, false, false, false, false, false, false, false, false, false, false, false, false, false, false, false, false, false, false, false, false, false, false, false, false, false, false, false, false, false, false, false, false, false, false, false, false, false, false, false, false, false, false, false, false, false, false, false, false, false, false, false, false, false, false, false, false, false, false, false, false, false, false, false, false, false]
def ps2 : List Bool := [false, false, false, false, false, false, false, false, false, false, false, false, true, true, false, false, false, false, false, false, false, false, false, false, false, false, false, false, false, false, false, false, false, false, false, false, false, false, false, false, false, false, false, false, false, false, false, false, false, false, false, false, false, false, false, false, false, false, false, false, false, false, false, false, false, false, false, false, false, false, false, false, false, false, true, true, true, true, true, true, true, false, false, false, false, false, false, false, false, false, false, false, false, false, false, false, false, false, false, false, false, false, false, false, false, false, false, false, false, false, false, false, false, false, false, false, false, false, false, false, false, false, false, false, false, false, false, false, false, false, false, false, false, false, false, false, false, false, false, false, false, false, false, false, false, false, false, false, false, false, false, false, false, false, false, false, false, false, false, false, false, false, false, false, false, false, false, false, false, false, false, false, false, false, false, false, false, false, false, false, false, false, false, false, false]
def ps3 : List Bool := [false, false, false, false, false, false, false, false, false, false, false, false, false, false, true, true, false, false, false, false, false, false, false, false, false, false, false, false, false, false, false, false, false, false, false, false, false, false, false, false, false, false, false, false, false, false, false, false, false, false, false, false, false, false, false, false, false, false, false, false, false, false, false, false, false, false, false, false, false, false, false, false, false, false, false, false, false, false, false, false, false, false, false, false, false, false, false, false, false, false, false, false, false, false, false, false, false, false, true, true, true, true, true, true, true, false, false, false, false, false, false, false, false, false, false, false, false, false, false, false, false, false, false, false, false, false, false, false, false, false, false, false, false, false, false, false, false, false, false, false, false, false, false, false, false, false, false, false, false, false, false, false, false, false, false, false, false, false, false, false, false, false, false, false, false, false, false, false, false, false, false, false, false, false, false, false, false, false, false, false, false, false, false, false, false]
def ps4 : List Bool := [false, false, false, false, false, false, false, false, false, false, false, false, false, false, false, false, false, false, true, true, false, false, false, false, false, false, false, false, false, false, false, false, false, false, false, false, false, false, false, false, false, false, false, false, false, false, false, false, false, false, false, false, false, false, false, false, false, false, false, false, false, false, false, false, false, false, false, false, false, false, false, false, false, false, false, false, false, false, false, false, false, false, false, false, false, false, false, false, false, false, false, false, false, false, false, false, false, false, false, false, false, false, false, false, false, false, false, false, false, false, false, false, false, false, false, false, false, false, false, false, false, false, false, false, false, false, false, false, true, true, true, true, true, true, true, true, true, false, false, false, false, false, false, false, false, false, false, false, false, false, false, false, false, false, false, false, false, false, false, false, false, false, false, false, false, false, false, false, false, false, false, false, false, false, false, false, false, false, false, false, false, false, false, false, false]
def ps5 : List Bool := [false, false, false, false, false, false, false, false, false, false, false, false, false, false, false, false, false, false, false, false, true, true, false, false, false, false, false, false, false, false, false, false, false, false, false, false, false, false, false, false, false, false, false, false, false, false, false, false, false, false, false, false, false, false, false, false, false, false, false, false, false, false, false, false, false, false, false, false, false, false, false, false, false, false, false, false, false, false, false, false, false, false, false, false, false, false, false, false, false, false, false, false, false, false, false, false, false, false, false, false, false, false, false, false, false, false, false, false, false, false, false, false, false, false, false, false, false, false, false, false, false, false, false, false, false, false, false, false, false, false, false, false, false, false, false, false, false, true, true, true, true, true, true, true, true, true, false, false, false, false, false, false, false, false, false, false, false, false, false, false, false, false, false, false, false, false, false, false, false, false, false, false, false, false, false, false, false, false, false, false, false, false, false, false, false]
theorem wl_app {ops : Array Oper} {rest : List Oper} {o : Oper} {a : Act} {w : World} {Q : Exit → Act → World → Prop} (hgd : Region.wanted o (yielded ops a.tmps) = true) (s x : Operand) (t : TypeId)
    (ho : o.op = .call { callee := .builtin .append, args := #[s, x], argTypes := #[t, t] })
    (base : Nat) (e : TypeId) (i : TypeInfo) (z : Value) (size bytes : Nat) (ht : Try.prog.underlying t = some (.slice e)) (hi : Try.prog.info? e = some i) (hz : i.zero = some z)
    (hsize : i.size = size) (hby : i.bytes = bytes) (hzs : z.cells.size = size) (hsz : 0 < size)
    (v : Value) (n : Nat) (xs : List Value) (hs : a.eval s = v) (hown : w.ownsRow base e size v n xs)
    (ad : Addr) (m c : Nat) (news : List Value) (hx : a.eval x = .slice (some ad) m c) (hl : news.length = m * size) (hnews : ∀ j u, news[j]? = some u → w.cell? (ad.add j) = some u) (h1 : ∀ u ∈ news, u.oneCell' = true)
    (h63 : n + m ≤ maxLen) (hbytes : (n + m) * bytes ≤ 140737488355328) (hbase : base ≤ w.heap.size)
    (h : ∀ v' w', w'.ownsRow base e size v' (n + m) (xs ++ news) → w.grownBy w' v.ownBlock → wpList Try.prog ops Q rest (a.put o.dst v') w') : wpList Try.prog ops Q (o :: rest) a w := by
  refine wpList_step fun K hK => ?_
  rw [if_pos hgd]
  exact wp_append_own w s x t ho base e i z size bytes ht hi hz hsize hby hzs hsz v n xs hs hown ad m c news hx hl hnews h1 h63 hbytes hbase fun v' w' h2 h3 _ => hK _ _ (h v' w' h2 h3)
/-- a new row of pairs, and a number -/
def mpTZ (n : Nat) (h : Nat → Int × Int) (E : Int) : MP := ⟨fun v w => ∃ G c, v = .tuple #[.slice (some ⟨G, 0, none⟩) n c, .int .i64 E] ∧ GA w (some ⟨G, 0, none⟩) n h, fun _ _ _ ⟨A, c, e, h1⟩ hb => ⟨A, c, e, h1.bel hb⟩⟩
def mpGZ (n : Nat) (h : Nat → Int × Int) : MP := ⟨fun v w => ∃ G c, v = .slice (some ⟨G, 0, none⟩) n c ∧ GA w (some ⟨G, 0, none⟩) n h, fun _ _ _ ⟨A, c, e, h1⟩ hb => ⟨A, c, e, h1.bel hb⟩⟩
set_option maxRecDepth 100000 in
set_option maxHeartbeats 4000000 in
theorem st_c (ph inc ch : Int) (A : Option Addr) (n c : Nat) (_ : Nat → Int × Int) (ct : Int) (w : World) (h60 : 60 < n) :
    Calls Try.prog 8 #[.agg #[.int .i64 ph, .int .i64 inc, .int .i64 ch], .slice A n c, .int .i64 ct] w fun e w' => e = .returned (.bool true) ∧ Below w.heap.size w w' := by
  have h61 : (n : Int) > 60 := by omega
  go_enter Try.func8, Try.ntmps8
  go_wp2_with (first
    | (go_at_call 17; (with_reducible refine Calls.mono (awake_any _) ?_); rintro e yx ⟨rfl, hbx⟩; (try replace l0 := keep hbx l0); (try replace l1 := keep hbx l1); (try replace l2 := keep hbx l2); (try replace q0 := keep hbx q0); (try replace q1 := keep hbx q1); (try replace q2 := keep hbx q2); (try replace T8 := Lib.hid (T8.out.on hbx)); (try replace T10 := Lib.hid (T10.out.on hbx)); (try replace T12 := Lib.hid (T12.out.on hbx)); (try replace T14 := Lib.hid (T14.out.on hbx)); (try replace T18 := Lib.hid (T18.out.bel hbx)); (try replace T20 := Lib.hid (T20.out.bel hbx)); (try replace TO := Lib.hid (TO.out.own hbx)); (first | replace BV := Lib.hid (belowT (show Below w.heap.size w _ by have Bq := BV.out; have Bz := Bq.size; (repeat (first | with_reducible exact Below.refl _ _ | with_reducible assumption | with_reducible refine Below.alloc ?_ (by first | (simp; done) | (simp; omega) | omega) _ | with_reducible refine Below.setCell ?_ (by first | (simp; done) | (simp; omega) | omega) _ | with_reducible refine Below.drew ?_ | with_reducible refine below_drewN ?_ _))) hbx) | have BV := Lib.hid (belowT (show Below w.heap.size w _ by (repeat (first | with_reducible exact Below.refl _ _ | with_reducible assumption | with_reducible refine Below.alloc ?_ (by first | (simp; done) | (simp; omega) | omega) _ | with_reducible refine Below.setCell ?_ (by first | (simp; done) | (simp; omega) | omega) _ | with_reducible refine Below.drew ?_ | with_reducible refine below_drewN ?_ _))) hbx)); have l0 := keep hbx (b := w.heap.size) (o := 0) (v := .int .i64 ph) (by simp [go_sem]); have l1 := keep hbx (b := w.heap.size) (o := 1) (v := .int .i64 inc) (by simp [go_sem]); have l2 := keep hbx (b := w.heap.size) (o := 2) (v := .int .i64 ch) (by simp [go_sem]); clear hbx))
  go_ret
  exact ⟨rfl, BV.out⟩
set_option maxRecDepth 100000 in
set_option maxHeartbeats 4000000 in
theorem st_d (ph inc ch : Int) (A : Option Addr) (n c : Nat) (_ : Nat → Int × Int) (ct : Int) (P : Int) (P0 : P ≠ 0) (w : World) (hn : n ≤ 60) (hP : prgE ph inc ch = P) :
    Calls Try.prog 8 #[.agg #[.int .i64 ph, .int .i64 inc, .int .i64 ch], .slice A n c, .int .i64 ct] w fun e w' => e = .returned (.bool true) ∧ Below w.heap.size w w' := by
  have h61 : ¬ (n : Int) > 60 := by omega
  have HPE := Lib.hid (fun W => programErr_any ph inc ch W)
  rw [hP] at HPE
  have p2 : (P != 0) = true := by simpa using P0
  clear hP P0
  go_enter Try.func8, Try.ntmps8
  go_wp2_with (first
    | (go_at_call 17; (with_reducible refine Calls.mono (awake_any _) ?_); rintro e yx ⟨rfl, hbx⟩; (try replace l0 := keep hbx l0); (try replace l1 := keep hbx l1); (try replace l2 := keep hbx l2); (try replace q0 := keep hbx q0); (try replace q1 := keep hbx q1); (try replace q2 := keep hbx q2); (try replace T8 := Lib.hid (T8.out.on hbx)); (try replace T10 := Lib.hid (T10.out.on hbx)); (try replace T12 := Lib.hid (T12.out.on hbx)); (try replace T14 := Lib.hid (T14.out.on hbx)); (try replace T18 := Lib.hid (T18.out.bel hbx)); (try replace T20 := Lib.hid (T20.out.bel hbx)); (try replace TO := Lib.hid (TO.out.own hbx)); (first | replace BV := Lib.hid (belowT (show Below w.heap.size w _ by have Bq := BV.out; have Bz := Bq.size; (repeat (first | with_reducible exact Below.refl _ _ | with_reducible assumption | with_reducible refine Below.alloc ?_ (by first | (simp; done) | (simp; omega) | omega) _ | with_reducible refine Below.setCell ?_ (by first | (simp; done) | (simp; omega) | omega) _ | with_reducible refine Below.drew ?_ | with_reducible refine below_drewN ?_ _))) hbx) | have BV := Lib.hid (belowT (show Below w.heap.size w _ by (repeat (first | with_reducible exact Below.refl _ _ | with_reducible assumption | with_reducible refine Below.alloc ?_ (by first | (simp; done) | (simp; omega) | omega) _ | with_reducible refine Below.setCell ?_ (by first | (simp; done) | (simp; omega) | omega) _ | with_reducible refine Below.drew ?_ | with_reducible refine below_drewN ?_ _))) hbx)); have l0 := keep hbx (b := w.heap.size) (o := 0) (v := .int .i64 ph) (by simp [go_sem]); have l1 := keep hbx (b := w.heap.size) (o := 1) (v := .int .i64 inc) (by simp [go_sem]); have l2 := keep hbx (b := w.heap.size) (o := 2) (v := .int .i64 ch) (by simp [go_sem]); clear hbx)
    | (go_at_call 41; (with_reducible refine Calls.mono (HPE.out _) ?_); rintro e yx ⟨rfl, hbx⟩; (try replace l0 := keep hbx l0); (try replace l1 := keep hbx l1); (try replace l2 := keep hbx l2); (try replace q0 := keep hbx q0); (try replace q1 := keep hbx q1); (try replace q2 := keep hbx q2); (try replace T8 := Lib.hid (T8.out.on hbx)); (try replace T10 := Lib.hid (T10.out.on hbx)); (try replace T12 := Lib.hid (T12.out.on hbx)); (try replace T14 := Lib.hid (T14.out.on hbx)); (try replace T18 := Lib.hid (T18.out.bel hbx)); (try replace T20 := Lib.hid (T20.out.bel hbx)); (try replace TO := Lib.hid (TO.out.own hbx)); (first | replace BV := Lib.hid (belowT (show Below w.heap.size w _ by have Bq := BV.out; have Bz := Bq.size; (repeat (first | with_reducible exact Below.refl _ _ | with_reducible assumption | with_reducible refine Below.alloc ?_ (by first | (simp; done) | (simp; omega) | omega) _ | with_reducible refine Below.setCell ?_ (by first | (simp; done) | (simp; omega) | omega) _ | with_reducible refine Below.drew ?_ | with_reducible refine below_drewN ?_ _))) hbx) | have BV := Lib.hid (belowT (show Below w.heap.size w _ by (repeat (first | with_reducible exact Below.refl _ _ | with_reducible assumption | with_reducible refine Below.alloc ?_ (by first | (simp; done) | (simp; omega) | omega) _ | with_reducible refine Below.setCell ?_ (by first | (simp; done) | (simp; omega) | omega) _ | with_reducible refine Below.drew ?_ | with_reducible refine below_drewN ?_ _))) hbx)); clear hbx))
  go_ret
  exact ⟨rfl, BV.out⟩
set_option maxRecDepth 100000 in
set_option maxHeartbeats 4000000 in
theorem st_e (ph inc ch : Int) (A : Option Addr) (n c : Nat) (g : Nat → Int × Int) (ct : Int) (D : Int) (D0 : D ≠ 0) (w : World) (hn : n ≤ 60) (hP : prgE ph inc ch = 0) (hD : smE n g = D) (hA : GA w A n g) :
    Calls Try.prog 8 #[.agg #[.int .i64 ph, .int .i64 inc, .int .i64 ch], .slice A n c, .int .i64 ct] w fun e w' => e = .returned (.bool true) ∧ Below w.heap.size w w' := by
  have h61 : ¬ (n : Int) > 60 := by omega
  have HPE := Lib.hid (fun W => programErr_any ph inc ch W)
  have HSE := Lib.hid (fun W (hW : Below w.heap.size w W) => samplesErr_any A n c g W (by omega) (hA.bel hW))
  rw [hP] at HPE
  rw [hD] at HSE
  have p2 : (D != 0) = true := by simpa using D0
  clear hP D0 hD hA
  go_enter Try.func8, Try.ntmps8
  go_wp2_with (first
    | (go_at_call 17; (with_reducible refine Calls.mono (awake_any _) ?_); rintro e yx ⟨rfl, hbx⟩; (try replace l0 := keep hbx l0); (try replace l1 := keep hbx l1); (try replace l2 := keep hbx l2); (try replace q0 := keep hbx q0); (try replace q1 := keep hbx q1); (try replace q2 := keep hbx q2); (try replace T8 := Lib.hid (T8.out.on hbx)); (try replace T10 := Lib.hid (T10.out.on hbx)); (try replace T12 := Lib.hid (T12.out.on hbx)); (try replace T14 := Lib.hid (T14.out.on hbx)); (try replace T18 := Lib.hid (T18.out.bel hbx)); (try replace T20 := Lib.hid (T20.out.bel hbx)); (try replace TO := Lib.hid (TO.out.own hbx)); (first | replace BV := Lib.hid (belowT (show Below w.heap.size w _ by have Bq := BV.out; have Bz := Bq.size; (repeat (first | with_reducible exact Below.refl _ _ | with_reducible assumption | with_reducible refine Below.alloc ?_ (by first | (simp; done) | (simp; omega) | omega) _ | with_reducible refine Below.setCell ?_ (by first | (simp; done) | (simp; omega) | omega) _ | with_reducible refine Below.drew ?_ | with_reducible refine below_drewN ?_ _))) hbx) | have BV := Lib.hid (belowT (show Below w.heap.size w _ by (repeat (first | with_reducible exact Below.refl _ _ | with_reducible assumption | with_reducible refine Below.alloc ?_ (by first | (simp; done) | (simp; omega) | omega) _ | with_reducible refine Below.setCell ?_ (by first | (simp; done) | (simp; omega) | omega) _ | with_reducible refine Below.drew ?_ | with_reducible refine below_drewN ?_ _))) hbx)); have l0 := keep hbx (b := w.heap.size) (o := 0) (v := .int .i64 ph) (by simp [go_sem]); have l1 := keep hbx (b := w.heap.size) (o := 1) (v := .int .i64 inc) (by simp [go_sem]); have l2 := keep hbx (b := w.heap.size) (o := 2) (v := .int .i64 ch) (by simp [go_sem]); clear hbx)
    | (go_at_call 41; (with_reducible refine Calls.mono (HPE.out _) ?_); rintro e yx ⟨rfl, hbx⟩; (try replace l0 := keep hbx l0); (try replace l1 := keep hbx l1); (try replace l2 := keep hbx l2); (try replace q0 := keep hbx q0); (try replace q1 := keep hbx q1); (try replace q2 := keep hbx q2); (try replace T8 := Lib.hid (T8.out.on hbx)); (try replace T10 := Lib.hid (T10.out.on hbx)); (try replace T12 := Lib.hid (T12.out.on hbx)); (try replace T14 := Lib.hid (T14.out.on hbx)); (try replace T18 := Lib.hid (T18.out.bel hbx)); (try replace T20 := Lib.hid (T20.out.bel hbx)); (try replace TO := Lib.hid (TO.out.own hbx)); (first | replace BV := Lib.hid (belowT (show Below w.heap.size w _ by have Bq := BV.out; have Bz := Bq.size; (repeat (first | with_reducible exact Below.refl _ _ | with_reducible assumption | with_reducible refine Below.alloc ?_ (by first | (simp; done) | (simp; omega) | omega) _ | with_reducible refine Below.setCell ?_ (by first | (simp; done) | (simp; omega) | omega) _ | with_reducible refine Below.drew ?_ | with_reducible refine below_drewN ?_ _))) hbx) | have BV := Lib.hid (belowT (show Below w.heap.size w _ by (repeat (first | with_reducible exact Below.refl _ _ | with_reducible assumption | with_reducible refine Below.alloc ?_ (by first | (simp; done) | (simp; omega) | omega) _ | with_reducible refine Below.setCell ?_ (by first | (simp; done) | (simp; omega) | omega) _ | with_reducible refine Below.drew ?_ | with_reducible refine below_drewN ?_ _))) hbx)); clear hbx)
    | (go_at_call 53; (with_reducible refine Calls.mono (HSE.out _ BV.out) ?_); rintro e yx ⟨rfl, hbx⟩; (try replace l0 := keep hbx l0); (try replace l1 := keep hbx l1); (try replace l2 := keep hbx l2); (try replace q0 := keep hbx q0); (try replace q1 := keep hbx q1); (try replace q2 := keep hbx q2); (try replace T8 := Lib.hid (T8.out.on hbx)); (try replace T10 := Lib.hid (T10.out.on hbx)); (try replace T12 := Lib.hid (T12.out.on hbx)); (try replace T14 := Lib.hid (T14.out.on hbx)); (try replace T18 := Lib.hid (T18.out.bel hbx)); (try replace T20 := Lib.hid (T20.out.bel hbx)); (try replace TO := Lib.hid (TO.out.own hbx)); (first | replace BV := Lib.hid (belowT (show Below w.heap.size w _ by have Bq := BV.out; have Bz := Bq.size; (repeat (first | with_reducible exact Below.refl _ _ | with_reducible assumption | with_reducible refine Below.alloc ?_ (by first | (simp; done) | (simp; omega) | omega) _ | with_reducible refine Below.setCell ?_ (by first | (simp; done) | (simp; omega) | omega) _ | with_reducible refine Below.drew ?_ | with_reducible refine below_drewN ?_ _))) hbx) | have BV := Lib.hid (belowT (show Below w.heap.size w _ by (repeat (first | with_reducible exact Below.refl _ _ | with_reducible assumption | with_reducible refine Below.alloc ?_ (by first | (simp; done) | (simp; omega) | omega) _ | with_reducible refine Below.setCell ?_ (by first | (simp; done) | (simp; omega) | omega) _ | with_reducible refine Below.drew ?_ | with_reducible refine below_drewN ?_ _))) hbx)); clear hbx))
  go_ret
  exact ⟨rfl, BV.out⟩
set_option maxRecDepth 100000 in
set_option maxHeartbeats 4000000 in
theorem st_m (ph inc ch : Int) (A : Option Addr) (n c : Nat) (g : Nat → Int × Int) (ct : Int) (w : World) (hn : n ≤ 60) (hc : n ≤ c) (hP : prgE ph inc ch = 0) (hD : smE n g = 0) (hG : GS w (.slice A n c) n g) :
    Calls Try.prog 8 #[.agg #[.int .i64 ph, .int .i64 inc, .int .i64 ch], .slice A n c, .int .i64 ct] w fun e w' => e = .returned (.bool true) ∧ Below w.heap.size w w' := by
  obtain ⟨hA, hN0⟩ : GA w A n g ∧ (A = none → n = 0 ∧ c = 0) := by obtain ⟨A', c', e, h, h2⟩ := hG; cases e; exact ⟨h, h2⟩
  have h61 : ¬ (n : Int) > 60 := by omega
  obtain ⟨k, hk⟩ : ∃ k : Nat, ct % ((n : Int) + 1) = (k : Int) := ⟨(ct % ((n : Int) + 1)).toNat, by have := Int.emod_nonneg ct (show (n : Int) + 1 ≠ 0 by omega); omega⟩
  have hkn : k ≤ n := by have := Int.emod_lt_of_pos ct (show (0 : Int) < (n : Int) + 1 by omega); omega
  have x1 : IntKind.i64.wrap ((n : Int) + 1) = (n : Int) + 1 := IntWalk.i64_in _ (by omega)
  have HMO := Lib.hid (fun W => bmod_any ct ((n : Int) + 1) (by omega) (by omega) W)
  rw [hk] at HMO
  have HPE := Lib.hid (fun W => programErr_any ph inc ch W)
  have HSE := Lib.hid (fun W (hW : Below w.heap.size w W) => samplesErr_any A n c g W (by omega) (hA.bel hW))
  rw [hP] at HPE
  rw [hD] at HSE
  have HCP := Lib.hid (fun v m h W (hm : m ≤ 1000) (H : GS W v m h) => copyG_any v m h W (by omega) H)
  have hg := (sm_0 hD).2
  have hbA := mx_bd (s := -1) (ph := ph) (inc := inc) (ch := ch) hg
  have hbC := mx_bd (s := 1) (ph := ph) (inc := inc) (ch := ch) hg
  have hEk : ∀ (a b : Int), (∀ m h, m ≤ 60 → (∀ i, i < m → (-2000 ≤ (h i).1 ∧ (h i).1 ≤ 2000) ∧ -2000 ≤ (h i).2 ∧ (h i).2 ≤ 2000) → mxE ph inc ch m h = 0) := fun _ _ m h hm hb => by unfold mxE fs2; rw [hP, sm_bd (by omega) hb]; rfl
  obtain ⟨ga, ha⟩ : ∃ ga, mxS (-1) ph inc ch g = ga := ⟨_, rfl⟩
  obtain ⟨gc, hgc⟩ : ∃ gc, mxS 1 ph inc ch g = gc := ⟨_, rfl⟩
  have e1 : mxS 1 ph inc ch ga = g := by rw [← ha]; exact mx_back 1 ph inc ch g
  have e2 : mxS (-1) ph inc ch gc = g := by rw [← hgc]; exact mx_back (-1) ph inc ch g
  have e3 : mxS (-1) (phs ph inc ch k) (adv inc ch k) ch (fun j => g (k + j)) = fun j => ga (k + j) := by rw [← ha]; exact mx_adv (-1) ph inc ch k g
  rw [ha] at hbA
  rw [hgc] at hbC
  have HMA := Lib.hid (fun A1 c1 W (h : GA W A1 n g) => mixedS_ok ph inc ch A1 n c1 g (hEk 0 0 n g hn hg) W h)
  have HUB := Lib.hid (fun A1 c1 W (h : GA W A1 n ga) => unmixedS_ok ph inc ch A1 n c1 ga (hEk 0 0 n ga hn hbA) W h)
  have HUC := Lib.hid (fun A1 c1 W (h : GA W A1 n g) => unmixedS_ok ph inc ch A1 n c1 g (hEk 0 0 n g hn hg) W h)
  have HMD := Lib.hid (fun A1 c1 W (h : GA W A1 n gc) => mixedS_ok ph inc ch A1 n c1 gc (hEk 0 0 n gc hn hbC) W h)
  have HMH := Lib.hid (fun A1 c1 W (h : GA W A1 k g) => mixedS_some ph inc ch A1 k c1 g (hEk 0 0 k g (by omega) (fun i hi => hg i (by omega))) W h)
  have hq := prg_adv hP k
  have HMT := Lib.hid (fun A1 c1 W (h : GA W A1 (n - k) (fun j => g (k + j))) => mixedS_some (phs ph inc ch k) (adv inc ch k) ch A1 (n - k) c1 (fun j => g (k + j)) (by unfold mxE fs2; rw [hq, sm_bd (by omega) (fun i hi => hg (k + i) (by omega))]; rfl) W h)
  rw [ha] at HMA HMH
  rw [e1] at HUB
  rw [hgc] at HUC
  rw [e2] at HMD
  rw [e3] at HMT
  have hx0 : ixE ph inc ch k = 0 := by unfold ixE fs2 rgE; rw [hP, wi_t.2 (by omega)]; rfl
  have HAD := Lib.hid (fun W => advancedS_any ph inc ch k W)
  rw [hx0, if_pos rfl] at HAD
  have HQE := Lib.hid (fun W => programErr_any (phs ph inc ch k) (adv inc ch k) ch W)
  rw [hq] at HQE
  have HSA := Lib.hid (fun A1 c1 W (h : GS W (.slice A1 n c1) n ga) => (by obtain ⟨_, _, e, h2, _⟩ := h; cases e; exact samplesErr_any A1 n c1 ga W (by omega) h2 : Calls Try.prog 53 #[.slice A1 n c1] W fun e w' => e = .returned (.int .i64 (smE n ga)) ∧ Below W.heap.size W w'))
  have HSC := Lib.hid (fun A1 c1 W (h : GS W (.slice A1 n c1) n gc) => (by obtain ⟨_, _, e, h2, _⟩ := h; cases e; exact samplesErr_any A1 n c1 gc W (by omega) h2 : Calls Try.prog 53 #[.slice A1 n c1] W fun e w' => e = .returned (.int .i64 (smE n gc)) ∧ Below W.heap.size W w'))
  rw [sm_bd (by omega) hbA] at HSA
  rw [sm_bd (by omega) hbC] at HSC
  have HGS := Lib.hid (fun A1 A2 c1 c2 h W (h1 : GS W (.slice A1 n c1) n h) (h2 : GS W (.slice A2 n c2) n h) => (by obtain ⟨_, _, e, h3, _⟩ := h1; cases e; obtain ⟨_, _, e, h4, _⟩ := h2; cases e; exact gausses_same A1 A2 n c1 c2 h W (by omega) h3 h4 : Calls Try.prog 35 #[.slice A1 n c1, .slice A2 n c2] W fun e w' => e = .returned (.bool true) ∧ Below W.heap.size W w'))
  have hen : enS ga n = enS g n := enS_same n fun i hi => by rw [← ha]; exact nrm_rt _ _
  have HE1 := Lib.hid (fun A1 c1 W (h : GS W (.slice A1 n c1) n g) => (by obtain ⟨_, _, e, h2, _⟩ := h; cases e; exact energyOfS_any A1 n c1 g W (by omega) h2 : Calls Try.prog 52 #[.slice A1 n c1] W fun e w' => e = .returned (.tuple #[.int .i64 (if smE n g = 0 then enS g n else 0), .int .i64 (smE n g)]) ∧ Below W.heap.size W w'))
  have HE2 := Lib.hid (fun A1 c1 W (h : GS W (.slice A1 n c1) n ga) => (by obtain ⟨_, _, e, h2, _⟩ := h; cases e; exact energyOfS_any A1 n c1 ga W (by omega) h2 : Calls Try.prog 52 #[.slice A1 n c1] W fun e w' => e = .returned (.tuple #[.int .i64 (if smE n ga = 0 then enS ga n else 0), .int .i64 (smE n ga)]) ∧ Below W.heap.size W w'))
  rw [hD, if_pos rfl] at HE1
  rw [sm_bd (by omega) hbA, if_pos rfl, hen] at HE2
  obtain ⟨vL, hvL, hgL⟩ := cut_lo A n c k hc hkn hN0
  obtain ⟨vH, hvH, hgH⟩ := cut_hi A n c k hc hkn hN0
  have HgL := Lib.hid (fun W (hW : Below w.heap.size w W) => hgL W g (hA.bel hW))
  have HgH := Lib.hid (fun W (hW : Below w.heap.size w W) => hgH W g (hA.bel hW))
  have HCO := Lib.hid (fun A1 c1 W (h : GA W (some A1) k ga) => copyO_some A1 k c1 ga W (by omega) h)
  have hVJ : Hid (gV n ga = gV k ga ++ gV (n - k) (fun j => ga (k + j))) := Lib.hid (by rw [← gV_app, show k + (n - k) = n by omega])
  have HGx := Lib.hid hG
  obtain ⟨i0, hi0, hz0, hz1, hz2⟩ := info_parts infoG
  clear hP hD hA hG hg hbA hbC hEk ha hgc e1 e2 e3 hq hx0 hen hgL hgH hN0 hk
  generalize phs ph inc ch k = qp at *
  generalize adv inc ch k = qi at *
  generalize enS g n = en at *
  go_enter Try.func8, Try.ntmps8
  go_upto_region 6 with (first
    | (go_at_call 17; (with_reducible refine Calls.mono (awake_any _) ?_); rintro e yx ⟨rfl, hbx⟩; (try replace l0 := keep hbx l0); (try replace l1 := keep hbx l1); (try replace l2 := keep hbx l2); (try replace q0 := keep hbx q0); (try replace q1 := keep hbx q1); (try replace q2 := keep hbx q2); (try replace T8 := Lib.hid (T8.out.on hbx)); (try replace T10 := Lib.hid (T10.out.on hbx)); (try replace T12 := Lib.hid (T12.out.on hbx)); (try replace T14 := Lib.hid (T14.out.on hbx)); (try replace T18 := Lib.hid (T18.out.bel hbx)); (try replace T20 := Lib.hid (T20.out.bel hbx)); (try replace TO := Lib.hid (TO.out.own hbx)); (first | replace BV := Lib.hid (belowT (show Below w.heap.size w _ by have Bq := BV.out; have Bz := Bq.size; (repeat (first | with_reducible exact Below.refl _ _ | with_reducible assumption | with_reducible refine Below.alloc ?_ (by first | (simp; done) | (simp; omega) | omega) _ | with_reducible refine Below.setCell ?_ (by first | (simp; done) | (simp; omega) | omega) _ | with_reducible refine Below.drew ?_ | with_reducible refine below_drewN ?_ _))) hbx) | have BV := Lib.hid (belowT (show Below w.heap.size w _ by (repeat (first | with_reducible exact Below.refl _ _ | with_reducible assumption | with_reducible refine Below.alloc ?_ (by first | (simp; done) | (simp; omega) | omega) _ | with_reducible refine Below.setCell ?_ (by first | (simp; done) | (simp; omega) | omega) _ | with_reducible refine Below.drew ?_ | with_reducible refine below_drewN ?_ _))) hbx)); have l0 := keep hbx (b := w.heap.size) (o := 0) (v := .int .i64 ph) (by simp [go_sem]); have l1 := keep hbx (b := w.heap.size) (o := 1) (v := .int .i64 inc) (by simp [go_sem]); have l2 := keep hbx (b := w.heap.size) (o := 2) (v := .int .i64 ch) (by simp [go_sem]); clear hbx)
    | (go_at_call 41; (with_reducible refine Calls.mono (HPE.out _) ?_); rintro e yx ⟨rfl, hbx⟩; (try replace l0 := keep hbx l0); (try replace l1 := keep hbx l1); (try replace l2 := keep hbx l2); (try replace q0 := keep hbx q0); (try replace q1 := keep hbx q1); (try replace q2 := keep hbx q2); (try replace T8 := Lib.hid (T8.out.on hbx)); (try replace T10 := Lib.hid (T10.out.on hbx)); (try replace T12 := Lib.hid (T12.out.on hbx)); (try replace T14 := Lib.hid (T14.out.on hbx)); (try replace T18 := Lib.hid (T18.out.bel hbx)); (try replace T20 := Lib.hid (T20.out.bel hbx)); (try replace TO := Lib.hid (TO.out.own hbx)); (first | replace BV := Lib.hid (belowT (show Below w.heap.size w _ by have Bq := BV.out; have Bz := Bq.size; (repeat (first | with_reducible exact Below.refl _ _ | with_reducible assumption | with_reducible refine Below.alloc ?_ (by first | (simp; done) | (simp; omega) | omega) _ | with_reducible refine Below.setCell ?_ (by first | (simp; done) | (simp; omega) | omega) _ | with_reducible refine Below.drew ?_ | with_reducible refine below_drewN ?_ _))) hbx) | have BV := Lib.hid (belowT (show Below w.heap.size w _ by (repeat (first | with_reducible exact Below.refl _ _ | with_reducible assumption | with_reducible refine Below.alloc ?_ (by first | (simp; done) | (simp; omega) | omega) _ | with_reducible refine Below.setCell ?_ (by first | (simp; done) | (simp; omega) | omega) _ | with_reducible refine Below.drew ?_ | with_reducible refine below_drewN ?_ _))) hbx)); clear hbx)
    | (go_at_call 53; (with_reducible refine Calls.mono (HSE.out _ BV.out) ?_); rintro e yx ⟨rfl, hbx⟩; (try replace l0 := keep hbx l0); (try replace l1 := keep hbx l1); (try replace l2 := keep hbx l2); (try replace q0 := keep hbx q0); (try replace q1 := keep hbx q1); (try replace q2 := keep hbx q2); (try replace T8 := Lib.hid (T8.out.on hbx)); (try replace T10 := Lib.hid (T10.out.on hbx)); (try replace T12 := Lib.hid (T12.out.on hbx)); (try replace T14 := Lib.hid (T14.out.on hbx)); (try replace T18 := Lib.hid (T18.out.bel hbx)); (try replace T20 := Lib.hid (T20.out.bel hbx)); (try replace TO := Lib.hid (TO.out.own hbx)); (first | replace BV := Lib.hid (belowT (show Below w.heap.size w _ by have Bq := BV.out; have Bz := Bq.size; (repeat (first | with_reducible exact Below.refl _ _ | with_reducible assumption | with_reducible refine Below.alloc ?_ (by first | (simp; done) | (simp; omega) | omega) _ | with_reducible refine Below.setCell ?_ (by first | (simp; done) | (simp; omega) | omega) _ | with_reducible refine Below.drew ?_ | with_reducible refine below_drewN ?_ _))) hbx) | have BV := Lib.hid (belowT (show Below w.heap.size w _ by (repeat (first | with_reducible exact Below.refl _ _ | with_reducible assumption | with_reducible refine Below.alloc ?_ (by first | (simp; done) | (simp; omega) | omega) _ | with_reducible refine Below.setCell ?_ (by first | (simp; done) | (simp; omega) | omega) _ | with_reducible refine Below.drew ?_ | with_reducible refine below_drewN ?_ _))) hbx)); clear hbx)
    | (go_at_call 37; (with_reducible refine Calls.mono (HMO.out _) ?_); rintro e yx ⟨rfl, rfl⟩))
  generalize yx = v0 at *
  clear HPE HSE HMO
  refine wp_region_mp [mpEq (.agg #[.int .i64 ph, .int .i64 inc, .int .i64 ch]), mpEq (.slice A n c), mpGS (n) (g), mpTG (n) (ga) (0), mpTG (n) (ga) (0), mpGS (n) (ga), mpEq (.int .i64 (0)), mpGS (n) (ga), mpEq (.int .i64 (0))] ps0 (by kernel_rfl) (by kernel_rfl) (by kernel_rfl) (
        allOps_cons (fun a' w' hb hs hd => rg_op fun K hK => by
      have e0 := (hs.get 3 (by kernel_rfl)).trans (show _ = .pointer (some ⟨w.heap.size, 0, none⟩) from rfl)
      have ec : ∀ v, a'.eval (.const v) = v := fun _ => rfl
      have c0 := keep hb l0
      have c1 := keep hb l1
      have c2 := keep hb l2
      clear hs hd
      unfold Oper.wp
      generalize a'.eval = ρ at e0 ec ⊢
      simp [go_sem, e0, c0, c1, c2]
      exact hK _ _ (Below.refl _ _) rfl) <|
        allOps_cons (fun a' w' hb hs hd => rg_op fun K hK => by
      have e0 := (hs.get 1 (by kernel_rfl)).trans (show _ = .slice A n c from rfl)
      have ec : ∀ v, a'.eval (.const v) = v := fun _ => rfl
      clear hs hd
      unfold Oper.wp
      generalize a'.eval = ρ at e0 ec ⊢
      simp [go_sem, e0]
      exact hK _ _ (Below.refl _ _) rfl) <|
        allOps_cons (fun a' w' hb hs hd => by
      exact rg_fn (φ := (mpGS (n) (g)).p) (vs := #[.slice A n c]) rfl (enters_of Try.func49 (by kernel_rfl) rfl) (by simp [(show a'.eval (.tmp 48) = .slice A n c from hd.get 1 48 (by kernel_rfl) (by kernel_rfl))]) ((HCP.out _ (n) (g) w' (by omega) (HGx.out.on (belowT BV.out hb))).mono (by rintro e w1 ⟨v, rfl, h1, h2⟩; exact ⟨_, rfl, h1, h2⟩))) <|
        allOps_cons (fun a' w' hb hs hd => by
      obtain ⟨A1, c1, e1, hG1, _⟩ := (show (mpGS (n) (g)).p (a'.eval (.tmp 49)) w' from hd.get 2 49 (by kernel_rfl) (by kernel_rfl))
      exact rg_fn (φ := (mpTG (n) (ga) (0)).p) (vs := #[.agg #[.int .i64 ph, .int .i64 inc, .int .i64 ch], .slice A1 (n) c1]) rfl (enters_of Try.func48 (by kernel_rfl) rfl) (by simp [(show a'.eval (.tmp 47) = .agg #[.int .i64 ph, .int .i64 inc, .int .i64 ch] from hd.get 0 47 (by kernel_rfl) (by kernel_rfl)), e1]) ((HMA.out A1 c1 w' hG1).mono (by rintro e w1 ⟨A2, c2, rfl, h1, h2, h3⟩; exact ⟨_, rfl, h1, A2, c2, rfl, h2, fun q => (by have h4 := h3 q; first | exact h4 | simpa using h4)⟩))) <|
        allOps_cons (fun a' w' hb hs hd => rg_op fun K hK => by
      have e0 := (show (mpTG (n) (ga) (0)).p (a'.eval (.tmp 50)) w' from hd.get 3 50 (by kernel_rfl) (by kernel_rfl))
      clear hs hd
      unfold Oper.wp
      generalize a'.eval = ρ at e0 ⊢
      simp [go_sem]
      exact hK _ _ (Below.refl _ _) e0) <|
        allOps_cons (fun a' w' hb hs hd => rg_op fun K hK => by
      obtain ⟨At, ct, e0, ht1, ht2⟩ := (show (mpTG (n) (ga) (0)).p (a'.eval (.tmp 46)) w' from hd.get 4 46 (by kernel_rfl) (by kernel_rfl))
      clear hs hd
      unfold Oper.wp
      generalize a'.eval = ρ at e0 ⊢
      simp [go_sem, e0]
      exact hK _ _ (Below.refl _ _) ⟨At, ct, rfl, ht1, ht2⟩) <|
        allOps_cons (fun a' w' hb hs hd => rg_op fun K hK => by
      obtain ⟨At, ct, e0, ht1, ht2⟩ := (show (mpTG (n) (ga) (0)).p (a'.eval (.tmp 46)) w' from hd.get 4 46 (by kernel_rfl) (by kernel_rfl))
      clear hs hd
      unfold Oper.wp
      generalize a'.eval = ρ at e0 ⊢
      simp [go_sem, e0]
      exact hK _ _ (Below.refl _ _) rfl) <|
        allOps_cons (fun a' w' hb hs hd => rg_op fun K hK => by
      have e0 := (show (mpGS (n) (ga)).p (a'.eval (.tmp 51)) w' from hd.get 5 51 (by kernel_rfl) (by kernel_rfl))
      clear hs hd
      unfold Oper.wp
      generalize a'.eval = ρ at e0 ⊢
      simp [go_sem]
      exact hK _ _ (Below.refl _ _) e0) <|
        allOps_cons (fun a' w' hb hs hd => rg_op fun K hK => by
      have e0 := (show a'.eval (.tmp 52) = .int .i64 (0) from hd.get 6 52 (by kernel_rfl) (by kernel_rfl))
      have ec : ∀ v, a'.eval (.const v) = v := fun _ => rfl
      clear hs hd
      unfold Oper.wp
      generalize a'.eval = ρ at e0 ec ⊢
      simp [go_sem, e0]
      exact hK _ _ (Below.refl _ _) rfl) <| allOps_nil) (fun V v1 hv hall => ?_)
  have h8 : (mpGS (n) (ga)).p (V 8) _ := hall.get 7 rfl
  have h9 : V 9 = .int .i64 (0) := hall.get 8 rfl
  clear hall
  simp only [ps0, maskPut, Nat.reduceAdd]
  rw [h9]
  clear h9
  obtain ⟨A8, c8, e8, hG8, hN8⟩ := h8
  rw [e8]
  replace BV := Lib.hid (belowT BV.out hv)
  replace l0 := keep hv l0
  replace l1 := keep hv l1
  replace l2 := keep hv l2
  have T8 : Hid (GS v1 (.slice A8 (n) c8) (n) (ga)) := Lib.hid ⟨A8, c8, rfl, hG8, hN8⟩
  clear hv hG8 hN8 e8
  go_upto_region 9 with (first
    | (go_at_call 53; (with_reducible refine Calls.mono (HSA.out _ _ _ T8.out) ?_); rintro e yx ⟨rfl, hbx⟩; (try replace l0 := keep hbx l0); (try replace l1 := keep hbx l1); (try replace l2 := keep hbx l2); (try replace q0 := keep hbx q0); (try replace q1 := keep hbx q1); (try replace q2 := keep hbx q2); (try replace T8 := Lib.hid (T8.out.on hbx)); (try replace T10 := Lib.hid (T10.out.on hbx)); (try replace T12 := Lib.hid (T12.out.on hbx)); (try replace T14 := Lib.hid (T14.out.on hbx)); (try replace T18 := Lib.hid (T18.out.bel hbx)); (try replace T20 := Lib.hid (T20.out.bel hbx)); (try replace TO := Lib.hid (TO.out.own hbx)); (first | replace BV := Lib.hid (belowT (show Below w.heap.size w _ by have Bq := BV.out; have Bz := Bq.size; (repeat (first | with_reducible exact Below.refl _ _ | with_reducible assumption | with_reducible refine Below.alloc ?_ (by first | (simp; done) | (simp; omega) | omega) _ | with_reducible refine Below.setCell ?_ (by first | (simp; done) | (simp; omega) | omega) _ | with_reducible refine Below.drew ?_ | with_reducible refine below_drewN ?_ _))) hbx) | have BV := Lib.hid (belowT (show Below w.heap.size w _ by (repeat (first | with_reducible exact Below.refl _ _ | with_reducible assumption | with_reducible refine Below.alloc ?_ (by first | (simp; done) | (simp; omega) | omega) _ | with_reducible refine Below.setCell ?_ (by first | (simp; done) | (simp; omega) | omega) _ | with_reducible refine Below.drew ?_ | with_reducible refine below_drewN ?_ _))) hbx)); clear hbx))
  generalize yx = v0 at *
  clear HMA HSA
  refine wp_region_mp [mpEq (.agg #[.int .i64 ph, .int .i64 inc, .int .i64 ch]), mpEq (.slice A8 n c8), mpGS (n) (ga), mpTG (n) (g) (0), mpTG (n) (g) (0), mpGS (n) (g), mpEq (.int .i64 (0)), mpGS (n) (g), mpEq (.int .i64 (0))] ps1 (by kernel_rfl) (by kernel_rfl) (by kernel_rfl) (
        allOps_cons (fun a' w' hb hs hd => rg_op fun K hK => by
      have e0 := (hs.get 3 (by kernel_rfl)).trans (show _ = .pointer (some ⟨w.heap.size, 0, none⟩) from rfl)
      have ec : ∀ v, a'.eval (.const v) = v := fun _ => rfl
      have c0 := keep hb l0
      have c1 := keep hb l1
      have c2 := keep hb l2
      clear hs hd
      unfold Oper.wp
      generalize a'.eval = ρ at e0 ec ⊢
      simp [go_sem, e0, c0, c1, c2]
      exact hK _ _ (Below.refl _ _) rfl) <|
        allOps_cons (fun a' w' hb hs hd => rg_op fun K hK => by
      have e0 := (hs.get 8 (by kernel_rfl)).trans (show _ = .slice A8 n c8 from rfl)
      have ec : ∀ v, a'.eval (.const v) = v := fun _ => rfl
      clear hs hd
      unfold Oper.wp
      generalize a'.eval = ρ at e0 ec ⊢
      simp [go_sem, e0]
      exact hK _ _ (Below.refl _ _) rfl) <|
        allOps_cons (fun a' w' hb hs hd => by
      exact rg_fn (φ := (mpGS (n) (ga)).p) (vs := #[.slice A8 n c8]) rfl (enters_of Try.func49 (by kernel_rfl) rfl) (by simp [(show a'.eval (.tmp 69) = .slice A8 n c8 from hd.get 1 69 (by kernel_rfl) (by kernel_rfl))]) ((HCP.out _ (n) (ga) w' (by omega) (T8.out.on hb)).mono (by rintro e w1 ⟨v, rfl, h1, h2⟩; exact ⟨_, rfl, h1, h2⟩))) <|
        allOps_cons (fun a' w' hb hs hd => by
      obtain ⟨A1, c1, e1, hG1, _⟩ := (show (mpGS (n) (ga)).p (a'.eval (.tmp 70)) w' from hd.get 2 70 (by kernel_rfl) (by kernel_rfl))
      exact rg_fn (φ := (mpTG (n) (g) (0)).p) (vs := #[.agg #[.int .i64 ph, .int .i64 inc, .int .i64 ch], .slice A1 (n) c1]) rfl (enters_of Try.func50 (by kernel_rfl) rfl) (by simp [(show a'.eval (.tmp 68) = .agg #[.int .i64 ph, .int .i64 inc, .int .i64 ch] from hd.get 0 68 (by kernel_rfl) (by kernel_rfl)), e1]) ((HUB.out A1 c1 w' hG1).mono (by rintro e w1 ⟨A2, c2, rfl, h1, h2, h3⟩; exact ⟨_, rfl, h1, A2, c2, rfl, h2, fun q => (by have h4 := h3 q; first | exact h4 | simpa using h4)⟩))) <|
        allOps_cons (fun a' w' hb hs hd => rg_op fun K hK => by
      have e0 := (show (mpTG (n) (g) (0)).p (a'.eval (.tmp 71)) w' from hd.get 3 71 (by kernel_rfl) (by kernel_rfl))
      clear hs hd
      unfold Oper.wp
      generalize a'.eval = ρ at e0 ⊢
      simp [go_sem]
      exact hK _ _ (Below.refl _ _) e0) <|
        allOps_cons (fun a' w' hb hs hd => rg_op fun K hK => by
      obtain ⟨At, ct, e0, ht1, ht2⟩ := (show (mpTG (n) (g) (0)).p (a'.eval (.tmp 67)) w' from hd.get 4 67 (by kernel_rfl) (by kernel_rfl))
      clear hs hd
      unfold Oper.wp
      generalize a'.eval = ρ at e0 ⊢
      simp [go_sem, e0]
      exact hK _ _ (Below.refl _ _) ⟨At, ct, rfl, ht1, ht2⟩) <|
        allOps_cons (fun a' w' hb hs hd => rg_op fun K hK => by
      obtain ⟨At, ct, e0, ht1, ht2⟩ := (show (mpTG (n) (g) (0)).p (a'.eval (.tmp 67)) w' from hd.get 4 67 (by kernel_rfl) (by kernel_rfl))
      clear hs hd
      unfold Oper.wp
      generalize a'.eval = ρ at e0 ⊢
      simp [go_sem, e0]
      exact hK _ _ (Below.refl _ _) rfl) <|
        allOps_cons (fun a' w' hb hs hd => rg_op fun K hK => by
      have e0 := (show (mpGS (n) (g)).p (a'.eval (.tmp 72)) w' from hd.get 5 72 (by kernel_rfl) (by kernel_rfl))
      clear hs hd
      unfold Oper.wp
      generalize a'.eval = ρ at e0 ⊢
      simp [go_sem]
      exact hK _ _ (Below.refl _ _) e0) <|
        allOps_cons (fun a' w' hb hs hd => rg_op fun K hK => by
      have e0 := (show a'.eval (.tmp 73) = .int .i64 (0) from hd.get 6 73 (by kernel_rfl) (by kernel_rfl))
      have ec : ∀ v, a'.eval (.const v) = v := fun _ => rfl
      clear hs hd
      unfold Oper.wp
      generalize a'.eval = ρ at e0 ec ⊢
      simp [go_sem, e0]
      exact hK _ _ (Below.refl _ _) rfl) <| allOps_nil) (fun V v2 hv hall => ?_)
  have h10 : (mpGS (n) (g)).p (V 10) _ := hall.get 7 rfl
  have h11 : V 11 = .int .i64 (0) := hall.get 8 rfl
  clear hall
  simp only [ps1, maskPut, Nat.reduceAdd]
  rw [h11]
  clear h11
  obtain ⟨A10, c10, e10, hG10, hN10⟩ := h10
  rw [e10]
  replace BV := Lib.hid (belowT BV.out hv)
  replace l0 := keep hv l0
  replace l1 := keep hv l1
  replace l2 := keep hv l2
  replace T8 := Lib.hid (T8.out.on hv)
  have T10 : Hid (GS v2 (.slice A10 (n) c10) (n) (g)) := Lib.hid ⟨A10, c10, rfl, hG10, hN10⟩
  clear hv hG10 hN10 e10
  go_upto_region 10 with fail
  refine wp_region_mp [mpEq (.agg #[.int .i64 ph, .int .i64 inc, .int .i64 ch]), mpEq (.slice A n c), mpGS (n) (g), mpTG (n) (gc) (0), mpTG (n) (gc) (0), mpGS (n) (gc), mpEq (.int .i64 (0)), mpGS (n) (gc), mpEq (.int .i64 (0))] ps2 (by kernel_rfl) (by kernel_rfl) (by kernel_rfl) (
        allOps_cons (fun a' w' hb hs hd => rg_op fun K hK => by
      have e0 := (hs.get 3 (by kernel_rfl)).trans (show _ = .pointer (some ⟨w.heap.size, 0, none⟩) from rfl)
      have ec : ∀ v, a'.eval (.const v) = v := fun _ => rfl
      have c0 := keep hb l0
      have c1 := keep hb l1
      have c2 := keep hb l2
      clear hs hd
      unfold Oper.wp
      generalize a'.eval = ρ at e0 ec ⊢
      simp [go_sem, e0, c0, c1, c2]
      exact hK _ _ (Below.refl _ _) rfl) <|
        allOps_cons (fun a' w' hb hs hd => rg_op fun K hK => by
      have e0 := (hs.get 1 (by kernel_rfl)).trans (show _ = .slice A n c from rfl)
      have ec : ∀ v, a'.eval (.const v) = v := fun _ => rfl
      clear hs hd
      unfold Oper.wp
      generalize a'.eval = ρ at e0 ec ⊢
      simp [go_sem, e0]
      exact hK _ _ (Below.refl _ _) rfl) <|
        allOps_cons (fun a' w' hb hs hd => by
      exact rg_fn (φ := (mpGS (n) (g)).p) (vs := #[.slice A n c]) rfl (enters_of Try.func49 (by kernel_rfl) rfl) (by simp [(show a'.eval (.tmp 76) = .slice A n c from hd.get 1 76 (by kernel_rfl) (by kernel_rfl))]) ((HCP.out _ (n) (g) w' (by omega) (HGx.out.on (belowT BV.out hb))).mono (by rintro e w1 ⟨v, rfl, h1, h2⟩; exact ⟨_, rfl, h1, h2⟩))) <|
        allOps_cons (fun a' w' hb hs hd => by
      obtain ⟨A1, c1, e1, hG1, _⟩ := (show (mpGS (n) (g)).p (a'.eval (.tmp 77)) w' from hd.get 2 77 (by kernel_rfl) (by kernel_rfl))
      exact rg_fn (φ := (mpTG (n) (gc) (0)).p) (vs := #[.agg #[.int .i64 ph, .int .i64 inc, .int .i64 ch], .slice A1 (n) c1]) rfl (enters_of Try.func50 (by kernel_rfl) rfl) (by simp [(show a'.eval (.tmp 75) = .agg #[.int .i64 ph, .int .i64 inc, .int .i64 ch] from hd.get 0 75 (by kernel_rfl) (by kernel_rfl)), e1]) ((HUC.out A1 c1 w' hG1).mono (by rintro e w1 ⟨A2, c2, rfl, h1, h2, h3⟩; exact ⟨_, rfl, h1, A2, c2, rfl, h2, fun q => (by have h4 := h3 q; first | exact h4 | simpa using h4)⟩))) <|
        allOps_cons (fun a' w' hb hs hd => rg_op fun K hK => by
      have e0 := (show (mpTG (n) (gc) (0)).p (a'.eval (.tmp 78)) w' from hd.get 3 78 (by kernel_rfl) (by kernel_rfl))
      clear hs hd
      unfold Oper.wp
      generalize a'.eval = ρ at e0 ⊢
      simp [go_sem]
      exact hK _ _ (Below.refl _ _) e0) <|
        allOps_cons (fun a' w' hb hs hd => rg_op fun K hK => by
      obtain ⟨At, ct, e0, ht1, ht2⟩ := (show (mpTG (n) (gc) (0)).p (a'.eval (.tmp 74)) w' from hd.get 4 74 (by kernel_rfl) (by kernel_rfl))
      clear hs hd
      unfold Oper.wp
      generalize a'.eval = ρ at e0 ⊢
      simp [go_sem, e0]
      exact hK _ _ (Below.refl _ _) ⟨At, ct, rfl, ht1, ht2⟩) <|
        allOps_cons (fun a' w' hb hs hd => rg_op fun K hK => by
      obtain ⟨At, ct, e0, ht1, ht2⟩ := (show (mpTG (n) (gc) (0)).p (a'.eval (.tmp 74)) w' from hd.get 4 74 (by kernel_rfl) (by kernel_rfl))
      clear hs hd
      unfold Oper.wp
      generalize a'.eval = ρ at e0 ⊢
      simp [go_sem, e0]
      exact hK _ _ (Below.refl _ _) rfl) <|
        allOps_cons (fun a' w' hb hs hd => rg_op fun K hK => by
      have e0 := (show (mpGS (n) (gc)).p (a'.eval (.tmp 79)) w' from hd.get 5 79 (by kernel_rfl) (by kernel_rfl))
      clear hs hd
      unfold Oper.wp
      generalize a'.eval = ρ at e0 ⊢
      simp [go_sem]
      exact hK _ _ (Below.refl _ _) e0) <|
        allOps_cons (fun a' w' hb hs hd => rg_op fun K hK => by
      have e0 := (show a'.eval (.tmp 80) = .int .i64 (0) from hd.get 6 80 (by kernel_rfl) (by kernel_rfl))
      have ec : ∀ v, a'.eval (.const v) = v := fun _ => rfl
      clear hs hd
      unfold Oper.wp
      generalize a'.eval = ρ at e0 ec ⊢
      simp [go_sem, e0]
      exact hK _ _ (Below.refl _ _) rfl) <| allOps_nil) (fun V v3 hv hall => ?_)
  have h12 : (mpGS (n) (gc)).p (V 12) _ := hall.get 7 rfl
  have h13 : V 13 = .int .i64 (0) := hall.get 8 rfl
  clear hall
  simp only [ps2, maskPut, Nat.reduceAdd]
  rw [h13]
  clear h13
  obtain ⟨A12, c12, e12, hG12, hN12⟩ := h12
  rw [e12]
  replace BV := Lib.hid (belowT BV.out hv)
  replace l0 := keep hv l0
  replace l1 := keep hv l1
  replace l2 := keep hv l2
  replace T8 := Lib.hid (T8.out.on hv)
  replace T10 := Lib.hid (T10.out.on hv)
  have T12 : Hid (GS v3 (.slice A12 (n) c12) (n) (gc)) := Lib.hid ⟨A12, c12, rfl, hG12, hN12⟩
  clear hv hG12 hN12 e12
  go_upto_region 13 with (first
    | (go_at_call 53; (with_reducible refine Calls.mono (HSC.out _ _ _ T12.out) ?_); rintro e yx ⟨rfl, hbx⟩; (try replace l0 := keep hbx l0); (try replace l1 := keep hbx l1); (try replace l2 := keep hbx l2); (try replace q0 := keep hbx q0); (try replace q1 := keep hbx q1); (try replace q2 := keep hbx q2); (try replace T8 := Lib.hid (T8.out.on hbx)); (try replace T10 := Lib.hid (T10.out.on hbx)); (try replace T12 := Lib.hid (T12.out.on hbx)); (try replace T14 := Lib.hid (T14.out.on hbx)); (try replace T18 := Lib.hid (T18.out.bel hbx)); (try replace T20 := Lib.hid (T20.out.bel hbx)); (try replace TO := Lib.hid (TO.out.own hbx)); (first | replace BV := Lib.hid (belowT (show Below w.heap.size w _ by have Bq := BV.out; have Bz := Bq.size; (repeat (first | with_reducible exact Below.refl _ _ | with_reducible assumption | with_reducible refine Below.alloc ?_ (by first | (simp; done) | (simp; omega) | omega) _ | with_reducible refine Below.setCell ?_ (by first | (simp; done) | (simp; omega) | omega) _ | with_reducible refine Below.drew ?_ | with_reducible refine below_drewN ?_ _))) hbx) | have BV := Lib.hid (belowT (show Below w.heap.size w _ by (repeat (first | with_reducible exact Below.refl _ _ | with_reducible assumption | with_reducible refine Below.alloc ?_ (by first | (simp; done) | (simp; omega) | omega) _ | with_reducible refine Below.setCell ?_ (by first | (simp; done) | (simp; omega) | omega) _ | with_reducible refine Below.drew ?_ | with_reducible refine below_drewN ?_ _))) hbx)); clear hbx)
    | (go_at_call 35; (with_reducible refine Calls.mono (HGS.out _ _ _ _ _ _ T10.out (HGx.out.on BV.out)) ?_); rintro e yx ⟨rfl, hbx⟩; (try replace l0 := keep hbx l0); (try replace l1 := keep hbx l1); (try replace l2 := keep hbx l2); (try replace q0 := keep hbx q0); (try replace q1 := keep hbx q1); (try replace q2 := keep hbx q2); (try replace T8 := Lib.hid (T8.out.on hbx)); (try replace T10 := Lib.hid (T10.out.on hbx)); (try replace T12 := Lib.hid (T12.out.on hbx)); (try replace T14 := Lib.hid (T14.out.on hbx)); (try replace T18 := Lib.hid (T18.out.bel hbx)); (try replace T20 := Lib.hid (T20.out.bel hbx)); (try replace TO := Lib.hid (TO.out.own hbx)); (first | replace BV := Lib.hid (belowT (show Below w.heap.size w _ by have Bq := BV.out; have Bz := Bq.size; (repeat (first | with_reducible exact Below.refl _ _ | with_reducible assumption | with_reducible refine Below.alloc ?_ (by first | (simp; done) | (simp; omega) | omega) _ | with_reducible refine Below.setCell ?_ (by first | (simp; done) | (simp; omega) | omega) _ | with_reducible refine Below.drew ?_ | with_reducible refine below_drewN ?_ _))) hbx) | have BV := Lib.hid (belowT (show Below w.heap.size w _ by (repeat (first | with_reducible exact Below.refl _ _ | with_reducible assumption | with_reducible refine Below.alloc ?_ (by first | (simp; done) | (simp; omega) | omega) _ | with_reducible refine Below.setCell ?_ (by first | (simp; done) | (simp; omega) | omega) _ | with_reducible refine Below.drew ?_ | with_reducible refine below_drewN ?_ _))) hbx)); clear hbx))
  generalize yx = v0 at *
  clear HUB HUC HSC
  refine wp_region_mp [mpEq (.agg #[.int .i64 ph, .int .i64 inc, .int .i64 ch]), mpEq (.slice A12 n c12), mpGS (n) (gc), mpTG (n) (g) (0), mpTG (n) (g) (0), mpGS (n) (g), mpEq (.int .i64 (0)), mpGS (n) (g), mpEq (.int .i64 (0))] ps3 (by kernel_rfl) (by kernel_rfl) (by kernel_rfl) (
        allOps_cons (fun a' w' hb hs hd => rg_op fun K hK => by
      have e0 := (hs.get 3 (by kernel_rfl)).trans (show _ = .pointer (some ⟨w.heap.size, 0, none⟩) from rfl)
      have ec : ∀ v, a'.eval (.const v) = v := fun _ => rfl
      have c0 := keep hb l0
      have c1 := keep hb l1
      have c2 := keep hb l2
      clear hs hd
      unfold Oper.wp
      generalize a'.eval = ρ at e0 ec ⊢
      simp [go_sem, e0, c0, c1, c2]
      exact hK _ _ (Below.refl _ _) rfl) <|
        allOps_cons (fun a' w' hb hs hd => rg_op fun K hK => by
      have e0 := (hs.get 12 (by kernel_rfl)).trans (show _ = .slice A12 n c12 from rfl)
      have ec : ∀ v, a'.eval (.const v) = v := fun _ => rfl
      clear hs hd
      unfold Oper.wp
      generalize a'.eval = ρ at e0 ec ⊢
      simp [go_sem, e0]
      exact hK _ _ (Below.refl _ _) rfl) <|
        allOps_cons (fun a' w' hb hs hd => by
      exact rg_fn (φ := (mpGS (n) (gc)).p) (vs := #[.slice A12 n c12]) rfl (enters_of Try.func49 (by kernel_rfl) rfl) (by simp [(show a'.eval (.tmp 100) = .slice A12 n c12 from hd.get 1 100 (by kernel_rfl) (by kernel_rfl))]) ((HCP.out _ (n) (gc) w' (by omega) (T12.out.on hb)).mono (by rintro e w1 ⟨v, rfl, h1, h2⟩; exact ⟨_, rfl, h1, h2⟩))) <|
        allOps_cons (fun a' w' hb hs hd => by
      obtain ⟨A1, c1, e1, hG1, _⟩ := (show (mpGS (n) (gc)).p (a'.eval (.tmp 101)) w' from hd.get 2 101 (by kernel_rfl) (by kernel_rfl))
      exact rg_fn (φ := (mpTG (n) (g) (0)).p) (vs := #[.agg #[.int .i64 ph, .int .i64 inc, .int .i64 ch], .slice A1 (n) c1]) rfl (enters_of Try.func48 (by kernel_rfl) rfl) (by simp [(show a'.eval (.tmp 99) = .agg #[.int .i64 ph, .int .i64 inc, .int .i64 ch] from hd.get 0 99 (by kernel_rfl) (by kernel_rfl)), e1]) ((HMD.out A1 c1 w' hG1).mono (by rintro e w1 ⟨A2, c2, rfl, h1, h2, h3⟩; exact ⟨_, rfl, h1, A2, c2, rfl, h2, fun q => (by have h4 := h3 q; first | exact h4 | simpa using h4)⟩))) <|
        allOps_cons (fun a' w' hb hs hd => rg_op fun K hK => by
      have e0 := (show (mpTG (n) (g) (0)).p (a'.eval (.tmp 102)) w' from hd.get 3 102 (by kernel_rfl) (by kernel_rfl))
      clear hs hd
      unfold Oper.wp
      generalize a'.eval = ρ at e0 ⊢
      simp [go_sem]
      exact hK _ _ (Below.refl _ _) e0) <|
        allOps_cons (fun a' w' hb hs hd => rg_op fun K hK => by
      obtain ⟨At, ct, e0, ht1, ht2⟩ := (show (mpTG (n) (g) (0)).p (a'.eval (.tmp 98)) w' from hd.get 4 98 (by kernel_rfl) (by kernel_rfl))
      clear hs hd
      unfold Oper.wp
      generalize a'.eval = ρ at e0 ⊢
      simp [go_sem, e0]
      exact hK _ _ (Below.refl _ _) ⟨At, ct, rfl, ht1, ht2⟩) <|
        allOps_cons (fun a' w' hb hs hd => rg_op fun K hK => by
      obtain ⟨At, ct, e0, ht1, ht2⟩ := (show (mpTG (n) (g) (0)).p (a'.eval (.tmp 98)) w' from hd.get 4 98 (by kernel_rfl) (by kernel_rfl))
      clear hs hd
      unfold Oper.wp
      generalize a'.eval = ρ at e0 ⊢
      simp [go_sem, e0]
      exact hK _ _ (Below.refl _ _) rfl) <|
        allOps_cons (fun a' w' hb hs hd => rg_op fun K hK => by
      have e0 := (show (mpGS (n) (g)).p (a'.eval (.tmp 103)) w' from hd.get 5 103 (by kernel_rfl) (by kernel_rfl))
      clear hs hd
      unfold Oper.wp
      generalize a'.eval = ρ at e0 ⊢
      simp [go_sem]
      exact hK _ _ (Below.refl _ _) e0) <|
        allOps_cons (fun a' w' hb hs hd => rg_op fun K hK => by
      have e0 := (show a'.eval (.tmp 104) = .int .i64 (0) from hd.get 6 104 (by kernel_rfl) (by kernel_rfl))
      have ec : ∀ v, a'.eval (.const v) = v := fun _ => rfl
      clear hs hd
      unfold Oper.wp
      generalize a'.eval = ρ at e0 ec ⊢
      simp [go_sem, e0]
      exact hK _ _ (Below.refl _ _) rfl) <| allOps_nil) (fun V v4 hv hall => ?_)
  have h14 : (mpGS (n) (g)).p (V 14) _ := hall.get 7 rfl
  have h15 : V 15 = .int .i64 (0) := hall.get 8 rfl
  clear hall
  simp only [ps3, maskPut, Nat.reduceAdd]
  rw [h15]
  clear h15
  obtain ⟨A14, c14, e14, hG14, hN14⟩ := h14
  rw [e14]
  replace BV := Lib.hid (belowT BV.out hv)
  replace l0 := keep hv l0
  replace l1 := keep hv l1
  replace l2 := keep hv l2
  replace T8 := Lib.hid (T8.out.on hv)
  replace T12 := Lib.hid (T12.out.on hv)
  have T14 : Hid (GS v4 (.slice A14 (n) c14) (n) (g)) := Lib.hid ⟨A14, c14, rfl, hG14, hN14⟩
  clear hv hG14 hN14 e14
  go_upto_region 15 with (first
    | (go_at_call 39; (with_reducible refine Calls.mono (HAD.out _) ?_); rintro e yx ⟨rfl, hbx⟩; (try replace l0 := keep hbx l0); (try replace l1 := keep hbx l1); (try replace l2 := keep hbx l2); (try replace q0 := keep hbx q0); (try replace q1 := keep hbx q1); (try replace q2 := keep hbx q2); (try replace T8 := Lib.hid (T8.out.on hbx)); (try replace T10 := Lib.hid (T10.out.on hbx)); (try replace T12 := Lib.hid (T12.out.on hbx)); (try replace T14 := Lib.hid (T14.out.on hbx)); (try replace T18 := Lib.hid (T18.out.bel hbx)); (try replace T20 := Lib.hid (T20.out.bel hbx)); (try replace TO := Lib.hid (TO.out.own hbx)); (first | replace BV := Lib.hid (belowT (show Below w.heap.size w _ by have Bq := BV.out; have Bz := Bq.size; (repeat (first | with_reducible exact Below.refl _ _ | with_reducible assumption | with_reducible refine Below.alloc ?_ (by first | (simp; done) | (simp; omega) | omega) _ | with_reducible refine Below.setCell ?_ (by first | (simp; done) | (simp; omega) | omega) _ | with_reducible refine Below.drew ?_ | with_reducible refine below_drewN ?_ _))) hbx) | have BV := Lib.hid (belowT (show Below w.heap.size w _ by (repeat (first | with_reducible exact Below.refl _ _ | with_reducible assumption | with_reducible refine Below.alloc ?_ (by first | (simp; done) | (simp; omega) | omega) _ | with_reducible refine Below.setCell ?_ (by first | (simp; done) | (simp; omega) | omega) _ | with_reducible refine Below.drew ?_ | with_reducible refine below_drewN ?_ _))) hbx)); clear hbx))
  obtain ⟨bq, hbq⟩ : ∃ bq, yx.heap.size = bq := ⟨_, rfl⟩
  have hvv : Below yx.heap.size yx (yx.alloc (.cells #[.int .i64 qp, .int .i64 qi, .int .i64 ch] 59)) := (Below.refl _ _).alloc (Nat.le_refl _) _
  have q0 : (yx.alloc (.cells #[.int .i64 qp, .int .i64 qi, .int .i64 ch] 59)).cell? ⟨bq, 0, none⟩ = some (.int .i64 qp) := by rw [← hbq]; simp [go_sem]
  have q1 : (yx.alloc (.cells #[.int .i64 qp, .int .i64 qi, .int .i64 ch] 59)).cell? ⟨bq, 1, none⟩ = some (.int .i64 qi) := by rw [← hbq]; simp [go_sem]
  have q2 : (yx.alloc (.cells #[.int .i64 qp, .int .i64 qi, .int .i64 ch] 59)).cell? ⟨bq, 2, none⟩ = some (.int .i64 ch) := by rw [← hbq]; simp [go_sem]
  replace BV := Lib.hid (belowT BV.out hvv)
  replace l0 := keep hvv l0
  replace l1 := keep hvv l1
  replace l2 := keep hvv l2
  replace T8 := Lib.hid (T8.out.on hvv)
  replace T14 := Lib.hid (T14.out.on hvv)
  clear hvv
  generalize (yx.alloc (.cells #[.int .i64 qp, .int .i64 qi, .int .i64 ch] 59)) = v5 at *
  rw [hbq]
  clear hbq
  go_upto_region 17 with (first
    | (go_at_call 35; (with_reducible refine Calls.mono (HGS.out _ _ _ _ _ _ T14.out (HGx.out.on BV.out)) ?_); rintro e yx ⟨rfl, hbx⟩; (try replace l0 := keep hbx l0); (try replace l1 := keep hbx l1); (try replace l2 := keep hbx l2); (try replace q0 := keep hbx q0); (try replace q1 := keep hbx q1); (try replace q2 := keep hbx q2); (try replace T8 := Lib.hid (T8.out.on hbx)); (try replace T10 := Lib.hid (T10.out.on hbx)); (try replace T12 := Lib.hid (T12.out.on hbx)); (try replace T14 := Lib.hid (T14.out.on hbx)); (try replace T18 := Lib.hid (T18.out.bel hbx)); (try replace T20 := Lib.hid (T20.out.bel hbx)); (try replace TO := Lib.hid (TO.out.own hbx)); (first | replace BV := Lib.hid (belowT (show Below w.heap.size w _ by have Bq := BV.out; have Bz := Bq.size; (repeat (first | with_reducible exact Below.refl _ _ | with_reducible assumption | with_reducible refine Below.alloc ?_ (by first | (simp; done) | (simp; omega) | omega) _ | with_reducible refine Below.setCell ?_ (by first | (simp; done) | (simp; omega) | omega) _ | with_reducible refine Below.drew ?_ | with_reducible refine below_drewN ?_ _))) hbx) | have BV := Lib.hid (belowT (show Below w.heap.size w _ by (repeat (first | with_reducible exact Below.refl _ _ | with_reducible assumption | with_reducible refine Below.alloc ?_ (by first | (simp; done) | (simp; omega) | omega) _ | with_reducible refine Below.setCell ?_ (by first | (simp; done) | (simp; omega) | omega) _ | with_reducible refine Below.drew ?_ | with_reducible refine below_drewN ?_ _))) hbx)); clear hbx)
    | (go_at_call 41; (with_reducible refine Calls.mono (HQE.out _) ?_); rintro e yx ⟨rfl, hbx⟩; (try replace l0 := keep hbx l0); (try replace l1 := keep hbx l1); (try replace l2 := keep hbx l2); (try replace q0 := keep hbx q0); (try replace q1 := keep hbx q1); (try replace q2 := keep hbx q2); (try replace T8 := Lib.hid (T8.out.on hbx)); (try replace T10 := Lib.hid (T10.out.on hbx)); (try replace T12 := Lib.hid (T12.out.on hbx)); (try replace T14 := Lib.hid (T14.out.on hbx)); (try replace T18 := Lib.hid (T18.out.bel hbx)); (try replace T20 := Lib.hid (T20.out.bel hbx)); (try replace TO := Lib.hid (TO.out.own hbx)); replace BV := Lib.hid (belowT BV.out hbx); clear hbx))
  generalize yx = v0 at *
  clear HAD HQE HMD
  refine wp_region_mp [mpEq (.agg #[.int .i64 ph, .int .i64 inc, .int .i64 ch]), mpEq (.slice A n c), mpEq (.int .i64 ((k : Nat))), mpEq (vL), mpGS (k) (g), mpTZ (k) (ga) (0), mpTZ (k) (ga) (0), mpGZ (k) (ga), mpEq (.int .i64 (0)), mpGZ (k) (ga), mpEq (.int .i64 (0))] ps4 (by kernel_rfl) (by kernel_rfl) (by kernel_rfl) (
        allOps_cons (fun a' w' hb hs hd => rg_op fun K hK => by
      have e0 := (hs.get 3 (by kernel_rfl)).trans (show _ = .pointer (some ⟨w.heap.size, 0, none⟩) from rfl)
      have ec : ∀ v, a'.eval (.const v) = v := fun _ => rfl
      have c0 := keep hb l0
      have c1 := keep hb l1
      have c2 := keep hb l2
      clear hs hd
      unfold Oper.wp
      generalize a'.eval = ρ at e0 ec ⊢
      simp [go_sem, e0, c0, c1, c2]
      exact hK _ _ (Below.refl _ _) rfl) <|
        allOps_cons (fun a' w' hb hs hd => rg_op fun K hK => by
      have e0 := (hs.get 1 (by kernel_rfl)).trans (show _ = .slice A n c from rfl)
      have ec : ∀ v, a'.eval (.const v) = v := fun _ => rfl
      clear hs hd
      unfold Oper.wp
      generalize a'.eval = ρ at e0 ec ⊢
      simp [go_sem, e0]
      exact hK _ _ (Below.refl _ _) rfl) <|
        allOps_cons (fun a' w' hb hs hd => rg_op fun K hK => by
      have e0 := (hs.get 7 (by kernel_rfl)).trans (show _ = .int .i64 ((k : Nat)) from rfl)
      have ec : ∀ v, a'.eval (.const v) = v := fun _ => rfl
      clear hs hd
      unfold Oper.wp
      generalize a'.eval = ρ at e0 ec ⊢
      simp [go_sem, e0]
      exact hK _ _ (Below.refl _ _) rfl) <|
        allOps_cons (fun a' w' hb hs hd => rg_op fun K hK => by
      have e0 := (show a'.eval (.tmp 130) = .slice A n c from hd.get 1 130 (by kernel_rfl) (by kernel_rfl))
      have e1 := (show a'.eval (.tmp 131) = .int .i64 ((k : Nat)) from hd.get 2 131 (by kernel_rfl) (by kernel_rfl))
      have ec : ∀ v, a'.eval (.const v) = v := fun _ => rfl
      clear hs hd
      unfold Oper.wp
      generalize a'.eval = ρ at e0 e1 ec ⊢
      simp [go_sem, e0, e1, hvL]
      exact hK _ _ (Below.refl _ _) rfl) <|
        allOps_cons (fun a' w' hb hs hd => by
      exact rg_fn (φ := (mpGS (k) (g)).p) (vs := #[vL]) rfl (enters_of Try.func49 (by kernel_rfl) rfl) (by simp [(show a'.eval (.tmp 132) = vL from hd.get 3 132 (by kernel_rfl) (by kernel_rfl))]) ((HCP.out _ (k) (g) w' (by omega) (HgL.out w' (belowT BV.out hb))).mono (by rintro e w1 ⟨v, rfl, h1, h2⟩; exact ⟨_, rfl, h1, h2⟩))) <|
        allOps_cons (fun a' w' hb hs hd => by
      obtain ⟨A1, c1, e1, hG1, _⟩ := (show (mpGS (k) (g)).p (a'.eval (.tmp 133)) w' from hd.get 4 133 (by kernel_rfl) (by kernel_rfl))
      exact rg_fn (φ := (mpTZ (k) (ga) (0)).p) (vs := #[.agg #[.int .i64 ph, .int .i64 inc, .int .i64 ch], .slice A1 (k) c1]) rfl (enters_of Try.func48 (by kernel_rfl) rfl) (by simp [(show a'.eval (.tmp 129) = .agg #[.int .i64 ph, .int .i64 inc, .int .i64 ch] from hd.get 0 129 (by kernel_rfl) (by kernel_rfl)), e1]) ((HMH.out A1 c1 w' hG1).mono (by rintro e w1 ⟨G2, c2, rfl, h1, h2⟩; exact ⟨_, rfl, h1, G2, c2, rfl, h2⟩))) <|
        allOps_cons (fun a' w' hb hs hd => rg_op fun K hK => by
      have e0 := (show (mpTZ (k) (ga) (0)).p (a'.eval (.tmp 134)) w' from hd.get 5 134 (by kernel_rfl) (by kernel_rfl))
      clear hs hd
      unfold Oper.wp
      generalize a'.eval = ρ at e0 ⊢
      simp [go_sem]
      exact hK _ _ (Below.refl _ _) e0) <|
        allOps_cons (fun a' w' hb hs hd => rg_op fun K hK => by
      obtain ⟨At, ct, e0, ht1⟩ := (show (mpTZ (k) (ga) (0)).p (a'.eval (.tmp 128)) w' from hd.get 6 128 (by kernel_rfl) (by kernel_rfl))
      clear hs hd
      unfold Oper.wp
      generalize a'.eval = ρ at e0 ⊢
      simp [go_sem, e0]
      exact hK _ _ (Below.refl _ _) ⟨At, ct, rfl, ht1⟩) <|
        allOps_cons (fun a' w' hb hs hd => rg_op fun K hK => by
      obtain ⟨At, ct, e0, ht1⟩ := (show (mpTZ (k) (ga) (0)).p (a'.eval (.tmp 128)) w' from hd.get 6 128 (by kernel_rfl) (by kernel_rfl))
      clear hs hd
      unfold Oper.wp
      generalize a'.eval = ρ at e0 ⊢
      simp [go_sem, e0]
      exact hK _ _ (Below.refl _ _) rfl) <|
        allOps_cons (fun a' w' hb hs hd => rg_op fun K hK => by
      have e0 := (show (mpGZ (k) (ga)).p (a'.eval (.tmp 135)) w' from hd.get 7 135 (by kernel_rfl) (by kernel_rfl))
      clear hs hd
      unfold Oper.wp
      generalize a'.eval = ρ at e0 ⊢
      simp [go_sem]
      exact hK _ _ (Below.refl _ _) e0) <|
        allOps_cons (fun a' w' hb hs hd => rg_op fun K hK => by
      have e0 := (show a'.eval (.tmp 136) = .int .i64 (0) from hd.get 8 136 (by kernel_rfl) (by kernel_rfl))
      have ec : ∀ v, a'.eval (.const v) = v := fun _ => rfl
      clear hs hd
      unfold Oper.wp
      generalize a'.eval = ρ at e0 ec ⊢
      simp [go_sem, e0]
      exact hK _ _ (Below.refl _ _) rfl) <| allOps_nil) (fun V v6 hv hall => ?_)
  have h18 : (mpGZ (k) (ga)).p (V 18) _ := hall.get 9 rfl
  have h19 : V 19 = .int .i64 (0) := hall.get 10 rfl
  clear hall
  simp only [ps4, maskPut, Nat.reduceAdd]
  rw [h19]
  clear h19
  obtain ⟨G18, c18, e18, hG18⟩ := h18
  rw [e18]
  replace BV := Lib.hid (belowT BV.out hv)
  replace l0 := keep hv l0
  replace l1 := keep hv l1
  replace l2 := keep hv l2
  replace q0 := keep hv q0
  replace q1 := keep hv q1
  replace q2 := keep hv q2
  replace T8 := Lib.hid (T8.out.on hv)
  have T18 := Lib.hid hG18
  clear hv hG18 e18
  go_upto_region 18 with fail
  refine wp_region_mp [mpEq (.agg #[.int .i64 qp, .int .i64 qi, .int .i64 ch]), mpEq (.slice A n c), mpEq (.int .i64 ((k : Nat))), mpEq (vH), mpGS (n - k) (fun j => g (k + j)), mpTZ (n - k) (fun j => ga (k + j)) (0), mpTZ (n - k) (fun j => ga (k + j)) (0), mpGZ (n - k) (fun j => ga (k + j)), mpEq (.int .i64 (0)), mpGZ (n - k) (fun j => ga (k + j)), mpEq (.int .i64 (0))] ps5 (by kernel_rfl) (by kernel_rfl) (by kernel_rfl) (
        allOps_cons (fun a' w' hb hs hd => rg_op fun K hK => by
      have e0 := (hs.get 16 (by kernel_rfl)).trans (show _ = .pointer (some ⟨bq, 0, none⟩) from rfl)
      have ec : ∀ v, a'.eval (.const v) = v := fun _ => rfl
      have c0 := keep hb q0
      have c1 := keep hb q1
      have c2 := keep hb q2
      clear hs hd
      unfold Oper.wp
      generalize a'.eval = ρ at e0 ec ⊢
      simp [go_sem, e0, c0, c1, c2]
      exact hK _ _ (Below.refl _ _) rfl) <|
        allOps_cons (fun a' w' hb hs hd => rg_op fun K hK => by
      have e0 := (hs.get 1 (by kernel_rfl)).trans (show _ = .slice A n c from rfl)
      have ec : ∀ v, a'.eval (.const v) = v := fun _ => rfl
      clear hs hd
      unfold Oper.wp
      generalize a'.eval = ρ at e0 ec ⊢
      simp [go_sem, e0]
      exact hK _ _ (Below.refl _ _) rfl) <|
        allOps_cons (fun a' w' hb hs hd => rg_op fun K hK => by
      have e0 := (hs.get 7 (by kernel_rfl)).trans (show _ = .int .i64 ((k : Nat)) from rfl)
      have ec : ∀ v, a'.eval (.const v) = v := fun _ => rfl
      clear hs hd
      unfold Oper.wp
      generalize a'.eval = ρ at e0 ec ⊢
      simp [go_sem, e0]
      exact hK _ _ (Below.refl _ _) rfl) <|
        allOps_cons (fun a' w' hb hs hd => rg_op fun K hK => by
      have e0 := (show a'.eval (.tmp 139) = .slice A n c from hd.get 1 139 (by kernel_rfl) (by kernel_rfl))
      have e1 := (show a'.eval (.tmp 140) = .int .i64 ((k : Nat)) from hd.get 2 140 (by kernel_rfl) (by kernel_rfl))
      have ec : ∀ v, a'.eval (.const v) = v := fun _ => rfl
      clear hs hd
      unfold Oper.wp
      generalize a'.eval = ρ at e0 e1 ec ⊢
      simp [go_sem, e0, e1, hvH]
      exact hK _ _ (Below.refl _ _) rfl) <|
        allOps_cons (fun a' w' hb hs hd => by
      exact rg_fn (φ := (mpGS (n - k) (fun j => g (k + j))).p) (vs := #[vH]) rfl (enters_of Try.func49 (by kernel_rfl) rfl) (by simp [(show a'.eval (.tmp 141) = vH from hd.get 3 141 (by kernel_rfl) (by kernel_rfl))]) ((HCP.out _ (n - k) (fun j => g (k + j)) w' (by omega) (HgH.out w' (belowT BV.out hb))).mono (by rintro e w1 ⟨v, rfl, h1, h2⟩; exact ⟨_, rfl, h1, h2⟩))) <|
        allOps_cons (fun a' w' hb hs hd => by
      obtain ⟨A1, c1, e1, hG1, _⟩ := (show (mpGS (n - k) (fun j => g (k + j))).p (a'.eval (.tmp 142)) w' from hd.get 4 142 (by kernel_rfl) (by kernel_rfl))
      exact rg_fn (φ := (mpTZ (n - k) (fun j => ga (k + j)) (0)).p) (vs := #[.agg #[.int .i64 qp, .int .i64 qi, .int .i64 ch], .slice A1 (n - k) c1]) rfl (enters_of Try.func48 (by kernel_rfl) rfl) (by simp [(show a'.eval (.tmp 138) = .agg #[.int .i64 qp, .int .i64 qi, .int .i64 ch] from hd.get 0 138 (by kernel_rfl) (by kernel_rfl)), e1]) ((HMT.out A1 c1 w' hG1).mono (by rintro e w1 ⟨G2, c2, rfl, h1, h2⟩; exact ⟨_, rfl, h1, G2, c2, rfl, h2⟩))) <|
        allOps_cons (fun a' w' hb hs hd => rg_op fun K hK => by
      have e0 := (show (mpTZ (n - k) (fun j => ga (k + j)) (0)).p (a'.eval (.tmp 143)) w' from hd.get 5 143 (by kernel_rfl) (by kernel_rfl))
      clear hs hd
      unfold Oper.wp
      generalize a'.eval = ρ at e0 ⊢
      simp [go_sem]
      exact hK _ _ (Below.refl _ _) e0) <|
        allOps_cons (fun a' w' hb hs hd => rg_op fun K hK => by
      obtain ⟨At, ct, e0, ht1⟩ := (show (mpTZ (n - k) (fun j => ga (k + j)) (0)).p (a'.eval (.tmp 137)) w' from hd.get 6 137 (by kernel_rfl) (by kernel_rfl))
      clear hs hd
      unfold Oper.wp
      generalize a'.eval = ρ at e0 ⊢
      simp [go_sem, e0]
      exact hK _ _ (Below.refl _ _) ⟨At, ct, rfl, ht1⟩) <|
        allOps_cons (fun a' w' hb hs hd => rg_op fun K hK => by
      obtain ⟨At, ct, e0, ht1⟩ := (show (mpTZ (n - k) (fun j => ga (k + j)) (0)).p (a'.eval (.tmp 137)) w' from hd.get 6 137 (by kernel_rfl) (by kernel_rfl))
      clear hs hd
      unfold Oper.wp
      generalize a'.eval = ρ at e0 ⊢
      simp [go_sem, e0]
      exact hK _ _ (Below.refl _ _) rfl) <|
        allOps_cons (fun a' w' hb hs hd => rg_op fun K hK => by
      have e0 := (show (mpGZ (n - k) (fun j => ga (k + j))).p (a'.eval (.tmp 144)) w' from hd.get 7 144 (by kernel_rfl) (by kernel_rfl))
      clear hs hd
      unfold Oper.wp
      generalize a'.eval = ρ at e0 ⊢
      simp [go_sem]
      exact hK _ _ (Below.refl _ _) e0) <|
        allOps_cons (fun a' w' hb hs hd => rg_op fun K hK => by
      have e0 := (show a'.eval (.tmp 145) = .int .i64 (0) from hd.get 8 145 (by kernel_rfl) (by kernel_rfl))
      have ec : ∀ v, a'.eval (.const v) = v := fun _ => rfl
      clear hs hd
      unfold Oper.wp
      generalize a'.eval = ρ at e0 ec ⊢
      simp [go_sem, e0]
      exact hK _ _ (Below.refl _ _) rfl) <| allOps_nil) (fun V v7 hv hall => ?_)
  have h20 : (mpGZ (n - k) (fun j => ga (k + j))).p (V 20) _ := hall.get 9 rfl
  have h21 : V 21 = .int .i64 (0) := hall.get 10 rfl
  clear hall
  simp only [ps5, maskPut, Nat.reduceAdd]
  rw [h21]
  clear h21
  obtain ⟨G20, c20, e20, hG20⟩ := h20
  rw [e20]
  replace BV := Lib.hid (belowT BV.out hv)
  replace q0 := keep hv q0
  replace q1 := keep hv q1
  replace q2 := keep hv q2
  replace T8 := Lib.hid (T8.out.on hv)
  replace T18 := Lib.hid (T18.out.bel hv)
  have T20 := Lib.hid hG20
  clear hv hG20 e20
  go_upto_region 21 with (first
    | (go_at_call 49; (with_reducible refine Calls.mono (HCP.out _ _ _ _ (by omega) (HGx.out.on BV.out)) ?_); rintro e yx ⟨vc, rfl, hbx, Ac, cc, rfl, hGc, hNc⟩; (try replace l0 := keep hbx l0); (try replace l1 := keep hbx l1); (try replace l2 := keep hbx l2); (try replace q0 := keep hbx q0); (try replace q1 := keep hbx q1); (try replace q2 := keep hbx q2); (try replace T8 := Lib.hid (T8.out.on hbx)); (try replace T10 := Lib.hid (T10.out.on hbx)); (try replace T12 := Lib.hid (T12.out.on hbx)); (try replace T14 := Lib.hid (T14.out.on hbx)); (try replace T18 := Lib.hid (T18.out.bel hbx)); (try replace T20 := Lib.hid (T20.out.bel hbx)); (try replace TO := Lib.hid (TO.out.own hbx)); (first | replace BV := Lib.hid (belowT (show Below w.heap.size w _ by have Bq := BV.out; have Bz := Bq.size; (repeat (first | with_reducible exact Below.refl _ _ | with_reducible assumption | with_reducible refine Below.alloc ?_ (by first | (simp; done) | (simp; omega) | omega) _ | with_reducible refine Below.setCell ?_ (by first | (simp; done) | (simp; omega) | omega) _ | with_reducible refine Below.drew ?_ | with_reducible refine below_drewN ?_ _))) hbx) | have BV := Lib.hid (belowT (show Below w.heap.size w _ by (repeat (first | with_reducible exact Below.refl _ _ | with_reducible assumption | with_reducible refine Below.alloc ?_ (by first | (simp; done) | (simp; omega) | omega) _ | with_reducible refine Below.setCell ?_ (by first | (simp; done) | (simp; omega) | omega) _ | with_reducible refine Below.drew ?_ | with_reducible refine below_drewN ?_ _))) hbx)); have TC : Hid (GS yx (.slice Ac n cc) n g) := Lib.hid ⟨Ac, cc, rfl, hGc, hNc⟩; clear hGc hNc; clear hbx)
    | (go_at_call 49; (with_reducible refine Calls.mono (HCP.out _ _ _ _ (by omega) T8.out) ?_); rintro e yx ⟨vc, rfl, hbx, Ac, cc, rfl, hGc, hNc⟩; (try replace l0 := keep hbx l0); (try replace l1 := keep hbx l1); (try replace l2 := keep hbx l2); (try replace q0 := keep hbx q0); (try replace q1 := keep hbx q1); (try replace q2 := keep hbx q2); (try replace T8 := Lib.hid (T8.out.on hbx)); (try replace T10 := Lib.hid (T10.out.on hbx)); (try replace T12 := Lib.hid (T12.out.on hbx)); (try replace T14 := Lib.hid (T14.out.on hbx)); (try replace T18 := Lib.hid (T18.out.bel hbx)); (try replace T20 := Lib.hid (T20.out.bel hbx)); (try replace TO := Lib.hid (TO.out.own hbx)); (first | replace BV := Lib.hid (belowT (show Below w.heap.size w _ by have Bq := BV.out; have Bz := Bq.size; (repeat (first | with_reducible exact Below.refl _ _ | with_reducible assumption | with_reducible refine Below.alloc ?_ (by first | (simp; done) | (simp; omega) | omega) _ | with_reducible refine Below.setCell ?_ (by first | (simp; done) | (simp; omega) | omega) _ | with_reducible refine Below.drew ?_ | with_reducible refine below_drewN ?_ _))) hbx) | have BV := Lib.hid (belowT (show Below w.heap.size w _ by (repeat (first | with_reducible exact Below.refl _ _ | with_reducible assumption | with_reducible refine Below.alloc ?_ (by first | (simp; done) | (simp; omega) | omega) _ | with_reducible refine Below.setCell ?_ (by first | (simp; done) | (simp; omega) | omega) _ | with_reducible refine Below.drew ?_ | with_reducible refine below_drewN ?_ _))) hbx)); have TA : Hid (GS yx (.slice Ac n cc) n ga) := Lib.hid ⟨Ac, cc, rfl, hGc, hNc⟩; clear hGc hNc; clear hbx)
    | (go_at_call 52; (with_reducible refine Calls.mono (HE1.out _ _ _ TC.out) ?_); rintro e yx ⟨rfl, hbx⟩; (try replace l0 := keep hbx l0); (try replace l1 := keep hbx l1); (try replace l2 := keep hbx l2); (try replace q0 := keep hbx q0); (try replace q1 := keep hbx q1); (try replace q2 := keep hbx q2); (try replace T8 := Lib.hid (T8.out.on hbx)); (try replace T10 := Lib.hid (T10.out.on hbx)); (try replace T12 := Lib.hid (T12.out.on hbx)); (try replace T14 := Lib.hid (T14.out.on hbx)); (try replace T18 := Lib.hid (T18.out.bel hbx)); (try replace T20 := Lib.hid (T20.out.bel hbx)); (try replace TO := Lib.hid (TO.out.own hbx)); (first | replace BV := Lib.hid (belowT (show Below w.heap.size w _ by have Bq := BV.out; have Bz := Bq.size; (repeat (first | with_reducible exact Below.refl _ _ | with_reducible assumption | with_reducible refine Below.alloc ?_ (by first | (simp; done) | (simp; omega) | omega) _ | with_reducible refine Below.setCell ?_ (by first | (simp; done) | (simp; omega) | omega) _ | with_reducible refine Below.drew ?_ | with_reducible refine below_drewN ?_ _))) hbx) | have BV := Lib.hid (belowT (show Below w.heap.size w _ by (repeat (first | with_reducible exact Below.refl _ _ | with_reducible assumption | with_reducible refine Below.alloc ?_ (by first | (simp; done) | (simp; omega) | omega) _ | with_reducible refine Below.setCell ?_ (by first | (simp; done) | (simp; omega) | omega) _ | with_reducible refine Below.drew ?_ | with_reducible refine below_drewN ?_ _))) hbx)); clear hbx)
    | (go_at_call 52; (with_reducible refine Calls.mono (HE2.out _ _ _ TA.out) ?_); rintro e yx ⟨rfl, hbx⟩; (try replace l0 := keep hbx l0); (try replace l1 := keep hbx l1); (try replace l2 := keep hbx l2); (try replace q0 := keep hbx q0); (try replace q1 := keep hbx q1); (try replace q2 := keep hbx q2); (try replace T8 := Lib.hid (T8.out.on hbx)); (try replace T10 := Lib.hid (T10.out.on hbx)); (try replace T12 := Lib.hid (T12.out.on hbx)); (try replace T14 := Lib.hid (T14.out.on hbx)); (try replace T18 := Lib.hid (T18.out.bel hbx)); (try replace T20 := Lib.hid (T20.out.bel hbx)); (try replace TO := Lib.hid (TO.out.own hbx)); (first | replace BV := Lib.hid (belowT (show Below w.heap.size w _ by have Bq := BV.out; have Bz := Bq.size; (repeat (first | with_reducible exact Below.refl _ _ | with_reducible assumption | with_reducible refine Below.alloc ?_ (by first | (simp; done) | (simp; omega) | omega) _ | with_reducible refine Below.setCell ?_ (by first | (simp; done) | (simp; omega) | omega) _ | with_reducible refine Below.drew ?_ | with_reducible refine below_drewN ?_ _))) hbx) | have BV := Lib.hid (belowT (show Below w.heap.size w _ by (repeat (first | with_reducible exact Below.refl _ _ | with_reducible assumption | with_reducible refine Below.alloc ?_ (by first | (simp; done) | (simp; omega) | omega) _ | with_reducible refine Below.setCell ?_ (by first | (simp; done) | (simp; omega) | omega) _ | with_reducible refine Below.drew ?_ | with_reducible refine below_drewN ?_ _))) hbx)); clear hbx))
  obtain ⟨Bo, hBo⟩ : ∃ Bo, yx.heap.size = Bo := ⟨_, rfl⟩
  have hBw : w.heap.size ≤ Bo := hBo ▸ BV.out.size
  have HC2 := HCO.out _ c18 _ T18.out
  have hkk : k + (n - k) = n := by omega
  rw [hBo] at HC2
  have HT8 : Hid (∀ W, Below Bo yx W → GS W (.slice A8 n c8) n ga) := Lib.hid (fun W hW => T8.out.on (hBo.symm ▸ hW))
  have HBV : Hid (∀ W, Below Bo yx W → Below w.heap.size w W) := Lib.hid (fun W hW => BV.out.trans (hW.mono hBw))
  have HT20 : Hid (∀ W, Below Bo yx W → GA W (some ⟨G20, 0, none⟩) (n - k) (fun j => ga (k + j))) := Lib.hid (fun W hW => T20.out.bel (hBo.symm ▸ hW))
  clear HCO T18 T20 T8 BV HCP HE1 HE2 HGx HMH HMT HgL HgH q0 q1 q2
  generalize yx = v9 at *
  go_wp2_with (first
    | (go_at_call 49; (with_reducible refine Calls.mono HC2 ?_); rintro e y1 ⟨vo, rfl, hbx, hO⟩; have HO := Lib.hid hO; have HX := Lib.hid (hBo ▸ hbx : Below Bo v9 y1); have hBz : Bo ≤ y1.heap.size := hBo ▸ hbx.size; clear hO hbx)
    | ((refine wl_app rfl (.tmp 166) (.tmp 167) 42 rfl Bo 23 i0 _ 2 16 undGs hi0 hz0 hz1 hz2 rfl (by decide) vo k (gV k ga) rfl HO.out ⟨G20, 0, none⟩ (n - k) c20 (gV (n - k) (fun j => ga (k + j))) rfl (gV_len _ _) (gLive (HT20.out _ HX.out)) (fun u hu => (by obtain ⟨x, rfl⟩ := gV_ints _ _ u hu; rfl)) (by unfold maxLen; omega) (by omega) (by omega) ?_; intro v' w6 hown' hgrow; rw [← hVJ.out, hkk] at hown'; obtain ⟨AJ, cJ, eJ, hJ1, hJ2⟩ := own_GS hown'; subst eJ; have HX6 := Lib.hid (HX.out.trans (app_bel2 hBz HO.out hgrow)); have TJ : Hid (GS w6 (.slice AJ n cJ) n ga) := Lib.hid ⟨AJ, cJ, rfl, hJ1, hJ2⟩; clear hown' hgrow hJ1 hJ2))
    | (go_at_call 35; (with_reducible refine Calls.mono (HGS.out _ _ _ _ _ _ TJ.out (HT8.out _ HX6.out)) ?_); rintro e y7 ⟨rfl, hb7⟩; have HX7 := Lib.hid (belowT (HBV.out _ HX6.out) hb7); clear hb7))
  go_ret
  exact ⟨rfl, HX7.out⟩
end Go.Proofs.Ytpkacfgmojblbaa
