/- Helpers: equal numbers; the packets of the document's examples. No condition but the hypotheses that each theorem names. -/
import Derived.Test.YtpkacfgmojblbaaB08
namespace Go.Proofs.Ytpkacfgmojblbaa
open Go.RowKit
attribute [local go_sem] old1 fro1 old2 fro2 old3 fro3 old4 fro4 old5 fro5 old6 fro6 old7 fro7 old8 fro8 old9 fro9 old10 fro10 old11 fro11 old12 fro12
set_option maxRecDepth 100000 in
set_option maxHeartbeats 2000000 in
theorem ints_any (A B : Option Addr) (n c m c' : Nat) (xs ys : Nat → Int) (w : World) (hn : n ≤ 1000000) (hA : IA w A n xs) (hB : IA w B m ys) :
    Calls Try.prog 30 #[.slice A n c, .slice B m c'] w fun e w' => e = .returned (.bool (n == m && (List.range n).all fun i => xs i == ys i)) ∧ Below w.heap.size w w' := by
  by_cases hnm : n = m
  · subst hnm
    have HA := Lib.hid hA
    have HB := Lib.hid hB
    clear hA hB
    go_enter Try.func30, Try.ntmps30
    go_wp2_with fail
    go_loopw [5] (fun i wr => ∃ k : Nat, k ≤ n ∧ i = .int .i64 k ∧ Hid (∀ j, j < k → xs j = ys j) ∧ Below w.heap.size w wr) (fun i _ => n - (intOf i).toNat)
    case atStart => exact ⟨0, Nat.zero_le _, rfl, fun j hj => absurd hj (Nat.not_lt_zero _), by (repeat (first | with_reducible exact Below.refl _ _ | with_reducible assumption | with_reducible refine Below.alloc ?_ (by first | (simp; done) | (simp; omega) | omega) _ | with_reducible refine Below.setCell ?_ (by first | (simp; done) | (simp; omega) | omega) _ | with_reducible refine Below.drew ?_ | with_reducible refine below_drewN ?_ _))⟩
    case round =>
      obtain ⟨k, hk, rfl, H, hbel⟩ := hrel
      by_cases hlt : k < n
      · obtain ⟨b1, o1, rfl, hc1⟩ := HA.out (by omega)
        obtain ⟨b2, o2, rfl, hc2⟩ := HB.out (by omega)
        have q1 := keep hbel (hc1 k hlt)
        have q2 := keep hbel (hc2 k hlt)
        have hws := hbel.size
        have p1 : (0 : Int) ≤ (k : Int) := by omega
        have p2 : (k : Int) < (n : Int) := by omega
        have HL := Lib.hid hlt
        clear hc1 hc2
        by_cases he : xs k = ys k
        · have g1 : (xs k != ys k) = false := by simp [he]
          have HE := Lib.hid he
          clear he
          go_wp2_with fail
          go_region_held3 (fun w' => w'.cell? ⟨b1, o1 + k, none⟩ = some (.int .i64 (xs k)) ∧ w'.cell? ⟨b2, o2 + k, none⟩ = some (.int .i64 (ys k))) (simp [go_sem, *]) (first | fail)
          all_goals
            go_wp2
            go_roundw
            case rel => exact ⟨k + 1, by omega, by go_num, fun j hj => (by
              rcases Nat.lt_or_eq_of_le (Nat.le_of_lt_succ hj) with h | h
              · exact H.out j h
              · rw [h]; exact HE.out), by (repeat (first | with_reducible exact Below.refl _ _ | with_reducible assumption | with_reducible refine Below.alloc ?_ (by first | (simp; done) | (simp; omega) | omega) _ | with_reducible refine Below.setCell ?_ (by first | (simp; done) | (simp; omega) | omega) _ | with_reducible refine Below.drew ?_ | with_reducible refine below_drewN ?_ _))⟩
            case measure => simp [intOf]; omega
        · have g1 : (xs k != ys k) = true := by simp [he]
          have HE := Lib.hid he
          clear he
          go_wp2_with fail
          go_region_held3 (fun w' => w'.cell? ⟨b1, o1 + k, none⟩ = some (.int .i64 (xs k)) ∧ w'.cell? ⟨b2, o2 + k, none⟩ = some (.int .i64 (ys k))) (simp [go_sem, *]) (first | fail)
          all_goals
            go_wp2
            go_ret
            refine ⟨ret_bool ?_, by (repeat (first | with_reducible exact Below.refl _ _ | with_reducible assumption | with_reducible refine Below.alloc ?_ (by first | (simp; done) | (simp; omega) | omega) _ | with_reducible refine Below.setCell ?_ (by first | (simp; done) | (simp; omega) | omega) _ | with_reducible refine Below.drew ?_ | with_reducible refine below_drewN ?_ _))⟩
            simp only [beq_self_eq_true, Bool.true_and]
            refine (List.all_eq_false.2 ⟨k, List.mem_range.2 HL.out, ?_⟩).symm
            simpa using HE.out
      · obtain rfl : k = n := by omega
        go_wp2
        go_ret
        refine ⟨ret_bool ?_, hbel⟩
        simp only [beq_self_eq_true, Bool.true_and]
        exact (List.all_eq_true.2 fun j hj => by simpa using H.out j (List.mem_range.1 hj)).symm
  · have g0 : (((n : Int) != (m : Int)) = true) := by simp; omega
    rw [show (n == m) = false by simpa using hnm]
    go_enter Try.func30, Try.ntmps30
    go_wp2_with fail
    go_ret
    exact ⟨rfl, by (repeat (first | with_reducible exact Below.refl _ _ | with_reducible assumption | with_reducible refine Below.alloc ?_ (by first | (simp; done) | (simp; omega) | omega) _ | with_reducible refine Below.setCell ?_ (by first | (simp; done) | (simp; omega) | omega) _ | with_reducible refine Below.drew ?_ | with_reducible refine below_drewN ?_ _))⟩
theorem infoPk : (Try.prog.info? 26).map (fun i => (i.zero, i.size, i.bytes)) = some (some (.agg (pk fun _ => 0)), 18, 144) := by kernel_rfl
theorem undPks : Try.prog.underlying 36 = some (.slice 26) := by kernel_rfl
/-- packets as cells -/
def pL : Nat → (Nat → Nat → Int) → List Value
  | 0, _ => []
  | n + 1, g => pL n g ++ pkL (g n)
theorem pkL_len (p : Nat → Int) : (pkL p).length = 18 := by simp [pkL]
theorem pL_len (g : Nat → Nat → Int) : ∀ n, (pL n g).length = n * 18
  | 0 => rfl
  | n + 1 => by simp [pL, pL_len g n, pkL_len]; omega
theorem pL_get (g : Nat → Nat → Int) : ∀ n i j, i < n → j < 18 → (pL n g)[i * 18 + j]? = some (.int .i64 (g i j))
  | 0, i, j, h, _ => absurd h (Nat.not_lt_zero i)
  | n + 1, i, j, h, hj => by
    simp only [pL]
    have hl := pL_len g n
    by_cases e : i = n
    · subst e
      rw [List.getElem?_append_right (by omega), hl, Nat.add_sub_cancel_left]
      exact pkL_get _ _ hj
    · rw [List.getElem?_append_left (by omega)]
      exact pL_get g n i j (by omega) hj
theorem own_pL {w : World} {base e n : Nat} {v : Value} {g : Nat → Nat → Int} (h : w.ownsRow base e 18 v n (pL n g)) : v = .slice (sA v) n (sC v) ∧ KA w (sA v) n g := by
  rcases h.2 with ⟨rfl, rfl⟩ | ⟨k, cap, cur, rfl, _⟩
  · exact ⟨rfl, fun h0 => absurd h0 (Nat.lt_irrefl 0)⟩
  · refine ⟨rfl, fun _ => ⟨k, 0, rfl, fun i hi j hj => ?_⟩⟩
    have h0 := h.cells (g := k) rfl (i * 18 + j) _ (pL_get g n i j hi hj)
    rw [addr_addI] at h0
    rw [Nat.add_assoc]
    exact h0
theorem newsP (w : World) (p : Nat → Int) (t : TypeId) : ∀ j u, (pkL p)[j]? = some u → (w.alloc (.cells (pk p) t)).cell? ((⟨w.heap.size, 0, none⟩ : Addr).add j) = some u := by
  intro j u hj
  have hl : j < 18 := by
    have := (List.getElem?_eq_some_iff.1 hj).1
    rwa [pkL_len] at this
  rw [pkL_get p j hl] at hj
  cases hj
  rw [addr_addI, Nat.zero_add]
  exact pk_cell w p t j hl
theorem own_bel {w w1 : World} {base e sz n : Nat} {v : Value} {xs : List Value} (h : w.ownsRow base e sz v n xs) (hb : Below w.heap.size w w1) : w1.ownsRow base e sz v n xs :=
  ⟨h.1, by
    rcases h.2 with hn | ⟨g, cap, cur, rfl, hbb, hgg, rest⟩
    · exact .inl hn
    · refine .inr ⟨g, cap, cur, rfl, hbb, ?_, rest⟩
      rw [hb.block g (Array.getElem?_eq_some_iff.1 hgg).1]
      exact hgg⟩
theorem bsP (w : World) (p : Nat → Int) : (Instr.buildSlice 36 1 #[(0, .agg (pk p))]).run Try.prog w = .ok (.slice (some ⟨w.heap.size, 0, none⟩) 1 1) (w.alloc (.cells (pk p) 26)) := by
  have e : pk p = #[.int .i64 (p 0), .int .i64 (p 1), .int .i64 (p 2), .int .i64 (p 3), .int .i64 (p 4), .int .i64 (p 5), .int .i64 (p 6), .int .i64 (p 7), .int .i64 (p 8), .int .i64 (p 9), .int .i64 (p 10), .int .i64 (p 11), .int .i64 (p 12), .int .i64 (p 13), .int .i64 (p 14), .int .i64 (p 15), .int .i64 (p 16), .int .i64 (p 17)] := rfl
  rw [e]
  simp [go_sem]
theorem wl_bs {ops : Array Oper} {rest : List Oper} {op : Oper} {a : Act} {w : World} {Q : Exit → Act → World → Prop} (hgd : op.guard = none) (x : Operand) (ho : op.op = .buildSlice 36 1 #[(0, x)]) (p : Nat → Int) (hx : a.eval x = .agg (pk p))
    (h : wpList Try.prog ops Q rest (a.put op.dst (.slice (some ⟨w.heap.size, 0, none⟩) 1 1)) (w.alloc (.cells (pk p) 26))) : wpList Try.prog ops Q (op :: rest) a w := by
  refine wpList_plain hgd fun K hK => ?_
  have hb := bsP w p
  rw [← hx] at hb
  unfold Oper.wp execOp
  simp only [ho, List.map_toArray, List.map_cons, List.map_nil, Sem.run_bind, Sem.run_pure, Result.andThen_ok, hb]
  exact hK _ _ h
/-- a packet in a variable of its own, that may be written -/
def PM (w : World) (P : Nat) (p : Nat → Int) : Prop := P < w.heap.size ∧ ∀ j, j < 18 → w.cell? ⟨P, j, none⟩ = some (.int .i64 (p j)) ∧ w.frozen? ⟨P, j, none⟩ = false
theorem PM.made (w : World) (p : Nat → Int) (T : TypeId) : PM (w.alloc (.cells (pk p) T)) w.heap.size p :=
  ⟨by simp, fun j hj => ⟨pk_cell w p T j hj, by simp [go_sem]⟩⟩
theorem PM.set {w : World} {P k : Nat} {f : Nat → Int} (h : PM w P f) (hk : k < 18) (v : Int) : PM (w.setCell ⟨P, k, none⟩ (.int .i64 v)) P (fun i => if i = k then v else f i) := by
  refine ⟨by simpa using h.1, fun i hi => ⟨?_, (World.frozen?_setCell _ _ _ _).trans (h.2 i hi).2⟩⟩
  by_cases e : i = k
  · subst e
    simp only [if_true]
    exact World.cell?_setCell_same' _ _ _ (by rw [(h.2 i hi).1]; rfl)
  · simp only [if_neg e]
    exact (World.cell?_setCell_other _ _ _ _ (by simp)).trans (h.2 i hi).1
theorem PM.same {w : World} {P : Nat} {f g : Nat → Int} (h : PM w P f) (he : ∀ j, j < 18 → f j = g j) : PM w P g := ⟨h.1, fun j hj => by rw [← he j hj]; exact h.2 j hj⟩
/-- a packet whose first samples are a number -/
def pkp (x : Int) (m j : Nat) : Int := if j = 0 then x else if j = 1 then 1 else if j % 2 = 0 ∧ (j - 2) / 2 < m then x else 0
theorem pkp_s (x : Int) (m : Nat) (hm : m < 8) (j : Nat) : (if j = 2 + m * 2 + 1 then 0 else if j = 2 + m * 2 then x else pkp x m j) = pkp x (m + 1) j := by
  unfold pkp
  repeat' split
  all_goals first | rfl | omega

set_option maxRecDepth 100000 in
set_option maxHeartbeats 800000 in
theorem packets_any (A : Option Addr) (n c : Nat) (xs : Nat → Int) (w : World) (hn : n ≤ 30) (hA : IA w A n xs) :
    Calls Try.prog 86 #[.slice A n c] w fun e w' => ∃ X c', e = .returned (.slice X n c') ∧ KA w' X n (fun i => pkp (xs i) 8) ∧ Below w.heap.size w w' := by
  obtain ⟨i0, hi0, hz0, hz1, hz2⟩ := info_parts infoPk
  have HA := Lib.hid hA
  clear hA
  go_enter Try.func86, Try.ntmps86
  go_wp2
  go_loopw [3, 4, 5, 6] (fun s3 s4 s5 s6 wr => ∃ j : Nat, j ≤ n ∧ s4 = .int .i64 j ∧ Below w.heap.size w wr ∧ Hid (wr.ownsRow w.heap.size 26 18 s3 j (pL j (fun i => pkp (xs i) 8)))) (fun _ i _ _ _ => n - (intOf i).toNat)
  case atStart => exact ⟨0, Nat.zero_le _, rfl, Below.refl _ _, World.ownsRow_nil _ _ _ _⟩
  case round =>
    obtain ⟨j, hj, rfl, hbel, HO⟩ := hrel
    have HB := Lib.hid hbel
    by_cases hlt : j < n
    · obtain ⟨bA, oA, rfl, hA2⟩ := HA.out.bel hbel (by omega)
      have x0 := hA2 j hlt
      have hws := hbel.size
      have HS : Hid (pL (j + 1) (fun i => pkp (xs i) 8) = pL j (fun i => pkp (xs i) 8) ++ pkL (pkp (xs j) 8)) := Lib.hid rfl
      have g1 : (0 : Int) ≤ (j : Int) := by omega
      have g2 : (j : Int) < (n : Int) := by omega
      clear hbel hA2
      go_upto_region 6 with (first | (refine wl_st rfl _ _ rfl _ rfl rfl (pkp (xs j) 0) rfl ?_))
      have hb1 : Below wr.heap.size wr (wr.alloc (.cells (pk (pkp (xs j) 0)) 26)) := (Below.refl _ _).alloc (Nat.le_refl _) _
      have HP1 := Lib.hid (PM.made wr (pkp (xs j) 0) 26)
      have HB1 := Lib.hid hb1
      have X0 := Lib.hid x0
      clear hb1
      generalize (wr.alloc (.cells (pk (pkp (xs j) 0)) 26)) = w1 at *
      have hbP := lt_of x0
      clear x0
      have x1 : ∀ W, Below w1.heap.size w1 W → W.cell? ⟨bA, oA + j, none⟩ = some (.int .i64 (xs j)) := fun W hW => keep (belowT HB1.out hW) X0.out
      have X1 := Lib.hid x1
      clear x1 X0
      generalize hPP : wr.heap.size = P at *
      go_wp2
      go_loopw [6] (fun s6 wi => ∃ m : Nat, m ≤ 8 ∧ s6 = .int .i64 m ∧ Hid (Below P wr wi) ∧ Hid (PM wi P (pkp (xs j) m)) ∧ Hid (wi.cell? ⟨bA, oA + j, none⟩ = some (.int .i64 (xs j)))) (fun i _ => 8 - (intOf i).toNat)
      case atStart => exact ⟨0, Nat.zero_le _, rfl, HB1, HP1, X1.out _ (Below.refl _ _)⟩
      case round =>
        obtain ⟨m, hm, rfl, HBi, HPi, XC⟩ := hrel
        have x0 := XC.out
        by_cases hlm : m < 8
        · have c0 := (HPi.out.2 (2 + m * 2) (by omega)).1
          have c1 := (HPi.out.2 (2 + m * 2 + 1) (by omega)).1
          have f0 := (HPi.out.2 (2 + m * 2) (by omega)).2
          have f1 := (HPi.out.2 (2 + m * 2 + 1) (by omega)).2
          have m1 : (0 : Int) ≤ (m : Int) := by omega
          have m2 : (m : Int) < 8 := by omega
          go_wp2
          go_roundw
          case rel => exact ⟨m + 1, by omega, by go_num, (HBi.out.setCell (Nat.le_refl _) _).setCell (Nat.le_refl _) _, ((HPi.out.set (by omega) _).set (by omega) _).same (fun i _ => pkp_s (xs j) m hlm i), (World.cell?_setCell_far _ _ _ _ (by show P ≠ bA; omega)).trans ((World.cell?_setCell_far _ _ _ _ (by show P ≠ bA; omega)).trans XC.out)⟩
          case measure => simp [intOf]; omega
        · obtain rfl : m = 8 := by omega
          generalize hpp : pkp (xs j) 8 = PP at *
          have HPC : ∀ i, i < 18 → wr.cell? ⟨P, 0 + i, none⟩ = some (.int .i64 (PP i)) := fun i hi => by rw [Nat.zero_add]; exact (HPi.out.2 i hi).1
          clear hm hlm x0 XC HA X1 HP1
          have HB5 := Lib.hid (show Below w.heap.size w wr from HB.out.trans ((HBi.out).mono hws))
          have hs5 := HB5.out.size
          have HO5 : Hid (wr.ownsRow w.heap.size 26 18 u3 j (pL j (fun i => pkp (xs i) 8))) := Lib.hid (own_bel HO.out (hPP.symm ▸ HBi.out))
          go_wp2_with (first | (refine wl_ld rfl _ rfl P 0 rfl PP HPC ?_) | (refine wl_bs rfl _ rfl PP rfl ?_) | (at_builtin; go_loud (refine wpList_append_own_at _ rfl _ _ 36 rfl w.heap.size 26 i0 _ 18 144 undPks hi0 hz0 hz1 hz2 rfl (by decide) u3 _ _ rfl (HO5.out.alloc _) ⟨wr.heap.size, 0, none⟩ 1 1 (pkL PP) rfl (pkL_len _) (newsP _ _ _) (by simp [pkL, Value.oneCell']) (by unfold maxLen; omega) (by omega) (by simp; omega) ?_; intro v' w6 hown' hgrow hnil hloc; rw [← HS.out] at hown'; have HO6 := Lib.hid hown'; have BW := app_bel (by omega) HO5.out hgrow; have HB6 := Lib.hid (HB5.out.trans (BW.mono (by omega))); clear hown' hgrow hnil hloc BW)))
          go_roundw
          case rel => exact ⟨j + 1, by omega, by go_num, HB6.out, HO6.out⟩
          case measure => simp [intOf]; omega
    · obtain rfl : j = n := by omega
      obtain ⟨e3, h3⟩ := own_pL HO.out
      have HG := Lib.hid h3
      generalize sA u3 = A3 at *
      generalize sC u3 = C3 at *
      subst e3
      clear h3 hbel
      go_wp2
      go_ret
      exact ⟨_, _, rfl, HG.out, HB.out⟩

end Go.Proofs.Ytpkacfgmojblbaa
namespace Go.Proofs.Ytpkacfgmojblbaa
open Go.RowKit
attribute [local go_sem] old1 fro1 old2 fro2 old3 fro3 old4 fro4 old5 fro5 old6 fro6 old7 fro7 old8 fro8 old9 fro9 old10 fro10 old11 fro11 old12 fro12
def pick4 (a b c d : Int) (i : Nat) : Int := if i = 0 then a else if i = 1 then b else if i = 2 then c else d
theorem ia4 {w : World} {b : Nat} {a0 a1 a2 a3 : Int} {xs : Nat → Int} (h0 : w.cell? ⟨b, 0, none⟩ = some (.int .i64 a0)) (h1 : w.cell? ⟨b, 1, none⟩ = some (.int .i64 a1)) (h2 : w.cell? ⟨b, 2, none⟩ = some (.int .i64 a2)) (h3 : w.cell? ⟨b, 3, none⟩ = some (.int .i64 a3)) (e0 : xs 0 = a0) (e1 : xs 1 = a1) (e2 : xs 2 = a2) (e3 : xs 3 = a3) : IA w (some ⟨b, 0, none⟩) 4 xs := fun _ => ⟨b, 0, rfl, fun i hi => by
  rw [Nat.zero_add]
  match i, hi with
  | 0, _ => rw [e0]; exact h0
  | 1, _ => rw [e1]; exact h1
  | 2, _ => rw [e2]; exact h2
  | 3, _ => rw [e3]; exact h3⟩
theorem ia2 {w : World} {b : Nat} {a0 a1 : Int} {xs : Nat → Int} (h0 : w.cell? ⟨b, 0, none⟩ = some (.int .i64 a0)) (h1 : w.cell? ⟨b, 1, none⟩ = some (.int .i64 a1)) (e0 : xs 0 = a0) (e1 : xs 1 = a1) : IA w (some ⟨b, 0, none⟩) 2 xs := fun _ => ⟨b, 0, rfl, fun i hi => by
  rw [Nat.zero_add]
  match i, hi with
  | 0, _ => rw [e0]; exact h0
  | 1, _ => rw [e1]; exact h1⟩
def gE (i : Nat) : Int × Int := ((i : Int) + 1, 0)
theorem two_new {w : World} {a b : Value} {T : TypeId} : (w.alloc (.cells #[a, b] T)).cell? ⟨w.heap.size, 0, none⟩ = some a ∧ (w.alloc (.cells #[a, b] T)).cell? ⟨w.heap.size, 1, none⟩ = some b := ⟨by simp [go_sem], by simp [go_sem]⟩
def C8 (w : World) (b : Nat) : Prop := w.cell? ⟨b, 0, none⟩ = some (.int .i64 10) ∧ w.cell? ⟨b, 1, none⟩ = some (.int .i64 0) ∧ w.cell? ⟨b, 2, none⟩ = some (.int .i64 (-2)) ∧ w.cell? ⟨b, 3, none⟩ = some (.int .i64 2) ∧ w.cell? ⟨b, 4, none⟩ = some (.int .i64 (-2)) ∧ w.cell? ⟨b, 5, none⟩ = some (.int .i64 0) ∧ w.cell? ⟨b, 6, none⟩ = some (.int .i64 (-2)) ∧ w.cell? ⟨b, 7, none⟩ = some (.int .i64 (-2))
theorem C8.on {w w1 : World} {b : Nat} (h : C8 w b) (hb : Below w.heap.size w w1) : C8 w1 b := by
  obtain ⟨a0, a1, a2, a3, a4, a5, a6, a7⟩ := h
  exact ⟨keep hb a0, keep hb a1, keep hb a2, keep hb a3, keep hb a4, keep hb a5, keep hb a6, keep hb a7⟩
theorem ga4 {w : World} {b : Nat} (h0 : w.cell? ⟨b, 0, none⟩ = some (.int .i64 1)) (h1 : w.cell? ⟨b, 1, none⟩ = some (.int .i64 0)) (h2 : w.cell? ⟨b, 2, none⟩ = some (.int .i64 2)) (h3 : w.cell? ⟨b, 3, none⟩ = some (.int .i64 0)) (h4 : w.cell? ⟨b, 4, none⟩ = some (.int .i64 3)) (h5 : w.cell? ⟨b, 5, none⟩ = some (.int .i64 0)) (h6 : w.cell? ⟨b, 6, none⟩ = some (.int .i64 4)) (h7 : w.cell? ⟨b, 7, none⟩ = some (.int .i64 0)) : GA w (some ⟨b, 0, none⟩) 4 gE := fun _ => ⟨b, 0, rfl, fun i hi => by
  match i, hi with
  | 0, _ => exact ⟨h0, h1⟩
  | 1, _ => exact ⟨h2, h3⟩
  | 2, _ => exact ⟨h4, h5⟩
  | 3, _ => exact ⟨h6, h7⟩⟩
def kE (i : Nat) : Nat → Int := pkp (pick4 1023 0 1022 0 i) 8
theorem kE_0 : rcE 4 kE = 0 := by kernel_rfl
theorem kE_kd : ∀ i, i < 4 → kd (fc kE) i = pick4 0 0 1 2 i
  | 0, _ => by kernel_rfl
  | 1, _ => by kernel_rfl
  | 2, _ => by kernel_rfl
  | 3, _ => by kernel_rfl
theorem kE_fc : ∀ i, i < 4 → fc kE i = pick4 2047 2048 2046 2048 i
  | 0, _ => by kernel_rfl
  | 1, _ => by kernel_rfl
  | 2, _ => by kernel_rfl
  | 3, _ => by kernel_rfl
theorem exK (X : Option Addr) (c : Nat) (w : World) (h : KA w X 4 kE) : Calls Try.prog 24 #[.slice X 4 c] w fun e w' => ∃ K, e = .returned (.tuple #[.slice (some ⟨K, 0, none⟩) 4 4, .int .i64 0]) ∧ IA w' (some ⟨K, 0, none⟩) 4 (pick4 0 0 1 2) ∧ Below w.heap.size w w' :=
  (kindsOf_ok X 4 c kE kE_0 (by omega) (fun i hi => by rw [kE_fc i hi]; unfold pick4; split <;> (try split) <;> (try split) <;> omega) w h).mono (by
    rintro e w' ⟨K, rfl, hI, _, hb⟩
    exact ⟨K, rfl, (hI.same kE_kd).ia, hb⟩)
theorem tE : ∀ i : Nat, i < 4 → trn 500 100 10 i = pick4 0 1 1 1 i
  | 0, _ => by kernel_rfl
  | 1, _ => by kernel_rfl
  | 2, _ => by kernel_rfl
  | 3, _ => by kernel_rfl
theorem exT (w : World) : Calls Try.prog 40 #[.agg #[.int .i64 500, .int .i64 100, .int .i64 10], .int .i64 4] w fun e w' => ∃ A c, e = .returned (.tuple #[.slice A 4 c, .int .i64 0]) ∧ IA w' A 4 (pick4 0 1 1 1) ∧ Below w.heap.size w w' :=
  (turnsOf_ok 500 100 10 4 (by kernel_rfl) (by omega) w).mono (by
    rintro e w' ⟨A, c, rfl, hI, _, hb⟩
    exact ⟨A, c, rfl, hI.same tE, hb⟩)
theorem exR (A : Option Addr) (c : Nat) (_ : Nat → Int) (w : World) (hA : IA w A 2 (fun _ => 1)) : Calls Try.prog 65 #[.agg #[.slice A 2 c, .int .i64 2], .int .i64 1] w fun e w' => e = .returned (.tuple #[.agg #[.int .i64 1, .int .i64 (-1)], .int .i64 0]) ∧ Below w.heap.size w w' :=
  (responseAt_ok A 2 c (fun _ => 1) 2 1 (by kernel_rfl) w hA).mono (by
    rintro e w' ⟨rfl, hb⟩
    exact ⟨by kernel_rfl, hb⟩)
theorem exB (A : Option Addr) (c : Nat) (w : World) (hA : GA w A 4 gE) : Calls Try.prog 73 #[.slice A 4 c] w fun e w' => e = .returned (.tuple #[.agg #[.int .i64 10, .int .i64 0, .int .i64 (-2), .int .i64 2, .int .i64 (-2), .int .i64 0, .int .i64 (-2), .int .i64 (-2)], .int .i64 0]) ∧ Below w.heap.size w w' :=
  (binsOf_ok A 4 c gE (by kernel_rfl) w hA).mono (by
    rintro e w' ⟨rfl, hb⟩
    exact ⟨by kernel_rfl, hb⟩)
theorem exN (w : World) : Calls Try.prog 80 #[.int .i64 10, .int .i64 4] w fun e w' => e = .returned (.tuple #[.int .i64 800, .int .i64 0]) ∧ Below w.heap.size w w' :=
  (minimumNorm_any 10 4 w).mono (by
    rintro e w' ⟨rfl, hb⟩
    exact ⟨by kernel_rfl, hb⟩)
set_option maxRecDepth 100000 in
set_option maxHeartbeats 800000 in
theorem eq8 (w : World) : (binOp .eql 102 (.agg #[.int .i64 10, .int .i64 0, .int .i64 (-2), .int .i64 2, .int .i64 (-2), .int .i64 0, .int .i64 (-2), .int .i64 (-2)]) (.agg #[.int .i64 10, .int .i64 0, .int .i64 (-2), .int .i64 2, .int .i64 (-2), .int .i64 0, .int .i64 (-2), .int .i64 (-2)])).run Try.prog w = .ok (.bool true) w := by
  have hc : Try.prog.cellsOf 23 = 2 := by kernel_rfl
  simp [go_sem]
  rw [run_equalIn_array _ 9999 (e := 23) (n := 4) _ _ rfl rfl]
  simp [go_sem, Op.eqItems, List.range, List.range.loop, hc]
theorem wl_eq8 {ops : Array Oper} {rest : List Oper} {op : Oper} {a : Act} {w : World} {Q : Exit → Act → World → Prop} (x y : Operand) (t2 : TypeId) (ho : op.op = .binOp .eql 102 x y t2) (hgd : Region.wanted op (yielded ops a.tmps) = true) (hx : a.eval x = .agg #[.int .i64 10, .int .i64 0, .int .i64 (-2), .int .i64 2, .int .i64 (-2), .int .i64 0, .int .i64 (-2), .int .i64 (-2)]) (hy : a.eval y = .agg #[.int .i64 10, .int .i64 0, .int .i64 (-2), .int .i64 2, .int .i64 (-2), .int .i64 0, .int .i64 (-2), .int .i64 (-2)])
    (h : wpList Try.prog ops Q rest (a.put op.dst (.bool true)) w) : wpList Try.prog ops Q (op :: rest) a w := by
  refine wpList_step fun K hK => ?_
  rw [if_pos hgd]
  have hg : (eqGuard .eql 102 x y (.agg #[.int .i64 10, .int .i64 0, .int .i64 (-2), .int .i64 2, .int .i64 (-2), .int .i64 0, .int .i64 (-2), .int .i64 (-2)]) (.agg #[.int .i64 10, .int .i64 0, .int .i64 (-2), .int .i64 2, .int .i64 (-2), .int .i64 0, .int .i64 (-2), .int .i64 (-2)])).run Try.prog w = .ok () w := by
    have hge : Try.prog.eqGuardType Try.prog.depth 102 = false := by kernel_rfl
    simp [eqGuard, hge, go_sem]
  unfold Oper.wp execOp
  simp only [ho, hx, hy, Sem.run_bind, Sem.run_pure, Result.andThen_ok, hg, eq8]
  exact hK _ _ h

set_option maxRecDepth 100000 in
set_option maxHeartbeats 2000000 in
theorem awake_any (w : World) : Calls Try.prog 17 #[] w fun e w' => e = .returned (.bool true) ∧ Below w.heap.size w w' := by
  go_enter Try.func17, Try.ntmps17
  go_upto_region 4 with (first
    | (go_at_call 86; (with_reducible refine Calls.mono (packets_any _ 4 4 (pick4 1023 0 1022 0) _ (by omega) (ia4 (a0 := 1023) (a1 := 0) (a2 := 1022) (a3 := 0) (by simp [go_sem]) (by simp [go_sem]) (by simp [go_sem]) (by simp [go_sem]) rfl rfl rfl rfl)) ?_); rintro e w1 ⟨X1, c1, rfl, t1, hb1⟩; have T1 : Hid (KA w1 X1 4 kE) := Lib.hid t1; have B := Lib.hid (belowT (show Below w.heap.size w _ by (repeat (first | with_reducible exact Below.refl _ _ | with_reducible assumption | with_reducible refine Below.alloc ?_ (by first | (simp; done) | (simp; omega) | omega) _ | with_reducible refine Below.setCell ?_ (by first | (simp; done) | (simp; omega) | omega) _ | with_reducible refine Below.drew ?_ | with_reducible refine below_drewN ?_ _))) hb1); clear t1 hb1)
    | (go_at_call 24; (with_reducible refine Calls.mono (exK _ _ _ T1.out) ?_); rintro e w2 ⟨K2, rfl, t2, hb2⟩; have T2 := Lib.hid t2; replace B := Lib.hid (belowT (show Below w.heap.size w _ by have Bq := B.out; (repeat (first | with_reducible exact Below.refl _ _ | with_reducible assumption | with_reducible refine Below.alloc ?_ (by first | (simp; done) | (simp; omega) | omega) _ | with_reducible refine Below.setCell ?_ (by first | (simp; done) | (simp; omega) | omega) _ | with_reducible refine Below.drew ?_ | with_reducible refine below_drewN ?_ _))) hb2); clear t2 hb2)
    | (go_at_call 40; (with_reducible refine Calls.mono (exT _) ?_); rintro e w3 ⟨A3, c3, rfl, t3, hb3⟩; have T3 := Lib.hid t3; replace T2 := Lib.hid (T2.out.bel hb3); replace B := Lib.hid (belowT (show Below w.heap.size w _ by have Bq := B.out; (repeat (first | with_reducible exact Below.refl _ _ | with_reducible assumption | with_reducible refine Below.alloc ?_ (by first | (simp; done) | (simp; omega) | omega) _ | with_reducible refine Below.setCell ?_ (by first | (simp; done) | (simp; omega) | omega) _ | with_reducible refine Below.drew ?_ | with_reducible refine below_drewN ?_ _))) hb3); clear t3 hb3)
    | (go_at_call 65; (with_reducible refine Calls.mono (exR _ _ (fun _ => 1) _ (ia2 (a0 := 1) (a1 := 1) (by simp [go_sem]) (by simp [go_sem]) rfl rfl)) ?_); rintro e w4 ⟨rfl, hb4⟩; have C4 := (show Below w3.heap.size w3 w4 from belowT (by (repeat (first | with_reducible exact Below.refl _ _ | with_reducible assumption | with_reducible refine Below.alloc ?_ (by first | (simp; done) | (simp; omega) | omega) _ | with_reducible refine Below.setCell ?_ (by first | (simp; done) | (simp; omega) | omega) _ | with_reducible refine Below.drew ?_ | with_reducible refine below_drewN ?_ _))) hb4); replace T3 := Lib.hid (T3.out.bel C4); replace T2 := Lib.hid (T2.out.bel C4); replace B := Lib.hid (belowT B.out C4); clear C4 hb4))
  have hv4 : Below w4.heap.size w4 (w4.alloc (.cells #[.int .i64 1, .int .i64 (-1)] 23)) := (Below.refl _ _).alloc (Nat.le_refl _) _
  have P5 := Lib.hid (two_new (w := w4) (a := .int .i64 1) (b := .int .i64 (-1)) (T := 23))
  replace T3 := Lib.hid (T3.out.bel hv4)
  replace T2 := Lib.hid (T2.out.bel hv4)
  replace B := Lib.hid (belowT B.out hv4)
  clear hv4 T1
  generalize (w4.alloc (.cells #[.int .i64 1, .int .i64 (-1)] 23)) = v4 at *
  generalize w4.heap.size = b5 at *
  go_upto_region 5 with (go_at_call 73; (with_reducible refine Calls.mono (exB _ _ _ (ga4 (by simp [go_sem]) (by simp [go_sem]) (by simp [go_sem]) (by simp [go_sem]) (by simp [go_sem]) (by simp [go_sem]) (by simp [go_sem]) (by simp [go_sem]))) ?_); rintro e w5 ⟨rfl, hb5⟩; have C5 := (show Below v4.heap.size v4 w5 from belowT (by (repeat (first | with_reducible exact Below.refl _ _ | with_reducible assumption | with_reducible refine Below.alloc ?_ (by first | (simp; done) | (simp; omega) | omega) _ | with_reducible refine Below.setCell ?_ (by first | (simp; done) | (simp; omega) | omega) _ | with_reducible refine Below.drew ?_ | with_reducible refine below_drewN ?_ _))) hb5); replace T3 := Lib.hid (T3.out.bel C5); replace T2 := Lib.hid (T2.out.bel C5); replace P5 := Lib.hid (And.intro (keep C5 P5.out.1) (keep C5 P5.out.2)); replace B := Lib.hid (belowT B.out C5); clear C5 hb5)
  have hv5 : Below w5.heap.size w5 (w5.alloc (.cells #[.int .i64 10, .int .i64 0, .int .i64 (-2), .int .i64 2, .int .i64 (-2), .int .i64 0, .int .i64 (-2), .int .i64 (-2)] 102)) := (Below.refl _ _).alloc (Nat.le_refl _) _
  have P7 : Hid (C8 (w5.alloc (.cells #[.int .i64 10, .int .i64 0, .int .i64 (-2), .int .i64 2, .int .i64 (-2), .int .i64 0, .int .i64 (-2), .int .i64 (-2)] 102)) w5.heap.size) := Lib.hid ⟨by simp [go_sem], by simp [go_sem], by simp [go_sem], by simp [go_sem], by simp [go_sem], by simp [go_sem], by simp [go_sem], by simp [go_sem]⟩
  replace T3 := Lib.hid (T3.out.bel hv5)
  replace T2 := Lib.hid (T2.out.bel hv5)
  replace P5 := Lib.hid (And.intro (keep hv5 P5.out.1) (keep hv5 P5.out.2))
  replace B := Lib.hid (belowT B.out hv5)
  clear hv5
  generalize (w5.alloc (.cells #[.int .i64 10, .int .i64 0, .int .i64 (-2), .int .i64 2, .int .i64 (-2), .int .i64 0, .int .i64 (-2), .int .i64 (-2)] 102)) = v5 at *
  generalize w5.heap.size = b7 at *
  go_wp2_with (first
    | (go_at_call 80; (with_reducible refine Calls.mono (exN _) ?_); rintro e w6 ⟨rfl, C6⟩; replace T3 := Lib.hid (T3.out.bel C6); replace T2 := Lib.hid (T2.out.bel C6); replace P5 := Lib.hid (And.intro (keep C6 P5.out.1) (keep C6 P5.out.2)); replace P7 := Lib.hid (P7.out.on C6); replace B := Lib.hid (belowT B.out C6); clear C6)
    | (go_at_call 30; (with_reducible refine Calls.mono (ints_any _ _ 4 4 4 4 (pick4 0 0 1 2) (pick4 0 0 1 2) _ (by omega) (T2.out.bel (by (repeat (first | with_reducible exact Below.refl _ _ | with_reducible assumption | with_reducible refine Below.alloc ?_ (by first | (simp; done) | (simp; omega) | omega) _ | with_reducible refine Below.setCell ?_ (by first | (simp; done) | (simp; omega) | omega) _ | with_reducible refine Below.drew ?_ | with_reducible refine below_drewN ?_ _)))) (ia4 (a0 := 0) (a1 := 0) (a2 := 1) (a3 := 2) (by simp [go_sem]) (by simp [go_sem]) (by simp [go_sem]) (by simp [go_sem]) rfl rfl rfl rfl)) ?_); rintro e w7 ⟨rfl, hb7⟩; have C7 := (show Below w6.heap.size w6 w7 from belowT (by (repeat (first | with_reducible exact Below.refl _ _ | with_reducible assumption | with_reducible refine Below.alloc ?_ (by first | (simp; done) | (simp; omega) | omega) _ | with_reducible refine Below.setCell ?_ (by first | (simp; done) | (simp; omega) | omega) _ | with_reducible refine Below.drew ?_ | with_reducible refine below_drewN ?_ _))) hb7); replace T3 := Lib.hid (T3.out.bel C7); replace P5 := Lib.hid (And.intro (keep C7 P5.out.1) (keep C7 P5.out.2)); replace P7 := Lib.hid (P7.out.on C7); replace B := Lib.hid (belowT B.out C7); clear T2 C7 hb7)
    | (go_at_call 30; (with_reducible refine Calls.mono (ints_any _ _ 4 c3 4 4 (pick4 0 1 1 1) (pick4 0 1 1 1) _ (by omega) (T3.out.bel (by (repeat (first | with_reducible exact Below.refl _ _ | with_reducible assumption | with_reducible refine Below.alloc ?_ (by first | (simp; done) | (simp; omega) | omega) _ | with_reducible refine Below.setCell ?_ (by first | (simp; done) | (simp; omega) | omega) _ | with_reducible refine Below.drew ?_ | with_reducible refine below_drewN ?_ _)))) (ia4 (a0 := 0) (a1 := 1) (a2 := 1) (a3 := 1) (by simp [go_sem]) (by simp [go_sem]) (by simp [go_sem]) (by simp [go_sem]) rfl rfl rfl rfl)) ?_); rintro e w8 ⟨rfl, hb8⟩; have C9 := (show Below w7.heap.size w7 w8 from belowT (by (repeat (first | with_reducible exact Below.refl _ _ | with_reducible assumption | with_reducible refine Below.alloc ?_ (by first | (simp; done) | (simp; omega) | omega) _ | with_reducible refine Below.setCell ?_ (by first | (simp; done) | (simp; omega) | omega) _ | with_reducible refine Below.drew ?_ | with_reducible refine below_drewN ?_ _))) hb8); replace B := Lib.hid (belowT B.out C9); have u0 := keep C9 P5.out.1; have u1 := keep C9 P5.out.2; obtain ⟨a0, a1, a2, a3, a4, a5, a6, a7⟩ := P7.out.on C9; clear T3 P5 P7 C9 hb8)
    | (refine wl_eq8 _ _ _ rfl rfl rfl rfl ?_))
  go_ret
  exact ⟨rfl, B.out⟩

end Go.Proofs.Ytpkacfgmojblbaa
