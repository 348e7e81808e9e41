/- Helpers: stops of all targets. -/
import Derived.Test.YtolondcbllkimaaT0
namespace Go.Proofs.Ytolondcbllkimaa
open Go.RowKit Go.Shelf Go.Sort
attribute [local go_sem] idx3_0 idx3_1 idx3_2 old1 fro1 old2 fro2 old3 fro3 old4 fro4 old5 fro5 old6 fro6 old7 fro7 old8 fro8 old9 fro9 old10 fro10 old11 fro11 old12 fro12
theorem infoStops : (Try.prog.info? 142).map (fun i => (i.zero, i.size, i.bytes)) = some (some (.slice none 0 0), 1, 24) := by kernel_rfl
theorem below_none {w w1 : World} (h : w.grownBy w1 none) : Below w.heap.size w w1 := (Below.refl _ _).grown h (Nat.le_refl _) (fun _ h => by cases h)
theorem own_slice {w : World} {base e sz n : Nat} {v : Value} {xs : List Value} (h : w.ownsRow base e sz v n xs) : ∃ A c, v = .slice A n c := by
  rcases h.2 with ⟨rfl, rfl⟩ | ⟨g, cap, cur, rfl, _⟩
  · exact ⟨_, _, rfl⟩
  · exact ⟨_, _, rfl⟩
theorem some_set {w : World} {S i j : Nat} {u v : Value} (h : w.cell? ⟨S, i, none⟩ = some u) (hj : ∃ x, w.cell? ⟨S, j, none⟩ = some x) : ∃ x, (w.setCell ⟨S, i, none⟩ v).cell? ⟨S, j, none⟩ = some x := by
  by_cases e : i = j
  · subst e; exact ⟨_, World.cell?_setCell_same w _ v h⟩
  · obtain ⟨x, hx⟩ := hj
    exact ⟨x, (World.cell?_setCell_other w ⟨S, i, none⟩ ⟨S, j, none⟩ v (fun h => e (congrArg Addr.off h))).trans hx⟩
theorem lt_of_own {w1 : World} {base e sz g n c : Nat} {xs : List Value} (h : w1.ownsRow base e sz (.slice (some ⟨g, 0, none⟩) n c) n xs) : g < w1.heap.size := (h.lt g rfl).2
theorem made_nil {w1 : World} {base e g n : Nat} (h : w1.ownsRow base e 1 (.slice (some ⟨g, 0, none⟩) n n) n (madeCells (Value.slice none 0 0).cells (n * 1)).toList) (i : Nat) (hi : i < n) : w1.cell? ⟨g, i, none⟩ = some (.slice none 0 0) := by
  have := h.cells (g := g) rfl i (.slice none 0 0) (by simp [madeCells, Value.cells, hi, Nat.mod_one])
  rw [show (⟨g, 0, none⟩ : Addr).add i = ⟨g, i, none⟩ from by unfold Addr.add; split <;> simp_all] at this
  exact this
theorem undSS : Try.prog.underlying 140 = some (.slice 142) := by kernel_rfl
def kkF (t lo hi st : Int) (xs : Nat → Int) (i : Nat) : Nat := (rowBefore t lo hi st xs (i + 1)).2
def aF (t lo hi st : Int) (xs : Nat → Int) (i j : Nat) : Int := (rowBefore t lo hi st xs (i + 1)).1 + t * j
def reM (R : Nat → Nat → Int) (m i j : Nat) : Int := if m ≤ i then R i j else 0
def reI (R : Nat → Nat → Int) (i0 jj i j : Nat) : Int := if i0 < i ∨ (i = i0 ∧ j < jj) then R i j else 0
theorem RowIn.bd {t lo hi F : Int} {k : Nat} (t1 : 1 ≤ t) (h : RowIn t lo hi (F, k)) (j : Nat) (hj : j < k) : lo ≤ F + t * j ∧ F + t * j ≤ hi := by
  obtain ⟨_, h2⟩ := h
  obtain ⟨q1, q2⟩ := h2 (by show 0 < k; omega)
  simp only at q1 q2
  have p1 : 0 ≤ t * (j : Int) := Int.mul_nonneg (by omega) (Int.natCast_nonneg _)
  have p2 : t * (j : Int) ≤ t * ((k - 1 : Nat) : Int) := Int.mul_le_mul_of_nonneg_left (by omega) (by omega)
  omega
set_option maxRecDepth 100000 in
set_option maxHeartbeats 2000000 in
theorem stopsOf_o (t lo hi st ra : Int) (A : Option Addr) (n c : Nat) (xs : Nat → Int) (w : World) (hn : n ≤ 64) (hA : IA w A n xs) (hx : ∀ i, i < n → 0 ≤ xs i ∧ xs i ≤ 3600)
    (t1 : 1 ≤ t) (t2 : t ≤ 3600) (l1 : -20000 ≤ lo) (l2 : lo ≤ 20000) (h1 : -20000 ≤ hi) (h2 : hi ≤ 20000) (f1 : lo ≤ st) (f2 : st ≤ hi) (r0 : 0 ≤ ra) (r1 : ra ≤ 40000) (kk : Nat → Nat) (a : Nat → Nat → Int) (hkk : kkF t lo hi st xs = kk) (haa : aF t lo hi st xs = a) :
    Calls Try.prog 111 #[.agg #[.int .i64 t, .int .i64 lo, .int .i64 hi, .int .i64 st, .int .i64 ra], .slice A n c] w fun e w' => ∃ A2 c2 g2, e = .returned (.slice (some ⟨w.heap.size + 1, 0, none⟩) n n) ∧ RR w' (w.heap.size + 1) n A2 c2 kk g2 a (RE ra n kk a) ∧ Below w.heap.size w w' := by
  obtain ⟨i0, hi0, hz0, hz1, hz2⟩ := info_parts infoStops
  have HKK := Lib.hid hkk
  have HAA := Lib.hid haa
  clear hkk haa
  go_enter Try.func111, Try.ntmps111
  go_wp2_with (at_make; go_loud (refine wpList_make_full _ rfl _ _ 140 rfl (w.heap.size + 1) 142 i0 _ 1 undSS hi0 hz0 hz1 .i64 .i64 n n n rfl rfl rfl rfl (by rw [hz2]; omega) (by unfold maxLen; omega) (by simp) ?_; intro w1 hown1 hgrow1; have hb1 := below_none hgrow1; have HM := Lib.hid (fun i hi => made_nil hown1 i hi); have HZ := Lib.hid (fun i => frozen_own hown1 i); have e0 := (hb1.cell (p := ⟨w.heap.size, 0, none⟩) (by simp)).trans (show _ = some (.int .i64 t) by simp [go_sem]); have e1 := (hb1.cell (p := ⟨w.heap.size, 1, none⟩) (by simp)).trans (show _ = some (.int .i64 lo) by simp [go_sem]); have e2 := (hb1.cell (p := ⟨w.heap.size, 2, none⟩) (by simp)).trans (show _ = some (.int .i64 hi) by simp [go_sem]); have e3 := (hb1.cell (p := ⟨w.heap.size, 3, none⟩) (by simp)).trans (show _ = some (.int .i64 st) by simp [go_sem]); have e4 := (hb1.cell (p := ⟨w.heap.size, 4, none⟩) (by simp)).trans (show _ = some (.int .i64 ra) by simp [go_sem]); have HB := Lib.hid hb1; have hs1 := hb1.size; simp at hs1; have hs2 : w.heap.size + 1 < w1.heap.size := (by simpa using lt_of_own hown1); clear hb1 hown1 hgrow1))
  have HO : Hid ((w1.alloc (.cells #[.int .i64 st, .int .i64 0] 146)).ownsRow (w.heap.size + 2) 146 2 (.slice (some ⟨w1.heap.size, 0, none⟩) 1 1) 1 (stopL st t 1)) := ⟨by simp [stopL], .inr ⟨w1.heap.size, 1, _, rfl, by omega, heap_alloc_new w1 _, by omega, by unfold maxLen; omega, by simp, by simp [stopL]⟩⟩
  go_loopw [6, 20] (fun s6 s20 wr => ∃ (k : Nat) (vs : Nat → Value), k ≤ n ∧ s20 = .int .i64 k ∧ Below w.heap.size w wr ∧ w.heap.size + 1 < wr.heap.size ∧
     (wr.cell? ⟨w.heap.size, 0, none⟩ = some (.int .i64 t) ∧ wr.cell? ⟨w.heap.size, 1, none⟩ = some (.int .i64 lo) ∧ wr.cell? ⟨w.heap.size, 2, none⟩ = some (.int .i64 hi) ∧ wr.cell? ⟨w.heap.size, 3, none⟩ = some (.int .i64 st) ∧ wr.cell? ⟨w.heap.size, 4, none⟩ = some (.int .i64 ra)) ∧
     Hid (wr.ownsRow (w.heap.size + 2) 146 2 s6 (rowBefore t lo hi st xs k).2 (stopL (rowBefore t lo hi st xs k).1 t (rowBefore t lo hi st xs k).2)) ∧ Hid (∀ i, i ≤ k → RowIn t lo hi (rowBefore t lo hi st xs i)) ∧ Hid (∀ i, i < n → ∃ v, wr.cell? ⟨w.heap.size + 1, i, none⟩ = some v) ∧ Hid (∀ i, wr.frozen? ⟨w.heap.size + 1, i, none⟩ = false) ∧ Hid (Rows wr (w.heap.size + 1) k 146 t (fun i => rowBefore t lo hi st xs (i + 1)) vs)) (fun _ i _ => n - (intOf i).toNat)
  case atStart =>
    refine ⟨0, fun _ => .slice none 0 0, Nat.zero_le _, rfl, ((((Below.refl _ _).alloc (Nat.le_refl _) _).trans (HB.out.mono (by simp)))).alloc (by omega) _, by simp; omega, ⟨by simp [go_sem, e0], by simp [go_sem, e1], by simp [go_sem, e2], by simp [go_sem, e3], by simp [go_sem, e4]⟩, HO.out, (fun i hi0 => by obtain rfl : i = 0 := Nat.le_zero.1 hi0; exact ⟨by show 1 ≤ 50000; omega, fun _ => ⟨f1, by show st + t * ((1 - 1 : Nat) : Int) ≤ hi; simp; exact f2⟩⟩), fun i hi => ⟨_, (World.cell?_alloc_lt w1 _ _ hs2).trans (by simpa using HM.out i hi)⟩, fun i => ?_, fun i hi => absurd hi (Nat.not_lt_zero _), fun i hi => absurd hi (Nat.not_lt_zero _), fun i j _ hj => absurd hj (Nat.not_lt_zero _)⟩
    exact (((Below.refl w1.heap.size w1).alloc (Nat.le_refl _) _).frozen (p := ⟨w.heap.size + 1, i, none⟩) hs2).trans (by simpa using HZ.out i)
  case round =>
    obtain ⟨k, vs, hk, rfl, hbel, hws, ⟨e0, e1, e2, e3, e4⟩, HR, HI, HC, HF, HV⟩ := hrel
    by_cases hlt : k < n
    · obtain ⟨bA, oA, rfl, hA2⟩ := hA (by omega)
      have ha := hA2 k hlt
      have HG : Hid (0 ≤ xs k ∧ xs k ≤ 3600) := Lib.hid (hx k hlt)
      rw [← hbel.cell (p := ⟨bA, oA + k, none⟩) (lt_of ha)] at ha
      have HS := Lib.hid (stopsAfter_row t lo hi st ra (xs k) _ u6 _ wr (HI.out k (Nat.le_refl k)) HR.out t1 t2 l1 l2 h1 h2 HG.out.1 HG.out.2)
      obtain ⟨vk, hvk⟩ := HC.out k hlt
      go_wp2_with (go_at_call 125; go_loud (with_reducible refine Calls.mono HS.out ?_; rintro e w2 ⟨v', rfl, ho2, hk2, hb2⟩; obtain ⟨A', c', rfl⟩ := own_slice ho2; have vk2 := keep hb2 hvk; have fz : w2.frozen? ⟨w.heap.size + 1, k, none⟩ = false := (hb2.frozen (p := ⟨w.heap.size + 1, k, none⟩) hws).trans (HF.out k); have E0 := keep hb2 e0; have E1 := keep hb2 e1; have E2 := keep hb2 e2; have E3 := keep hb2 e3; have E4 := keep hb2 e4; have HR2 := Lib.hid ho2; have HK2 := Lib.hid hk2; have HB2 := Lib.hid hb2; have hs2' := hb2.size; clear ho2 hb2 hk2))
      go_roundw
      case rel =>
        have hS1 : w.heap.size + 1 < wr.heap.size := hws
        refine ⟨k + 1, fun i => if i < k then vs i else .slice A' (nextRow t lo hi (xs k) (rowBefore t lo hi st xs k)).2 c', by omega, by go_num, (hbel.trans (HB2.out.mono (by omega))).setCell (show w.heap.size ≤ w.heap.size + 1 by omega) _, by simp; omega, ⟨by simp [go_sem, E0], by simp [go_sem, E1], by simp [go_sem, E2], by simp [go_sem, E3], by simp [go_sem, E4]⟩, ?_, ?_, ?_, ?_, ?_⟩
        · exact own_set (own_base HR2.out (by omega)) (by omega) _
        · exact fun i hi => (by rcases Nat.lt_or_eq_of_le hi with h | h; exact HI.out i (by omega); rw [h]; exact nextRow_in t1 (HI.out k (Nat.le_refl k)) HK2.out)
        · exact fun i hi => some_set vk2 (by obtain ⟨x, hx'⟩ := HC.out i hi; exact ⟨x, keep HB2.out hx'⟩)
        · exact fun i => by rw [World.frozen?_setCell]; exact (HB2.out.frozen (p := ⟨w.heap.size + 1, i, none⟩) hS1).trans (HF.out i)
        · exact HV.out.next hS1 HB2.out HR2.out ⟨_, vk2⟩ (fun i hi => if_pos hi) (if_neg (Nat.lt_irrefl k))
      case measure => simp [intOf]; omega
    · obtain rfl : k = n := by omega
      obtain ⟨A2, c2, g2, HRR⟩ : ∃ A2 c2 g2, Hid (RR wr (w.heap.size + 1) k A2 c2 kk g2 a (fun _ _ => 0)) := ⟨_, _, _, by rw [← HKK.out, ← HAA.out]; exact RR.of_rows HV.out⟩
      have HKB : Hid (∀ i, i < k → kk i ≤ 50000 ∧ ∀ j, j < kk i → lo ≤ a i j ∧ a i j ≤ hi) := (by
        rw [← HKK.out, ← HAA.out]
        exact fun i hi => ⟨(HI.out (i + 1) hi).1, fun j hj => RowIn.bd t1 (HI.out (i + 1) hi) j hj⟩)
      have HRB : Hid (∀ i j, -1 ≤ RE ra k kk a i j ∧ RE ra k kk a i j ≤ 100000000) := fun i j => RE_bd hn r0 r1 i j
      clear HR HI HC HF HV HKK HAA
      go_wp2_with fail
      go_loopw [9] (fun s9 wo => ∃ z : Int, -2 ≤ z ∧ z ≤ (k : Int) - 2 ∧ s9 = .int .i64 z ∧ Below w.heap.size w wo ∧ w.heap.size + 1 < wo.heap.size ∧
         (wo.cell? ⟨w.heap.size, 0, none⟩ = some (.int .i64 t) ∧ wo.cell? ⟨w.heap.size, 1, none⟩ = some (.int .i64 lo) ∧ wo.cell? ⟨w.heap.size, 2, none⟩ = some (.int .i64 hi) ∧ wo.cell? ⟨w.heap.size, 3, none⟩ = some (.int .i64 st) ∧ wo.cell? ⟨w.heap.size, 4, none⟩ = some (.int .i64 ra)) ∧
         Hid (RR wo (w.heap.size + 1) k A2 c2 kk g2 a (reM (RE ra k kk a) (z + 1).toNat))) (fun i _ => (intOf i + 3).toNat)
      case atStart =>
        refine ⟨(k : Int) - 2, by omega, by omega, rfl, hbel, hws, ⟨e0, e1, e2, e3, e4⟩, HRR.out.congr (fun i j hi hj => ?_)⟩
        unfold reM
        split
        · rw [RE_last ra kk a (by omega)]
        · rfl
      case round =>
        clear hbel hws e0 e1 e2 e3 e4 HRR
        obtain ⟨wo, rfl⟩ : ∃ wo : World, wo = wr := ⟨_, rfl⟩
        obtain ⟨z, z1, z2, rfl, hbel, hws, ⟨e0, e1, e2, e3, e4⟩, HRR⟩ := hrel
        rcases Int.lt_or_le z 0 with hz | hz
        · go_wp2_with fail
          go_ret
          exact ⟨A2, c2, g2, rfl, HRR.out.congr (fun i j hi _ => by unfold reM; rw [if_pos (by omega)]), hbel⟩
        · obtain ⟨i0, rfl⟩ : ∃ i0 : Nat, z = i0 := ⟨z.toNat, by omega⟩
          have q0 : wo.cell? ⟨w.heap.size + 1, i0, none⟩ = some (.slice (A2 i0) (kk i0) (c2 i0)) := HRR.out.1 i0 (by omega)
          go_wp2_with fail
          go_loopw [49] (fun s49 wr => ∃ j : Nat, j ≤ kk i0 ∧ s49 = .int .i64 j ∧ Below w.heap.size w wr ∧ w.heap.size + 1 < wr.heap.size ∧
             (wr.cell? ⟨w.heap.size, 0, none⟩ = some (.int .i64 t) ∧ wr.cell? ⟨w.heap.size, 1, none⟩ = some (.int .i64 lo) ∧ wr.cell? ⟨w.heap.size, 2, none⟩ = some (.int .i64 hi) ∧ wr.cell? ⟨w.heap.size, 3, none⟩ = some (.int .i64 st) ∧ wr.cell? ⟨w.heap.size, 4, none⟩ = some (.int .i64 ra)) ∧
             Hid (RR wr (w.heap.size + 1) k A2 c2 kk g2 a (reI (RE ra k kk a) i0 j))) (fun i _ => kk i0 - (intOf i).toNat)
          case atStart =>
            refine ⟨0, Nat.zero_le _, rfl, hbel, hws, ⟨e0, e1, e2, e3, e4⟩, HRR.out.congr (fun i j hi hj => ?_)⟩
            unfold reM reI
            by_cases h : i0 < i
            · rw [if_pos (by omega), if_pos (by omega)]
            · rw [if_neg (by omega), if_neg (by omega)]
          case round =>
            clear hbel hws e0 e1 e2 e3 e4 HRR q0
            obtain ⟨j, hj, rfl, hbel, hws, ⟨e0, e1, e2, e3, e4⟩, HRR⟩ := hrel
            by_cases hlt : j < kk i0
            · have hi0k : i0 + 1 < k := by omega
              have q0 := HRR.out.1 i0 (by omega)
              have q1 := HRR.out.1 (i0 + 1) hi0k
              obtain ⟨hA, hgS, hB⟩ := HRR.out.2.1 i0 (by omega) (by omega)
              rw [hA] at q0
              obtain ⟨q2, q3, q4⟩ := hB j hlt
              have HA := Lib.hid hA
              clear hB hA
              have hk0 := (HKB.out i0 (by omega)).1
              simp only [Nat.zero_add] at q2 q3 q4
              have HM : Hid (∀ W, Below wr.heap.size wr W → Calls Try.prog 112 #[.agg #[.int .i64 t, .int .i64 lo, .int .i64 hi, .int .i64 st, .int .i64 ra], .int .i64 (a i0 j), .slice (A2 (i0 + 1)) (kk (i0 + 1)) (c2 (i0 + 1))] W fun e w' => e = .returned (.int .i64 (RE ra k kk a i0 j)) ∧ Below wr.heap.size wr w') := by
                intro W hW
                rw [RE_step ra kk a hi0k]
                obtain ⟨b1, b2⟩ := HKB.out (i0 + 1) hi0k
                obtain ⟨b3, b4⟩ := (HKB.out i0 (by omega)).2 j hlt
                refine (minimumRest_any t lo hi st ra (a i0 j) (A2 (i0 + 1)) (g2 (i0 + 1)) (kk (i0 + 1)) (c2 (i0 + 1)) (a (i0 + 1)) (RE ra k kk a (i0 + 1)) W (by omega) ?_ (fun i hi => ⟨by obtain ⟨b5, b6⟩ := b2 i hi; omega, HRB.out _ _⟩)).mono (fun _ _ h => ⟨h.1, hW.trans (h.2.mono hW.size)⟩)
                have hrow := (HRR.out.below hW).row hi0k
                have hre : ∀ j', reI (RE ra k kk a) i0 j (i0 + 1) j' = RE ra k kk a (i0 + 1) j' := fun j' => by unfold reI; rw [if_pos (.inl (by omega))]
                simp only [hre] at hrow
                exact hrow
              have hg := lt_of q3
              have hw0 : w.heap.size < wr.heap.size := by omega
              have p1 : (0 : Int) ≤ (i0 : Int) := by omega
              have p2 : (i0 : Int) < (k : Int) := by omega
              have p3 : (i0 : Int) + 1 < (k : Int) := by omega
              have p3' : (0 : Int) ≤ (i0 : Int) + 1 := by omega
              have p4 : IntKind.i64.wrap ((i0 : Int) + 1) = (i0 : Int) + 1 := IntWalk.i64_in _ (by omega)
              have p5 : ((i0 : Int) + 1).toNat = i0 + 1 := by omega
              have p6 : (0 : Int) ≤ (j : Int) := by omega
              have p7 : (j : Int) < (kk i0 : Int) := by omega
              go_wp2_with fail
              go_region_held3 (fun w' => w'.cell? ⟨w.heap.size + 1, i0, none⟩ = some (.slice (some ⟨g2 i0, 0, none⟩) (kk i0) (c2 i0)) ∧ w'.cell? ⟨w.heap.size + 1, i0 + 1, none⟩ = some (.slice (A2 (i0 + 1)) (kk (i0 + 1)) (c2 (i0 + 1))) ∧ w'.cell? ⟨g2 i0, j * 2, none⟩ = some (.int .i64 (a i0 j)) ∧ w'.cell? ⟨w.heap.size, 0, none⟩ = some (.int .i64 t) ∧ w'.cell? ⟨w.heap.size, 1, none⟩ = some (.int .i64 lo) ∧ w'.cell? ⟨w.heap.size, 2, none⟩ = some (.int .i64 hi) ∧ w'.cell? ⟨w.heap.size, 3, none⟩ = some (.int .i64 st) ∧ w'.cell? ⟨w.heap.size, 4, none⟩ = some (.int .i64 ra)) (simp [go_sem, *])
                (first | (go_at_call 112; (with_reducible refine Calls.mono (HM.out _ (by (repeat (first | with_reducible exact Below.refl _ _ | with_reducible assumption | with_reducible refine Below.alloc ?_ (by first | (simp; done) | (simp; omega) | omega) _ | with_reducible refine Below.setCell ?_ (by first | (simp; done) | (simp; omega) | omega) _ | with_reducible refine Below.drew ?_ | with_reducible refine below_drewN ?_ _)))) ?_); rintro e w2 ⟨rfl, hb2⟩; have c3 := keep hb2 q3; have f3 := (hb2.frozen (p := ⟨g2 i0, j * 2 + 1, none⟩) (lt_of q3)).trans q4; obtain ⟨hc2, hf2⟩ := bcell hb2; have HB2 := Lib.hid hb2; clear hb2))
              all_goals
                go_wp2
                go_roundw
                case rel =>
                  refine ⟨j + 1, by omega, by go_num, (hbel.trans (HB2.out.mono (by omega))).setCell (show w.heap.size ≤ g2 i0 by omega) _, (by simp; have := HB2.out.size; omega), ⟨cell_ne (keep HB2.out e0) (by omega), cell_ne (keep HB2.out e1) (by omega), cell_ne (keep HB2.out e2) (by omega), cell_ne (keep HB2.out e3) (by omega), cell_ne (keep HB2.out e4) (by omega)⟩, ?_⟩
                  have hst := (HRR.out.below HB2.out).set (i := i0) (j := j) (v := RE ra k kk a i0 j) (r' := reI (RE ra k kk a) i0 (j + 1)) (by omega) hlt (by unfold reI; rw [if_pos (by omega)]) (fun i' j' hne => by
                    unfold reI
                    by_cases h : i0 < i' ∨ (i' = i0 ∧ j' < j)
                    · rw [if_pos (by omega), if_pos h]
                    · rw [if_neg (by omega), if_neg h])
                  simp only [Nat.zero_add] at hst
                  exact hst
                case measure => simp [intOf]; omega
            · obtain rfl : j = kk i0 := by omega
              go_wp2_with fail
              go_roundw
              case rel =>
                refine ⟨(i0 : Int) - 1, by omega, by omega, by go_num, hbel, hws, ⟨e0, e1, e2, e3, e4⟩, HRR.out.congr (fun i j hi hj => ?_)⟩
                unfold reM reI
                by_cases h : i0 ≤ i
                · rcases Nat.lt_or_eq_of_le h with h1 | rfl
                  · rw [if_pos (by omega), if_pos (by omega)]
                  · rw [if_pos (by omega), if_pos (by omega)]
                · rw [if_neg (by omega), if_neg (by omega)]
              case measure => simp [intOf]; omega
end Go.Proofs.Ytolondcbllkimaa
