/- The statement SamplePacketsSaid: whatever the packet and the numbers, the law SamplePackets returns true, and its arguments read afterwards as before. -/
import Derived.Test.YtpkacfgmojblbaaB09
import Derived.Test.YtpkacfgmojblbaaB03
import Derived.ProofKit
import Derived.OpenShut
import Derived.ShutString
import Derived.ChangeOld
import Derived.Below
import Derived.Lib.SmallJoins
namespace Go.Proofs.Ytpkacfgmojblbaa
open Go.RowKit
attribute [local go_sem] old1 fro1 old2 fro2 old3 fro3 old4 fro4 old5 fro5 old6 fro6 old7 fro7 old8 fro8 old9 fro9 old10 fro10 old11 fro11 old12 fro12
theorem bwithin_any (x lo hi : Int) (w : World) :
    Calls Try.prog 21 #[.int .i64 x, .int .i64 lo, .int .i64 hi] w fun e w' => e = .returned (.bool (wi x lo hi)) ∧ w = w' := by
  by_cases h : lo ≤ x
  · go_enter Try.func21, Try.ntmps21
    go_wp2
    go_ret
    exact ⟨by simp [wi, h], rfl⟩
  · go_enter Try.func21, Try.ntmps21
    go_wp2
    go_ret
    exact ⟨ret_bool (wi_f.2 (by omega)).symm, rfl⟩
set_option maxRecDepth 100000 in
set_option maxHeartbeats 800000 in
theorem bsize_any (x : Int) (h1 : -9223372036854775807 ≤ x) (h2 : x ≤ 9223372036854775807) (w : World) :
    Calls Try.prog 82 #[.int .i64 x] w fun e w' => e = .returned (.int .i64 (siz x)) ∧ w = w' := by
  go_enter Try.func82, Try.ntmps82
  go_wp2
  all_goals (go_ret; exact ⟨ret_int (by unfold siz; omega), rfl⟩)
theorem tmod_plain (n d : Int) (hd : 0 < d) : 0 ≤ n.tmod d ∧ n.tmod d = n % d ∨ n.tmod d < 0 ∧ n.tmod d + d = n % d := by
  have e1 := Int.tdiv_mul_add_tmod n d
  have e2 := Int.mul_ediv_add_emod n d
  have h3 := Int.emod_nonneg n (show d ≠ 0 by omega)
  have h4 := Int.emod_lt_of_pos n hd
  rcases floor_plain n d hd with ⟨_, h⟩ | ⟨_, h⟩
  · left
    rw [h, Int.mul_comm] at e1
    omega
  · right
    have : n.tdiv d = n / d + 1 := by omega
    rw [this, Int.add_mul, Int.mul_comm] at e1
    omega
set_option maxRecDepth 100000 in
set_option maxHeartbeats 800000 in
theorem bmod_any (n d : Int) (hd : 0 < d) (d2 : d ≤ 1000000000) (w : World) :
    Calls Try.prog 37 #[.int .i64 n, .int .i64 d] w fun e w' => e = .returned (.int .i64 (n % d)) ∧ w = w' := by
  have h3 := Int.emod_nonneg n (show d ≠ 0 by omega)
  have h4 := Int.emod_lt_of_pos n hd
  have hd0 : (d == 0) = false := by simp; omega
  rcases tmod_plain n d hd with ⟨h1, h2⟩ | ⟨h1, h2⟩
  · have x1 : IntKind.i64.wrap (n.tmod d) = n.tmod d := IntWalk.i64_in _ (by omega)
    have g1 : ¬ n.tmod d < 0 := by omega
    generalize n % d = e at *
    clear h3 h4
    go_enter Try.func37, Try.ntmps37
    go_wp2
    go_ret
    exact ⟨ret_int (by omega), rfl⟩
  · have x1 : IntKind.i64.wrap (n.tmod d) = n.tmod d := IntWalk.i64_in _ (by omega)
    have x2 : IntKind.i64.wrap (n.tmod d + d) = n.tmod d + d := IntWalk.i64_in _ (by omega)
    generalize n % d = e at *
    have x3 : wrap64 e = e := by rw [← h2]; exact IntWalk.wrap64_in _ (by omega)
    clear h3 h4
    go_enter Try.func37, Try.ntmps37
    go_wp2
    go_ret
    exact ⟨ret_int (by omega), rfl⟩

set_option maxRecDepth 100000 in
set_option maxHeartbeats 800000 in
theorem gaussErr_any (x y m : Int) (m0 : 0 ≤ m) (m1 : m ≤ 1000000) (w : World) :
    Calls Try.prog 70 #[.agg #[.int .i64 x, .int .i64 y], .int .i64 m] w fun e w' => e = .returned (.int .i64 (ptE m (x, y))) ∧ Below w.heap.size w w' := by
  have x1 : IntKind.i64.wrap (-m) = -m := IntWalk.i64_in _ (by omega)
  cases ha : wi x (-m) m
  · have hp : ptE m (x, y) = 2 := by unfold ptE rgE; simp [ha]
    rw [hp]
    go_enter Try.func70, Try.ntmps70
    go_wp2_with (go_at_call 21; (with_reducible refine Calls.mono (bwithin_any _ _ _ _) ?_); rintro e w1 ⟨rfl, rfl⟩)
    go_ret
    exact ⟨rfl, by (repeat (first | with_reducible exact Below.refl _ _ | with_reducible assumption | with_reducible refine Below.alloc ?_ (by first | (simp; done) | (simp; omega) | omega) _ | with_reducible refine Below.setCell ?_ (by first | (simp; done) | (simp; omega) | omega) _ | with_reducible refine Below.drew ?_ | with_reducible refine below_drewN ?_ _))⟩
  · cases hb : wi y (-m) m
    · have hp : ptE m (x, y) = 2 := by unfold ptE rgE; simp [ha, hb]
      rw [hp]
      go_enter Try.func70, Try.ntmps70
      go_wp2_with (go_at_call 21; (with_reducible refine Calls.mono (bwithin_any _ _ _ _) ?_); rintro e w1 ⟨rfl, rfl⟩)
      go_ret
      exact ⟨rfl, by (repeat (first | with_reducible exact Below.refl _ _ | with_reducible assumption | with_reducible refine Below.alloc ?_ (by first | (simp; done) | (simp; omega) | omega) _ | with_reducible refine Below.setCell ?_ (by first | (simp; done) | (simp; omega) | omega) _ | with_reducible refine Below.drew ?_ | with_reducible refine below_drewN ?_ _))⟩
    · have hp : ptE m (x, y) = 0 := by unfold ptE rgE; simp [ha, hb]
      rw [hp]
      go_enter Try.func70, Try.ntmps70
      go_wp2_with (go_at_call 21; (with_reducible refine Calls.mono (bwithin_any _ _ _ _) ?_); rintro e w1 ⟨rfl, rfl⟩)
      go_ret
      exact ⟨rfl, by (repeat (first | with_reducible exact Below.refl _ _ | with_reducible assumption | with_reducible refine Below.alloc ?_ (by first | (simp; done) | (simp; omega) | omega) _ | with_reducible refine Below.setCell ?_ (by first | (simp; done) | (simp; omega) | omega) _ | with_reducible refine Below.drew ?_ | with_reducible refine below_drewN ?_ _))⟩

theorem pk_err {p : Nat → Int} (h0 : wi (p 0) 0 1023 = true) (h1 : wi (p 1) 1 100 = true) : pkE p = ferr (fun i => ptE 2000 (pkG p i)) 0 8 := by
  unfold pkE rgE
  rw [h0, h1]
  rfl
set_option maxRecDepth 100000 in
set_option maxHeartbeats 2000000 in
theorem packetErr_any (p : Nat → Int) (w : World) :
    Calls Try.prog 20 #[.agg (pk p)] w fun e w' => e = .returned (.int .i64 (pkE p)) ∧ Below w.heap.size w w' := by
  have HGE := Lib.hid (fun x y W => gaussErr_any x y 2000 (by omega) (by omega) W)
  cases ha : wi (p 0) 0 1023
  · have hp : pkE p = 2 := by unfold pkE rgE; rw [ha]; rfl
    rw [hp]
    go_enter Try.func20, Try.ntmps20
    go_upto_region 1 with fail
    have hbw : Below w.heap.size w (w.alloc (.cells (pk p) 26)) := (Below.refl _ _).alloc (Nat.le_refl _) _
    have p0 := pk_cell w p 26 0 (by omega)
    generalize (w.alloc (.cells (pk p) 26)) = w1 at *
    go_wp2_with (go_at_call 21; (with_reducible refine Calls.mono (bwithin_any _ _ _ _) ?_); rintro e w1 ⟨rfl, rfl⟩)
    go_ret
    exact ⟨rfl, hbw⟩
  · cases hb : wi (p 1) 1 100
    · have hp : pkE p = 2 := by unfold pkE rgE; rw [ha, hb]; rfl
      rw [hp]
      go_enter Try.func20, Try.ntmps20
      go_upto_region 1 with fail
      have hbw : Below w.heap.size w (w.alloc (.cells (pk p) 26)) := (Below.refl _ _).alloc (Nat.le_refl _) _
      have p0 := pk_cell w p 26 0 (by omega)
      have p1 := pk_cell w p 26 1 (by omega)
      generalize (w.alloc (.cells (pk p) 26)) = w1 at *
      go_wp2_with (go_at_call 21; (with_reducible refine Calls.mono (bwithin_any _ _ _ _) ?_); rintro e w1 ⟨rfl, rfl⟩)
      go_ret
      exact ⟨rfl, hbw⟩
    · rw [pk_err ha hb]
      go_enter Try.func20, Try.ntmps20
      go_upto_region 1 with fail
      have hbw : Below w.heap.size w (w.alloc (.cells (pk p) 26)) := (Below.refl _ _).alloc (Nat.le_refl _) _
      have HP := Lib.hid (fun (j : Nat) (h : j < 18) => pk_cell w p 26 j h)
      have p0 := HP.out 0 (by omega)
      have p1 := HP.out 1 (by omega)
      generalize (w.alloc (.cells (pk p) 26)) = w1 at *
      go_wp2_with (go_at_call 21; (with_reducible refine Calls.mono (bwithin_any _ _ _ _) ?_); rintro e w1 ⟨rfl, rfl⟩)
      go_loopw [3, 4] (fun s3 s4 wr => ∃ i : Nat, i ≤ 8 ∧ s3 = .int .i64 i ∧ Below w1.heap.size w1 wr ∧ Hid (ferr (fun i => ptE 2000 (pkG p i)) 0 8 = ferr (fun i => ptE 2000 (pkG p i)) i (8 - i))) (fun i _ _ => 8 - (intOf i).toNat)
      case atStart => exact ⟨0, by omega, rfl, Below.refl _ _, rfl⟩
      case round =>
        obtain ⟨i, hi, rfl, hbel, H⟩ := hrel
        have HB := Lib.hid hbel
        by_cases hlt : i < 8
        · have c0 := keep hbel (HP.out (2 + i * 2) (by omega))
          have c1 := keep hbel (HP.out (2 + i * 2 + 1) (by omega))
          have g1 : (0 : Int) ≤ (i : Int) := by omega
          have g2 : (i : Int) < 8 := by omega
          have HS : Hid (ferr (fun i => ptE 2000 (pkG p i)) i (8 - i) = if ptE 2000 (pkG p i) = 0 then ferr (fun i => ptE 2000 (pkG p i)) (i + 1) (8 - (i + 1)) else ptE 2000 (pkG p i)) := by
            rw [show 8 - i = (8 - (i + 1)) + 1 from by omega]; rfl
          have HQ : Hid (ptE 2000 (p (2 + i * 2), p (2 + i * 2 + 1)) = ptE 2000 (pkG p i)) := Lib.hid rfl
          clear hbel p0 p1
          obtain ⟨E, hE⟩ : ∃ E, ptE 2000 (p (2 + i * 2), p (2 + i * 2 + 1)) = E := ⟨_, rfl⟩
          have HEE := Lib.hid (hE.symm.trans HQ.out)
          by_cases he : E = 0
          · subst he
            go_wp2_with (go_at_call 70; (with_reducible refine Calls.mono (HGE.out _ _ _) ?_); rintro e w3 ⟨rfl, hb3⟩; rw [hE]; have HB3 := Lib.hid (belowT HB.out hb3); clear hb3)
            go_roundw
            case rel => exact ⟨i + 1, by omega, by go_num, HB3.out, by show ferr _ 0 8 = _; rw [H.out, HS.out, if_pos HEE.out.symm]⟩
            case measure => simp [intOf]; omega
          · have hq : (E != 0) = true := by simpa using he
            go_wp2_with (go_at_call 70; (with_reducible refine Calls.mono (HGE.out _ _ _) ?_); rintro e w3 ⟨rfl, hb3⟩; rw [hE]; have HB3 := Lib.hid (belowT HB.out hb3); clear hb3)
            go_ret
            exact ⟨ret_int (by rw [H.out, HS.out, ← HEE.out, if_neg he]), belowT hbw HB3.out⟩
        · obtain rfl : i = 8 := by omega
          clear hbel p0 p1
          go_wp2
          go_ret
          exact ⟨ret_int (by rw [H.out]; rfl), belowT hbw HB.out⟩

/-- what the search of the reference holds -/
def uinv (near c b m : Int) : Prop := 0 ≤ b ∧ b % 1024 = c ∧ b ≤ near + 2048 + c ∧ ∀ x, 0 ≤ x → x % 1024 = c → near - 2048 ≤ x → x < m → siz (b - near) ≤ siz (x - near) ∧ (siz (b - near) = siz (x - near) → x ≤ b)
theorem uinv_end {near c b : Int} (n0 : 0 ≤ near) (c0 : 0 ≤ c) (c1 : c ≤ 1023) (h : uinv near c b (near + 2049)) : b = uwr near c := by
  obtain ⟨b0, bc, _, hx⟩ := h
  have e0 := Int.emod_nonneg (c - near) (show (1024 : Int) ≠ 0 by decide)
  have e1 := Int.emod_lt_of_pos (c - near) (show (0 : Int) < 1024 by decide)
  have hA := hx (near + (c - near) % 1024) (by omega) (by omega) (by omega) (by omega)
  have hB : 0 ≤ near + (c - near) % 1024 - 1024 → _ := fun h => hx (near + (c - near) % 1024 - 1024) h (by omega) (by omega) (by omega)
  unfold uwr
  unfold siz at *
  split
  · rename_i h
    have := hB h.1
    omega
  · rename_i h
    by_cases h2 : 0 ≤ near + (c - near) % 1024 - 1024
    · have := hB h2
      omega
    · omega
theorem uinv_set {near c b m : Int} (h : uinv near c b m) (m0 : 0 ≤ m) (mc : m % 1024 = c) (hm : siz (m - near) ≤ siz (b - near)) (ml : m ≤ near + 2048) (_ : 0 ≤ c) : uinv near c m (m + 1) := by
  obtain ⟨b0, bc, bl, hx⟩ := h
  refine ⟨m0, mc, by omega, fun x x0 xc x1 x2 => ?_⟩
  by_cases e : x = m
  · subst e
    exact ⟨Int.le_refl _, fun _ => Int.le_refl _⟩
  · have := hx x x0 xc x1 (by omega)
    exact ⟨by omega, fun _ => by omega⟩
theorem uinv_no {near c b m : Int} (h : uinv near c b m) (hm : 0 ≤ m → m % 1024 = c → siz (b - near) < siz (m - near)) : uinv near c b (m + 1) := by
  obtain ⟨b0, bc, bl, hx⟩ := h
  refine ⟨b0, bc, bl, fun x x0 xc x1 x2 => ?_⟩
  by_cases e : x = m
  · subst e
    have := hm x0 xc
    exact ⟨by omega, fun _ => by omega⟩
  · exact hx x x0 xc x1 (by omega)
set_option maxRecDepth 100000 in
set_option maxHeartbeats 2000000 in
theorem unwrappedR_any (near c : Int) (n0 : 0 ≤ near) (n1 : near ≤ 1000000000) (c0 : 0 ≤ c) (c1 : c ≤ 1023) (w : World) :
    Calls Try.prog 22 #[.int .i64 near, .int .i64 c] w fun e w' => e = .returned (.int .i64 (uwr near c)) ∧ Below w.heap.size w w' := by
  have x1 : IntKind.i64.wrap (near - 2048) = near - 2048 := IntWalk.i64_in _ (by omega)
  have x2 : IntKind.i64.wrap (near + 2048) = near + 2048 := IntWalk.i64_in _ (by omega)
  go_enter Try.func22, Try.ntmps22
  go_wp2
  go_loopw [5, 6] (fun s5 s6 wr => ∃ (b : Int) (t : Nat), t ≤ 4097 ∧ s6 = .int .i64 (near - 2048 + t) ∧ s5 = .int .i64 b ∧ b ≤ near + 2048 + c ∧ 0 ≤ b ∧ Below w.heap.size w wr ∧ Hid (uinv near c b (near - 2048 + t))) (fun _ i _ => (near + 2049 - intOf i).toNat)
  case atStart => exact ⟨c, 0, by omega, by simp, rfl, by omega, c0, Below.refl _ _, c0, by omega, by omega, fun x x0 xc x1 x2 => by omega⟩
  case round =>
    obtain ⟨b, t, ht, rfl, rfl, b1, b0, hbel, H⟩ := hrel
    have HB := Lib.hid hbel
    obtain ⟨m, hm⟩ : ∃ m, near - 2048 + (t : Int) = m := ⟨_, rfl⟩
    rw [hm] at H ⊢
    clear hbel
    have x3 : IntKind.i64.wrap (m - c) = m - c := IntWalk.i64_in _ (by omega)
    have x4 : IntKind.i64.wrap (m - near) = m - near := IntWalk.i64_in _ (by omega)
    have x5 : IntKind.i64.wrap (b - near) = b - near := IntWalk.i64_in _ (by omega)
    have x6 : IntKind.i64.wrap (m + 1) = m + 1 := IntWalk.i64_in _ (by omega)
    have HM := Lib.hid (fun W => bmod_any (m - c) 1024 (by omega) (by omega) W)
    have HS1 := Lib.hid (fun W => bsize_any (m - near) (by omega) (by omega) W)
    have HS2 := Lib.hid (fun W => bsize_any (b - near) (by omega) (by omega) W)
    by_cases hlt : m ≤ near + 2048
    · by_cases m0 : 0 ≤ m
      · have hmc : (m - c) % 1024 = 0 ↔ m % 1024 = c := by omega
        have HMC := Lib.hid hmc
        clear hmc
        generalize (m - c) % 1024 = d at *
        by_cases md : d = 0
        · have g1 : (d == 0) = true := by simpa using md
          have MC := Lib.hid (HMC.out.1 md)
          clear md
          have HZ := Lib.hid (show siz (m - near) = siz (m - near) from rfl)
          obtain ⟨sm, hsm⟩ : ∃ sm, siz (m - near) = sm := ⟨_, rfl⟩
          obtain ⟨sb, hsb⟩ : ∃ sb, siz (b - near) = sb := ⟨_, rfl⟩
          rw [hsm] at HS1
          rw [hsb] at HS2
          have HSM := Lib.hid hsm
          have HSB := Lib.hid hsb
          clear hsm hsb HZ
          by_cases ms : sm ≤ sb
          · have MS := Lib.hid ms
            go_wp2_with (first | (go_at_call 37; (with_reducible refine Calls.mono (HM.out _) ?_); rintro e w3 ⟨rfl, rfl⟩) | (go_at_call 82; (with_reducible refine Calls.mono (HS1.out _) ?_); rintro e w3 ⟨rfl, rfl⟩) | (go_at_call 82; (with_reducible refine Calls.mono (HS2.out _) ?_); rintro e w3 ⟨rfl, rfl⟩))
            go_roundw
            case rel => exact ⟨m, t + 1, by omega, congrArg (Value.int .i64) (by omega), rfl, by omega, by omega, HB.out, (show near - 2048 + ((t + 1 : Nat) : Int) = m + 1 by omega) ▸ uinv_set H.out m0 MC.out (by rw [HSM.out, HSB.out]; exact MS.out) hlt c0⟩
            case measure => simp [intOf]; omega
          · have MS := Lib.hid ms
            go_wp2_with (first | (go_at_call 37; (with_reducible refine Calls.mono (HM.out _) ?_); rintro e w3 ⟨rfl, rfl⟩) | (go_at_call 82; (with_reducible refine Calls.mono (HS1.out _) ?_); rintro e w3 ⟨rfl, rfl⟩) | (go_at_call 82; (with_reducible refine Calls.mono (HS2.out _) ?_); rintro e w3 ⟨rfl, rfl⟩))
            go_roundw
            case rel => exact ⟨b, t + 1, by omega, congrArg (Value.int .i64) (by omega), rfl, by omega, by omega, HB.out, (show near - 2048 + ((t + 1 : Nat) : Int) = m + 1 by omega) ▸ uinv_no H.out (fun _ _ => by rw [HSM.out, HSB.out]; have := MS.out; omega)⟩
            case measure => simp [intOf]; omega
        · have g1 : (d == 0) = false := by simpa using md
          have MD := Lib.hid md
          clear md
          go_wp2_with (first | (go_at_call 37; (with_reducible refine Calls.mono (HM.out _) ?_); rintro e w3 ⟨rfl, rfl⟩) | (go_at_call 82; (with_reducible refine Calls.mono (HS1.out _) ?_); rintro e w3 ⟨rfl, rfl⟩) | (go_at_call 82; (with_reducible refine Calls.mono (HS2.out _) ?_); rintro e w3 ⟨rfl, rfl⟩))
          go_roundw
          case rel => exact ⟨b, t + 1, by omega, congrArg (Value.int .i64) (by omega), rfl, by omega, by omega, HB.out, (show near - 2048 + ((t + 1 : Nat) : Int) = m + 1 by omega) ▸ uinv_no H.out (fun _ q => absurd (HMC.out.2 q) MD.out)⟩
          case measure => simp [intOf]; omega
      · go_wp2_with (first | (go_at_call 37; (with_reducible refine Calls.mono (HM.out _) ?_); rintro e w3 ⟨rfl, rfl⟩) | (go_at_call 82; (with_reducible refine Calls.mono (HS1.out _) ?_); rintro e w3 ⟨rfl, rfl⟩) | (go_at_call 82; (with_reducible refine Calls.mono (HS2.out _) ?_); rintro e w3 ⟨rfl, rfl⟩))
        go_roundw
        case rel => exact ⟨b, t + 1, by omega, congrArg (Value.int .i64) (by omega), rfl, by omega, by omega, HB.out, (show near - 2048 + ((t + 1 : Nat) : Int) = m + 1 by omega) ▸ uinv_no H.out (fun q _ => absurd q m0)⟩
        case measure => simp [intOf]; omega
    · have he : m = near + 2049 := by omega
      have HE := Lib.hid (uinv_end n0 c0 c1 (he ▸ H.out))
      clear he
      go_wp2
      go_ret
      exact ⟨ret_int HE.out, HB.out⟩

def uwE (near c : Int) : Int := fs2 (rgE near 0 1000000000) (rgE c 0 1023)
set_option maxRecDepth 100000 in
set_option maxHeartbeats 800000 in
theorem unwrappedS_any (near c : Int) (w : World) :
    Calls Try.prog 18 #[.int .i64 near, .int .i64 c] w fun e w' => e = .returned (.tuple #[.int .i64 (if uwE near c = 0 then uwr near c else 0), .int .i64 (uwE near c)]) ∧ Below w.heap.size w w' := by
  have HR1 := Lib.hid (fun W => range_chk near 0 1000000000 W)
  have HR2 := Lib.hid (fun W => range_chk c 0 1023 W)
  obtain ⟨E, hE⟩ : ∃ E, fs2 (rgE near 0 1000000000) (rgE c 0 1023) = E := ⟨_, rfl⟩
  have hm : uwE near c = E := hE
  rw [hm]
  by_cases h0 : E = 0
  · rw [if_pos h0]
    subst h0
    obtain ⟨q1, q2⟩ := fs2_0 hE
    obtain ⟨a1, a2⟩ := rg_0 q1
    obtain ⟨c1, c2⟩ := rg_0 q2
    have HU := Lib.hid (fun W => unwrapped_any near c a1 (by omega) c1 c2 W)
    clear q1 q2 a1 a2 c1 c2 hm
    generalize uwr near c = u at *
    go_enter Try.func18, Try.ntmps18
    go_wp2_with (first
    | (go_at_call 88; (with_reducible refine Calls.mono (HR1.out _) ?_); rintro e y1 ⟨v0, rfl, hb1, g0, f0, rfl, hg0, hh0⟩; have BV := Lib.hid (belowT (show Below w.heap.size w _ by (repeat (first | with_reducible exact Below.refl _ _ | with_reducible assumption | with_reducible refine Below.alloc ?_ (by first | (simp; done) | (simp; omega) | omega) _ | with_reducible refine Below.setCell ?_ (by first | (simp; done) | (simp; omega) | omega) _ | with_reducible refine Below.drew ?_ | with_reducible refine below_drewN ?_ _))) hb1); have K0 := Lib.hid (show Chk True _ (.func (.func g0) #[] f0) y1 from ⟨g0, f0, rfl, hg0, hh0⟩); clear hg0 hh0; clear hb1)
    | (go_at_call 88; (with_reducible refine Calls.mono (HR2.out _) ?_); rintro e y2 ⟨v1, rfl, hb2, g1, f1, rfl, hg1, hh1⟩; replace BV := Lib.hid (belowT (show Below w.heap.size w _ by have Bq := BV.out; (repeat (first | with_reducible exact Below.refl _ _ | with_reducible assumption | with_reducible refine Below.alloc ?_ (by first | (simp; done) | (simp; omega) | omega) _ | with_reducible refine Below.setCell ?_ (by first | (simp; done) | (simp; omega) | omega) _ | with_reducible refine Below.drew ?_ | with_reducible refine below_drewN ?_ _))) hb2); have K1 := Lib.hid (show Chk True _ (.func (.func g1) #[] f1) y2 from ⟨g1, f1, rfl, hg1, hh1⟩); replace K0 := Lib.hid (K0.out.on hb2); clear hg1 hh1; clear hb2)
    | (go_at_call 87; (with_reducible refine Calls.mono (hE ▸ first_2 _ K0.out K1.out trivial (fun _ => trivial)) ?_); rintro e y3 ⟨rfl, hb3⟩; replace BV := Lib.hid (belowT (show Below w.heap.size w _ by have Bq := BV.out; (repeat (first | with_reducible exact Below.refl _ _ | with_reducible assumption | with_reducible refine Below.alloc ?_ (by first | (simp; done) | (simp; omega) | omega) _ | with_reducible refine Below.setCell ?_ (by first | (simp; done) | (simp; omega) | omega) _ | with_reducible refine Below.drew ?_ | with_reducible refine below_drewN ?_ _))) hb3); clear hb3)
    | (go_at_call 89; (with_reducible refine Calls.mono (HU.out _) ?_); rintro e y9 ⟨rfl, rfl⟩))
    go_ret2
    exact ⟨rfl, BV.out⟩
  · rw [if_neg h0]
    have hq : (E != 0) = true := by simpa using h0
    clear h0 hm
    go_enter Try.func18, Try.ntmps18
    go_wp2_with (first
    | (go_at_call 88; (with_reducible refine Calls.mono (HR1.out _) ?_); rintro e y1 ⟨v0, rfl, hb1, g0, f0, rfl, hg0, hh0⟩; have BV := Lib.hid (belowT (show Below w.heap.size w _ by (repeat (first | with_reducible exact Below.refl _ _ | with_reducible assumption | with_reducible refine Below.alloc ?_ (by first | (simp; done) | (simp; omega) | omega) _ | with_reducible refine Below.setCell ?_ (by first | (simp; done) | (simp; omega) | omega) _ | with_reducible refine Below.drew ?_ | with_reducible refine below_drewN ?_ _))) hb1); have K0 := Lib.hid (show Chk True _ (.func (.func g0) #[] f0) y1 from ⟨g0, f0, rfl, hg0, hh0⟩); clear hg0 hh0; clear hb1)
    | (go_at_call 88; (with_reducible refine Calls.mono (HR2.out _) ?_); rintro e y2 ⟨v1, rfl, hb2, g1, f1, rfl, hg1, hh1⟩; replace BV := Lib.hid (belowT (show Below w.heap.size w _ by have Bq := BV.out; (repeat (first | with_reducible exact Below.refl _ _ | with_reducible assumption | with_reducible refine Below.alloc ?_ (by first | (simp; done) | (simp; omega) | omega) _ | with_reducible refine Below.setCell ?_ (by first | (simp; done) | (simp; omega) | omega) _ | with_reducible refine Below.drew ?_ | with_reducible refine below_drewN ?_ _))) hb2); have K1 := Lib.hid (show Chk True _ (.func (.func g1) #[] f1) y2 from ⟨g1, f1, rfl, hg1, hh1⟩); replace K0 := Lib.hid (K0.out.on hb2); clear hg1 hh1; clear hb2)
    | (go_at_call 87; (with_reducible refine Calls.mono (hE ▸ first_2 _ K0.out K1.out trivial (fun _ => trivial)) ?_); rintro e y3 ⟨rfl, hb3⟩; replace BV := Lib.hid (belowT (show Below w.heap.size w _ by have Bq := BV.out; (repeat (first | with_reducible exact Below.refl _ _ | with_reducible assumption | with_reducible refine Below.alloc ?_ (by first | (simp; done) | (simp; omega) | omega) _ | with_reducible refine Below.setCell ?_ (by first | (simp; done) | (simp; omega) | omega) _ | with_reducible refine Below.drew ?_ | with_reducible refine below_drewN ?_ _))) hb3); clear hb3)
    | (go_at_call 89; (with_reducible refine Calls.mono ((fun W => unwrapped_any near c (by omega) (by omega) (by omega) (by omega) W) _) ?_); rintro e y9 ⟨rfl, rfl⟩))
    go_ret2
    exact ⟨rfl, BV.out⟩

end Go.Proofs.Ytpkacfgmojblbaa
namespace Go.Proofs.Ytpkacfgmojblbaa
open Go.RowKit
attribute [local go_sem] old1 fro1 old2 fro2 old3 fro3 old4 fro4 old5 fro5 old6 fro6 old7 fro7 old8 fro8 old9 fro9 old10 fro10 old11 fro11 old12 fro12
def mx0 : List Bool := [false, false, false, false, false, false, false, false, false, false, false, false, false, false, false, false, false, true, true, true, true, true, false, false, false, false, false, false, false, false, false, false, false, false, false, false, false, false, false, false, false, false, false, false, false]
set_option maxRecDepth 100000 in
set_option maxHeartbeats 2000000 in
theorem samplePackets_bad (p : Nat → Int) (near c : Int) (w : World) (h : wi near 0 1000000000 = true → wi c 0 1023 = false) :
    Calls Try.prog 3 #[.agg (pk p), .int .i64 near, .int .i64 c] w fun e w' => e = .returned (.bool true) ∧ Below w.heap.size w w' := by
  have hE : uwE near c = 2 := by
    unfold uwE fs2 rgE
    cases h1 : wi near 0 1000000000
    · rfl
    · rw [h h1]; rfl
  have HU0 := fun W => unwrappedS_any near c W
  rw [hE] at HU0
  have HU := Lib.hid HU0
  clear HU0 hE
  cases h1 : wi near 0 1000000000
  · clear h
    go_enter Try.func3, Try.ntmps3
    go_upto_region 1 with fail
    have hbw : Below w.heap.size w (w.alloc (.cells (pk p) 26)) := (Below.refl _ _).alloc (Nat.le_refl _) _
    have HP0 := Lib.hid (fun i hi => (Nat.zero_add i).symm ▸ pk_cell w p 26 i hi : ∀ i, i < 18 → (w.alloc (.cells (pk p) 26)).cell? ⟨w.heap.size, 0 + i, none⟩ = some (.int .i64 (p i)))
    generalize (w.alloc (.cells (pk p) 26)) = w1 at *
    go_upto_region 4 with (first
      | (go_at_call 17; (with_reducible refine Calls.mono (awake_any _) ?_); rintro e v1 ⟨rfl, hv1⟩; have V1 := Lib.hid hv1; clear hv1)
      | (go_at_call 18; (with_reducible refine Calls.mono (HU.out _) ?_); rintro e v2 ⟨rfl, hv2⟩; have V2 := Lib.hid (belowT V1.out hv2); clear hv2))
    have HP := Lib.hid (fun i hi => keep V2.out (HP0.out i hi))
    have hb2 := belowT hbw V2.out
    generalize v2 = w2 at *
    clear V2 HP0 hbw
    refine wp_region_mp [mpEq (.agg (pk p)), mpEq (.int .i64 (pkE p)), mpEq (.agg (pk p)), mpEq (.int .i64 (pkE p)), mpEq (.bool false)] mx0 (by kernel_rfl) (by kernel_rfl) (by kernel_rfl) (
          allOps_cons (fun a' w' hb hs hd => rg_op fun K hK => by
        have e0 := (hs.get 3 (by kernel_rfl)).trans (show _ = .pointer (some ⟨w.heap.size, 0, none⟩) from rfl)
        have ld := ldP (w := w') (b := w.heap.size) (o := 0) (p := p) (fun i hi => keep hb (HP.out i hi))
        clear hs hd
        unfold Oper.wp execOp
        generalize a'.eval = ρ at e0 ⊢
        simp only [e0, Instr.loadAt, Instr.sureAddr, Sem.run_bind, Sem.run_pure, Result.andThen_ok, ld]
        exact hK _ _ (Below.refl _ _) rfl) <|
          allOps_cons (fun a' w' hb hs hd => by
        exact rg_fn (φ := (mpEq (.int .i64 (pkE p))).p) (vs := #[.agg (pk p)]) rfl (enters_of Try.func19 (by kernel_rfl) rfl) (by simp [(show a'.eval (.tmp 17) = .agg (pk p) from hd.get 0 17 (by kernel_rfl) (by kernel_rfl))]) ((checkPacket_any p w').mono (by rintro e w1 ⟨rfl, h1⟩; exact ⟨_, rfl, h1, rfl⟩))) <|
          allOps_cons (fun a' w' hb hs hd => rg_op fun K hK => by
        have e0 := (hs.get 3 (by kernel_rfl)).trans (show _ = .pointer (some ⟨w.heap.size, 0, none⟩) from rfl)
        have ld := ldP (w := w') (b := w.heap.size) (o := 0) (p := p) (fun i hi => keep hb (HP.out i hi))
        clear hs hd
        unfold Oper.wp execOp
        generalize a'.eval = ρ at e0 ⊢
        simp only [e0, Instr.loadAt, Instr.sureAddr, Sem.run_bind, Sem.run_pure, Result.andThen_ok, ld]
        exact hK _ _ (Below.refl _ _) rfl) <|
          allOps_cons (fun a' w' hb hs hd => by
        exact rg_fn (φ := (mpEq (.int .i64 (pkE p))).p) (vs := #[.agg (pk p)]) rfl (enters_of Try.func20 (by kernel_rfl) rfl) (by simp [(show a'.eval (.tmp 19) = .agg (pk p) from hd.get 2 19 (by kernel_rfl) (by kernel_rfl))]) ((packetErr_any p w').mono (by rintro e w1 ⟨rfl, h1⟩; exact ⟨_, rfl, h1, rfl⟩))) <|
          allOps_cons (fun a' w' hb hs hd => rg_op fun K hK => by
        have e0 := (show a'.eval (.tmp 18) = .int .i64 (pkE p) from hd.get 1 18 (by kernel_rfl) (by kernel_rfl))
        have e1 := (show a'.eval (.tmp 20) = .int .i64 (pkE p) from hd.get 3 20 (by kernel_rfl) (by kernel_rfl))
        have ec : ∀ v, a'.eval (.const v) = v := fun _ => rfl
        clear hs hd
        unfold Oper.wp
        generalize a'.eval = ρ at e0 e1 ec ⊢
        simp [go_sem, e0, e1]
        exact hK _ _ (Below.refl _ _) rfl) <| allOps_nil) (fun V w3 hb3 hall => ?_)
    have h21 : V 21 = .bool false := hall.get 4 rfl
    clear hall
    simp only [mx0, maskPut, Nat.reduceAdd]
    rw [h21]
    clear h21
    have HB3 := Lib.hid (belowT hb2 hb3)
    clear hb2 hb3
    go_wp2_with (first
      | (go_at_call 21; (with_reducible refine Calls.mono (bwithin_any _ _ _ _) ?_); rintro e x1 ⟨rfl, rfl⟩))
    go_ret
    exact ⟨rfl, HB3.out⟩
  · have h2 := h h1
    clear h
    go_enter Try.func3, Try.ntmps3
    go_upto_region 1 with fail
    have hbw : Below w.heap.size w (w.alloc (.cells (pk p) 26)) := (Below.refl _ _).alloc (Nat.le_refl _) _
    have HP0 := Lib.hid (fun i hi => (Nat.zero_add i).symm ▸ pk_cell w p 26 i hi : ∀ i, i < 18 → (w.alloc (.cells (pk p) 26)).cell? ⟨w.heap.size, 0 + i, none⟩ = some (.int .i64 (p i)))
    generalize (w.alloc (.cells (pk p) 26)) = w1 at *
    go_upto_region 4 with (first
      | (go_at_call 17; (with_reducible refine Calls.mono (awake_any _) ?_); rintro e v1 ⟨rfl, hv1⟩; have V1 := Lib.hid hv1; clear hv1)
      | (go_at_call 18; (with_reducible refine Calls.mono (HU.out _) ?_); rintro e v2 ⟨rfl, hv2⟩; have V2 := Lib.hid (belowT V1.out hv2); clear hv2))
    have HP := Lib.hid (fun i hi => keep V2.out (HP0.out i hi))
    have hb2 := belowT hbw V2.out
    generalize v2 = w2 at *
    clear V2 HP0 hbw
    refine wp_region_mp [mpEq (.agg (pk p)), mpEq (.int .i64 (pkE p)), mpEq (.agg (pk p)), mpEq (.int .i64 (pkE p)), mpEq (.bool false)] mx0 (by kernel_rfl) (by kernel_rfl) (by kernel_rfl) (
          allOps_cons (fun a' w' hb hs hd => rg_op fun K hK => by
        have e0 := (hs.get 3 (by kernel_rfl)).trans (show _ = .pointer (some ⟨w.heap.size, 0, none⟩) from rfl)
        have ld := ldP (w := w') (b := w.heap.size) (o := 0) (p := p) (fun i hi => keep hb (HP.out i hi))
        clear hs hd
        unfold Oper.wp execOp
        generalize a'.eval = ρ at e0 ⊢
        simp only [e0, Instr.loadAt, Instr.sureAddr, Sem.run_bind, Sem.run_pure, Result.andThen_ok, ld]
        exact hK _ _ (Below.refl _ _) rfl) <|
          allOps_cons (fun a' w' hb hs hd => by
        exact rg_fn (φ := (mpEq (.int .i64 (pkE p))).p) (vs := #[.agg (pk p)]) rfl (enters_of Try.func19 (by kernel_rfl) rfl) (by simp [(show a'.eval (.tmp 17) = .agg (pk p) from hd.get 0 17 (by kernel_rfl) (by kernel_rfl))]) ((checkPacket_any p w').mono (by rintro e w1 ⟨rfl, h1⟩; exact ⟨_, rfl, h1, rfl⟩))) <|
          allOps_cons (fun a' w' hb hs hd => rg_op fun K hK => by
        have e0 := (hs.get 3 (by kernel_rfl)).trans (show _ = .pointer (some ⟨w.heap.size, 0, none⟩) from rfl)
        have ld := ldP (w := w') (b := w.heap.size) (o := 0) (p := p) (fun i hi => keep hb (HP.out i hi))
        clear hs hd
        unfold Oper.wp execOp
        generalize a'.eval = ρ at e0 ⊢
        simp only [e0, Instr.loadAt, Instr.sureAddr, Sem.run_bind, Sem.run_pure, Result.andThen_ok, ld]
        exact hK _ _ (Below.refl _ _) rfl) <|
          allOps_cons (fun a' w' hb hs hd => by
        exact rg_fn (φ := (mpEq (.int .i64 (pkE p))).p) (vs := #[.agg (pk p)]) rfl (enters_of Try.func20 (by kernel_rfl) rfl) (by simp [(show a'.eval (.tmp 19) = .agg (pk p) from hd.get 2 19 (by kernel_rfl) (by kernel_rfl))]) ((packetErr_any p w').mono (by rintro e w1 ⟨rfl, h1⟩; exact ⟨_, rfl, h1, rfl⟩))) <|
          allOps_cons (fun a' w' hb hs hd => rg_op fun K hK => by
        have e0 := (show a'.eval (.tmp 18) = .int .i64 (pkE p) from hd.get 1 18 (by kernel_rfl) (by kernel_rfl))
        have e1 := (show a'.eval (.tmp 20) = .int .i64 (pkE p) from hd.get 3 20 (by kernel_rfl) (by kernel_rfl))
        have ec : ∀ v, a'.eval (.const v) = v := fun _ => rfl
        clear hs hd
        unfold Oper.wp
        generalize a'.eval = ρ at e0 e1 ec ⊢
        simp [go_sem, e0, e1]
        exact hK _ _ (Below.refl _ _) rfl) <| allOps_nil) (fun V w3 hb3 hall => ?_)
    have h21 : V 21 = .bool false := hall.get 4 rfl
    clear hall
    simp only [mx0, maskPut, Nat.reduceAdd]
    rw [h21]
    clear h21
    have HB3 := Lib.hid (belowT hb2 hb3)
    clear hb2 hb3
    go_wp2_with (first
      | (go_at_call 21; (with_reducible refine Calls.mono (bwithin_any _ _ _ _) ?_); rintro e x1 ⟨rfl, rfl⟩))
    go_ret
    exact ⟨rfl, HB3.out⟩
set_option maxRecDepth 100000 in
set_option maxHeartbeats 2000000 in
theorem samplePackets_ok (p : Nat → Int) (near c : Int) (w : World) (h1 : wi near 0 1000000000 = true) (h2 : wi c 0 1023 = true) :
    Calls Try.prog 3 #[.agg (pk p), .int .i64 near, .int .i64 c] w fun e w' => e = .returned (.bool true) ∧ Below w.heap.size w w' := by
  have hE : uwE near c = 0 := by
    unfold uwE fs2 rgE
    rw [h1, h2]
    rfl
  have HU0 := fun W => unwrappedS_any near c W
  rw [hE, if_pos rfl] at HU0
  have HU := Lib.hid HU0
  obtain ⟨a1, a2⟩ := wi_t.1 h1
  obtain ⟨c1, c2⟩ := wi_t.1 h2
  have HR := Lib.hid (fun W => unwrappedR_any near c a1 a2 c1 c2 W)
  clear HU0 hE a1 a2 c1 c2
  generalize uwr near c = u at *
  go_enter Try.func3, Try.ntmps3
  go_upto_region 1 with fail
  have hbw : Below w.heap.size w (w.alloc (.cells (pk p) 26)) := (Below.refl _ _).alloc (Nat.le_refl _) _
  have HP0 := Lib.hid (fun i hi => (Nat.zero_add i).symm ▸ pk_cell w p 26 i hi : ∀ i, i < 18 → (w.alloc (.cells (pk p) 26)).cell? ⟨w.heap.size, 0 + i, none⟩ = some (.int .i64 (p i)))
  generalize (w.alloc (.cells (pk p) 26)) = w1 at *
  go_upto_region 4 with (first
    | (go_at_call 17; (with_reducible refine Calls.mono (awake_any _) ?_); rintro e v1 ⟨rfl, hv1⟩; have V1 := Lib.hid hv1; clear hv1)
    | (go_at_call 18; (with_reducible refine Calls.mono (HU.out _) ?_); rintro e v2 ⟨rfl, hv2⟩; have V2 := Lib.hid (belowT V1.out hv2); clear hv2))
  have HP := Lib.hid (fun i hi => keep V2.out (HP0.out i hi))
  have hb2 := belowT hbw V2.out
  generalize v2 = w2 at *
  clear V2 HP0 hbw
  refine wp_region_mp [mpEq (.agg (pk p)), mpEq (.int .i64 (pkE p)), mpEq (.agg (pk p)), mpEq (.int .i64 (pkE p)), mpEq (.bool false)] mx0 (by kernel_rfl) (by kernel_rfl) (by kernel_rfl) (
        allOps_cons (fun a' w' hb hs hd => rg_op fun K hK => by
      have e0 := (hs.get 3 (by kernel_rfl)).trans (show _ = .pointer (some ⟨w.heap.size, 0, none⟩) from rfl)
      have ld := ldP (w := w') (b := w.heap.size) (o := 0) (p := p) (fun i hi => keep hb (HP.out i hi))
      clear hs hd
      unfold Oper.wp execOp
      generalize a'.eval = ρ at e0 ⊢
      simp only [e0, Instr.loadAt, Instr.sureAddr, Sem.run_bind, Sem.run_pure, Result.andThen_ok, ld]
      exact hK _ _ (Below.refl _ _) rfl) <|
        allOps_cons (fun a' w' hb hs hd => by
      exact rg_fn (φ := (mpEq (.int .i64 (pkE p))).p) (vs := #[.agg (pk p)]) rfl (enters_of Try.func19 (by kernel_rfl) rfl) (by simp [(show a'.eval (.tmp 17) = .agg (pk p) from hd.get 0 17 (by kernel_rfl) (by kernel_rfl))]) ((checkPacket_any p w').mono (by rintro e w1 ⟨rfl, h1⟩; exact ⟨_, rfl, h1, rfl⟩))) <|
        allOps_cons (fun a' w' hb hs hd => rg_op fun K hK => by
      have e0 := (hs.get 3 (by kernel_rfl)).trans (show _ = .pointer (some ⟨w.heap.size, 0, none⟩) from rfl)
      have ld := ldP (w := w') (b := w.heap.size) (o := 0) (p := p) (fun i hi => keep hb (HP.out i hi))
      clear hs hd
      unfold Oper.wp execOp
      generalize a'.eval = ρ at e0 ⊢
      simp only [e0, Instr.loadAt, Instr.sureAddr, Sem.run_bind, Sem.run_pure, Result.andThen_ok, ld]
      exact hK _ _ (Below.refl _ _) rfl) <|
        allOps_cons (fun a' w' hb hs hd => by
      exact rg_fn (φ := (mpEq (.int .i64 (pkE p))).p) (vs := #[.agg (pk p)]) rfl (enters_of Try.func20 (by kernel_rfl) rfl) (by simp [(show a'.eval (.tmp 19) = .agg (pk p) from hd.get 2 19 (by kernel_rfl) (by kernel_rfl))]) ((packetErr_any p w').mono (by rintro e w1 ⟨rfl, h1⟩; exact ⟨_, rfl, h1, rfl⟩))) <|
        allOps_cons (fun a' w' hb hs hd => rg_op fun K hK => by
      have e0 := (show a'.eval (.tmp 18) = .int .i64 (pkE p) from hd.get 1 18 (by kernel_rfl) (by kernel_rfl))
      have e1 := (show a'.eval (.tmp 20) = .int .i64 (pkE p) from hd.get 3 20 (by kernel_rfl) (by kernel_rfl))
      have ec : ∀ v, a'.eval (.const v) = v := fun _ => rfl
      clear hs hd
      unfold Oper.wp
      generalize a'.eval = ρ at e0 e1 ec ⊢
      simp [go_sem, e0, e1]
      exact hK _ _ (Below.refl _ _) rfl) <| allOps_nil) (fun V w3 hb3 hall => ?_)
  have h21 : V 21 = .bool false := hall.get 4 rfl
  clear hall
  simp only [mx0, maskPut, Nat.reduceAdd]
  rw [h21]
  clear h21
  have HB3 := Lib.hid (belowT hb2 hb3)
  clear hb2 hb3
  go_wp2_with (first
    | (go_at_call 21; (with_reducible refine Calls.mono (bwithin_any _ _ _ _) ?_); rintro e x1 ⟨rfl, rfl⟩)
    | (go_at_call 22; (with_reducible refine Calls.mono (HR.out _) ?_); rintro e x2 ⟨rfl, hx2⟩; have X2 := Lib.hid (belowT HB3.out hx2); clear hx2))
  go_ret
  exact ⟨rfl, X2.out⟩
theorem samplePackets_any (p : Nat → Int) (near c : Int) (w : World) :
    Calls Try.prog 3 #[.agg (pk p), .int .i64 near, .int .i64 c] w fun e w' => e = .returned (.bool true) ∧ Below w.heap.size w w' := by
  cases h1 : wi near 0 1000000000
  · exact samplePackets_bad p near c w (fun h => by rw [h1] at h; cases h)
  · cases h2 : wi c 0 1023
    · exact samplePackets_bad p near c w (fun _ => h2)
    · exact samplePackets_ok p near c w h1 h2

end Go.Proofs.Ytpkacfgmojblbaa
namespace Go.Proofs.Ytpkacfgmojblbaa
open Go.ChangeShapes Go.WideShapes Go.ChangeAt Go.RowKit
theorem own : ownKnob Try.prog.godebug = none := by kernel_rfl
theorem laidOut : laidOutB Try.prog = true := by kernel_rfl
theorem cellsInt : Try.prog.cellsOf 3 = 1 := by kernel_rfl
theorem cellsGauss : Try.prog.cellsOf 23 = 2 := by kernel_rfl
theorem cells8 : Try.prog.cellsOf 24 = 16 := by kernel_rfl
theorem cellsPk : Try.prog.cellsOf 26 = 18 := by kernel_rfl
theorem take1 {l : List Value} {o : Nat} {v : Value} (h : (l.drop o).take 1 = [v]) : l[o]? = some v := by
  have := congrArg (fun x => x[0]?) h
  simpa [List.getElem?_drop] using this
theorem take_in {l : List Value} {o m i : Nat} (hi : i < m) : ((l.drop o).take m)[i]? = l[o + i]? := by
  rw [List.getElem?_take_of_lt hi, List.getElem?_drop]
set_option maxRecDepth 100000 in
theorem trod_gauss {H : Type} {enc : TypeId × Value → H} {w : World} {base fuel : Nat} {sp : Nat → Bool} {held : Bool} {l : List Value} {x : DataW H × List MemPlace} (h : DataW.trod enc Try.prog w base sp held fuel 23 l = some x) : ∃ a b : Int, l[0]? = some (.int .i64 a) ∧ l[1]? = some (.int .i64 b) := by
  obtain ⟨xs, n, _, _, _, hlen, hg⟩ := DataW.trod_struct Try.underlying23 h
  match xs, hlen with
  | [y0, y1], _ =>
    have h0 := hg 0 _ rfl
    have h1 := hg 1 _ rfl
    simp only [List.getElem?_cons_zero, List.getElem?_cons_succ] at h0 h1
    obtain ⟨a, e0, _, _⟩ := DataW.trod_int Try.underlying3 h0
    obtain ⟨b, e1, _, _⟩ := DataW.trod_int Try.underlying3 h1
    exact ⟨a, b, take1 e0, take1 e1⟩
def intIn : Option Value → Int
  | some (.int _ x) => x
  | _ => 0
set_option maxRecDepth 100000 in
theorem open_packet {H : Type} {enc : TypeId × Value → H} {w : World} {base : Nat} {sp : Nat → Bool} {held : Bool} {r : Reach} {b0 : Nat} {v : Value} {d : DataW H} {p : List MemPlace} (hv : Value.okWide Try.prog w r b0 26 v) (h : DataW.Trod enc Try.prog w base sp held 26 v d p) :
    ∃ p : Nat → Int, v = .agg (pk p) := by
  obtain ⟨cs, rfl, hsz⟩ := okWide_struct Try.underlying26 hv
  rw [cellsPk] at hsz
  obtain ⟨fuel, hf⟩ := h
  obtain ⟨xs, n, _, hx, hl, hlen, hg⟩ := DataW.trod_struct Try.underlying26 hf
  match xs, hlen with
  | [y0, y1, y2], _ =>
    have h0 := hg 0 _ rfl
    have h1 := hg 1 _ rfl
    have h2 := hg 2 _ rfl
    change DataW.trod enc Try.prog w base sp held n 3 ((cs.toList.drop 0).take (Try.prog.cellsOf 3)) = some y0 at h0
    change DataW.trod enc Try.prog w base sp held n 3 ((cs.toList.drop 1).take (Try.prog.cellsOf 3)) = some y1 at h1
    change DataW.trod enc Try.prog w base sp held n 24 ((cs.toList.drop 2).take (Try.prog.cellsOf 24)) = some y2 at h2
    rw [cellsInt] at h0 h1
    rw [cells8] at h2
    obtain ⟨a, e0, _, _⟩ := DataW.trod_int Try.underlying3 h0
    obtain ⟨b, e1, _, _⟩ := DataW.trod_int Try.underlying3 h1
    replace e0 := take1 e0
    replace e1 := take1 e1
    obtain ⟨zs, m, _, _, _, hzl, hz⟩ := DataW.trod_array Try.underlying24 h2
    have key : ∀ j, j < 18 → ∃ x : Int, cs.toList[j]? = some (.int .i64 x) := by
      intro j hj
      rcases (show j = 0 ∨ j = 1 ∨ ∃ i, i < 8 ∧ (j = 2 + i * 2 ∨ j = 2 + i * 2 + 1) from if h0 : j = 0 then .inl h0 else if h1 : j = 1 then .inr (.inl h1) else .inr (.inr ⟨(j - 2) / 2, by omega, by omega⟩)) with rfl | rfl | ⟨i, hi, hj2⟩
      · exact ⟨a, e0⟩
      · exact ⟨b, e1⟩
      · have hzi := hz i hi
        rw [List.getElem?_eq_getElem (by rw [hzl]; exact hi)] at hzi
        rw [cellsGauss] at hzi
        obtain ⟨x, y, hx0, hx1⟩ := trod_gauss hzi
        rw [take_in (by omega), take_in (by omega)] at hx0 hx1
        rcases hj2 with rfl | rfl
        · exact ⟨x, by simpa using hx0⟩
        · exact ⟨y, by simpa [Nat.add_assoc] using hx1⟩
    refine ⟨fun j => intIn cs[j]?, congrArg Value.agg (Array.ext_getElem? fun j => ?_)⟩
    by_cases hj : j < 18
    · obtain ⟨x, hx⟩ := key j hj
      rw [pk_get _ j hj]
      rw [Array.getElem?_toList] at hx
      rw [hx]
      rfl
    · rw [Array.getElem?_eq_none (by omega), Array.getElem?_eq_none (by rw [pk_size]; omega)]
end Go.Proofs.Ytpkacfgmojblbaa
namespace Go.Proofs.Ytpkacfgmojblbaa
open Go.ChangeShapes Go.WideShapes Go.ChangeAt Go.RowKit
set_option maxRecDepth 100000 in
theorem samplePackets_lifted (os : Os) (started : os.Started) (H : Type) (enc : TypeId × Value → H) :
    ReturnsInHanded {} Try.checked os 3 .any (Rows.samplePacketsSpec.pre6 enc Try.prog Try.f3 Rows.samplePacketsRow.domain false) (Rows.samplePacketsSpec.post enc Try.prog Try.f3 false true false false) := by
  refine returnsInHanded_of_change (C := Try.checked) own started (by kernel_rfl) Try.func3
    (ChangeSpec.witness6 (enc := enc) (C := Try.checked) false ⟨#[], #[.agg #[.int .i64 0, .int .i64 0, .int .i64 0, .int .i64 0, .int .i64 0, .int .i64 0, .int .i64 0, .int .i64 0, .int .i64 0, .int .i64 0, .int .i64 0, .int .i64 0, .int .i64 0, .int .i64 0, .int .i64 0, .int .i64 0, .int .i64 0, .int .i64 0], .int .i64 0, .int .i64 0], []⟩ 8 (by kernel_rfl) (by kernel_rfl) (by kernel_rfl) (by kernel_rfl)) ?_
  intro W base args ds gs before hval0 hW hcnd _
  have hval : ∀ (j : Nat) t v, Try.f3.params[j]? = some t → args[j]? = some v → Value.okWide Try.prog W .any base t v := hval0
  have hW' := hW
  obtain ⟨p, q, hA0, hV, rfl, hfz, hnd⟩ := hW
  have hA : DataW.TrodAll enc Try.prog W 0 (fun _ => true) true Try.f3.params.toList args.toList ds p := hA0
  rw [Try.params3] at hA hval
  obtain ⟨v0, vs0, d0, ds0, p0, q0, hargs, rfl, rfl, h0, r0⟩ := trodAll_cons hA
  obtain ⟨v1, vs1, d1, ds1, p1, q1, rfl, rfl, rfl, h1, r1⟩ := trodAll_cons r0
  obtain ⟨v2, vs2, d2, ds2, p2, q2, rfl, rfl, rfl, h2, r2⟩ := trodAll_cons r1
  obtain ⟨rfl, rfl, rfl⟩ := trodAll_nil r2
  obtain rfl : args = #[v0, v1, v2] := by cases args; simp_all
  obtain ⟨rfl, rfl⟩ := trodVars_none hV
  have k0 := h0
  have k1 := h1
  have k2 := h2
  have lt0 : ∀ x ∈ p0, x.block < W.heap.size := by obtain ⟨m, hm⟩ := k0; exact DataW.trod_lt m _ _ _ hm
  have lt1 : ∀ x ∈ p1, x.block < W.heap.size := by obtain ⟨m, hm⟩ := k1; exact DataW.trod_lt m _ _ _ hm
  have lt2 : ∀ x ∈ p2, x.block < W.heap.size := by obtain ⟨m, hm⟩ := k2; exact DataW.trod_lt m _ _ _ hm
  obtain ⟨pp, rfl⟩ := open_packet (hval 0 26 v0 rfl rfl) h0
  obtain ⟨near, rfl⟩ := okWide_int Try.underlying3 (hval 1 3 v1 rfl rfl)
  obtain ⟨c, rfl⟩ := okWide_int Try.underlying3 (hval 2 3 v2 rfl rfl)
  clear hA0 hval0
  refine (samplePackets_any pp near c W).mono fun e W' ⟨he, bel⟩ => ?_
  subst he
  exact ⟨_, rfl, _, _, _, [], _, [], hW', trodAll_mk1 (shut_bool Try.underlying4 _), (trodAll_cons_mk (Below.trod laidOut (by kernel_rfl) (of_decide_eq_true (by kernel_rfl)) k0 bel lt0) (trodAll_cons_mk (Below.trod laidOut (by kernel_rfl) (of_decide_eq_true (by kernel_rfl)) k1 bel lt1) (trodAll_cons_mk (Below.trod laidOut (by kernel_rfl) (of_decide_eq_true (by kernel_rfl)) k2 bel lt2) trodAll_mk0))), rfl, bel.frame _, fun h => by cases h⟩
theorem samplePackets_over : Rows.samplePacketsRow.holds Try.pinned (OpenSpec.ofChange Rows.samplePacketsSpec) :=
  OpenClaim.holds_of_wide 3 Try.f3 rfl rfl rfl rfl rfl rfl rfl ⟨by kernel_rfl, by kernel_rfl, by kernel_rfl, by kernel_rfl, by kernel_rfl⟩ rfl rfl rfl rfl rfl (by kernel_rfl) Try.func3 (by kernel_rfl)
    (of_decide_eq_true (by kernel_rfl)) (by unfold Func.isWrapper; first | (rw [if_pos (by decide +kernel)]; kernel_rfl) | (rw [if_neg (by decide +kernel)]; exact ⟨rfl, rfl⟩))
    (fun os started H enc _ => samplePackets_lifted os started H enc)
/-- THE STATEMENT. -/
theorem samplePackets_holds : Rows.SamplePacketsSaid := samplePackets_over
end Go.Proofs.Ytpkacfgmojblbaa
