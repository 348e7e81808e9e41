/- Helpers: arguments of a law are read, whatever their type. No condition but the hypotheses that each theorem names. -/
import Derived.Test.YtaemlmpcclfmdaaB08
import Derived.ProofKit
import Derived.OpenShut
import Derived.ShutString
import Derived.ChangeOld
import Derived.Deep.Slices
import Derived.WideShapes
namespace Go.Proofs.Ytaemlmpcclfmdaa
open Go.RowKit Go.WideShapes Go.ChangeShapes Go.Deep
theorem adA (b o i : Nat) : ((⟨b, o, none⟩ : Addr).add i) = ⟨b, o + i, none⟩ := by simp [Addr.add]
/-- what lies in a cell -/
inductive CK where
  | int (k : IntKind)
  | bool
  | str
  | sl (z : Nat) (h : Nat → CK)
def CK.D : CK → Type
  | .int _ => Int
  | .bool => Bool
  | .str => ByteArray
  | .sl _ h => Nat × (Nat → (j : Nat) → (h j).D)
def CK.nil : (c : CK) → c.D
  | .int _ => (0 : Int)
  | .bool => false
  | .str => ByteArray.empty
  | .sl _ h => (0, fun _ j => (h j).nil)
def CK.av : (c : CK) → c.D → AV
  | .int k, n => .v (.int k n)
  | .bool, b => .v (.bool b)
  | .str, s => .v (.string s)
  | .sl z h, d => .sl z d.1 (fun i j => (h j).av (d.2 i j))
/-- no cell holds more than its kind can -/
def CK.ok : (c : CK) → c.D → Prop
  | .int k, n => (Lit.int k n).wf = true
  | .bool, _ => True
  | .str, s => ByteArray.size s ≤ maxLen
  | .sl z h, d => d.1 ≤ maxLen ∧ ∀ i, i < d.1 → ∀ j, j < z → (h j).ok (d.2 i j)
/-- the kind of a field's cell -/
def selF : List (Nat × Nat × (Nat → CK)) → Nat → CK
  | [], _ => .bool
  | (o, z, h) :: l, i => bif Nat.ble o i && Nat.blt i (o + z) then h (i - o) else selF l i
def inF : List (Nat × Nat × (Nat → CK)) → Nat → Bool
  | [], _ => false
  | (o, z, _) :: l, i => (Nat.ble o i && Nat.blt i (o + z)) || inF l i
def ckF (P : Program) (f : TypeId → Option (Nat × (Nat → CK))) : List Field → Option (List (Nat × Nat × (Nat → CK)))
  | [] => some []
  | x :: l => match f x.type, ckF P f l with
    | some (z, h), some r => bif Nat.beq z (P.cellsOf x.type) then some ((x.offset, z, h) :: r) else none
    | _, _ => none
def isI : CK → Bool
  | .int .i64 => true
  | _ => false
theorem isI_iff {c : CK} (h : isI c = true) : c = .int .i64 := by
  cases c with
  | int k => cases k <;> first | rfl | cases h
  | bool => cases h
  | str => cases h
  | sl z h' => cases h
def kf (l : List CK) : Nat → CK := fun j => l.getD j .bool
/-- kinds in one form -/
def canon (z : Nat) (h : Nat → CK) : Nat → CK := bif allN z (fun i => isI (h i)) then (fun _ => .int .i64) else kf ((List.range z).map h)
theorem canon_eq {z : Nat} {h : Nat → CK} {i : Nat} (hi : i < z) : canon z h i = h i := by
  unfold canon
  cases hb : allN z (fun i => isI (h i)) with
  | true => exact (isI_iff (allN_iff hb i hi)).symm
  | false => simp [kf, List.getD_eq_getElem?_getD, hi]
def ckT (P : Program) : Nat → TypeId → Option (Nat × (Nat → CK))
  | 0, _ => none
  | k + 1, t => match P.underlying t with
    | some .bool => some (1, fun _ => .bool)
    | some (.int k) => some (1, fun _ => .int k)
    | some .string => some (1, fun _ => .str)
    | some (.slice e) => match ckT P k e with
      | some (z, h) => bif Nat.beq z (P.cellsOf e) && Nat.blt 0 z then some (1, fun _ => .sl z h) else none
      | none => none
    | some (.array n e) => match ckT P k e with
      | some (z, h) => bif Nat.beq z (P.cellsOf e) && Nat.beq (n * z) (P.cellsOf t) then some (n * z, canon (n * z) (fun i => h (i % z))) else none
      | none => none
    | some (.struct fs) => match ckF P (ckT P k) fs.toList with
      | some l => bif allN (P.cellsOf t) (inF l) then some (P.cellsOf t, canon (P.cellsOf t) (selF l)) else none
      | none => none
    | _ => none
/-- a cell is read -/
def Cel (w : World) (c : CK) (o : Option Value) : Prop := ∃ d : c.D, c.ok d ∧ ∃ v, o = some v ∧ v.oneCell' = true ∧ Rd (there w) (fun _ => none) w (c.av d) v
section
variable {H : Type} {enc : TypeId × Value → H} {P : Program} {w : World} {base : Nat} {sp : Nat → Bool} {held : Bool}
theorem selF_in (g : Nat → CK → Prop) : ∀ {fs : List Field} {f : TypeId → Option (Nat × (Nat → CK))} {l : List (Nat × Nat × (Nat → CK))} (_ : ckF P f fs = some l) (_ : ∀ x, x ∈ fs → ∀ z h, f x.type = some (z, h) → z = P.cellsOf x.type → ∀ i, i < z → g (x.offset + i) (h i)) {i : Nat} (_ : inF l i = true), g i (selF l i)
  | [], f, l, hl, _, i, hi => by cases hl; cases hi
  | x :: fs, f, l, hl, hg, i, hi => by
    unfold ckF at hl
    split at hl
    case h_2 => cases hl
    rename_i z h r hx hr
    cases hb : Nat.beq z (P.cellsOf x.type) with
    | false => rw [hb] at hl; cases hl
    | true =>
      rw [hb] at hl
      cases hl
      unfold selF
      unfold inF at hi
      cases hc : (Nat.ble x.offset i && Nat.blt i (x.offset + z)) with
      | true =>
        simp only [cond_true]
        simp only [Bool.and_eq_true] at hc
        have h1 := ble_iff hc.1
        have h2 := blt_iff hc.2
        have := hg x (by simp) z h hx (Nat.eq_of_beq_eq_true hb) (i - x.offset) (by omega)
        rw [show x.offset + (i - x.offset) = i from by omega] at this
        exact this
      | false =>
        rw [hc, Bool.false_or] at hi
        simp only [cond_false]
        exact selF_in g hr (fun y hy => hg y (by simp [hy])) hi
theorem open_cells : ∀ (k : Nat) (t : TypeId) (z : Nat) (h : Nat → CK), ckT P k t = some (z, h) → ∀ (fuel : Nat) (cs : List Value) (x : DataW H × List MemPlace), DataW.trod enc P w base sp held fuel t cs = some x → ∀ i, i < z → Cel w (h i) cs[i]? := by
  intro k
  induction k with
  | zero => intro t z h e; cases e
  | succ k ih =>
    intro t z h e fuel cs x hx
    unfold ckT at e
    split at e
    · rename_i hu
      cases e
      obtain ⟨b, rfl, _⟩ := DataW.trod_bool hu hx
      intro i hi
      obtain rfl : i = 0 := by omega
      exact ⟨b, trivial, _, rfl, rfl, rfl⟩
    · rename_i ki hu
      cases e
      obtain ⟨n, rfl, _, hw⟩ := DataW.trod_int hu hx
      intro i hi
      obtain rfl : i = 0 := by omega
      exact ⟨n, hw, _, rfl, rfl, rfl⟩
    · rename_i hu
      cases e
      obtain ⟨s, rfl, _, hs⟩ := DataW.trod_string hu hx
      intro i hi
      obtain rfl : i = 0 := by omega
      exact ⟨s, hs, _, rfl, rfl, rfl⟩
    · rename_i el hu
      split at e
      case h_2 => cases e
      rename_i z1 h1 he
      cases hb : (Nat.beq z1 (P.cellsOf el) && Nat.blt 0 z1) with
      | false => rw [hb] at e; cases e
      | true =>
        rw [hb] at e
        cases e
        simp only [Bool.and_eq_true] at hb
        have hz := Nat.eq_of_beq_eq_true hb.1
        have hz0 := blt_iff hb.2
        intro i hi
        obtain rfl : i = 0 := by omega
        rcases open_slice hu hx with ⟨rfl, _⟩ | ⟨a, len, cap, m, n, D, Pl, rfl, _, hl, hm, hmm, _, hc⟩
        · exact ⟨(0, fun _ j => (h1 j).nil), ⟨Nat.zero_le _, fun i hi => absurd hi (Nat.not_lt_zero _)⟩, _, rfl, rfl, _, _, rfl, ⟨Nat.le_refl _, fun _ => rfl⟩, fun q => absurd rfl q⟩
        · have hlm : len ≤ m := by rw [hmm]; split <;> omega
          rw [← hz] at hc
          have key : ∀ i j, ∃ d : (h1 j).D, i < len → j < z1 → (h1 j).ok d ∧ ∃ v, w.cell? ((a.add (i * z1)).add j) = some v ∧ v.oneCell' = true ∧ Rd (there w) (fun _ => none) w ((h1 j).av d) v := by
            intro i j
            by_cases q : i < len ∧ j < z1
            · obtain ⟨cs', g1, g2⟩ := hc i (by omega)
              obtain ⟨_, _, hcell⟩ := World.cells?_some g1
              obtain ⟨d, ok, v, e1, e2, e3⟩ := ih el z1 h1 he _ _ _ g2 j q.2
              exact ⟨d, fun _ _ => ⟨ok, v, by rw [hcell j q.2]; exact e1, e2, e3⟩⟩
            · exact ⟨(h1 j).nil, fun a b => absurd ⟨a, b⟩ q⟩
          refine ⟨(len, fun i j => Classical.choose (key i j)), ⟨by show len ≤ maxLen; omega, fun i hi j hj => (Classical.choose_spec (key i j) hi hj).1⟩, _, rfl, rfl, some a, cap, rfl, ⟨hl, fun q => by cases q⟩, fun hn => ?_⟩
          obtain ⟨b, o, spot⟩ := a
          have hspot : spot = none := by
            obtain ⟨_, v, e1, _⟩ := Classical.choose_spec (key 0 0) (by show 0 < len; omega) hz0
            simpa [Addr.add] using World.cell?_spot e1
          subst hspot
          refine ⟨b, o, rfl, fun i hi j hj => ?_⟩
          obtain ⟨_, v, e1, e2, e3⟩ := Classical.choose_spec (key i j) hi hj
          have e1' : w.cell? ⟨b, o + i * z1 + j, none⟩ = some v := by rwa [adA, adA] at e1
          exact ⟨block_lt_of_cell e1', v, e1', e2, e3⟩
    · rename_i n el hu
      split at e
      case h_2 => cases e
      rename_i z1 h1 he
      cases hb : (Nat.beq z1 (P.cellsOf el) && Nat.beq (n * z1) (P.cellsOf t)) with
      | false => rw [hb] at e; cases e
      | true =>
        rw [hb] at e
        cases e
        simp only [Bool.and_eq_true] at hb
        have hz := Nat.eq_of_beq_eq_true hb.1
        obtain ⟨xs, m, _, _, hlen, hxl, hg⟩ := DataW.trod_array hu hx
        intro i hi
        rw [canon_eq hi]
        have hz0 : 0 < z1 := by
          rcases Nat.eq_zero_or_pos z1 with q | q
          · rw [q, Nat.mul_zero] at hi; exact absurd hi (Nat.not_lt_zero _)
          · exact q
        have hin : i / z1 < n := Nat.div_lt_of_lt_mul (by rw [Nat.mul_comm]; exact hi)
        have hxi : xs[i / z1]? = some xs[i / z1] := List.getElem?_eq_getElem (by omega)
        have := ih el z1 h1 he _ _ _ ((hg (i / z1) hin).trans hxi) (i % z1) (Nat.mod_lt _ hz0)
        rw [← hz, List.getElem?_take_of_lt (Nat.mod_lt _ hz0), List.getElem?_drop] at this
        rw [show i / z1 * z1 + i % z1 = i from by rw [Nat.mul_comm]; exact Nat.div_add_mod _ _] at this
        exact this
    · rename_i fs hu
      split at e
      case h_2 => cases e
      rename_i l hl
      cases hb : allN (P.cellsOf t) (inF l) with
      | false => rw [hb] at e; cases e
      | true =>
        rw [hb] at e
        cases e
        obtain ⟨xs, n, _, _, hlen, hxl, hg⟩ := DataW.trod_struct hu hx
        intro i hi
        rw [canon_eq hi]
        refine selF_in (fun i c => Cel w c cs[i]?) hl (fun f hf z1 h1 he hz j hj => ?_) (allN_iff hb i hi)
        obtain ⟨q, hq, hqf⟩ := List.mem_iff_getElem.1 hf
        have hqs : q < fs.size := by simpa using hq
        have hfq : fs[q]? = some f := by rw [Array.getElem?_eq_getElem hqs]; exact congrArg some (by simpa using hqf)
        have hxi : xs[q]? = some xs[q] := List.getElem?_eq_getElem (by omega)
        have := ih f.type z1 h1 he _ _ _ ((hg q f hfq).trans hxi) j hj
        rw [← hz, List.getElem?_take_of_lt hj, List.getElem?_drop] at this
        exact this
    · cases e
/-- a value by its type: a cell or a row of cells -/
def isRow (P : Program) (t : TypeId) : Bool := match P.underlying t with
  | some (.struct _) => true
  | some (.array _ _) => true
  | _ => false
/-- all cells at once -/
theorem open_row {k : Nat} {t : TypeId} {z : Nat} {h : Nat → CK} (e : ckT P k t = some (z, h)) {fuel : Nat} {cs : List Value} {x : DataW H × List MemPlace} (hx : DataW.trod enc P w base sp held fuel t cs = some x) : ∃ d : (i : Nat) → (h i).D, (∀ i, i < z → (h i).ok (d i)) ∧ ∀ i, i < z → ∃ v, cs[i]? = some v ∧ v.oneCell' = true ∧ Rd (there w) (fun _ => none) w ((h i).av (d i)) v := by
  have key : ∀ i, ∃ d : (h i).D, i < z → (h i).ok d ∧ ∃ v, cs[i]? = some v ∧ v.oneCell' = true ∧ Rd (there w) (fun _ => none) w ((h i).av d) v := by
    intro i
    by_cases q : i < z
    · obtain ⟨d, ok, v, e1, e2, e3⟩ := open_cells k t z h e _ _ _ hx i q
      exact ⟨d, fun _ => ⟨ok, v, e1, e2, e3⟩⟩
    · exact ⟨(h i).nil, fun a => absurd a q⟩
  exact ⟨fun i => Classical.choose (key i), fun i hi => (Classical.choose_spec (key i) hi).1, fun i hi => (Classical.choose_spec (key i) hi).2⟩
theorem rowD {z : Nat} {r : Nat → AV} {cs : Array Value} (hz : cs.size = z) (h : ∀ i, i < z → ∃ v, cs.toList[i]? = some v ∧ v.oneCell' = true ∧ Rd (there w) (fun _ => none) w (r i) v) : Rd (there w) (fun _ => none) w (.agg z (vec (lst z r))) (.agg cs) := by
  refine ⟨cs, rfl, hz, fun i hi => ?_⟩
  obtain ⟨v, e1, _, e3⟩ := h i hi
  rw [vec_lst hi]
  have : cs.getD i undef = v := by
    rw [Array.getD_eq_getD_getElem?, ← Array.getElem?_toList, e1]; rfl
  rw [this]
  exact e3
theorem one_of {t : TypeId} {v : Value} {r : Reach} {b0 : Nat} (hv : Value.okWide P w r b0 t v) (hr : isRow P t = false) {k z : Nat} {h : Nat → CK} (e : ckT P k t = some (z, h)) : v.cells = #[v] ∧ z = 1 := by
  cases k with
  | zero => cases e
  | succ k =>
    unfold ckT at e
    unfold isRow at hr
    split at e
    · rename_i hu; cases e; obtain ⟨b, rfl⟩ := okWide_bool hu hv; exact ⟨rfl, rfl⟩
    · rename_i hu; cases e; obtain ⟨b, rfl⟩ := okWide_int hu hv; exact ⟨rfl, rfl⟩
    · rename_i hu; cases e; obtain ⟨b, rfl⟩ := okWide_string hu hv; exact ⟨rfl, rfl⟩
    · rename_i hu
      obtain ⟨a, n, c, rfl⟩ := okWide_slice hu hv
      split at e
      case h_2 => cases e
      rename_i z1 h1 he
      cases hb : (Nat.beq z1 (P.cellsOf _) && Nat.blt 0 z1) with
      | false => rw [hb] at e; cases e
      | true => rw [hb] at e; cases e; exact ⟨rfl, rfl⟩
    · rename_i hu; rw [hu] at hr; cases hr
    · rename_i hu; rw [hu] at hr; cases hr
    · cases e
theorem row_of {t : TypeId} {v : Value} {r : Reach} {b0 : Nat} (hv : Value.okWide P w r b0 t v) (hr : isRow P t = true) : ∃ cs, v = .agg cs ∧ cs.size = P.cellsOf t := by
  unfold isRow at hr
  split at hr
  · rename_i fs hu; exact okWide_struct hu hv
  · rename_i n e hu
    simp only [Value.okWide, hu] at hv
    obtain ⟨cs, h1, h2, _⟩ := hv
    exact ⟨cs, h1, h2⟩
  · cases hr
/-- an argument of one cell -/
theorem open_one {t : TypeId} {v : Value} {r : Reach} {b0 : Nat} {d : DataW H} {p : List MemPlace} (hv : Value.okWide P w r b0 t v) (hx : DataW.Trod enc P w base sp held t v d p) (k : Nat) (c : CK) (e : ckT P k t = some (1, fun _ => c)) (hr : isRow P t = false) : ∃ d : c.D, c.ok d ∧ Rd (there w) (fun _ => none) w (c.av d) v := by
  obtain ⟨fuel, hf⟩ := hx
  obtain ⟨h1, _⟩ := one_of hv hr e
  rw [h1] at hf
  obtain ⟨d, ok, u, e1, _, e3⟩ := open_cells k t 1 _ e _ _ _ hf 0 Nat.one_pos
  have : u = v := by simpa using e1.symm
  subst this
  exact ⟨d, ok, e3⟩
/-- an argument that is a row of cells -/
theorem open_agg {t : TypeId} {v : Value} {r : Reach} {b0 : Nat} {d : DataW H} {p : List MemPlace} (hv : Value.okWide P w r b0 t v) (hx : DataW.Trod enc P w base sp held t v d p) (k z : Nat) (h : Nat → CK) (e : ckT P k t = some (z, h)) (hr : (isRow P t && Nat.beq (P.cellsOf t) z) = true) : ∃ d : (i : Nat) → (h i).D, (∀ i, i < z → (h i).ok (d i)) ∧ Rd (there w) (fun _ => none) w (.agg z (vec (lst z fun i => (h i).av (d i)))) v := by
  simp only [Bool.and_eq_true] at hr
  obtain ⟨fuel, hf⟩ := hx
  obtain ⟨cs, rfl, hz⟩ := row_of hv hr.1
  obtain ⟨d, ok, hd⟩ := open_row e hf
  exact ⟨d, ok, rowD (hz.trans (Nat.eq_of_beq_eq_true hr.2)) hd⟩
end
end Go.Proofs.Ytaemlmpcclfmdaa
namespace Go.Proofs.Ytaemlmpcclfmdaa
open Go.RowKit
def siz (x : Int) : Int := (x.natAbs : Int)
theorem tmod_cases (n b : Int) (hb : 0 < b) : (n.tmod b = n % b ∧ 0 ≤ n.tmod b) ∨ (n.tmod b = n % b - b ∧ n.tmod b < 0) := by
  have h0 := Int.emod_nonneg n (show b ≠ 0 by omega)
  have h1 := Int.emod_lt_of_pos n hb
  have h2 := Int.tmod_def n b
  have h3 := Int.emod_def n b
  rcases Int.le_total 0 n with h | h
  · left
    rw [Int.tmod_eq_emod_of_nonneg h]
    exact ⟨rfl, h0⟩
  · have h4 : -b < n.tmod b := by have := Int.lt_tmod_of_pos n hb; omega
    have h5 : n.tmod b ≤ 0 := by have := Int.tmod_nonneg b (show 0 ≤ -n by omega); rw [Int.neg_tmod] at this; omega
    have h6 : (n.tmod b - n % b) % b = 0 := by
      rw [h2, h3, show n - b * n.tdiv b - (n - b * (n / b)) = b * (n / b - n.tdiv b) from by rw [Int.mul_sub]; omega]
      exact Int.mul_emod_right b _
    by_cases hz : n.tmod b = 0
    · left
      refine ⟨?_, by omega⟩
      rw [hz] at h6
      have h7 : (n % b) % b = 0 := by
        have h8 : b ∣ (0 - n % b) := Int.dvd_of_emod_eq_zero h6
        exact Int.emod_eq_zero_of_dvd (by have := (Int.dvd_neg (a := b) (b := 0 - n % b)).2 h8; rwa [show -(0 - n % b) = n % b from by omega] at this)
      rw [Int.emod_eq_of_lt h0 h1] at h7
      omega
    · right
      refine ⟨?_, by omega⟩
      obtain ⟨k, hk⟩ := Int.dvd_of_emod_eq_zero h6
      have h9 : k = -1 := by
        have q1 : b * k < 0 := by omega
        have q2 : -(2 * b) < b * k := by omega
        have q3 : k < 0 := by
          rcases Int.lt_or_le k 0 with q | q
          · exact q
          · have := Int.mul_nonneg (show 0 ≤ b by omega) q; omega
        have q4 : -2 < k := by
          rcases Int.lt_or_le (-2) k with q | q
          · exact q
          · have := Int.mul_le_mul_of_nonneg_left q (show 0 ≤ b by omega); omega
        omega
      rw [h9] at hk
      omega
theorem tdiv_facts (n d : Int) (hd : 0 < d) : (n.tdiv d = n / d ∧ n.tdiv d * d ≤ n ∨ n.tdiv d = n / d + 1 ∧ n < n.tdiv d * d) ∧ (-1 - (n.natAbs : Int) ≤ n / d ∧ n / d ≤ (n.natAbs : Int)) ∧ (n.tdiv d * d - n < d ∧ n - n.tdiv d * d < d) ∧ True := by
  have h1 := Int.mul_ediv_add_emod n d
  have h2 := Int.emod_nonneg n (show d ≠ 0 by omega)
  have h3 := Int.emod_lt_of_pos n hd
  have h4 := Int.mul_tdiv_add_tmod n d
  have h5 := tmod_cases n d hd
  have e1 : n.tdiv d * d = d * n.tdiv d := Int.mul_comm _ _
  have hq : -1 - (n.natAbs : Int) ≤ n / d ∧ n / d ≤ (n.natAbs : Int) := by
    constructor
    · rcases Int.le_total 0 n with q | q
      · have := Int.ediv_nonneg q (show 0 ≤ d by omega); omega
      · have h6 : n ≤ n / d := by
          have := Int.ediv_le_ediv hd (show n * d ≤ n by
            have := Int.mul_le_mul_of_nonpos_left (show n ≤ 0 from q) (show 1 ≤ d by omega)
            omega)
          rw [Int.mul_ediv_cancel _ (show d ≠ 0 by omega)] at this
          exact this
        omega
    · rcases Int.le_total 0 n with q | q
      · have := Int.ediv_le_self (a := n) d q; omega
      · have : n / d ≤ 0 := by
          rcases Int.lt_or_le 0 (n / d) with q1 | q1
          · have := Int.mul_le_mul_of_nonneg_left (show 1 ≤ n / d by omega) (show 0 ≤ d by omega); omega
          · exact q1
        omega
  have h7 := Int.lt_tmod_of_pos n hd
  refine ⟨?_, hq, by omega, trivial⟩
  rcases h5 with ⟨h5, h6⟩ | ⟨h5, h6⟩
  · left
    have : d * n.tdiv d = d * (n / d) := by omega
    exact ⟨Int.eq_of_mul_eq_mul_left (show d ≠ 0 by omega) this, by omega⟩
  · right
    have : d * n.tdiv d = d * (n / d + 1) := by rw [Int.mul_add, Int.mul_one]; omega
    exact ⟨Int.eq_of_mul_eq_mul_left (show d ≠ 0 by omega) this, by omega⟩
/-- the first error of the first n -/
def fe (e : Nat → Int) : Nat → Int
  | 0 => 0
  | n + 1 => if fe e n = 0 then e n else fe e n
theorem fe_none {e : Nat → Int} : ∀ {n}, (∀ i, i < n → e i = 0) → fe e n = 0
  | 0, _ => rfl
  | n + 1, h => by
    unfold fe
    rw [fe_none fun i hi => h i (by omega), if_pos rfl]
    exact h n (by omega)
theorem fe_hit {e : Nat → Int} {k : Nat} (h : ∀ i, i < k → e i = 0) : ∀ {n}, k < n → e k ≠ 0 → fe e n = e k
  | 0, hk, _ => absurd hk (Nat.not_lt_zero _)
  | n + 1, hk, h0 => by
    unfold fe
    by_cases q : k = n
    · subst q
      rw [fe_none h, if_pos rfl]
    · rw [fe_hit h (show k < n by omega) h0, if_neg h0]
/-- the index of the first error, 0 without one -/
def fi (e : Nat → Int) : Nat → Int
  | 0 => 0
  | n + 1 => if fe e n = 0 then (if e n = 0 then 0 else (n : Int)) else fi e n
theorem fi_none {e : Nat → Int} : ∀ {n}, (∀ i, i < n → e i = 0) → fi e n = 0
  | 0, _ => rfl
  | n + 1, h => by
    unfold fi
    rw [fe_none fun i hi => h i (by omega), if_pos rfl, if_pos (h n (by omega))]
theorem fi_hit {e : Nat → Int} {k : Nat} (h : ∀ i, i < k → e i = 0) : ∀ {n}, k < n → e k ≠ 0 → fi e n = k
  | 0, hk, _ => absurd hk (Nat.not_lt_zero _)
  | n + 1, hk, h0 => by
    unfold fi
    by_cases q : k = n
    · subst q
      rw [fe_none h, if_pos rfl, if_neg h0]
    · rw [fe_hit h (show k < n by omega) h0, if_neg h0, fi_hit h (show k < n by omega) h0]
set_option maxRecDepth 100000 in
theorem within_pc (n lo hi : Int) : PC Try.prog 17 [iv (n), iv (lo), iv (hi)] (bv (decide (lo ≤ n ∧ n ≤ hi))) := by
  refine PC.intro Try.func17 (by kernel_rfl) rfl (by kernel_rfl) fun S0 w0 => ?_
  refine AW.seq ?_
  refine AW.region (noH) (RPre.of (X := True) (by kernel_rfl) trivial) ?_
  refine thenN ?_
  refine AW.seq ?_
  refine AW.region (noH) (RPre.of (X := ((gc (decide (lo ≤ n)) true) = true → ((gc (decide (lo ≤ n)) true) = true) ∧ ((gc (decide (lo ≤ n)) true) = true)) ∧ ((decide (lo ≤ n)) = true → (gc (decide (lo ≤ n)) true) = true)) (by kernel_rfl) ⟨fun hg => ⟨(by simp_all [gc]), (by simp_all [gc])⟩, (fun h => by simp [gc, h])⟩) ?_
  refine thenN ?_
  refine AW.ret ?_
  refine retN (bv (bif (decide (lo ≤ n)) then (decide (n ≤ hi)) else false)) (by kernel_rfl) ?_
  exact le_bv bif_and
set_option maxRecDepth 100000 in
theorem mod_pc (n b : Int) (hb : 0 < b) (hb2 : b ≤ 4611686018427387904) : PC Try.prog 37 [iv (n), iv (b)] (iv (n % b)) := by
  have h0 := Int.emod_nonneg n (show b ≠ 0 by omega)
  have h1 := Int.emod_lt_of_pos n hb
  have h2 := tmod_cases n b hb
  refine PC.intro Try.func37 (by kernel_rfl) rfl (by kernel_rfl) fun S0 w0 => ?_
  refine AW.seq ?_
  refine AW.region (noH) (RPre.of (X := True) (by kernel_rfl) trivial) ?_
  refine thenN ?_
  refine AW.seq ?_
  refine AW.region (noH) (RPre.of (X := (b ≠ 0)) (by kernel_rfl) (by omega)) ?_
  refine thenN ?_
  refine AW.seq ?_
  refine AW.seq ?_
  refine AW.region (noH) (RPre.of (X := True) (by kernel_rfl) trivial) ?_
  refine thenN ?_
  refine AW.cond (decide ((n.tmod b) < 0)) (by kernel_rfl) (fun h9 => ?_) (fun h9 => ?_)
  · have ch9 : ((n.tmod b) < 0) := of_decide_eq_true h9
    refine AW.region (noH) (RPre.of (X := (-9223372036854775808 ≤ ((n.tmod b) + b) ∧ ((n.tmod b) + b) ≤ 9223372036854775807)) (by kernel_rfl) (by omega)) ?_
    refine thenN ?_
    refine AW.seq ?_
    refine AW.region (noH) (RPre.of (X := True) (by kernel_rfl) trivial) ?_
    refine thenN ?_
    refine AW.ret ?_
    refine retN (iv (((n.tmod b) + b))) (by kernel_rfl) ?_
    exact le_iv (by omega)
  · have ch9 : ¬ ((n.tmod b) < 0) := of_decide_eq_false h9
    refine AW.skip ?_
    refine thenN ?_
    refine AW.seq ?_
    refine AW.region (noH) (RPre.of (X := True) (by kernel_rfl) trivial) ?_
    refine thenN ?_
    refine AW.ret ?_
    refine retN (iv ((n.tmod b))) (by kernel_rfl) ?_
    exact le_iv (by omega)
set_option maxRecDepth 100000 in
theorem size_pc (n : Int) (h1 : -4611686018427387904 ≤ n) (h2 : n ≤ 4611686018427387904) : PC Try.prog 100 [iv (n)] (iv (siz n)) := by
  refine PC.intro Try.func100 (by kernel_rfl) rfl (by kernel_rfl) fun S0 w0 => ?_
  refine AW.seq ?_
  refine AW.region (noH) (RPre.of (X := True) (by kernel_rfl) trivial) ?_
  refine thenN ?_
  refine AW.seq ?_
  refine AW.region (noH) (RPre.of (X := (-9223372036854775808 ≤ (0 - n) ∧ (0 - n) ≤ 9223372036854775807)) (by kernel_rfl) (by omega)) ?_
  refine thenN ?_
  refine AW.ret ?_
  refine retN (iv ((if (0 - n) > n then (0 - n) else n))) (by kernel_rfl) ?_
  exact le_iv (by unfold siz; split <;> omega)
set_option maxRecDepth 100000 in
theorem nsize_pc (n : Int) (h1 : -4611686018427387904 ≤ n) (h2 : n ≤ 4611686018427387904) : PC Try.prog 127 [iv (n)] (iv (siz n)) := by
  refine PC.intro Try.func127 (by kernel_rfl) rfl (by kernel_rfl) fun S0 w0 => ?_
  refine AW.seq ?_
  refine AW.region (noH) (RPre.of (X := True) (by kernel_rfl) trivial) ?_
  refine thenN ?_
  refine AW.seq ?_
  refine AW.region (noH) (RPre.of (X := (-9223372036854775808 ≤ (0 - n) ∧ (0 - n) ≤ 9223372036854775807)) (by kernel_rfl) (by omega)) ?_
  refine thenN ?_
  refine AW.ret ?_
  refine retN (iv ((if (0 - n) > n then (0 - n) else n))) (by kernel_rfl) ?_
  exact le_iv (by unfold siz; split <;> omega)
set_option maxRecDepth 100000 in
theorem has_pc (m : Nat) (l : Nat → Int) (n : Int) (hm : m ≤ 1000000000) : PC Try.prog 48 [isl m l, iv (n)] (bv (decide (∃ i, i < m ∧ l i = n))) := by
  refine PC.intro Try.func48 (by kernel_rfl) rfl (by kernel_rfl) fun S0 w0 => ?_
  refine AW.seq ?_
  refine AW.region (noH) (RPre.of (X := True) (by kernel_rfl) trivial) ?_
  refine thenN ?_
  refine AW.seq ?_
  refine AW.seq ?_
  refine AW.region (noH) (RPre.of (X := True) (by kernel_rfl) trivial) ?_
  refine thenN ?_
  refine AW.block ?_
  refine AW.re [(0, isl m l), (1, iv (n)), (5, iv (((0 : Nat) : Int)))] [] [] (by kernel_rfl) (SLe.all (by kernel_rfl)) trivial ?_
  refine AW.loop (fun m_ σ_ => ∃ (k : Nat), (k ≤ m ∧ ∀ i, i < k → l i ≠ n) ∧ m_ = m - k ∧ σ_ = ⟨mkS [(0, isl m l), (1, iv (n)), (5, iv (((k : Nat) : Int)))], mkB []⟩) _ ⟨0, ⟨Nat.zero_le _, fun i hi => absurd hi (Nat.not_lt_zero _)⟩, rfl, rfl⟩ ?_
  rintro _ _ ⟨k, H0, rfl, rfl⟩
  obtain ⟨hk, H⟩ := H0
  refine AW.seq ?_
  refine AW.seq ?_
  refine AW.region (noH) (RPre.of (X := True) (by kernel_rfl) trivial) ?_
  refine thenN ?_
  refine AW.cond (decide (((k : Nat) : Int) < ((m : Nat) : Int))) (by kernel_rfl) (fun h9 => ?_) (fun h9 => ?_)
  · have ch9 : (((k : Nat) : Int) < ((m : Nat) : Int)) := of_decide_eq_true h9
    refine AW.skip ?_
    refine thenN ?_
    refine AW.seq ?_
    refine AW.block ?_
    refine AW.seq ?_
    refine AW.region (noH) (RPre.of (X := (0 ≤ ((k : Nat) : Int)) ∧ (((k : Nat) : Int) < (m : Nat))) (by kernel_rfl) (by omega)) ?_
    refine thenN ?_
    refine AW.cond ((l k) == n) (by kernel_rfl) (fun h17 => ?_) (fun h17 => ?_)
    · have ch17 : (l k) = n := by simpa using h17
      refine AW.seq ?_
      refine AW.region (noH) (RPre.of (X := True) (by kernel_rfl) trivial) ?_
      refine thenN ?_
      refine AW.ret ?_
      refine blockR ?_
      refine thenR ?_
      refine loopR ?_
      refine blockR ?_
      refine thenR ?_
      refine retN (bv (true)) (by kernel_rfl) ?_
      exact le_bv (decide_eq_true ⟨k, by omega, by assumption⟩).symm
    · have ch17 : (l k) ≠ n := by simpa using h17
      refine AW.skip ?_
      refine blockN ?_
      refine thenN ?_
      refine AW.region (noH) (RPre.of (X := (-9223372036854775808 ≤ (((k : Nat) : Int) + 1) ∧ (((k : Nat) : Int) + 1) ≤ 9223372036854775807)) (by kernel_rfl) (by omega)) ?_
      have hx : ∀ i, i < k + 1 → l i ≠ n := by
        intro i hi
        by_cases q : i = k
        · subst q; assumption
        · exact H i (by omega)
      exact loopN' ⟨m - (k + 1), _, (by omega), ⟨(k + 1), ⟨by omega, hx⟩, rfl, rfl⟩, wk_re [(0, isl m l), (1, iv (n)), (5, iv ((((k + 1) : Nat) : Int)))] [] [] (by kernel_rfl) (SLe.all (by kernel_rfl)) trivial⟩
  · have ch9 : ¬ (((k : Nat) : Int) < ((m : Nat) : Int)) := of_decide_eq_false h9
    refine AW.exit ?_
    refine thenE ?_
    refine loopE ?_
    refine blockH ?_
    refine thenN ?_
    refine AW.seq ?_
    refine AW.region (noH) (RPre.of (X := True) (by kernel_rfl) trivial) ?_
    refine thenN ?_
    refine AW.ret ?_
    refine retN (bv (false)) (by kernel_rfl) ?_
    exact le_bv (decide_eq_false (fun ⟨i, q1, q2⟩ => H i (by omega) q2)).symm
set_option maxRecDepth 100000 in
theorem ints_pc (n m : Nat) (a b : Nat → Int) (hn : n ≤ 1000000000) : PC Try.prog 34 [isl n a, isl m b] (bv (decide (n = m ∧ ∀ i, i < n → a i = b i))) := by
  refine PC.intro Try.func34 (by kernel_rfl) rfl (by kernel_rfl) fun S0 w0 => ?_
  refine AW.seq ?_
  refine AW.region (noH) (RPre.of (X := True) (by kernel_rfl) trivial) ?_
  refine thenN ?_
  refine AW.seq ?_
  refine AW.seq ?_
  refine AW.region (noH) (RPre.of (X := True) (by kernel_rfl) trivial) ?_
  refine thenN ?_
  refine AW.cond (((n : Nat) : Int) != ((m : Nat) : Int)) (by kernel_rfl) (fun h10 => ?_) (fun h10 => ?_)
  · have ch10 : ((n : Nat) : Int) ≠ ((m : Nat) : Int) := by simpa using h10
    refine AW.seq ?_
    refine AW.region (noH) (RPre.of (X := True) (by kernel_rfl) trivial) ?_
    refine thenN ?_
    refine AW.ret ?_
    refine thenR ?_
    refine retN (bv (false)) (by kernel_rfl) ?_
    rw [show decide (n = m ∧ ∀ i, i < n → a i = b i) = false from decide_eq_false (fun q => ch10 (by rw [q.1]))]
    exact AV.le.refl _
  · have ch10 : ((n : Nat) : Int) = ((m : Nat) : Int) := by simpa using h10
    have hnm : n = m := by omega
    refine AW.skip ?_
    refine thenN ?_
    refine AW.seq ?_
    refine AW.seq ?_
    refine AW.region (noH) (RPre.of (X := True) (by kernel_rfl) trivial) ?_
    refine thenN ?_
    refine AW.block ?_
    refine AW.re [(0, isl n a), (1, isl m b), (5, iv (((0 : Nat) : Int)))] [] [] (by kernel_rfl) (SLe.all (by kernel_rfl)) trivial ?_
    refine AW.loop (fun m_ σ_ => ∃ (k : Nat), (k ≤ n ∧ ∀ i, i < k → a i = b i) ∧ m_ = n - k ∧ σ_ = ⟨mkS [(0, isl n a), (1, isl m b), (5, iv (((k : Nat) : Int)))], mkB []⟩) _ ⟨0, ⟨Nat.zero_le _, fun i hi => absurd hi (Nat.not_lt_zero _)⟩, rfl, rfl⟩ ?_
    rintro _ _ ⟨k, H0, rfl, rfl⟩
    obtain ⟨hk, H⟩ := H0
    refine AW.seq ?_
    refine AW.seq ?_
    refine AW.region (noH) (RPre.of (X := True) (by kernel_rfl) trivial) ?_
    refine thenN ?_
    refine AW.cond (decide (((k : Nat) : Int) < ((n : Nat) : Int))) (by kernel_rfl) (fun h14 => ?_) (fun h14 => ?_)
    · have ch14 : (((k : Nat) : Int) < ((n : Nat) : Int)) := of_decide_eq_true h14
      refine AW.skip ?_
      refine thenN ?_
      refine AW.seq ?_
      refine AW.block ?_
      refine AW.seq ?_
      refine AW.draw (by kernel_rfl) (noH) (by kernel_rfl) (RPre.of (X := (0 ≤ ((k : Nat) : Int)) ∧ (((k : Nat) : Int) < (n : Nat)) ∧ (0 ≤ ((k : Nat) : Int)) ∧ (((k : Nat) : Int) < (m : Nat))) (by kernel_rfl) (by omega)) ?_
      refine thenN ?_
      refine AW.cond ((a k) != (b k)) (by kernel_rfl) (fun h25 => ?_) (fun h25 => ?_)
      · have ch25 : (a k) ≠ (b k) := by simpa using h25
        refine AW.seq ?_
        refine AW.region (noH) (RPre.of (X := True) (by kernel_rfl) trivial) ?_
        refine thenN ?_
        refine AW.ret ?_
        refine blockR ?_
        refine thenR ?_
        refine loopR ?_
        refine blockR ?_
        refine thenR ?_
        refine retN (bv (false)) (by kernel_rfl) ?_
        rw [show decide (n = m ∧ ∀ i, i < n → a i = b i) = false from decide_eq_false (fun q => ch25 (q.2 k (by omega)))]
        exact AV.le.refl _
      · have ch25 : (a k) = (b k) := by simpa using h25
        refine AW.skip ?_
        refine blockN ?_
        refine thenN ?_
        refine AW.region (noH) (RPre.of (X := (-9223372036854775808 ≤ (((k : Nat) : Int) + 1) ∧ (((k : Nat) : Int) + 1) ≤ 9223372036854775807)) (by kernel_rfl) (by omega)) ?_
        have hx : ∀ i, i < k + 1 → a i = b i := by
          intro i hi
          by_cases q : i = k
          · subst q; exact ch25
          · exact H i (by omega)
        exact loopN' ⟨n - (k + 1), _, (by omega), ⟨(k + 1), ⟨by omega, hx⟩, rfl, rfl⟩, wk_re [(0, isl n a), (1, isl m b), (5, iv ((((k + 1) : Nat) : Int)))] [] [] (by kernel_rfl) (SLe.all (by kernel_rfl)) trivial⟩
    · have ch14 : ¬ (((k : Nat) : Int) < ((n : Nat) : Int)) := of_decide_eq_false h14
      refine AW.exit ?_
      refine thenE ?_
      refine loopE ?_
      refine blockH ?_
      refine thenN ?_
      refine AW.seq ?_
      refine AW.region (noH) (RPre.of (X := True) (by kernel_rfl) trivial) ?_
      refine thenN ?_
      refine AW.ret ?_
      refine retN (bv (true)) (by kernel_rfl) ?_
      rw [show decide (n = m ∧ ∀ i, i < n → a i = b i) = true from decide_eq_true ⟨hnm, fun i hi => H i (by omega)⟩]
      exact AV.le.refl _
set_option maxRecDepth 100000 in
theorem nwithin_pc (n lo hi : Int) : PC Try.prog 82 [iv (n), iv (lo), iv (hi)] (bv (decide (lo ≤ n ∧ n ≤ hi))) := by
  refine PC.intro Try.func82 (by kernel_rfl) rfl (by kernel_rfl) fun S0 w0 => ?_
  refine AW.seq ?_
  refine AW.region (noH) (RPre.of (X := True) (by kernel_rfl) trivial) ?_
  refine thenN ?_
  refine AW.seq ?_
  refine AW.region (noH) (RPre.of (X := ((gc (decide (lo ≤ n)) true) = true → ((gc (decide (lo ≤ n)) true) = true) ∧ ((gc (decide (lo ≤ n)) true) = true)) ∧ ((decide (lo ≤ n)) = true → (gc (decide (lo ≤ n)) true) = true)) (by kernel_rfl) ⟨fun hg => ⟨(by simp_all [gc]), (by simp_all [gc])⟩, (fun h => by simp [gc, h])⟩) ?_
  refine thenN ?_
  refine AW.ret ?_
  refine retN (bv (bif (decide (lo ≤ n)) then (decide (n ≤ hi)) else false)) (by kernel_rfl) ?_
  exact le_bv bif_and
set_option maxRecDepth 100000 in
theorem nfloor_pc (n d : Int) (hd : 0 < d) (h1 : -2305843009213693952 ≤ n) (h2 : n ≤ 2305843009213693952) (h3 : d ≤ 2305843009213693952) : PC Try.prog 138 [iv (n), iv (d)] (iv (n / d)) := by
  have h4 := tdiv_facts n d hd
  obtain ⟨h5, h6, h7, h8⟩ := h4
  refine PC.intro Try.func138 (by kernel_rfl) rfl (by kernel_rfl) fun S0 w0 => ?_
  refine AW.seq ?_
  refine AW.region (noH) (RPre.of (X := True) (by kernel_rfl) trivial) ?_
  refine thenN ?_
  refine AW.seq ?_
  refine AW.region (noH) (RPre.of (X := (d ≠ 0) ∧ (-9223372036854775808 ≤ (n.tdiv d) ∧ (n.tdiv d) ≤ 9223372036854775807)) (by kernel_rfl) (by omega)) ?_
  refine thenN ?_
  refine AW.seq ?_
  refine AW.seq ?_
  refine AW.region (noH) (RPre.of (X := (-9223372036854775808 ≤ ((n.tdiv d) * d) ∧ ((n.tdiv d) * d) ≤ 9223372036854775807)) (by kernel_rfl) (by omega)) ?_
  refine thenN ?_
  refine AW.cond (decide (((n.tdiv d) * d) > n)) (by kernel_rfl) (fun h13 => ?_) (fun h13 => ?_)
  · have ch13 : (((n.tdiv d) * d) > n) := of_decide_eq_true h13
    refine AW.region (noH) (RPre.of (X := (-9223372036854775808 ≤ ((n.tdiv d) - 1) ∧ ((n.tdiv d) - 1) ≤ 9223372036854775807)) (by kernel_rfl) (by omega)) ?_
    refine thenN ?_
    refine AW.seq ?_
    refine AW.region (noH) (RPre.of (X := True) (by kernel_rfl) trivial) ?_
    refine thenN ?_
    refine AW.ret ?_
    refine retN (iv (((n.tdiv d) - 1))) (by kernel_rfl) ?_
    exact le_iv (by omega)
  · have ch13 : ¬ (((n.tdiv d) * d) > n) := of_decide_eq_false h13
    refine AW.skip ?_
    refine thenN ?_
    refine AW.seq ?_
    refine AW.region (noH) (RPre.of (X := True) (by kernel_rfl) trivial) ?_
    refine thenN ?_
    refine AW.ret ?_
    refine retN (iv ((n.tdiv d))) (by kernel_rfl) ?_
    exact le_iv (by omega)
set_option maxRecDepth 100000 in
theorem nmodulo_pc (n d : Int) (hd : 0 < d) (h1 : -2305843009213693952 ≤ n) (h2 : n ≤ 2305843009213693952) (h3 : d ≤ 2305843009213693952) : PC Try.prog 131 [iv (n), iv (d)] (iv (n % d)) := by
  have h5 := Int.emod_nonneg n (show d ≠ 0 by omega)
  have h6 := Int.emod_lt_of_pos n hd
  have h7 := Int.mul_ediv_add_emod n d
  refine PC.intro Try.func131 (by kernel_rfl) rfl (by kernel_rfl) fun S0 w0 => ?_
  refine AW.seq ?_
  refine AW.region (noH) (RPre.of (X := True) (by kernel_rfl) trivial) ?_
  refine thenN ?_
  refine AW.seq ?_
  refine AW.region (vec [.dead, .dead, .dead, .dead, iv (n / d)]) (RPre.of (X := (PC Try.prog 138 [iv (n), iv (d)] (iv (n / d))) ∧ (-9223372036854775808 ≤ (d * (n / d)) ∧ (d * (n / d)) ≤ 9223372036854775807) ∧ (-9223372036854775808 ≤ (n - (d * (n / d))) ∧ (n - (d * (n / d))) ≤ 9223372036854775807)) (by kernel_rfl) ⟨nfloor_pc _ _ (by omega) (by omega) (by omega) (by omega), (by omega), (by omega)⟩) ?_
  refine thenN ?_
  refine AW.ret ?_
  refine retN (iv ((n - (d * (n / d))))) (by kernel_rfl) ?_
  exact le_iv (by omega)
end Go.Proofs.Ytaemlmpcclfmdaa
