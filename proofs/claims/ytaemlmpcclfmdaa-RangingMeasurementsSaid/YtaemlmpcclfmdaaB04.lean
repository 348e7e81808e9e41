/- Helpers: parts of slices and strings; structs that are equal. No condition but the hypotheses that each theorem names. -/
import Derived.Test.YtaemlmpcclfmdaaB03
import Derived.Laws.StructEq
import Derived.ChangeKeysEq
namespace Go.Proofs.Ytaemlmpcclfmdaa
open Go.RowKit
/-- what is cut out of: its cells' number, its length, its elements -/
def cutAV (P : Program) (t : TypeId) (x : AV) : Option (Nat × Nat × (Nat → Nat → AV)) :=
  match P.underlying t with
  | some (.slice e) => match tinf P e with
    | some (_, z) => match x with
      | .sl z' n g => bif Nat.beq z z' then some (z, n, g) else none
      | _ => none
    | none => none
  | some (.array n e) => match tinf P e with
    | some (_, z) => match x with
      | .elp m h => bif Nat.ble (n * z) m && Nat.blt 0 z then some (z, n, fun i j => h (i * z + j)) else none
      | _ => none
    | none => none
  | _ => none
def isArr (P : Program) (t : TypeId) : Bool := match P.underlying t with | some (.array _ _) => true | _ => false
def oSlN (P : Program) (ν : Nat → AB) (t : TypeId) (x : AV) (lo hi : Option AV) : Option AO :=
  match seeV ν x with
  | some (y, rd, wr) => match cutAV P t y with
    | some (z, n, g) => match lo, hi with
      | none, none => some ⟨[], rd, .sl z n g, wr⟩
      | some (.v (.int _ l)), none => some ⟨[0 ≤ l, l ≤ n], rd, .sl z (n - l.toNat) (fun i => g (l.toNat + i)), wr⟩
      | none, some (.v (.int _ h)) => some ⟨[0 ≤ h, h ≤ n], rd, .sl z h.toNat g, wr⟩
      | some (.v (.int _ l)), some (.v (.int _ h)) => some ⟨[0 ≤ l, l ≤ h, h ≤ n], rd, .sl z (h.toNat - l.toNat) (fun i => g (l.toNat + i)), wr⟩
      | _, _ => none
    | none => none
  | none => none
def oSlice (P : Program) (ν : Nat → AB) (t : TypeId) (x : AV) (lo hi : Option AV) : Option AO :=
  match x with
  | .v (.string s) => match P.underlying t, lo, hi with
    | some .string, none, none => some ⟨[], [], .v (.string (s.extract 0 s.size)), []⟩
    | some .string, some (.v (.int _ l)), none => some ⟨[0 ≤ l, l ≤ s.size], [], .v (.string (s.extract l.toNat s.size)), []⟩
    | some .string, none, some (.v (.int _ h)) => some ⟨[0 ≤ h, h ≤ s.size], [], .v (.string (s.extract 0 h.toNat)), []⟩
    | some .string, some (.v (.int _ l)), some (.v (.int _ h)) => some ⟨[0 ≤ l, l ≤ h, h ≤ s.size], [], .v (.string (s.extract l.toNat h.toNat)), []⟩
    | _, _, _ => none
  | x => oSlN P ν t x lo hi
section
variable {P : Program} {S0 : Addr → Prop} {mm : Nat} {w0 : Bs mm} {N : Nat} {U U' : Nat → Prop} {σ : ASt} {a : Act} {w w' : World} {S S' : Addr → Prop} {κ κ' : Nat → Option Hdr} {o : Oper} {Q : Exit → Act → World → Prop} {nm : Nat}
theorem run_bound {k : IntKind} {i : Int} {y : Nat} {c : BoundsCode} (h0 : 0 ≤ i) (h1 : i ≤ y) (w : World) : (Instr.sliceBound (.int k i) y c).run P w = .ok i.toNat w := by
  simp [Instr.sliceBound, asIntOf, h0, h1]
def RdO (S : Addr → Prop) (κ : Nat → Option Hdr) (w : World) : Option AV → Option Value → Prop
  | none, none => True
  | some x, some v => Rd S κ w x v
  | _, _ => False
theorem RdO.mono {S S' : Addr → Prop} {κ : Nat → Option Hdr} {w : World} (hS : ∀ x, S x → S' x) : ∀ {x : Option AV} {v : Option Value}, RdO S κ w x v → RdO S' κ w x v
  | none, none, h => h
  | some _, some _, h => Rd.mono hS (fun _ _ => rfl) _ (fun _ _ h => h) _ h
  | none, some _, h => h
  | some _, none, h => h
/-- the bounds of a part -/
def loV : Option AV → Nat
  | some (.v (.int _ l)) => l.toNat
  | _ => 0
def hiV (n : Nat) : Option AV → Nat
  | some (.v (.int _ h)) => h.toNat
  | _ => n
def okB (n : Nat) (lo hi : Option AV) : Prop :=
  (match lo with | none => True | some (.v (.int _ l)) => 0 ≤ l | _ => False) ∧ (match hi with | none => True | some (.v (.int _ h)) => 0 ≤ h | _ => False) ∧ loV lo ≤ hiV n hi ∧ hiV n hi ≤ n
theorem run_bounds {b : Bool} {n c : Nat} {lo hi : Option AV} {vl vh : Option Value} (hl : RdO S κ w lo vl) (hh : RdO S κ w hi vh)
    (ho : okB n lo hi) (hc : n ≤ c) : (Instr.sliceBounds b n c vl vh none).run P w = .ok (loV lo, hiV n hi, c) w := by
  obtain ⟨o1, o2, o3, o4⟩ := ho
  have e1 : ∀ k h, vh = some (.int k h) → hi = some (.v (.int k h)) → (Instr.sliceBound (.int k h) c (if b = true then BoundsCode.sliceAcap else BoundsCode.sliceAlen)).run P w = .ok h.toNat w := by
    intro k h hv hq
    subst hq
    exact run_bound o2 (by simp only [hiV] at o4; omega) w
  unfold Instr.sliceBounds
  match lo, hi, vl, vh, hl, hh with
  | none, none, none, none, _, _ => simp [loV, hiV]
  | none, some (.v (.int k h)), none, some v, _, hh =>
    obtain rfl : v = .int k h := hh
    simp [e1 k h rfl rfl, loV, hiV]
  | some (.v (.int k l)), none, some v, none, hl, _ =>
    obtain rfl : v = .int k l := hl
    have : (Instr.sliceBound (.int k l) n BoundsCode.sliceB).run P w = .ok l.toNat w := run_bound o1 (by simp only [loV, hiV] at o3; omega) w
    simp [this, loV, hiV]
  | some (.v (.int k l)), some (.v (.int k2 h)), some v, some v2, hl, hh =>
    obtain rfl : v = .int k l := hl
    obtain rfl : v2 = .int k2 h := hh
    have : (Instr.sliceBound (.int k l) h.toNat BoundsCode.sliceB).run P w = .ok l.toNat w := run_bound o1 (by simp only [loV, hiV] at o3; omega) w
    simp [e1 k2 h rfl rfl, this, loV, hiV]
theorem sSlice {t : TypeId} {x : Operand} {lo hi : Option Operand} (ho : o.op = .slice t x lo hi none) (hd : ∀ t, o.dst = some t → t < N) (h : RelX S0 w0 N U σ a w S κ) {X : AV} {L H : Option AV} (hx : Rd S κ w X (a.eval x))
    (hL : RdO S κ w L (lo.map a.eval)) (hH : RdO S κ w H (hi.map a.eval))
    {ao : AO} (e : oSlice P σ.name t X L H = some ao) (hp : allP ao.pre) : o.wp P a w (Aft S0 w0 N U σ nm o.dst ao.val ao.wr) Q := by
  unfold oSlice at e
  split at e
  · rename_i s
    have hs : a.eval x = .string s := hx
    have fin : P.underlying t = some .string → okB s.size L H → o.wp P a w (Aft S0 w0 N U σ nm o.dst (.v (.string (s.extract (loV L) (hiV s.size H)))) []) Q := by
      intro hu hb
      have hr := run_bounds (P := P) (b := false) hL hH hb (Nat.le_refl _)
      refine goes_v hd h ?_
      unfold execOp
      simp [ho, hs, Instr.sliceAt, Instr.slice, run_underlying hu, hr]
    split at e <;> first | cases e | skip
    · rename_i hu
      exact fin hu ⟨trivial, trivial, Nat.zero_le _, Nat.le_refl _⟩
    · rename_i k l hu
      exact fin hu ⟨hp.1, trivial, by have := hp.2; simp only [loV, hiV, allP] at *; omega, Nat.le_refl _⟩
    · rename_i k l hu
      exact fin hu ⟨trivial, hp.1, Nat.zero_le _, by have := hp.2; simp only [loV, hiV, allP] at *; omega⟩
    · rename_i k l k2 l2 hu
      obtain ⟨p1, p2, p3⟩ := hp
      exact fin hu ⟨p1, (show 0 ≤ l2 by omega), by simp only [loV, hiV, allP] at *; omega, by simp only [loV, hiV, allP] at *; omega⟩
  · unfold oSlN at e
    split at e
    case h_2 => cases e
    rename_i y rd wr hs
    split at e
    case h_2 => cases e
    rename_i z n g hc
    obtain ⟨S1, g1, g2, g3⟩ := see_ok h hx hs
    have hL1 := hL.mono g2
    have hH1 := hH.mono g2
    have fin : okB n L H → o.wp P a w (Aft S0 w0 N U σ nm o.dst (.sl z (hiV n H - loV L) (fun i => g (loV L + i))) wr) Q := by
      intro hb
      obtain ⟨_, _, b3, b4⟩ := id hb
      unfold cutAV at hc
      split at hc
      · rename_i el hu
        split at hc
        case h_2 => cases hc
        rename_i bb z' ht
        split at hc
        case h_2 => cases hc
        rename_i z2 n' g'
        obtain ⟨hq, q⟩ := bif_some hc
        cases q
        obtain rfl := Nat.eq_of_beq_eq_true hq
        obtain ⟨_, inf, _, hinf, _, hsz⟩ := tinf_of ht
        obtain ⟨ad, c, hv, ⟨hnc, hz0⟩, hcells⟩ := g3
        have hr := run_bounds (P := P) (b := true) hL1 hH1 hb hnc
        refine goes_value hd (u := .slice (if c = loV L then ad else ad.map (·.add (loV L * z))) (hiV n H - loV L) (c - loV L)) (w' := w) ?_ (g1.more fun _ h => .inl h) ?_
        · unfold execOp
          simp [ho, hv, Instr.sliceAt, Instr.slice, run_underlying hu, hr, run_sizeOf' hinf, hsz]
        · refine ⟨_, _, rfl, ⟨by omega, fun q => ?_⟩, fun hn0 => ?_⟩
          · by_cases hcl : c = loV L
            · omega
            · rw [if_neg hcl] at q
              cases ad with
              | none => have := hz0 rfl; omega
              | some _ => cases q
          · obtain ⟨b, p, rfl, h4⟩ := hcells (by omega)
            rw [if_neg (by omega)]
            refine ⟨b, p + loV L * z, by simp [Addr.add_lit], fun i hi j hj => ?_⟩
            have := h4 (loV L + i) (by omega) j hj
            rw [Nat.add_mul, ← Nat.add_assoc] at this
            obtain ⟨k1, xx, k2, k3, k4⟩ := this
            exact ⟨k1, xx, k2, k3, k4⟩
      · rename_i len el hu
        split at hc
        case h_2 => cases hc
        rename_i bb z' ht
        split at hc
        case h_2 => cases hc
        rename_i m hh
        obtain ⟨hq, q⟩ := bif_some hc
        cases q
        simp only [Bool.and_eq_true] at hq
        have hle := ble_iff hq.1
        obtain ⟨_, inf, _, hinf, _, hsz⟩ := tinf_of ht
        obtain ⟨b, p, hv, hcells⟩ := g3
        have hr := run_bounds (P := P) (b := false) hL1 hH1 hb (Nat.le_refl _)
        refine goes_value hd (u := .slice (some (if n = loV L then ⟨b, p, none⟩ else (⟨b, p, none⟩ : Addr).add (loV L * z))) (hiV n H - loV L) (n - loV L)) (w' := w) ?_ (g1.more fun _ h => .inl h) ?_
        · unfold execOp
          simp [ho, hv, Instr.sliceAt, Instr.sureAddr, run_underlying hu, hr, run_sizeOf' hinf, hsz]
        · refine ⟨_, _, rfl, ⟨by omega, fun q => (by cases q)⟩, fun hn0 => ?_⟩
          rw [if_neg (by omega)]
          refine ⟨b, p + loV L * z, by rw [Addr.add_lit], fun i hi j hj => ?_⟩
          have hlt : (loV L + i) * z + j < n * z := by
            have : (loV L + i) * z + z ≤ n * z := by rw [← Nat.succ_mul]; exact Nat.mul_le_mul_right z (by omega)
            omega
          have := hcells ((loV L + i) * z + j) (by omega)
          rw [show p + ((loV L + i) * z + j) = p + loV L * z + i * z + j from by rw [Nat.add_mul]; omega] at this
          obtain ⟨k1, xx, k2, k3, k4⟩ := this
          exact ⟨k1, xx, k2, k3, k4⟩
      · cases hc
    split at e <;> first | cases e | skip
    · have := fin ⟨trivial, trivial, Nat.zero_le _, Nat.le_refl _⟩
      simpa [loV, hiV] using this
    · exact fin ⟨hp.1, trivial, by have := hp.2; simp only [loV, hiV, allP] at *; omega, Nat.le_refl _⟩
    · have := fin ⟨trivial, hp.1, Nat.zero_le _, by have := hp.2; simp only [loV, hiV, allP] at *; omega⟩
      simpa [loV, hiV] using this
    · rename_i k1 l k2 h2
      obtain ⟨p1, p2, p3⟩ := hp
      exact fin ⟨p1, (show 0 ≤ h2 by omega), by simp only [loV, hiV, allP] at *; omega, by simp only [loV, hiV, allP] at *; omega⟩
end
def andL : List Bool → Bool
  | [] => true
  | b :: l => b && andL l
theorem andL_app : ∀ (l m : List Bool), andL (l ++ m) = (andL l && andL m)
  | [], m => by simp [andL]
  | b :: l, m => by
    show (b && andL (l ++ m)) = (b && andL l && andL m)
    rw [andL_app l m, Bool.and_assoc]
def eqFs (P : Program) (f : TypeId → AV → AV → Option (List Bool)) (n : Nat) (h h' : Nat → AV) : List Field → Option (List Bool)
  | [] => some []
  | fd :: l => if fd.name ≠ "_" then match tinf P fd.type with
      | some (b, s) => bif Nat.ble (fd.offset + s) n && okLd b s then
          match f fd.type (ldV b s (fun j => h (fd.offset + j))) (ldV b s (fun j => h' (fd.offset + j))), eqFs P f n h h' l with
          | some a, some r => some (a ++ r)
          | _, _ => none
        else none
      | none => none
    else eqFs P f n h h' l
def eqIs (f : AV → AV → Option (List Bool)) (b : Bool) (s : Nat) (h h' : Nat → AV) : List Nat → Option (List Bool)
  | [] => some []
  | i :: l => match f (ldV b s (fun j => h (i * s + j))) (ldV b s (fun j => h' (i * s + j))), eqIs f b s h h' l with
    | some a, some r => some (a ++ r)
    | _, _ => none
def eqV (P : Program) : Nat → TypeId → AV → AV → Option (List Bool)
  | 0, _, _, _ => none
  | d + 1, t, x, y => match P.underlying t, x, y with
    | some (.int _), .v (.int k a), .v (.int k' b) => bif ikb k k' then some [a == b] else none
    | some .bool, .v (.bool a), .v (.bool b) => some [a == b]
    | some .string, .v (.string a), .v (.string b) => some [a.toList == b.toList]
    | some (.struct fs), .agg n h, .agg n' h' => bif Nat.beq n n' && !(P.stoodInHeld t) then eqFs P (eqV P d) n h h' fs.toList else none
    | some (.array len e), .agg n h, .agg n' h' => match tinf P e with
      | some (b, s) => bif Nat.beq n n' && Nat.ble (len * s) n && okLd b s then eqIs (eqV P d e) b s h h' (List.range len) else none
      | none => none
    | _, _, _ => none
section
variable {P : Program} {w : World} {S : Addr → Prop} {κ : Nat → Option Hdr}
def EqOK (P : Program) (f : TypeId → AV → AV → Option (List Bool)) (D : Nat) : Prop := ∀ (S : Addr → Prop) (κ : Nat → Option Hdr) (w : World) (t : TypeId) (x y : AV) (l : List Bool) (u v : Value), f t x y = some l → Rd S κ w x u → Rd S κ w y v → (Op.equalIn D t u v).run P w = .ok (andL l) w
theorem eqFs_ok {f : TypeId → AV → AV → Option (List Bool)} {D : Nat} (hf : EqOK P f D) {n : Nat} {h h' : Nat → AV} {xs ys : Array Value} (hx : xs.size = n) (hy : ys.size = n) (hxr : ∀ i, i < n → Rd S κ w (h i) (xs.getD i undef)) (hyr : ∀ i, i < n → Rd S κ w (h' i) (ys.getD i undef)) :
    ∀ (fs : List Field) (l : List Bool), eqFs P f n h h' fs = some l → (Op.eqFields D xs ys fs).run P w = .ok (andL l) w
  | [], l, e => by cases e; rfl
  | fd :: fs, l, e => by
    unfold eqFs at e
    unfold Op.eqFields
    by_cases hn : fd.name ≠ "_"
    · rw [if_pos hn] at e ⊢
      split at e
      case h_2 => cases e
      rename_i b s ht
      cases hb : (Nat.ble (fd.offset + s) n && okLd b s) with
      | false => rw [hb] at e; cases e
      | true =>
      rw [hb] at e
      simp only [Bool.and_eq_true, cond_true] at hb e
      have hle := ble_iff hb.1
      split at e
      case h_2 => cases e
      rename_i a r ha hr
      cases e
      have p1 := run_part ht xs fd.offset (okLd_iff hb.2) (by omega) w
      have p2 := run_part ht ys fd.offset (okLd_iff hb.2) (by omega) w
      have q := hf S κ w _ _ _ _ _ _ ha (ld_rd (f := fun j => xs.getD (fd.offset + j) undef) (fun j hj => hxr _ (by omega)) (okLd_iff hb.2)) (ld_rd (f := fun j => ys.getD (fd.offset + j) undef) (fun j hj => hyr _ (by omega)) (okLd_iff hb.2))
      simp only [Sem.run_bind, p1, p2, Result.andThen_ok, q, andL_app]
      cases hA : andL a with
      | true => simpa using eqFs_ok hf hx hy hxr hyr fs r hr
      | false => rfl
    · rw [if_neg hn] at e ⊢
      exact eqFs_ok hf hx hy hxr hyr fs l e
theorem eqIs_ok {f : TypeId → AV → AV → Option (List Bool)} {D : Nat} (hf : EqOK P f D) {e : TypeId} {b : Bool} {s n : Nat} (ht : tinf P e = some (b, s)) (hs : b = false → s = 1) {h h' : Nat → AV} {xs ys : Array Value} (hx : xs.size = n) (hy : ys.size = n) (hxr : ∀ i, i < n → Rd S κ w (h i) (xs.getD i undef)) (hyr : ∀ i, i < n → Rd S κ w (h' i) (ys.getD i undef)) {len : Nat} (hlen : len * s ≤ n) :
    ∀ (is : List Nat) (l : List Bool), (∀ i, i ∈ is → i < len) → eqIs (f e) b s h h' is = some l → (Op.eqItems D e s xs ys is).run P w = .ok (andL l) w
  | [], l, _, q => by cases q; rfl
  | i :: is, l, hi, q => by
    unfold eqIs at q
    unfold Op.eqItems
    split at q
    case h_2 => cases q
    rename_i a r ha hr
    cases q
    have hlt : i * s + s ≤ len * s := by rw [← Nat.succ_mul]; exact Nat.mul_le_mul_right s (hi i (by simp))
    have p1 := run_part ht xs (i * s) hs (by omega) w
    have p2 := run_part ht ys (i * s) hs (by omega) w
    have q := hf S κ w _ _ _ _ _ _ ha (ld_rd (f := fun j => xs.getD (i * s + j) undef) (fun j hj => hxr _ (by omega)) hs) (ld_rd (f := fun j => ys.getD (i * s + j) undef) (fun j hj => hyr _ (by omega)) hs)
    simp only [Sem.run_bind, p1, p2, Result.andThen_ok, q, andL_app]
    cases hA : andL a with
    | true => simpa using eqIs_ok hf ht hs hx hy hxr hyr hlen is r (fun i h => hi i (by simp [h])) hr
    | false => rfl
theorem eqV_ok : ∀ (d D : Nat), d ≤ D → EqOK P (eqV P d) D
  | 0, _, _, _, _, _, _, _, _, _, _, _, e, _, _ => by cases e
  | d + 1, 0, hD, _, _, _, _, _, _, _, _, _, _, _, _ => by omega
  | d + 1, D + 1, hD, S, κ, w, t, x, y, l, u, v, e, hx, hy => by
    unfold eqV at e
    split at e
    · rename_i k0 k a k' b hu
      obtain ⟨hb, q⟩ := bif_some e
      obtain rfl := ikb_iff hb
      subst q
      obtain rfl : u = .int k a := hx
      obtain rfl : v = .int k b := hy
      rw [run_equalIn_int w D t k k0 a b hu]
      simp [andL]
    · rename_i a b hu
      cases e
      obtain rfl : u = .bool a := hx
      obtain rfl : v = .bool b := hy
      rw [run_equalIn_bool' w D t a b hu]
      simp [andL]
    · rename_i a b hu
      cases e
      obtain rfl : u = .string a := hx
      obtain rfl : v = .string b := hy
      rw [run_equalIn_string w D t a b hu]
      simp [andL]
    · rename_i fs n h n' h' hu
      cases hb : (Nat.beq n n' && !(P.stoodInHeld t)) with
      | false => rw [hb] at e; cases e
      | true =>
      rw [hb] at e
      simp only [Bool.and_eq_true, cond_true] at hb e
      obtain rfl := Nat.eq_of_beq_eq_true hb.1
      have hst : P.stoodInHeld t = false := by simpa using hb.2
      obtain ⟨xs, rfl, x1, x2⟩ := hx
      obtain ⟨ys, rfl, y1, y2⟩ := hy
      have hfo : P.fieldsOf t = fs := by simp [Program.fieldsOf, hu]
      rw [run_equalIn_struct w D t xs ys (by rw [hfo]; exact hu) hst, hfo]
      exact eqFs_ok (eqV_ok d D (by omega)) x1 y1 x2 y2 _ _ e
    · rename_i len el n h n' h' hu
      split at e
      case h_2 => cases e
      rename_i b s ht
      cases hb : (Nat.beq n n' && Nat.ble (len * s) n && okLd b s) with
      | false => rw [hb] at e; cases e
      | true =>
      rw [hb] at e
      simp only [Bool.and_eq_true, cond_true] at hb e
      obtain rfl := Nat.eq_of_beq_eq_true hb.1.1
      obtain ⟨_, inf, _, hinf, _, hsz⟩ := tinf_of ht
      obtain ⟨xs, rfl, x1, x2⟩ := hx
      obtain ⟨ys, rfl, y1, y2⟩ := hy
      rw [run_equalIn_array w D xs ys hu hinf, show P.cellsOf el = s from by simp [Program.cellsOf, hinf, hsz]]
      exact eqIs_ok (eqV_ok d D (by omega)) ht (okLd_iff hb.2) x1 y1 x2 y2 (ble_iff hb.1.2) _ _ (fun i hi => List.mem_range.1 hi) e
    · cases e
end
def oEq (P : Program) (ne : Bool) (t : TypeId) (x y : AV) : Option AO :=
  match x, y with
  | .agg _ _, .agg _ _ => bif P.eqGuardType P.depth t then none else match eqV P 12 t x y with
    | some l => some ⟨[], [], .v (.bool (bif ne then !(andL l) else andL l)), []⟩
    | none => none
  | _, _ => none
section
variable {P : Program} {S0 : Addr → Prop} {mm : Nat} {w0 : Bs mm} {N : Nat} {U U' : Nat → Prop} {σ : ASt} {a : Act} {w w' : World} {S S' : Addr → Prop} {κ κ' : Nat → Option Hdr} {o : Oper} {Q : Exit → Act → World → Prop} {nm : Nat}
theorem sEq {ne : Bool} {t t2 : TypeId} {x y : Operand} (ho : o.op = .binOp (bif ne then .neq else .eql) t x y t2) (hd : ∀ t, o.dst = some t → t < N) (h : RelX S0 w0 N U σ a w S κ) {X Y : AV} (hx : Rd S κ w X (a.eval x)) (hy : Rd S κ w Y (a.eval y)) {ao : AO} (e : oEq P ne t X Y = some ao) :
    o.wp P a w (Aft S0 w0 N U σ nm o.dst ao.val ao.wr) Q := by
  unfold oEq at e
  split at e
  case h_2 => cases e
  rename_i n h1 n' h2
  cases hg : P.eqGuardType P.depth t with
  | true => rw [hg] at e; cases e
  | false =>
  rw [hg] at e
  simp only [cond_false] at e
  split at e
  case h_2 => cases e
  rename_i l hl
  cases e
  have he := eqV_ok (P := P) 12 10000 (by omega) S κ w _ _ _ _ _ _ hl hx hy
  obtain ⟨xs, hxv, _⟩ := hx
  obtain ⟨ys, hyv, _⟩ := hy
  rw [hxv, hyv] at he
  refine goes_v hd h ?_
  unfold execOp
  cases ne with
  | true => simp [ho, hxv, hyv, run_eqGuard_agg w .neq t x y xs ys hg, run_neq_struct w t xs ys, he]
  | false => simp [ho, hxv, hyv, run_eqGuard_agg w .eql t x y xs ys hg, run_eql_struct w t xs ys, he]
end
def oBin2 (P : Program) (op : BinOp) (t : TypeId) (x y : AV) : Option AO :=
  match op, x with
  | .eql, .agg _ _ => oEq P false t x y
  | .neq, .agg _ _ => oEq P true t x y
  | _, _ => oBin P op t x y
section
variable {P : Program} {S0 : Addr → Prop} {mm : Nat} {w0 : Bs mm} {N : Nat} {U U' : Nat → Prop} {σ : ASt} {a : Act} {w w' : World} {S S' : Addr → Prop} {κ κ' : Nat → Option Hdr} {o : Oper} {Q : Exit → Act → World → Prop} {nm : Nat}
theorem sBin2 {op : BinOp} {t t2 : TypeId} {x y : Operand} (ho : o.op = .binOp op t x y t2) (hd : ∀ t, o.dst = some t → t < N) (h : RelX S0 w0 N U σ a w S κ) {X Y : AV} (hx : Rd S κ w X (a.eval x)) (hy : Rd S κ w Y (a.eval y)) {ao : AO} (e : oBin2 P op t X Y = some ao) (hp : allP ao.pre) :
    o.wp P a w (Aft S0 w0 N U σ nm o.dst ao.val ao.wr) Q := by
  unfold oBin2 at e
  split at e
  · exact sEq (ne := false) ho hd h hx hy e
  · exact sEq (ne := true) ho hd h hx hy e
  · exact sBin ho hd h hx hy e hp
end
end Go.Proofs.Ytaemlmpcclfmdaa
namespace Go.Proofs.Ytaemlmpcclfmdaa
open Go.RowKit
def bitV (op : BinOp) (k : IntKind) (x y : Int) : Option Value :=
  match op with
  | .and => some (.int k (k.wrap (BitVec.ofInt k.bits x &&& BitVec.ofInt k.bits y).toNat))
  | .or => some (.int k (k.wrap (BitVec.ofInt k.bits x ||| BitVec.ofInt k.bits y).toNat))
  | .xor => some (.int k (k.wrap (BitVec.ofInt k.bits x ^^^ BitVec.ofInt k.bits y).toNat))
  | .andNot => some (.int k (k.wrap (BitVec.ofInt k.bits x &&& ~~~BitVec.ofInt k.bits y).toNat))
  | _ => none
def shV (op : BinOp) (k : IntKind) (x y : Int) : Option Value :=
  match op with
  | .shl => some (.int k (k.wrap (x * 2 ^ (min y.toNat k.bits))))
  | .shr => some (.int k (x.fdiv (2 ^ (min y.toNat k.bits))))
  | _ => none
def flA (op : BinOp) (k : FloatKind) (x y : Nat) : Option Nat :=
  match op with
  | .add => k.format.add x y
  | .sub => k.format.sub x y
  | .mul => k.format.mul x y
  | .quo => k.format.div x y
  | _ => none
def flC (op : BinOp) (k : FloatKind) (x y : Nat) : Option Bool :=
  match op with
  | .eql => some (k.format.order x y == some .eq)
  | .neq => some (k.format.order x y != some .eq)
  | .lss => some (k.format.order x y == some .lt)
  | .leq => some (k.format.order x y == some .lt || k.format.order x y == some .eq)
  | .gtr => some (k.format.order x y == some .gt)
  | .geq => some (k.format.order x y == some .gt || k.format.order x y == some .eq)
  | _ => none
/-- a float in another format -/
def flF (s : FloatKind) (b : Nat) (d : FloatKind) : Option Nat :=
  if s = d then some b else
  match s.decode b with
  | .nan _ _ => none
  | .infinity q => some (d.encode (.infinity q))
  | .number q m e => if (d.decode (d.encode (.number q m e))).isInfinity then none else some (d.encode (.number q m e))
def cxV (op : BinOp) (k : FloatKind) (xr xi yr yi : Nat) : Option Value :=
  match op with
  | .add => match flA .add k xr yr, flA .add k xi yi with | some a, some b => some (.complex k a b) | _, _ => none
  | .sub => match flA .sub k xr yr, flA .sub k xi yi with | some a, some b => some (.complex k a b) | _, _ => none
  | .mul => match flF k xr .f64, flF k xi .f64, flF k yr .f64, flF k yi .f64 with
    | some a, some b, some c, some d => match flA .mul .f64 a c, flA .mul .f64 b d, flA .mul .f64 a d, flA .mul .f64 b c with
      | some p, some q, some r, some s => match flA .sub .f64 p q, flA .add .f64 r s with
        | some e, some f => match flF .f64 e k, flF .f64 f k with
          | some u, some v => some (.complex k u v)
          | _, _ => none
        | _, _ => none
      | _, _, _, _ => none
    | _, _, _, _ => none
  | .eql => match flC .eql k xr yr, flC .eql k xi yi with | some a, some b => some (.bool (a && b)) | _, _ => none
  | .neq => match flC .eql k xr yr, flC .eql k xi yi with | some a, some b => some (.bool !(a && b)) | _, _ => none
  | _ => none
def oNum (op : BinOp) (x y : AV) : Option AO :=
  match x, y with
  | .v (.int k m), .v (.int k' n) => match shV op k m n with
    | some v => some ⟨[0 ≤ n], [], .v v, []⟩
    | none => bif ikb k k' then match bitV op k m n with | some v => some ⟨[], [], .v v, []⟩ | none => none else none
  | .v (.float k a), .v (.float k' b) => if k = k' then match flA op k a b with
      | some r => some ⟨[], [], .v (.float k r), []⟩
      | none => match flC op k a b with | some r => some ⟨[], [], .v (.bool r), []⟩ | none => none
    else none
  | .v (.complex k a b), .v (.complex k' c d) => if k = k' then match cxV op k a b c d with | some v => some ⟨[], [], .v v, []⟩ | none => none else none
  | _, _ => none
def oUn2 (op : UnOp) (x : AV) : Option AO :=
  match op, x with
  | .xor, .v (.int k n) => match bitV .xor k (if k.signed then -1 else k.max) n with | some v => some ⟨[], [], .v v, []⟩ | none => none
  | .neg, .v (.float k b) => some ⟨[], [], .v (.float k (Op.negFloat k b)), []⟩
  | .neg, .v (.complex k a b) => some ⟨[], [], .v (.complex k (Op.negFloat k a) (Op.negFloat k b)), []⟩
  | op, x => oUn op x
def oConv2 (P : Program) (s d : TypeId) (x : AV) : Option AO :=
  match x with
  | .v (.int _ n) => match P.underlying s, P.underlying d with
    | some (.int _), some (.float q) => some ⟨[], [], .v (.float q (q.nearest n)), []⟩
    | _, _ => oConv P s d x
  | .v (.float k b) => match P.underlying s, P.underlying d with
    | some (.float _), some (.int q) => match (k.decode b).toInt .zero with
      | some n => if q.min ≤ n ∧ n ≤ q.max then some ⟨[], [], .v (.int q n), []⟩ else none
      | none => none
    | some (.float _), some (.float q) => match flF k b q with | some r => some ⟨[], [], .v (.float q r), []⟩ | none => none
    | _, _ => none
  | .v (.string u) => match P.underlying s, P.underlying d with
    | some .string, some .string => some ⟨[], [], .v (.string u), []⟩
    | _, _ => none
  | _ => oConv P s d x
/-- complex numbers and their parts -/
def oCx (b : Builtin) : List AV → Option AO
  | [.v (.float k x), .v (.float k' y)] => match b with
    | .complex => if k = k' then some ⟨[], [], .v (.complex k x y), []⟩ else none
    | _ => none
  | [.v (.complex k x y)] => match b with
    | .real => some ⟨[], [], .v (.float k x), []⟩
    | .imag => some ⟨[], [], .v (.float k y), []⟩
    | _ => none
  | _ => none
theorem run_flA {P : Program} {op : BinOp} {k : FloatKind} {x y r : Nat} (h : flA op k x y = some r) (w : World) : (Op.floatArith op k x y).run P w = .ok (.float k r) w := by
  cases op <;> simp only [flA, reduceCtorEq] at h <;> simp [Op.floatArith, h]
theorem run_flC {P : Program} {op : BinOp} {k : FloatKind} {x y : Nat} {r : Bool} (h : flC op k x y = some r) (w : World) : (Op.floatCmp op k x y).run P w = .ok (.bool r) w := by
  cases op <;> simp only [flC, reduceCtorEq, Option.some.injEq] at h <;> subst h <;> simp [Op.floatCmp]
theorem run_arith {P : Program} {op : BinOp} {k : FloatKind} {x y r : Nat} (h : flA op k x y = some r) (w : World) : (Op.Complex.arith op k x y).run P w = .ok r w := by
  unfold Op.Complex.arith
  simp [run_flA h]
theorem run_cmpF {P : Program} {op : BinOp} {k : FloatKind} {x y : Nat} {r : Bool} (h : flC op k x y = some r) (w : World) : (Op.Complex.cmp op k x y).run P w = .ok r w := by
  unfold Op.Complex.cmp
  simp [run_flC h, asBool]
theorem run_flF {P : Program} {s d : FloatKind} {b r : Nat} (h : flF s b d = some r) (w : World) : (Conv.floatToFloat s b d).run P w = .ok (.float d r) w := by
  unfold flF at h
  unfold Conv.floatToFloat
  by_cases e : s = d
  · rw [if_pos e] at h ⊢
    cases h
    simp
  · rw [if_neg e] at h ⊢
    cases hd : s.decode b with
    | nan a c => rw [hd] at h; cases h
    | infinity q => rw [hd] at h; simp only [Option.some.injEq] at h; subst h; simp
    | number q m e =>
      rw [hd] at h
      simp only at h
      split at h
      · cases h
      · rename_i hn
        simp only [Option.some.injEq] at h
        subst h
        simp [hn]
theorem run_convF {P : Program} {s d : FloatKind} {b r : Nat} (h : flF s b d = some r) (w : World) : (Op.Complex.conv s b d).run P w = .ok r w := by
  unfold Op.Complex.conv
  by_cases e : s = d
  · unfold flF at h
    rw [if_pos e] at h ⊢
    cases h
    simp
  · rw [if_neg e]
    simp [run_flF h]
theorem run_cxV {P : Program} {op : BinOp} {k : FloatKind} {a b c d : Nat} {v : Value} (h : cxV op k a b c d = some v) (w : World) : (Op.complexOp op k a b c d).run P w = .ok v w := by
  unfold cxV at h
  split at h
  · split at h
    case h_2 => cases h
    rename_i h1 h2
    cases h
    simp [Op.complexOp, run_arith h1, run_arith h2]
  · split at h
    case h_2 => cases h
    rename_i h1 h2
    cases h
    simp [Op.complexOp, run_arith h1, run_arith h2]
  · split at h
    case h_2 => cases h
    rename_i h1 h2 h3 h4
    split at h
    case h_2 => cases h
    rename_i h5 h6 h7 h8
    split at h
    case h_2 => cases h
    rename_i h9 h10
    split at h
    case h_2 => cases h
    rename_i h11 h12
    cases h
    simp [Op.complexOp, Op.Complex.product, Op.Complex.mul, Op.Complex.sub, Op.Complex.add, run_convF h1, run_convF h2, run_convF h3, run_convF h4, run_arith h5, run_arith h6, run_arith h7, run_arith h8, run_arith h9, run_arith h10, run_convF h11, run_convF h12]
  · split at h
    case h_2 => cases h
    rename_i h1 h2
    cases h
    simp [Op.complexOp, run_cmpF h1, run_cmpF h2]
  · split at h
    case h_2 => cases h
    rename_i h1 h2
    cases h
    simp [Op.complexOp, run_cmpF h1, run_cmpF h2]
  · cases h
theorem run_bitV {P : Program} {op : BinOp} {k : IntKind} {x y : Int} {v : Value} (h : bitV op k x y = some v) (w : World) : (Op.intBits op k x y).run P w = .ok v w := by
  cases op <;> simp only [bitV, reduceCtorEq, Option.some.injEq] at h <;> subst h <;> simp [Op.intBits]
def oBinA (P : Program) (op : BinOp) (t : TypeId) (x y : AV) : Option AO := match oBin2 P op t x y with | some ao => some ao | none => oNum op x y
section
variable {P : Program} {S0 : Addr → Prop} {mm : Nat} {w0 : Bs mm} {N : Nat} {U U' : Nat → Prop} {σ : ASt} {a : Act} {w w' : World} {S S' : Addr → Prop} {κ κ' : Nat → Option Hdr} {o : Oper} {Q : Exit → Act → World → Prop} {nm : Nat}
theorem sNum {op : BinOp} {t t2 : TypeId} {x y : Operand} (ho : o.op = .binOp op t x y t2) (hd : ∀ t, o.dst = some t → t < N) (h : RelX S0 w0 N U σ a w S κ) {X Y : AV} (hx : Rd S κ w X (a.eval x)) (hy : Rd S κ w Y (a.eval y)) {ao : AO} (e : oNum op X Y = some ao) (hp : allP ao.pre) :
    o.wp P a w (Aft S0 w0 N U σ nm o.dst ao.val ao.wr) Q := by
  have fin : ∀ (u1 u2 v : Value), a.eval x = u1 → a.eval y = u2 → (∀ t x y, (eqGuard op t x y u1 u2).run P w = .ok () w) → (binOp op t u1 u2).run P w = .ok v w → o.wp P a w (Aft S0 w0 N U σ nm o.dst (.v v) []) Q := by
    intro u1 u2 v h1 h2 hg hb
    refine goes_v hd h ?_
    unfold execOp
    simp [ho, h1, h2, hg, hb]
  unfold oNum at e
  split at e
  · rename_i k m k' n
    have hg : ∀ t x y, (eqGuard op t x y (.int k m) (.int k' n)).run P w = .ok () w := fun t x y => by unfold eqGuard; cases op <;> simp
    split at e
    · rename_i v hv
      cases e
      have hp' : 0 ≤ n := hp
      refine fin _ _ v hx hy hg ?_
      have hn : ¬ n < 0 := by omega
      cases op <;> simp only [shV, reduceCtorEq, Option.some.injEq] at hv <;> subst hv <;> simp [binOp, Op.shift, hn]
    · rename_i hv
      cases hk : ikb k k' with
      | false => rw [hk] at e; cases e
      | true =>
      obtain rfl := ikb_iff hk
      rw [hk] at e
      simp only [cond_true] at e
      split at e
      case h_2 => cases e
      rename_i v hb
      cases e
      refine fin _ _ v hx hy hg ?_
      have hbr := run_bitV (P := P) hb w
      cases op <;> simp only [bitV, reduceCtorEq] at hb <;> simp [binOp, hbr]
  · rename_i k p k' q
    have hg : ∀ t x y, (eqGuard op t x y (.float k p) (.float k' q)).run P w = .ok () w := fun t x y => by unfold eqGuard; cases op <;> simp
    split at e
    case isFalse => cases e
    rename_i hk
    subst hk
    split at e
    · rename_i r hr
      cases e
      refine fin _ _ _ hx hy hg ?_
      have hrr := run_flA (P := P) hr w
      cases op <;> simp only [flA, reduceCtorEq] at hr <;> simp [binOp, hrr]
    · split at e
      case h_2 => cases e
      rename_i hna r hr
      cases e
      refine fin _ _ _ hx hy hg ?_
      have hrr := run_flC (P := P) hr w
      cases op <;> simp only [flC, reduceCtorEq] at hr <;> simp [binOp, hrr]
  · rename_i k p q k' r s
    have hg : ∀ t x y, (eqGuard op t x y (.complex k p q) (.complex k' r s)).run P w = .ok () w := fun t x y => by unfold eqGuard; cases op <;> simp
    split at e
    case isFalse => cases e
    rename_i hk
    subst hk
    split at e
    case h_2 => cases e
    rename_i v hv
    cases e
    refine fin _ _ _ hx hy hg ?_
    have hrr := run_cxV (P := P) hv w
    cases op <;> simp only [cxV, reduceCtorEq] at hv <;> simp [binOp, hrr]
  · cases e
theorem sBinA {op : BinOp} {t t2 : TypeId} {x y : Operand} (ho : o.op = .binOp op t x y t2) (hd : ∀ t, o.dst = some t → t < N) (h : RelX S0 w0 N U σ a w S κ) {X Y : AV} (hx : Rd S κ w X (a.eval x)) (hy : Rd S κ w Y (a.eval y)) {ao : AO} (e : oBinA P op t X Y = some ao) (hp : allP ao.pre) :
    o.wp P a w (Aft S0 w0 N U σ nm o.dst ao.val ao.wr) Q := by
  unfold oBinA at e
  split at e
  · rename_i a hb
    cases e
    exact sBin2 ho hd h hx hy hb hp
  · exact sNum ho hd h hx hy e hp
theorem sUn2 {op : UnOp} {t : TypeId} {x : Operand} (ho : o.op = .unOp op t x) (hd : ∀ t, o.dst = some t → t < N) (h : RelX S0 w0 N U σ a w S κ) {X : AV} (hx : Rd S κ w X (a.eval x)) {ao : AO} (e : oUn2 op X = some ao) (hp : allP ao.pre) :
    o.wp P a w (Aft S0 w0 N U σ nm o.dst ao.val ao.wr) Q := by
  unfold oUn2 at e
  split at e
  · rename_i k n
    split at e
    case h_2 => cases e
    rename_i v hv
    cases e
    have hx' : a.eval x = .int k n := hx
    refine goes_v hd h ?_
    unfold execOp
    simp [ho, hx', Op.unary, run_bitV hv]
  · rename_i k b
    cases e
    have hx' : a.eval x = .float k b := hx
    refine goes_v hd h ?_
    unfold execOp
    simp [ho, hx', Op.unary]
  · rename_i k b c
    cases e
    have hx' : a.eval x = .complex k b c := hx
    refine goes_v hd h ?_
    unfold execOp
    simp [ho, hx', Op.unary]
  · exact sUn ho hd h hx e hp
theorem sConv2 {s d : TypeId} {x : Operand} (ho : o.op = .convert s d x) (hd : ∀ t, o.dst = some t → t < N) (h : RelX S0 w0 N U σ a w S κ) {X : AV} (hx : Rd S κ w X (a.eval x)) {ao : AO} (e : oConv2 P s d X = some ao) (hp : allP ao.pre) :
    o.wp P a w (Aft S0 w0 N U σ nm o.dst ao.val ao.wr) Q := by
  unfold oConv2 at e
  split at e
  · rename_i k n
    split at e
    · rename_i k1 q hs hd'
      cases e
      have hx' : a.eval x = .int k n := hx
      refine goes_v hd h ?_
      unfold execOp
      simp [ho, hx', convert, run_underlying hs, run_underlying hd', Conv.intToFloat]
    · exact sConv ho hd h hx e hp
  · rename_i k b
    have hx' : a.eval x = .float k b := hx
    split at e
    · rename_i k1 q hs hd'
      split at e
      case h_2 => cases e
      rename_i n hn
      split at e
      case isFalse => cases e
      rename_i hle
      cases e
      refine goes_v hd h ?_
      unfold execOp
      simp [ho, hx', convert, run_underlying hs, run_underlying hd', Conv.floatToInt, hn, hle]
    · rename_i k1 q hs hd'
      split at e
      case h_2 => cases e
      rename_i r hr
      cases e
      refine goes_v hd h ?_
      unfold execOp
      simp [ho, hx', convert, run_underlying hs, run_underlying hd', run_flF hr]
    · cases e
  · rename_i u
    have hx' : a.eval x = .string u := hx
    split at e
    case h_2 => cases e
    rename_i hs hd'
    cases e
    refine goes_v hd h ?_
    unfold execOp
    simp [ho, hx', convert, run_underlying hs, run_underlying hd']
  · exact sConv ho hd h hx e hp
theorem args2 {f : Operand → Value} {xs : Array Operand} {l : List AV} (hl : l.length = xs.size) (hx : ∀ i, i < l.length → Rd S κ w (l.getD i .dead) ((xs.map f).getD i undef)) {u v : Value} (h : l = [.v u, .v v]) : xs.map f = #[u, v] := by
  subst h
  have hs : xs.size = 2 := by simpa using hl.symm
  have e0 : (xs.map f).getD 0 undef = u := hx 0 (by simp)
  have e1 : (xs.map f).getD 1 undef = v := hx 1 (by simp)
  apply Array.ext
  · simpa using hs
  · intro i h1 h2
    simp at h2
    rcases i with _ | _ | i
    · simpa [Array.getD_eq_getD_getElem?, Array.getElem?_eq_getElem (show 0 < xs.size by omega)] using e0
    · simpa [Array.getD_eq_getD_getElem?, Array.getElem?_eq_getElem (show 1 < xs.size by omega)] using e1
    · omega
theorem args1 {f : Operand → Value} {xs : Array Operand} {l : List AV} (hl : l.length = xs.size) (hx : ∀ i, i < l.length → Rd S κ w (l.getD i .dead) ((xs.map f).getD i undef)) {u : Value} (h : l = [.v u]) : xs.map f = #[u] := by
  subst h
  have hs : xs.size = 1 := by simpa using hl.symm
  have e0 : (xs.map f).getD 0 undef = u := hx 0 (by simp)
  apply Array.ext
  · simpa using hs
  · intro i h1 h2
    simp at h2
    obtain rfl : i = 0 := by omega
    simpa [Array.getD_eq_getD_getElem?, Array.getElem?_eq_getElem (show 0 < xs.size by omega)] using e0
theorem run_cx1 {ts : Array TypeId} {t : TypeId} {k : FloatKind} {p q : Nat} : Builtin.complex_ ts t #[.float k p, .float k q] = (pure (.complex k p q) : Sem Value) := by
  show (if k = k then pure (.complex k p q) else stuck _ : Sem Value) = _
  rw [if_pos rfl]
theorem run_cx2 {ts : Array TypeId} {t : TypeId} {k : FloatKind} {p q : Nat} : Builtin.real_ ts t #[.complex k p q] = (pure (.float k p) : Sem Value) := rfl
theorem run_cx3 {ts : Array TypeId} {t : TypeId} {k : FloatKind} {p q : Nat} : Builtin.imag_ ts t #[.complex k p q] = (pure (.float k q) : Sem Value) := rfl
theorem sCx {b : Builtin} {call : Call} (ho : o.op = .call call) (hcal : call.callee = .builtin b) (hd : ∀ t, o.dst = some t → t < N) (h : RelX S0 w0 N U σ a w S κ) {xs : List AV} (hl : xs.length = call.args.size) (hx : ∀ i, i < xs.length → Rd S κ w (xs.getD i .dead) ((call.args.map a.eval).getD i undef)) {ao : AO} (e : oCx b xs = some ao) :
    o.wp P a w (Aft S0 w0 N U σ nm o.dst ao.val ao.wr) Q := by
  unfold oCx at e
  split at e
  · rename_i k p k' q
    split at e
    case h_2 => cases e
    split at e
    case isFalse => cases e
    rename_i hk
    subst hk
    cases e
    have ha := args2 hl hx rfl
    refine goes_v hd h ?_
    unfold execOp
    simp [ho, resolve, hcal, ha, invoke, builtin, run_cx1]
  · rename_i k p q
    have ha := args1 hl hx rfl
    split at e
    · cases e
      refine goes_v hd h ?_
      unfold execOp
      simp [ho, resolve, hcal, ha, invoke, builtin, run_cx2]
    · cases e
      refine goes_v hd h ?_
      unfold execOp
      simp [ho, resolve, hcal, ha, invoke, builtin, run_cx3]
    · cases e
  · cases e
end
theorem run_equalIn_snil {P : Program} (w : World) (d : Nat) (t e : TypeId) (a : Option Addr) (n c : Nat) (h : P.underlying t = some (.slice e)) : (Op.equalIn (d + 1) t (.slice a n c) (.slice none 0 0)).run P w = .ok a.isNone w := by
  cases a <;> simp [Op.equalIn, run_underlying h]
theorem run_eql_snil {P : Program} (w : World) (t e : TypeId) (a : Option Addr) (n c : Nat) (h : P.underlying t = some (.slice e)) : (binOp .eql t (.slice a n c) (.slice none 0 0)).run P w = .ok (.bool a.isNone) w := by
  simp only [binOp]
  simp [Op.equal, Op.maxDepth, run_equalIn_snil w 9999 t e a n c h]
theorem run_neq_snil {P : Program} (w : World) (t e : TypeId) (a : Option Addr) (n c : Nat) (h : P.underlying t = some (.slice e)) : (binOp .neq t (.slice a n c) (.slice none 0 0)).run P w = .ok (.bool (!a.isNone)) w := by
  simp only [binOp]
  simp [Op.equal, Op.maxDepth, run_equalIn_snil w 9999 t e a n c h]
/-- whether a slice is nil, where that is known -/
def nilK (ν : Nat → AB) : AV → Option (Bool × List Nat)
  | .v (.slice a _ _) => some (a.isNone, [])
  | .sl _ n _ => bif Nat.beq n 0 then none else some (false, [])
  | .own k => match ν k with
    | .own _ n _ _ => bif Nat.beq n 0 then none else some (false, [k])
    | _ => none
  | _ => none
def isNilC : AV → Bool
  | .v (.slice none 0 0) => true
  | _ => false
def oBinN (P : Program) (ν : Nat → AB) (op : BinOp) (t : TypeId) (x y : AV) : Option AO :=
  bif isNilC y then match P.underlying t with
    | some (.slice _) => match nilK ν x with
      | some (b, rd) => match op with
        | .eql => some ⟨[], rd, .v (.bool b), []⟩
        | .neq => some ⟨[], rd, .v (.bool (!b)), []⟩
        | _ => none
      | none => none
    | _ => oBinA P op t x y
  else oBinA P op t x y
section
variable {P : Program} {S0 : Addr → Prop} {mm : Nat} {w0 : Bs mm} {N : Nat} {U U' : Nat → Prop} {σ : ASt} {a : Act} {w w' : World} {S S' : Addr → Prop} {κ κ' : Nat → Option Hdr} {o : Oper} {Q : Exit → Act → World → Prop} {nm : Nat}
theorem nilK_rd (h : RelX S0 w0 N U σ a w S κ) {X : AV} {u : Value} (hx : Rd S κ w X u) {b : Bool} {rd : List Nat} (e : nilK σ.name X = some (b, rd)) : ∃ ad n c, u = .slice ad n c ∧ ad.isNone = b := by
  unfold nilK at e
  split at e
  · rename_i ad n c
    cases e
    exact ⟨ad, n, c, hx, rfl⟩
  · rename_i z n g
    cases hn : Nat.beq n 0 with
    | true => rw [hn] at e; cases e
    | false =>
      rw [hn] at e
      cases e
      obtain ⟨ad, c, h1, _, h3⟩ := hx
      obtain ⟨b', o', h4, _⟩ := h3 (fun q => by rw [q] at hn; cases hn)
      exact ⟨ad, n, c, h1, by rw [h4]; rfl⟩
  · rename_i k
    split at e
    case h_2 => cases e
    rename_i z n g sd hk
    cases hn : Nat.beq n 0 with
    | true => rw [hn] at e; cases e
    | false =>
      rw [hn] at e
      cases e
      obtain ⟨ad, n', c, h1, h2⟩ := hx
      have hnn := h.names k
      rw [hk, h1] at hnn
      obtain ⟨ad', c', q, _, h5⟩ := hnn
      cases q
      refine ⟨ad, n, c, h2, ?_⟩
      rcases h5 with ⟨_, q, _⟩ | ⟨b', cs, el, q, _⟩
      · rw [q] at hn; cases hn
      · rw [q]; rfl
  · cases e
theorem isNilC_rd {X : AV} {u : Value} (hx : Rd S κ w X u) (e : isNilC X = true) : u = .slice none 0 0 := by
  unfold isNilC at e
  split at e
  · exact hx
  · cases e
theorem sBinN {op : BinOp} {t t2 : TypeId} {x y : Operand} (ho : o.op = .binOp op t x y t2) (hd : ∀ t, o.dst = some t → t < N) (h : RelX S0 w0 N U σ a w S κ) {X Y : AV} (hx : Rd S κ w X (a.eval x)) (hy : Rd S κ w Y (a.eval y)) {ao : AO} (e : oBinN P σ.name op t X Y = some ao) (hp : allP ao.pre) :
    o.wp P a w (Aft S0 w0 N U σ nm o.dst ao.val ao.wr) Q := by
  unfold oBinN at e
  cases hc : isNilC Y with
  | false => rw [hc] at e; exact sBinA ho hd h hx hy e hp
  | true =>
    rw [hc] at e
    simp only [cond_true] at e
    split at e
    case h_2 => exact sBinA ho hd h hx hy e hp
    rename_i el hu
    split at e
    case h_2 => cases e
    rename_i b rd hk
    obtain ⟨ad, n, c, h1, h2⟩ := nilK_rd h hx hk
    have h3 := isNilC_rd hy hc
    split at e
    · cases e
      refine goes_v hd h ?_
      unfold execOp
      simp [ho, h1, h3, eqGuard, run_eql_snil w t el ad n c hu, h2]
    · cases e
      refine goes_v hd h ?_
      unfold execOp
      simp [ho, h1, h3, eqGuard, run_neq_snil w t el ad n c hu, h2]
    · cases e
end
theorem nilK_loc {ν ν' : Nat → AB} {X : AV} {b : Bool} {rd : List Nat} (e : nilK ν X = some (b, rd)) (h : ∀ k, k ∈ rd → ν' k = ν k) : nilK ν' X = some (b, rd) := by
  unfold nilK at e ⊢
  split at e
  · exact e
  · exact e
  · rename_i k
    split at e
    case h_2 => cases e
    rename_i z n g sd hk
    cases hn : Nat.beq n 0 with
    | true => rw [hn] at e; cases e
    | false =>
      rw [hn] at e
      cases e
      simp only [h k (by simp), hk, hn, cond_false]
  · cases e
end Go.Proofs.Ytaemlmpcclfmdaa
