/- Helpers: operations that write, make variables, and find places. No condition but the hypotheses that each theorem names. -/
import Derived.Test.YtaemlmpcclfmdaaB00
import Derived.Laws.StructEq
namespace Go.Proofs.Ytaemlmpcclfmdaa
open Go.RowKit
def oStore (P : Program) (ν : Nat → AB) (t : TypeId) (x y : AV) : Option AO :=
  match tinf P t, cellsAV y with
  | some (_, s), some (s', hv) => bif Nat.beq s s' then
    match x with
    | .pB k o => match ν k with
      | .box n h false => bif Nat.ble (o + s) n then some ⟨[], [k], .dead, [(k, .box n (splice h o s hv) false)]⟩ else none
      | _ => none
    | .pX k b0 len z i o => match ν k with
      | .box n h false => bif Nat.ble (b0 + len * z) n && Nat.ble (o + s) z then some ⟨[], [k], .dead, [(k, .box n (splice h (b0 + i * z + o) s hv) false)]⟩ else none
      | _ => none
    | .pA k z i o => match ν k with
      | .own z' n g false => bif Nat.beq z z' && Nat.ble (o + s) z && allN s (fun j => noref (hv j)) then some ⟨[i < n], [k], .dead, [(k, .own z n (fun i' => bif Nat.beq i' i then splice (g i') o s hv else g i') false)]⟩ else none
      | _ => none
    | _ => none
    else none
  | _, _ => none
/-- a row whose cells from p on are written -/
def putAt (cs : Array Value) (p : Nat) (vs : Array Value) : Array Value := (cs.toList.take p ++ vs.toList ++ cs.toList.drop (p + vs.size)).toArray
theorem putAt_size {cs vs : Array Value} {p : Nat} (h : p + vs.size ≤ cs.size) : (putAt cs p vs).size = cs.size := by
  simp [putAt]
  omega
theorem putAt_in {cs vs : Array Value} {p i : Nat} (h : p + vs.size ≤ cs.size) (h1 : p ≤ i) (h2 : i < p + vs.size) : (putAt cs p vs).getD i undef = vs.getD (i - p) undef := by
  have h3 : i - p < vs.size := by omega
  have h4 : min p cs.size = p := by omega
  simp [putAt, Array.getD_eq_getD_getElem?, List.getElem?_append, h4]
  rw [if_neg (by omega), if_pos (by omega)]
theorem putAt_out' {cs vs : Array Value} {p i : Nat} (h : p + vs.size ≤ cs.size) (h1 : i < p ∨ p + vs.size ≤ i) : (putAt cs p vs)[i]? = cs[i]? := by
  have h4 : min p cs.size = p := by omega
  rcases h1 with q | q
  · have : i < p + vs.size := by omega
    simp [putAt, List.getElem?_append, h4, q]
  · have h5 : ¬ i < p := by omega
    have h6 : ¬ i < p + vs.size := by omega
    have h7 : p + vs.size + (i - p - vs.size) = i := by omega
    have h8 : ¬ i - p < vs.size := by omega
    simp [putAt, List.getElem?_append, h4, h5, h7, h8]
theorem putAt_out {cs vs : Array Value} {p i : Nat} (h : p + vs.size ≤ cs.size) (h1 : i < p ∨ p + vs.size ≤ i) : (putAt cs p vs).getD i undef = cs.getD i undef := by
  rw [Array.getD_eq_getD_getElem?, Array.getD_eq_getD_getElem?, putAt_out' h h1]
theorem run_storeVar_put {P : Program} {t : TypeId} {b : Bool} {n : Nat} (ht : tinf P t = some (b, n)) (w : World) (q p : Nat) (u : Value) {cs : Array Value} {e : TypeId} (hh : w.heap[q]? = some (.cells cs e (0, 0))) (hn : u.cells.size = n) (hp : p + n ≤ cs.size) (h1 : ∀ i, i < n → (u.cells.getD i undef).oneCell' = true) :
    (storeVar t ⟨q, p, none⟩ u).run P w = .ok () (w.setRow q (putAt cs p u.cells)) := by
  obtain ⟨d, i, _, h2, _, h3⟩ := tinf_of ht
  have hs := run_storeCells_at (P := P) q p e u.cells.toList 0 cs w hh (by simp; omega) (fun v hv => by
    obtain ⟨j, hj, rfl⟩ := List.mem_iff_getElem.1 hv
    have hj' : j < n := by simpa [hn] using hj
    have := h1 j hj'
    simpa [Array.getD_eq_getD_getElem?, show j < u.cells.size from by omega] using this)
  unfold storeVar
  simp [run_sizeOf' h2, h3, hn, hs, putAt]
section
variable {P : Program} {S0 : Addr → Prop} {mm : Nat} {w0 : Bs mm} {N : Nat} {U U' : Nat → Prop} {σ : ASt} {a : Act} {w w' : World} {S S' : Addr → Prop} {κ κ' : Nat → Option Hdr} {o : Oper} {Q : Exit → Act → World → Prop} {nm : Nat}
theorem goes_row {k b : Nat} {v : AB} (hd : ∀ t, o.dst = some t → t < N) (hl : σ.name k ≠ .none) (hb : hblk (κ k) = some b) {cs cs' : Array Value} {e : TypeId} {fr : Nat × Nat} (hh : w.heap[b]? = some (.cells cs e fr)) (hc : ∀ o, S ⟨b, o, none⟩ → cs'[o]? = cs[o]?)
    (h : RelX S0 w0 N U σ a w S κ) (hB : RdB S κ (w.setRow b cs') w0.O v (κ k)) (hr : (execOp a.eval o).run P w = .ok .skip (w.setRow b cs')) : o.wp P a w (Aft S0 w0 N U σ nm o.dst .dead [(k, v)]) Q :=
  goes_skip hd hr ((h.touch hl hb hh hc hB).more fun _ h => .inl h)
theorem setRow_cells {w : World} {b : Nat} {cs cs' : Array Value} {e : TypeId} {fr : Nat × Nat} (hh : w.heap[b]? = some (.cells cs e fr)) (hc : ∀ o, S ⟨b, o, none⟩ → cs'[o]? = cs[o]?) : ∀ x, S x → (w.setRow b cs').cell? x = w.cell? x := by
  intro x hx
  by_cases hxb : x.block = b
  · obtain ⟨xb, xo, xs⟩ := x
    simp only at hxb
    subst hxb
    have h1 := setRow_heap w xb cs cs' e fr hh
    cases xs with
    | none => rw [cell_row h1, cell_row hh]; exact hc xo hx
    | some s => simp [World.cell?, h1, hh]
  · exact World.cell?_of_block (w := w) (a := x) (by simp [World.setRow, Array.getElem?_modify, Ne.symm hxb])
theorem sStore {t : TypeId} {x y : Operand} (ho : o.op = .store t x y) (hd : ∀ t, o.dst = some t → t < N) (h : RelX S0 w0 N U σ a w S κ) {X Y : AV} (hx : Rd S κ w X (a.eval x)) (hy : Rd S κ w Y (a.eval y)) {ao : AO} (e : oStore P σ.name t X Y = some ao) (hp : allP ao.pre) :
    o.wp P a w (Aft S0 w0 N U σ nm o.dst ao.val ao.wr) Q := by
  unfold oStore at e
  split at e
  case h_2 => cases e
  rename_i bb s s' hv ht hc
  cases hss : Nat.beq s s' with
  | false => rw [hss] at e; cases e
  | true =>
  rw [hss] at e
  obtain rfl := Nat.eq_of_beq_eq_true hss
  obtain ⟨hsz, hcells⟩ := cellsAV_rd hy hc
  have hrun : ∀ (q p : Nat) (cs : Array Value) (el : TypeId), a.eval x = .pointer (some ⟨q, p, none⟩) → w.heap[q]? = some (.cells cs el (0, 0)) → p + s ≤ cs.size → (execOp a.eval o).run P w = .ok .skip (w.setRow q (putAt cs p (a.eval y).cells)) := by
    intro q p cs el hq hh hle
    unfold execOp
    simp only [ho, hq, Instr.storeAt, Instr.sureAddr, Sem.run_bind, Sem.run_pure, Result.andThen_ok, run_storeVar_put ht w q p (a.eval y) hh hsz hle (fun i hi => (hcells i hi).1)]
  have box : ∀ (k q p n : Nat) (hh : Nat → AV), a.eval x = .pointer (some ⟨q, p, none⟩) → κ k = some (.bx q) → σ.name k = .box n hh false → p + s ≤ n → o.wp P a w (Aft S0 w0 N U σ nm o.dst .dead [(k, .box n (splice hh p s hv) false)]) Q := by
    intro k q p n hh hq hκ hk hle
    have hn := h.names k
    rw [hk] at hn
    obtain ⟨b'', cs, el, h3, h4, h5, h6, h7, _, h8⟩ := hn
    rw [hκ] at h3
    cases h3
    have hns : ∀ o, S ⟨q, o, none⟩ → (putAt cs p (a.eval y).cells)[o]? = cs[o]? := fun o ho => absurd ho (h8 rfl o)
    have hle' : p + (a.eval y).cells.size ≤ cs.size := by omega
    refine goes_row hd (by rw [hk]; exact fun q => by cases q) (by rw [hκ]; rfl) h5 hns h ?_ (hrun q p cs el hq h5 (by omega))
    rw [hκ]
    refine ⟨q, _, el, rfl, h4, setRow_heap w q cs _ el _ h5, by rw [putAt_size hle']; exact h6, fun i hi => ?_, fun q => (by cases q), h8⟩
    have hm := fun {x u} => Rd.mono (S := S) (S' := S) (w := w) (w' := w.setRow q (putAt cs p (a.eval y).cells)) (fun _ h => h) (setRow_cells h5 hns) x (κ := κ) (κ' := κ) (fun _ _ h => h) u
    by_cases hi2 : p ≤ i ∧ i < p + s
    · rw [putAt_in hle' hi2.1 (by omega), splice_in hi2.1 hi2.2]
      exact ⟨(hcells (i - p) (by omega)).1, hm (hcells (i - p) (by omega)).2⟩
    · rw [putAt_out hle' (by omega), splice_out (by omega)]
      exact ⟨(h7 i hi).1, hm (h7 i hi).2⟩
  simp only [cond_true] at e
  split at e
  · rename_i k q
    split at e
    case h_2 => cases e
    rename_i n hh hk
    obtain ⟨hb, rfl⟩ := bif_some e
    obtain ⟨b', h1, h2⟩ := hx
    exact box k b' q n hh h2 h1 hk (ble_iff hb)
  · rename_i k b0 len z i q
    split at e
    case h_2 => cases e
    rename_i n hh hk
    obtain ⟨hb, rfl⟩ := bif_some e
    simp only [Bool.and_eq_true] at hb
    obtain ⟨b', h1, hi, h2⟩ := hx
    have hle := ble_iff hb.1
    have hle2 := ble_iff hb.2
    have hiz : i * z + z ≤ len * z := by rw [← Nat.succ_mul]; exact Nat.mul_le_mul_right z hi
    exact box k b' (b0 + i * z + q) n hh h2 h1 hk (by omega)
  · rename_i k z i q
    split at e
    case h_2 => cases e
    rename_i z' n g hk
    obtain ⟨hb, rfl⟩ := bif_some e
    simp only [Bool.and_eq_true] at hb
    obtain rfl := Nat.eq_of_beq_eq_true hb.1.1
    have hle := ble_iff hb.1.2
    have hnr := allN_iff hb.2
    obtain ⟨b', n', c', h1, h2⟩ := hx
    have hn := h.names k
    have hk' := hk
    rw [hk] at hn
    obtain ⟨a', c, h3, h4, h5⟩ := hn
    rw [h1] at h3
    cases h3
    have hi : i < n := hp
    rcases h5 with ⟨h6, _⟩ | ⟨b'', cs, el, h6, h7, h8, h9, h10, h11, h12⟩
    · cases h6
    · cases h6
      have hiz : i * z + z ≤ c' * z := by rw [← Nat.succ_mul]; exact Nat.mul_le_mul_right z (by omega)
      have hns : ∀ o, S ⟨b', o, none⟩ → (putAt cs (i * z + q) (a.eval y).cells)[o]? = cs[o]? := fun o ho => by cases (h11 o ho).1
      have hle' : i * z + q + (a.eval y).cells.size ≤ cs.size := by omega
      refine goes_row hd (by rw [hk]; exact fun q => by cases q) (by rw [h1]; rfl) h8 hns h ?_ (hrun b' (i * z + q) cs el h2 h8 (by omega))
      rw [h1]
      refine ⟨_, c', rfl, h4, .inr ⟨b', _, el, rfl, h7, setRow_heap w b' cs _ el _ h8, by rw [putAt_size hle']; exact h9, fun i' hi' j hj => ?_, h11, h12⟩⟩
      have hm := fun {x u} => Rd.mono (S := S) (S' := S) (w := w) (w' := w.setRow b' (putAt cs (i * z + q) (a.eval y).cells)) (fun _ h => h) (setRow_cells h8 hns) x (κ := fun _ => none) (κ' := fun _ => none) (fun _ _ h => h) u
      by_cases hii : i' = i
      · subst hii
        simp only [show Nat.beq i' i' = true from Nat.beq_refl i', cond_true]
        by_cases hj2 : q ≤ j ∧ j < q + s
        · rw [putAt_in hle' (by omega) (by omega), splice_in hj2.1 hj2.2, show i' * z + j - (i' * z + q) = j - q from by omega]
          exact ⟨(hcells (j - q) (by omega)).1, hm (noref_rd _ (hnr _ (by omega)) (hcells (j - q) (by omega)).2)⟩
        · rw [putAt_out hle' (by omega), splice_out (by omega)]
          exact ⟨(h10 i' hi' j hj).1, hm (h10 i' hi' j hj).2⟩
      · have hbf : Nat.beq i' i = false := by
          cases hb' : Nat.beq i' i with
          | false => rfl
          | true => exact absurd (Nat.eq_of_beq_eq_true hb') hii
        simp only [hbf, cond_false]
        have hfar : i' * z + j < i * z + q ∨ i * z + q + (a.eval y).cells.size ≤ i' * z + j := by
          rcases Nat.lt_or_gt_of_ne hii with hlt | hgt
          · have : i' * z + z ≤ i * z := by rw [← Nat.succ_mul]; exact Nat.mul_le_mul_right z hlt
            omega
          · have : i * z + z ≤ i' * z := by rw [← Nat.succ_mul]; exact Nat.mul_le_mul_right z hgt
            omega
        rw [putAt_out hle' hfar]
        exact ⟨(h10 i' hi' j hj).1, hm (h10 i' hi' j hj).2⟩
  · cases e
end
end Go.Proofs.Ytaemlmpcclfmdaa
namespace Go.Proofs.Ytaemlmpcclfmdaa
open Go.RowKit
def allOne (cs : Array Value) : Bool := allN cs.size (fun i => (cs.getD i undef).oneCell')
def oAlloc (P : Program) (nm : Nat) (t : TypeId) : Option AO :=
  match P.info? t with
  | some i => match i.zero with
    | some z => bif allOne z.cells then some ⟨[], [], .pB nm 0, [(nm, .box z.cells.size (fun j => .v (z.cells.getD j undef)) false)]⟩ else none
    | none => none
  | none => none
def oBox (nm : Nat) (x : AV) : Option AO :=
  match cellsAV x with
  | some (n, h) => some ⟨[], [], .pB nm 0, [(nm, .box n h false)]⟩
  | none => none
def fieldOf (P : Program) (t : TypeId) (f : Nat) : Option (Nat × TypeId) :=
  match P.underlying t with
  | some (.struct fs) => match fs[f]? with
    | some fd => some (fd.offset, fd.type)
    | none => none
  | _ => none
theorem fieldOf_of {P : Program} {t : TypeId} {f q : Nat} {u : TypeId} (h : fieldOf P t f = some (q, u)) : ∃ fs fd, P.underlying t = some (.struct fs) ∧ fs[f]? = some fd ∧ fd.offset = q ∧ fd.type = u := by
  unfold fieldOf at h
  split at h
  · rename_i fs h1
    split at h
    · rename_i fd h2
      cases h
      exact ⟨fs, fd, h1, h2, rfl, rfl⟩
    · cases h
  · cases h
def oFieldAddr (P : Program) (t : TypeId) (f : Nat) (x : AV) : Option AO :=
  match fieldOf P t f with
  | some (q, u) => match tinf P u with
    | some (_, s) => bif Nat.beq s 0 then none else
      match x with
      | .pB k o => some ⟨[], [], .pB k (o + q), []⟩
      | .pX k b0 len z i o => some ⟨[], [], .pX k b0 len z i (o + q), []⟩
      | .elp m h => bif Nat.ble q m then some ⟨[], [], .elp (m - q) (fun j => h (q + j)), []⟩ else none
      | .pA k z i o => some ⟨[], [], .pA k z i (o + q), []⟩
      | _ => none
    | none => none
  | none => none
def oField (P : Program) (t : TypeId) (f : Nat) (x : AV) : Option AO :=
  match fieldOf P t f with
  | some (q, u) => match tinf P u with
    | some (b, s) => match x with
      | .agg n h => bif Nat.ble (q + s) n && okLd b s then some ⟨[], [], ldV b s (fun j => h (q + j)), []⟩ else none
      | _ => none
    | none => none
  | none => none
def oExtract (x : AV) (i : Nat) : Option AO :=
  match x with
  | .tup n h => bif Nat.blt i n then some ⟨[], [], h i, []⟩ else none
  | _ => none
def oNil (x : AV) : Option AO :=
  match x with
  | .pB .. | .pX .. | .elp .. | .pA .. | .clo .. | .cloM .. => some ⟨[], [], x, []⟩
  | _ => none
section
variable {P : Program} {S0 : Addr → Prop} {mm : Nat} {w0 : Bs mm} {N : Nat} {U U' : Nat → Prop} {σ : ASt} {a : Act} {w w' : World} {S S' : Addr → Prop} {κ κ' : Nat → Option Hdr} {o : Oper} {Q : Exit → Act → World → Prop} {nm : Nat}
theorem goes_box (hd : ∀ t, o.dst = some t → t < N) (h : RelX S0 w0 N U σ a w S κ) (hk : κ nm = none) {cs : Array Value} {t : TypeId} {n : Nat} {hh : Nat → AV} (hn : cs.size = n) (hc : ∀ i, i < n → (cs.getD i undef).oneCell' = true ∧ Rd S κ w (hh i) (cs.getD i undef))
    (hr : (execOp a.eval o).run P w = .ok (.value (.pointer (some ⟨w.heap.size, 0, none⟩))) (w.alloc (.cells cs t))) : o.wp P a w (Aft S0 w0 N U σ nm o.dst (.pB nm 0) [(nm, .box n hh false)]) Q := by
  have hm : ∀ x, S x → (w.alloc (.cells cs t)).cell? x = w.cell? x := fun x hx => World.cell?_of_block (w := w) (a := x) (Below.heap_alloc _ _ _ (h.dfn x hx))
  have hX := h.fresh hk (o := .cells cs t) (q := .bx w.heap.size) (fun b hb => by cases hb; rfl) (B := .box n hh false) ⟨w.heap.size, cs, t, rfl, .inl h.below.size, by show (w.heap.push _)[w.heap.size]? = _; simp, hn,
    fun i hi => ⟨(hc i hi).1, Rd.mono (fun _ h => h) hm _ (upd_mono hk) _ (hc i hi).2⟩, fun q => (by cases q), fun _ i hi => absurd (h.dfn _ hi) (Nat.lt_irrefl _)⟩
  exact goes_value hd hr hX ⟨w.heap.size, upd_own _ _ _, rfl⟩
theorem sAlloc {t : TypeId} (ho : o.op = .alloc t) (hd : ∀ t, o.dst = some t → t < N) (h : RelX S0 w0 N U σ a w S κ) (hk : κ nm = none) {ao : AO} (e : oAlloc P nm t = some ao) : o.wp P a w (Aft S0 w0 N U σ nm o.dst ao.val ao.wr) Q := by
  unfold oAlloc at e
  split at e
  case h_2 => cases e
  rename_i i hi
  split at e
  case h_2 => cases e
  rename_i z hz
  obtain ⟨hb, rfl⟩ := bif_some e
  refine goes_box hd h hk (cs := z.cells) (t := t) rfl (fun i hi => ⟨allN_iff hb i hi, rfl⟩) ?_
  unfold execOp
  simp [ho, Instr.alloc, zeroValue, typeInfo, hi, hz, newVar, newRow]
theorem sBox {t : TypeId} {x : Operand} (ho : o.op = .box t x) (hd : ∀ t, o.dst = some t → t < N) (h : RelX S0 w0 N U σ a w S κ) (hk : κ nm = none) {X : AV} (hx : Rd S κ w X (a.eval x)) {ao : AO} (e : oBox nm X = some ao) : o.wp P a w (Aft S0 w0 N U σ nm o.dst ao.val ao.wr) Q := by
  unfold oBox at e
  split at e
  case h_2 => cases e
  rename_i n hh hc
  cases e
  obtain ⟨h1, h2⟩ := cellsAV_rd hx hc
  refine goes_box hd h hk (cs := (a.eval x).cells) (t := t) h1 h2 ?_
  unfold execOp
  simp [ho, Instr.box, newVar, newRow]
theorem sFieldAddr {t : TypeId} {x : Operand} {f : Nat} (ho : o.op = .fieldAddr t x f) (hd : ∀ t, o.dst = some t → t < N) (h : RelX S0 w0 N U σ a w S κ) {X : AV} (hx : Rd S κ w X (a.eval x)) {ao : AO} (e : oFieldAddr P t f X = some ao) : o.wp P a w (Aft S0 w0 N U σ nm o.dst ao.val ao.wr) Q := by
  unfold oFieldAddr at e
  split at e
  case h_2 => cases e
  rename_i q u hf
  obtain ⟨fs, fd, hu, hfd, rfl, rfl⟩ := fieldOf_of hf
  split at e
  case h_2 => cases e
  rename_i bb s ht
  obtain ⟨d, i, _, hi, _, hs⟩ := tinf_of ht
  cases hz : Nat.beq s 0 with
  | true => rw [hz] at e; cases e
  | false =>
  rw [hz] at e
  simp only [cond_false] at e
  have hs0 : ¬ i.size = 0 := by intro q; rw [← hs, q] at hz; cases hz
  have hrun : ∀ b p, a.eval x = .pointer (some ⟨b, p, none⟩) → (execOp a.eval o).run P w = .ok (.value (.pointer (some ⟨b, p + fd.offset, none⟩))) w := by
    intro b p hv
    unfold execOp
    simp [ho, hv, Instr.fieldAt, run_underlying hu, hfd, Instr.sureAddr, fieldPlace, run_sizeOf' hi, hs0, Addr.add_lit]
  split at e
  · cases e
    obtain ⟨b, h1, h2⟩ := hx
    exact goes_pure hd h (hrun _ _ h2) ⟨b, h1, rfl⟩
  · cases e
    obtain ⟨b, h1, hi, h2⟩ := hx
    exact goes_pure hd h (hrun _ _ h2) ⟨b, h1, hi, by rw [Nat.add_assoc]⟩
  · obtain ⟨hb, rfl⟩ := bif_some e
    obtain ⟨b, p, h1, h2⟩ := hx
    have hle := ble_iff hb
    exact goes_pure hd h (hrun _ _ h1) ⟨b, p + fd.offset, rfl, fun j hj => by rw [Nat.add_assoc]; exact h2 _ (by omega)⟩
  · cases e
    obtain ⟨b, n, c, h1, h2⟩ := hx
    exact goes_pure hd h (hrun _ _ h2) ⟨b, n, c, h1, by rw [Nat.add_assoc]⟩
  · cases e
theorem run_part {P : Program} {t : TypeId} {b : Bool} {s : Nat} (ht : tinf P t = some (b, s)) (cs : Array Value) (q : Nat) (hs : b = false → s = 1) (h : q + s ≤ cs.size) (w : World) : (part t cs q).run P w = .ok (if b then .agg ((List.range s).map fun j => cs.getD (q + j) undef).toArray else cs.getD (q + 0) undef) w := by
  obtain ⟨d, i, h1, h2, rfl, rfl⟩ := tinf_of ht
  unfold part
  rw [Sem.run_bind, run_isAgg h1]
  cases hb : isAggD d with
  | true =>
    simp [run_sizeOf' h2]
    apply Array.ext
    · simp; omega
    · intro j h3 h4
      simp at h4
      have : q + j < cs.size := by omega
      simp [this]
  | false =>
    have := hs hb
    have h3 : q < cs.size := by omega
    simp [Array.getElem?_eq_getElem h3, Array.getD_eq_getD_getElem?]
theorem sField {t : TypeId} {x : Operand} {f : Nat} (ho : o.op = .field t x f) (hd : ∀ t, o.dst = some t → t < N) (h : RelX S0 w0 N U σ a w S κ) {X : AV} (hx : Rd S κ w X (a.eval x)) {ao : AO} (e : oField P t f X = some ao) : o.wp P a w (Aft S0 w0 N U σ nm o.dst ao.val ao.wr) Q := by
  unfold oField at e
  split at e
  case h_2 => cases e
  rename_i q u hf
  obtain ⟨fs, fd, hu, hfd, rfl, rfl⟩ := fieldOf_of hf
  split at e
  case h_2 => cases e
  rename_i bb s ht
  split at e
  case h_2 => cases e
  rename_i n hh
  obtain ⟨hb, rfl⟩ := bif_some e
  simp only [Bool.and_eq_true] at hb
  obtain ⟨cs, h1, h2, h3⟩ := hx
  have hle := ble_iff hb.1
  refine goes_pure hd h (u := if bb then .agg ((List.range s).map fun j => cs.getD (fd.offset + j) undef).toArray else cs.getD (fd.offset + 0) undef) ?_ (ld_rd (f := fun j => cs.getD (fd.offset + j) undef) (fun j hj => h3 _ (by omega)) (okLd_iff hb.2))
  unfold execOp
  simp only [ho, h1, Instr.field, Sem.run_bind, run_underlying hu, Result.andThen_ok, hfd, asAgg, Sem.run_pure, run_part ht cs fd.offset (okLd_iff hb.2) (by omega)]
theorem sExtract {x : Operand} {i : Nat} (ho : o.op = .extract x i) (hd : ∀ t, o.dst = some t → t < N) (h : RelX S0 w0 N U σ a w S κ) {X : AV} (hx : Rd S κ w X (a.eval x)) {ao : AO} (e : oExtract X i = some ao) : o.wp P a w (Aft S0 w0 N U σ nm o.dst ao.val ao.wr) Q := by
  unfold oExtract at e
  split at e
  case h_2 => cases e
  rename_i n hh
  obtain ⟨hb, rfl⟩ := bif_some e
  obtain ⟨cs, h1, h2, h3⟩ := hx
  have hlt := blt_iff hb
  refine goes_pure hd h (u := cs.getD i undef) ?_ (h3 i hlt)
  unfold execOp
  simp only [ho, h1, Instr.extract, Sem.run_bind]
  rw [getD_some (show i < cs.size by omega)]
  rfl
theorem sNil {x : Operand} (ho : o.op = .nilCheck x) (hd : ∀ t, o.dst = some t → t < N) (h : RelX S0 w0 N U σ a w S κ) {X : AV} (hx : Rd S κ w X (a.eval x)) {ao : AO} (e : oNil X = some ao) : o.wp P a w (Aft S0 w0 N U σ nm o.dst ao.val ao.wr) Q := by
  have hx' := hx
  unfold oNil at e
  split at e <;> first | cases e | skip
  · obtain ⟨b, _, h2⟩ := hx
    exact goes_pure hd h (by unfold execOp; simp [ho, h2]) hx'
  · obtain ⟨b, _, _, h2⟩ := hx
    exact goes_pure hd h (by unfold execOp; simp [ho, h2]) hx'
  · obtain ⟨b, p, h2, _⟩ := hx
    exact goes_pure hd h (by unfold execOp; simp [ho, h2]) hx'
  · obtain ⟨b, n, c, _, h2⟩ := hx
    exact goes_pure hd h (by unfold execOp; simp [ho, h2]) hx'
  · obtain ⟨fs, cs, h2, _⟩ := hx
    exact goes_pure hd h (by unfold execOp; simp [ho, h2]) hx'
  · obtain ⟨fs, cs, h2, _⟩ := hx
    exact goes_pure hd h (by unfold execOp; simp [ho, h2]) hx'
end
end Go.Proofs.Ytaemlmpcclfmdaa
namespace Go.Proofs.Ytaemlmpcclfmdaa
open Go.RowKit
def I64 (n : Int) : Prop := -9223372036854775808 ≤ n ∧ n ≤ 9223372036854775807
def inr (k : IntKind) (n : Int) : Prop := match k with | .i64 => I64 n | k => k.min ≤ n ∧ n ≤ k.max
theorem wrap_of_inr {k : IntKind} {n : Int} (h : inr k n) : k.wrap n = n := by
  cases k <;> simp [inr, I64, IntKind.wrap, IntKind.bits, IntKind.signed, IntKind.min, IntKind.max] at h ⊢ <;> (try split) <;> omega
instance (k : IntKind) (n : Int) : Decidable (inr k n) := by unfold inr I64; cases k <;> infer_instance
def ikb (k k' : IntKind) : Bool := decide (k = k')
theorem ikb_iff {k k' : IntKind} (h : ikb k k' = true) : k = k' := of_decide_eq_true h
def oInt (op : BinOp) (k : IntKind) (x y : Int) : Option (List Ob × Value) :=
  match op with
  | .add => some ([inr k (x + y)], .int k (x + y))
  | .sub => some ([inr k (x - y)], .int k (x - y))
  | .mul => some ([inr k (x * y)], .int k (x * y))
  | .quo => some ([y ≠ 0, inr k (x.tdiv y)], .int k (x.tdiv y))
  | .rem => some ([y ≠ 0], .int k (x.tmod y))
  | .eql => some ([], .bool (x == y))
  | .neq => some ([], .bool (x != y))
  | .lss => some ([], .bool (decide (x < y)))
  | .leq => some ([], .bool (decide (x ≤ y)))
  | .gtr => some ([], .bool (decide (x > y)))
  | .geq => some ([], .bool (decide (x ≥ y)))
  | _ => none
theorem run_oInt {P : Program} {t : TypeId} {op : BinOp} {k : IntKind} {x y : Int} {p : List Ob} {v : Value} (h : oInt op k x y = some (p, v)) (hp : allP p) (w : World) : (binOp op t (.int k x) (.int k y)).run P w = .ok v w := by
  cases op <;> simp only [oInt, Option.some.injEq, Prod.mk.injEq, reduceCtorEq] at h <;> obtain ⟨rfl, rfl⟩ := h <;>
    first
      | (simp only [allP] at hp; simp [binOp, Op.intArith, wrap_of_inr hp]; done)
      | (simp only [allP] at hp; simp [binOp, Op.intDiv, hp, wrap_of_inr hp.2]; done)
      | (simp only [allP] at hp; simp [binOp, Op.intDiv, hp]; done)
      | (simp [binOp, Op.intCmp]; done)
def oBin (P : Program) (op : BinOp) (t : TypeId) (x y : AV) : Option AO :=
  match x, y with
  | .v (.int k m), .v (.int k' n) => bif ikb k k' then
      match oInt op k m n with
      | some (p, v) => some ⟨p, [], .v v, []⟩
      | none => none
    else none
  | .v (.bool p), .v (.bool q) => match P.underlying t with
    | some .bool => match op with
      | .eql => some ⟨[], [], .v (.bool (p == q)), []⟩
      | .neq => some ⟨[], [], .v (.bool (!(p == q))), []⟩
      | _ => none
    | _ => none
  | .v (.string s), .v (.string u) => match op with
    | .add => some ⟨[s.size + u.size ≤ 1000000000], [], .v (.string (s ++ u)), []⟩
    | .eql => some ⟨[], [], .v (.bool (s.toList == u.toList)), []⟩
    | .neq => some ⟨[], [], .v (.bool (!(s.toList == u.toList))), []⟩
    | .lss => some ⟨[], [], .v (.bool (Op.bytesLess s.toList u.toList)), []⟩
    | _ => none
  | _, _ => none
def oUn (op : UnOp) (x : AV) : Option AO :=
  match op, x with
  | .neg, .v (.int k n) => some ⟨[inr k (0 - n)], [], .v (.int k (0 - n)), []⟩
  | .not, .v (.bool b) => some ⟨[], [], .v (.bool (!b)), []⟩
  | _, _ => none
def oConv (P : Program) (src dst : TypeId) (x : AV) : Option AO :=
  match x with
  | .v (.int _ n) => match P.underlying src, P.underlying dst with
    | some (.int _), some (.int k) => some ⟨[inr k n], [], .v (.int k n), []⟩
    | _, _ => none
  | _ => none
def ub (b : Bool) : Prop := b = true
def oPick (c x y : AV) : Option AO :=
  match strp c, strp x, strp y with
  | .v (.bool t), .v (.bool p), .v (.bool q) => some ⟨obl c ++ ((obl x).map fun r => obi t true r) ++ ((obl y).map fun r => obi t false r), [], .v (.bool (bif t then p else q)), []⟩
  | _, _, _ => none
def oIndexAddr (P : Program) (ν : Nat → AB) (t : TypeId) (x i : AV) : Option AO :=
  match i with
  | .v (.int _ n) => match P.underlying t with
    | some (.slice e) => match tinf P e with
      | some (_, z) => match x with
        | .sl z' m g => bif Nat.beq z z' then some ⟨[0 ≤ n, n < m], [], .elp z (fun j => g n.toNat j), []⟩ else none
        | .own q => match ν q with
          | .own z' m _ _ => bif Nat.beq z z' then some ⟨[0 ≤ n, n < m], [q], .pA q z n.toNat 0, []⟩ else none
          | _ => none
        | _ => none
      | none => none
    | some (.array len e) => match tinf P e with
      | some (_, z) => match x with
        | .pB q o => some ⟨[0 ≤ n, n < len], [], .pX q o len z n.toNat 0, []⟩
        | .elp m h => bif Nat.ble (len * z) m then some ⟨[0 ≤ n, n < len], [], .elp z (fun j => h (n.toNat * z + j)), []⟩ else none
        | _ => none
      | none => none
    | _ => none
  | _ => none
def oIndex (P : Program) (t : TypeId) (x i : AV) : Option AO :=
  match i with
  | .v (.int _ n) => match x with
    | .agg m h => match P.underlying t with
      | some (.array len e) => match tinf P e with
        | some (b, z) => bif Nat.ble (len * z) m && okLd b z then some ⟨[0 ≤ n, n < len], [], ldV b z (fun j => h (n.toNat * z + j)), []⟩ else none
        | none => none
      | _ => none
    | .v (.string s) => match P.underlying t with
      | some .string => some ⟨[0 ≤ n, n < s.size], [], .v (.int .u8 ((s[n.toNat]?.getD 0).toNat : Nat)), []⟩
      | _ => none
    | _ => none
  | _ => none
section
variable {P : Program} {S0 : Addr → Prop} {mm : Nat} {w0 : Bs mm} {N : Nat} {U U' : Nat → Prop} {σ : ASt} {a : Act} {w w' : World} {S S' : Addr → Prop} {κ κ' : Nat → Option Hdr} {o : Oper} {Q : Exit → Act → World → Prop} {nm : Nat}
theorem goes_v {v : Value} (hd : ∀ t, o.dst = some t → t < N) (h : RelX S0 w0 N U σ a w S κ) (hr : (execOp a.eval o).run P w = .ok (.value v) w) : o.wp P a w (Aft S0 w0 N U σ nm o.dst (.v v) []) Q := goes_pure hd h hr rfl
theorem sBin {op : BinOp} {t t2 : TypeId} {x y : Operand} (ho : o.op = .binOp op t x y t2) (hd : ∀ t, o.dst = some t → t < N) (h : RelX S0 w0 N U σ a w S κ) {X Y : AV} (hx : Rd S κ w X (a.eval x)) (hy : Rd S κ w Y (a.eval y)) {ao : AO} (e : oBin P op t X Y = some ao) (hp : allP ao.pre) :
    o.wp P a w (Aft S0 w0 N U σ nm o.dst ao.val ao.wr) Q := by
  unfold oBin at e
  split at e
  · rename_i k m k' n
    cases hk : ikb k k' with
    | false => rw [hk] at e; cases e
    | true =>
    obtain rfl := ikb_iff hk
    rw [hk] at e
    simp only [cond_true] at e
    split at e
    case h_2 => cases e
    rename_i p v hv
    cases e
    refine goes_v hd h ?_
    have hx' : a.eval x = .int k m := hx
    have hy' : a.eval y = .int k n := hy
    have hg : (eqGuard op t x y (.int k m) (.int k n)).run P w = .ok () w := by unfold eqGuard; cases op <;> simp
    unfold execOp
    simp [ho, hx', hy', hg, run_oInt hv hp]
  · rename_i p q
    split at e
    case h_2 => cases e
    rename_i hu
    have hx' : a.eval x = .bool p := hx
    have hy' : a.eval y = .bool q := hy
    split at e <;> first | cases e | skip
    · refine goes_v hd h ?_
      unfold execOp
      have he := run_equalIn_bool' w 9999 t p q hu
      simp [ho, hx', hy', eqGuard, binOp, Op.equal, Op.maxDepth, he]
    · refine goes_v hd h ?_
      unfold execOp
      have he := run_equalIn_bool' w 9999 t p q hu
      simp [ho, hx', hy', eqGuard, binOp, Op.equal, Op.maxDepth, he]
  · rename_i s u
    have hx' : a.eval x = .string s := hx
    have hy' : a.eval y = .string u := hy
    split at e <;> first | cases e | skip
    · refine goes_v hd h ?_
      have hle : s.size + u.size ≤ 1000000000 := hp
      have : ¬ ((s.size : Int) + u.size > 9223372036854775807) := by omega
      unfold execOp
      simp [ho, hx', hy', eqGuard, binOp, Op.stringOp, IntKind.max, IntKind.bits, IntKind.signed]
      omega
    all_goals
      refine goes_v hd h ?_
      unfold execOp
      simp [ho, hx', hy', eqGuard, binOp, Op.stringOp]
  · cases e
theorem sUn {op : UnOp} {t : TypeId} {x : Operand} (ho : o.op = .unOp op t x) (hd : ∀ t, o.dst = some t → t < N) (h : RelX S0 w0 N U σ a w S κ) {X : AV} (hx : Rd S κ w X (a.eval x)) {ao : AO} (e : oUn op X = some ao) (hp : allP ao.pre) :
    o.wp P a w (Aft S0 w0 N U σ nm o.dst ao.val ao.wr) Q := by
  unfold oUn at e
  split at e
  · rename_i k n
    cases e
    refine goes_v hd h ?_
    have hx' : a.eval x = .int k n := hx
    have hp' : inr k (0 - n) := hp
    unfold execOp
    simp only [ho, hx', Op.unary, Op.intArith, Sem.run_bind, Sem.run_pure, Result.andThen_ok, wrap_of_inr hp']
  · rename_i b
    cases e
    refine goes_v hd h ?_
    have hx' : a.eval x = .bool b := hx
    unfold execOp
    simp [ho, hx', Op.unary]
  · cases e
theorem sConv {s d : TypeId} {x : Operand} (ho : o.op = .convert s d x) (hd : ∀ t, o.dst = some t → t < N) (h : RelX S0 w0 N U σ a w S κ) {X : AV} (hx : Rd S κ w X (a.eval x)) {ao : AO} (e : oConv P s d X = some ao) (hp : allP ao.pre) :
    o.wp P a w (Aft S0 w0 N U σ nm o.dst ao.val ao.wr) Q := by
  unfold oConv at e
  split at e
  case h_2 => cases e
  rename_i k n
  split at e
  case h_2 => cases e
  rename_i k1 k2 hs hd'
  cases e
  refine goes_v hd h ?_
  have hx' : a.eval x = .int k n := hx
  have hp' : inr k2 n := hp
  unfold execOp
  simp [ho, hx', convert, run_underlying hs, run_underlying hd', Conv.intToInt, wrap_of_inr hp']
theorem sMove {x : Operand} (ho : o.op = .move x ∨ o.op = .assign x) (hd : ∀ t, o.dst = some t → t < N) (h : RelX S0 w0 N U σ a w S κ) :
    o.wp P a w (Aft S0 w0 N U σ nm o.dst (opv σ.slot x) []) Q := by
  refine goes_pure hd h (u := a.eval x) ?_ (h.eval x)
  unfold execOp
  rcases ho with ho | ho <;> simp [ho]
theorem allP_map {l : List Ob} {t v : Bool} (h : allP (l.map fun r => obi t v r)) (ht : t = v) : allP l := by
  induction l with
  | nil => trivial
  | cons p l ih =>
    cases l with
    | nil => exact h ht
    | cons q l => exact ⟨h.1 ht, ih h.2⟩
theorem sPick {c x y : Operand} (ho : o.op = .pick c x y) (hd : ∀ t, o.dst = some t → t < N) (h : RelX S0 w0 N U σ a w S κ) {ao : AO} (e : oPick (opv σ.slot c) (opv σ.slot x) (opv σ.slot y) = some ao) (hp : allP ao.pre) :
    o.wp P a w (Aft S0 w0 N U σ nm o.dst ao.val ao.wr) Q := by
  unfold oPick at e
  split at e
  case h_2 => cases e
  rename_i t p q hc hx hy
  cases e
  obtain ⟨h12, h3⟩ := allP_app hp
  obtain ⟨h1, h2⟩ := allP_app h12
  have c1 := strp_rd (h.eval c) h1
  rw [hc] at c1
  refine goes_v hd h ?_
  have c1' : a.eval c = .bool t := c1
  unfold execOp
  cases t with
  | true =>
    have c2 := strp_rd (h.eval x) (allP_map h2 rfl)
    rw [hx] at c2
    have c2' : a.eval x = .bool p := c2
    simp [ho, c1', c2', asBool]
  | false =>
    have c2 := strp_rd (h.eval y) (allP_map h3 rfl)
    rw [hy] at c2
    have c2' : a.eval y = .bool q := c2
    simp [ho, c1', c2', asBool]
theorem toNat_lt {n : Int} {m : Nat} (h0 : 0 ≤ n) (h1 : n < m) : n.toNat < m := by omega
theorem sIndexAddr {t : TypeId} {x i : Operand} (ho : o.op = .indexAddr t x i) (hd : ∀ t, o.dst = some t → t < N) (h : RelX S0 w0 N U σ a w S κ) {X I : AV} (hx : Rd S κ w X (a.eval x)) (hi : Rd S κ w I (a.eval i)) {ao : AO} (e : oIndexAddr P σ.name t X I = some ao) (hp : allP ao.pre) :
    o.wp P a w (Aft S0 w0 N U σ nm o.dst ao.val ao.wr) Q := by
  unfold oIndexAddr at e
  split at e
  case h_2 => cases e
  rename_i ki n
  have hi' : a.eval i = .int ki n := hi
  split at e
  · rename_i el hu
    split at e
    case h_2 => cases e
    rename_i bb z ht
    obtain ⟨d, inf, _, hinf, _, hsz⟩ := tinf_of ht
    have hrun : ∀ (b p m c : Nat), a.eval x = .slice (some ⟨b, p, none⟩) m c → 0 ≤ n → n < m → (execOp a.eval o).run P w = .ok (.value (.pointer (some ⟨b, p + n.toNat * z, none⟩))) w := by
      intro b p m c hv h0 h1
      unfold execOp
      simp [ho, hv, hi', Instr.indexAt, asIntOf, run_underlying hu, h0, h1, run_sizeOf' hinf, hsz, Addr.add_lit]
    split at e
    · rename_i z' m g
      obtain ⟨hb, rfl⟩ := bif_some e
      obtain rfl := Nat.eq_of_beq_eq_true hb
      obtain ⟨h0, h1⟩ := hp
      have hlt := toNat_lt h0 h1
      obtain ⟨ad, c, h2, h3, h4⟩ := hx
      obtain ⟨b, p, rfl, h5⟩ := h4 (by omega)
      exact goes_pure hd h (hrun b p m c h2 h0 h1) ⟨b, p + n.toNat * z, rfl, fun j hj => h5 _ hlt j hj⟩
    · rename_i q
      split at e
      case h_2 => cases e
      rename_i z' m g sd hk
      obtain ⟨hb, rfl⟩ := bif_some e
      obtain rfl := Nat.eq_of_beq_eq_true hb
      obtain ⟨h0, h1⟩ := hp
      have hlt := toNat_lt h0 h1
      obtain ⟨ad, n', c', h2, h3⟩ := hx
      have hn := h.names q
      rw [hk] at hn
      obtain ⟨ad', c, h4, _, h5⟩ := hn
      rw [h2] at h4
      cases h4
      rcases h5 with ⟨_, h6, _⟩ | ⟨b, cs, el', rfl, _⟩
      · omega
      · exact goes_pure hd h (hrun b 0 m c' h3 h0 h1) ⟨b, m, c', h2, by rw [Nat.zero_add, Nat.add_zero]⟩
    · cases e
  · rename_i len el hu
    split at e
    case h_2 => cases e
    rename_i bb z ht
    obtain ⟨d, inf, _, hinf, _, hsz⟩ := tinf_of ht
    have hrun : ∀ (b p : Nat), a.eval x = .pointer (some ⟨b, p, none⟩) → 0 ≤ n → n < len → (execOp a.eval o).run P w = .ok (.value (.pointer (some ⟨b, p + n.toNat * z, none⟩))) w := by
      intro b p hv h0 h1
      unfold execOp
      simp [ho, hv, hi', Instr.indexAt, Instr.sureAddr, asIntOf, run_underlying hu, h0, h1, run_sizeOf' hinf, hsz, Addr.add_lit]
    split at e
    · rename_i q p
      cases e
      obtain ⟨h0, h1⟩ := hp
      obtain ⟨b, h2, h3⟩ := hx
      exact goes_pure hd h (hrun b p h3 h0 h1) ⟨b, h2, toNat_lt h0 h1, by rw [Nat.add_zero]⟩
    · rename_i m g
      obtain ⟨hb, rfl⟩ := bif_some e
      have hle := ble_iff hb
      obtain ⟨h0, h1⟩ := hp
      have hlt := toNat_lt h0 h1
      obtain ⟨b, p, h2, h3⟩ := hx
      have hiz : n.toNat * z + z ≤ len * z := by rw [← Nat.succ_mul]; exact Nat.mul_le_mul_right z hlt
      exact goes_pure hd h (hrun b p h2 h0 h1) ⟨b, p + n.toNat * z, rfl, fun j hj => by rw [Nat.add_assoc]; exact h3 _ (by omega)⟩
    · cases e
  · cases e
theorem sIndex {t : TypeId} {x i : Operand} (ho : o.op = .index t x i) (hd : ∀ t, o.dst = some t → t < N) (h : RelX S0 w0 N U σ a w S κ) {X I : AV} (hx : Rd S κ w X (a.eval x)) (hi : Rd S κ w I (a.eval i)) {ao : AO} (e : oIndex P t X I = some ao) (hp : allP ao.pre) :
    o.wp P a w (Aft S0 w0 N U σ nm o.dst ao.val ao.wr) Q := by
  unfold oIndex at e
  split at e
  case h_2 => cases e
  rename_i ki n
  have hi' : a.eval i = .int ki n := hi
  split at e
  · rename_i m g
    split at e
    case h_2 => cases e
    rename_i len el hu
    split at e
    case h_2 => cases e
    rename_i bb z ht
    obtain ⟨d, inf, _, hinf, _, hsz⟩ := tinf_of ht
    obtain ⟨hb, rfl⟩ := bif_some e
    simp only [Bool.and_eq_true] at hb
    have hle := ble_iff hb.1
    obtain ⟨h0, h1⟩ := hp
    replace h0 : 0 ≤ n := h0
    have hlt := toNat_lt h0 h1
    obtain ⟨cs, h2, h3, h4⟩ := hx
    have hiz : n.toNat * z + z ≤ len * z := by rw [← Nat.succ_mul]; exact Nat.mul_le_mul_right z hlt
    refine goes_pure hd h (u := if bb then .agg ((List.range z).map fun j => cs.getD (n.toNat * z + j) undef).toArray else cs.getD (n.toNat * z + 0) undef) ?_ (ld_rd (f := fun j => cs.getD (n.toNat * z + j) undef) (fun j hj => h4 _ (by omega)) (okLd_iff hb.2))
    unfold execOp
    have h1' : n < len := h1
    simp only [ho, h2, hi', Instr.index, asIntOf, Sem.run_bind, Sem.run_pure, run_underlying hu, Result.andThen_ok, Sem.run_ite, h0, h1', and_self, if_true, run_sizeOf' hinf, hsz, run_part ht cs (n.toNat * z) (okLd_iff hb.2) (by omega)]
  · rename_i s
    split at e
    case h_2 => cases e
    rename_i hu
    cases e
    obtain ⟨h0, h1⟩ := hp
    replace h0 : 0 ≤ n := h0
    have hlt := toNat_lt h0 h1
    have hx' : a.eval x = .string s := hx
    refine goes_v hd h ?_
    unfold execOp
    simp [ho, hx', hi', Instr.index, asIntOf, run_underlying hu, h0, hlt]
  · cases e
end
end Go.Proofs.Ytaemlmpcclfmdaa
namespace Go.Proofs.Ytaemlmpcclfmdaa
open Go.RowKit
theorem setCells_row {w : World} {b o : Nat} {cs : Array Value} {e : TypeId} (P : Program) (hh : w.heap[b]? = some (.cells cs e (0, 0))) (vs : List Value) (hle : o + vs.length ≤ cs.size) (h1 : ∀ v ∈ vs, v.oneCell' = true) : w.setCells b o vs = w.setRow b (putAt cs o vs.toArray) := by
  have r1 := run_storeCells_at (P := P) b o e vs 0 cs w hh (by omega) h1
  have r2 := run_storeCells_cells (P := P) b o vs 0 w (fun j hj => by rw [cell_row hh]; simp; omega) (fun j hj => by simp [World.frozen?, hh]) h1
  rw [r1] at r2
  have := Result.ok.inj r2
  simp only [Nat.add_zero] at this
  rw [← this.2]
  simp [putAt]
/-- what is appended: its length and its elements -/
def srcAV (ν : Nat → AB) (z : Nat) : AV → Option (Nat × (Nat → Nat → AV) × List Nat)
  | .v (.slice none 0 0) => some (0, fun _ _ => .dead, [])
  | .sl z' m g => bif Nat.beq z z' then some (m, g, []) else none
  | .own k => match ν k with
    | .own z' m g _ => bif Nat.beq z z' then some (m, g, [k]) else none
    | _ => none
  | _ => none
/-- onto what: its name, its length, its elements, whether they never change any more -/
def dstAV (ν : Nat → AB) (z : Nat) : AV → Option (Option Nat × Nat × (Nat → Nat → AV) × Bool)
  | .v (.slice none 0 0) => some (none, 0, fun _ _ => .dead, false)
  | .own k => match ν k with
    | .own z' n g sd => bif Nat.beq z z' then some (some k, n, g, sd) else none
    | _ => none
  | _ => none
def appG (n m : Nat) (g gs : Nat → Nat → AV) : Nat → Nat → AV := fun i => bif Nat.blt i n then g i else bif Nat.beq m 1 then gs 0 else gs (i - n)
def appI (P : Program) (t tx : TypeId) : Option (TypeId × Nat) :=
  match P.underlying t, P.underlying tx with
  | some (.slice e), some (.slice _) => match P.info? e with
    | some i => match i.zero with
      | some zv => bif Nat.ble i.bytes 4096 && Nat.blt 0 i.size && Nat.beq zv.cells.size i.size then some (e, i.size) else none
      | none => none
    | none => none
  | _, _ => none
def oApp (P : Program) (ν : Nat → AB) (nm : Nat) (t tx : TypeId) (x y : AV) : Option AO :=
  match appI P t tx with
  | some (_, z) => match dstAV ν z x, srcAV ν z y with
    | some (k, n, g, sd), some (m, gs, rd) =>
      some ⟨[n + m ≤ 1000000000], k.toList ++ rd, .own nm, (k.toList.map fun k => (k, .none)) ++ [(nm, .own z (n + m) (appG n m g gs) sd)]⟩
    | _, _ => none
  | none => none
theorem nextcap_le {n c : Nat} (h : c < n) : Builtin.nextslicecap n c ≤ 4 * n + 4096 := by
  unfold Builtin.nextslicecap
  split
  · omega
  · split
    · omega
    · simp only [Builtin.growBy]
      repeat' split
      all_goals omega
section
variable {P : Program} {S0 : Addr → Prop} {mm : Nat} {w0 : Bs mm} {N : Nat} {U U' : Nat → Prop} {σ : ASt} {a : Act} {w w' : World} {S S' : Addr → Prop} {κ κ' : Nat → Option Hdr} {o : Oper} {Q : Exit → Act → World → Prop} {nm : Nat}
/-- the source's elements, as cells -/
theorem srcAV_rd (h : RelX S0 w0 N U σ a w S κ) {z : Nat} (hz : 0 < z) {y : AV} {u : Value} (hy : Rd S κ w y u) {m : Nat} {gs : Nat → Nat → AV} {rd : List Nat} (e : srcAV σ.name z y = some (m, gs, rd)) :
    ∃ ad c, u = .slice ad m c ∧ (m ≠ 0 → ad ≠ none) ∧ ∃ f : Nat → Value, (∀ b, ad = some b → ∀ i, i < m * z → w.cell? (b.add i) = some (f i)) ∧ (∀ i, i < m * z → (f i).oneCell' = true) ∧ ∀ i, i < m → ∀ j, j < z → Rd S (fun _ => none) w (gs i j) (f (i * z + j)) := by
  unfold srcAV at e
  split at e
  · cases e
    exact ⟨none, 0, hy, fun q => absurd rfl q, fun _ => undef, fun b hb => (by cases hb), fun i hi => (by omega), fun i hi => absurd hi (Nat.not_lt_zero _)⟩
  · rename_i z' m' g
    cases hb : Nat.beq z z' with
    | false => rw [hb] at e; cases e
    | true =>
    rw [hb] at e
    cases e
    obtain rfl := Nat.eq_of_beq_eq_true hb
    obtain ⟨ad, c, h1, h2, h3⟩ := hy
    by_cases hm : m = 0
    · subst hm
      cases ad with
      | none => exact ⟨none, c, h1, fun q => absurd rfl q, fun _ => undef, fun b hb => (by cases hb), fun i hi => (by omega), fun i hi => absurd hi (Nat.not_lt_zero _)⟩
      | some b => exact ⟨some b, c, h1, fun _ q => (by cases q), fun _ => undef, fun b hb i hi => (by omega), fun i hi => (by omega), fun i hi => absurd hi (Nat.not_lt_zero _)⟩
    · obtain ⟨b, p, rfl, h4⟩ := h3 hm
      have key : ∀ i, i < m * z → S ⟨b, p + i, none⟩ ∧ ∃ x, w.cell? ⟨b, p + i, none⟩ = some x ∧ x.oneCell' = true ∧ Rd S (fun _ => none) w (gs (i / z) (i % z)) x := by
        intro i hi
        have h5 : i / z < m := Nat.div_lt_of_lt_mul (by rw [Nat.mul_comm]; exact hi)
        have h6 := Nat.mod_lt i hz
        have := h4 (i / z) h5 (i % z) h6
        have e2 : i / z * z + i % z = i := by rw [Nat.mul_comm]; exact Nat.div_add_mod i z
        rw [Nat.add_assoc, e2] at this
        exact this
      refine ⟨_, c, h1, fun _ q => (by cases q), fun i => (w.cell? ⟨b, p + i, none⟩).getD undef, fun b' hb' i hi => ?_, fun i hi => ?_, fun i hi j hj => ?_⟩
      · cases hb'
        obtain ⟨_, x, g1, _⟩ := key i hi
        rw [Addr.add_lit]; simp only [g1]; rfl
      · obtain ⟨_, x, g1, g2, _⟩ := key i hi
        simp only [g1]; exact g2
      · have hlt : i * z + j < m * z := by have : i * z + z ≤ m * z := by rw [← Nat.succ_mul]; exact Nat.mul_le_mul_right z hi
                                           omega
        obtain ⟨_, x, g1, _, g3⟩ := key _ hlt
        simp only [g1]
        have d1 : (i * z + j) / z = i := by rw [Nat.mul_comm, Nat.mul_add_div hz, Nat.div_eq_of_lt hj, Nat.add_zero]
        have d2 : (i * z + j) % z = j := by rw [Nat.mul_comm, Nat.mul_add_mod, Nat.mod_eq_of_lt hj]
        rw [d1, d2] at g3
        exact g3
  · rename_i k
    split at e
    case h_2 => cases e
    rename_i z' m' g sd hk
    cases hb : Nat.beq z z' with
    | false => rw [hb] at e; cases e
    | true =>
    rw [hb] at e
    cases e
    obtain rfl := Nat.eq_of_beq_eq_true hb
    obtain ⟨ad, n', c', h1, h2⟩ := hy
    have hn := h.names k
    rw [hk] at hn
    obtain ⟨ad', c, h3, h4, h5⟩ := hn
    rw [h1] at h3
    cases h3
    rcases h5 with ⟨rfl, rfl, rfl⟩ | ⟨b, cs, el, rfl, h7, h8, h9, h10, _⟩
    · exact ⟨none, 0, h2, fun q => absurd rfl q, fun _ => undef, fun b hb => (by cases hb), fun i hi => (by omega), fun i hi => absurd hi (Nat.not_lt_zero _)⟩
    · have hcz : m * z ≤ c' * z := Nat.mul_le_mul_right z h4
      refine ⟨_, c', h2, fun _ q => (by cases q), fun i => cs.getD i undef, fun b' hb' i hi => ?_, fun i hi => ?_, fun i hi j hj => (h10 i hi j hj).2⟩
      · cases hb'
        rw [Addr.add_lit, cell_row h8, Nat.zero_add]
        exact getD_some (by omega)
      · have h5 : i / z < m := Nat.div_lt_of_lt_mul (by rw [Nat.mul_comm]; exact hi)
        have := (h10 (i / z) h5 (i % z) (Nat.mod_lt i hz)).1
        have e2 : i / z * z + i % z = i := by rw [Nat.mul_comm]; exact Nat.div_add_mod i z
        rw [e2] at this
        exact this
  · cases e
def setS (S : Addr → Prop) (sd : Bool) (ad : Option Addr) (m : Nat) : Addr → Prop := fun x => S x ∨ (sd = true ∧ x.off < m ∧ ∃ b, ad = some ⟨b, 0, none⟩ ∧ x = ⟨b, x.off, none⟩)
/-- behind an append: the elder slice's name is gone, the new one's is told -/
theorem RelX.app (h : RelX S0 w0 N U σ a w S κ) (hk : κ nm = none) (kill : Option Nat) (hkill : ∀ k, kill = some k → k ≠ nm) {w' : World} {z n c : Nat} {G : Nat → Nat → AV} {sd : Bool} {ad : Option Addr}
    (hb : BelX w0.X w0.w.heap.size w w') (hDK : DefK w w') (hc : ∀ x, S x → w'.cell? x = w.cell? x) (hnc : n ≤ c)
    (hoth : ∀ k' b, σ.name k' ≠ .none → kill ≠ some k' → hblk (κ k') = some b → w'.heap[b]? = w.heap[b]? ∧ ∀ p, ad = some ⟨b, p, none⟩ → False)
    (hnew : (ad = none ∧ n = 0 ∧ c = 0) ∨ ∃ b cs e, ad = some ⟨b, 0, none⟩ ∧ w0.O b ∧ w'.heap[b]? = some (.cells cs e (0, 0)) ∧ cs.size = c * z ∧ (∀ i, i < n → ∀ j, j < z → (cs.getD (i * z + j) undef).oneCell' = true ∧ Rd S (fun _ => none) w' (G i j) (cs.getD (i * z + j) undef)) ∧ (∀ o, S ⟨b, o, none⟩ → sd = true ∧ o < n * z)) :
    RelX S0 w0 N (fun k => U k ∨ nmR nm k) ⟨σ.slot, nmw σ.name ((kill.toList.map fun k => (k, .none)) ++ [(nm, .own z n G sd)])⟩ a w' (setS S sd ad (n * z)) (upd κ nm (some (.sl ad n c))) := by
  have hnm : ∀ k, nmw σ.name ((kill.toList.map fun k => (k, AB.none)) ++ [(nm, AB.own z n G sd)]) k = upd (match kill with | some k => upd σ.name k .none | none => σ.name) nm (.own z n G sd) k := by
    intro k
    cases kill <;> rfl
  have hold : ∀ k, k ≠ nm → nmw σ.name ((kill.toList.map fun k => (k, AB.none)) ++ [(nm, AB.own z n G sd)]) k ≠ .none → σ.name k ≠ .none ∧ kill ≠ some k ∧ nmw σ.name ((kill.toList.map fun k => (k, AB.none)) ++ [(nm, AB.own z n G sd)]) k = σ.name k := by
    intro k h1 h2
    rw [hnm, upd_ne _ _ h1] at h2 ⊢
    cases kill with
    | none => exact ⟨h2, by simp, rfl⟩
    | some q =>
      by_cases hq : k = q
      · subst hq
        exact absurd (upd_own _ _ _) h2
      · simp only [upd_ne _ _ hq] at h2 ⊢
        exact ⟨h2, fun e => hq (by cases e; rfl), trivial⟩
  have hbl : ∀ b, ad = some ⟨b, 0, none⟩ → ∃ cs e, w0.O b ∧ w'.heap[b]? = some (.cells cs e (0, 0)) := by
    intro b hb'
    rcases hnew with ⟨q, _⟩ | ⟨b2, cs, e, q, g1, g2, _⟩
    · rw [q] at hb'; cases hb'
    · rw [q] at hb'; cases hb'; exact ⟨cs, e, g1, g2⟩
  have hSm : ∀ x, S x → setS S sd ad (n * z) x := fun x hx => .inl hx
  refine h.step hb hSm ?_ ?_ (upd_mono hk) ?_ hc ?_ ?_ hDK
  · rintro x (hx | ⟨_, _, b, hb', e⟩)
    · exact .inl hx
    · obtain ⟨_, _, g, _⟩ := hbl b hb'
      rw [e]
      exact .inr g
  · rintro x (hx | ⟨_, _, b, hb', e⟩)
    · have := h.dfn x hx
      have := hb.size
      omega
    · obtain ⟨_, _, _, g⟩ := hbl b hb'
      rw [e]
      exact (Array.getElem?_eq_some_iff.1 g).1
  · intro k hk'
    by_cases e : k = nm
    · exact .inr (e ▸ nmR.own k)
    · rw [upd_ne _ _ e] at hk'
      exact .inl (h.used k hk')
  · intro k k' b l1 l2 e1 e2
    by_cases c1 : k = nm
    · by_cases c2 : k' = nm
      · rw [c1, c2]
      · exfalso
        obtain ⟨g1, g2, _⟩ := hold k' c2 l2
        rw [upd_ne _ _ c2] at e2
        rw [c1, upd_own] at e1
        cases ad with
        | none => cases e1
        | some ad' =>
          rcases hnew with ⟨q, _⟩ | ⟨b2, cs, e, q, _⟩
          · cases q
          · cases q
            cases e1
            exact (hoth k' b2 g1 g2 e2).2 0 rfl
    · obtain ⟨g1, g2, _⟩ := hold k c1 l1
      rw [upd_ne _ _ c1] at e1
      by_cases c2 : k' = nm
      · exfalso
        rw [c2, upd_own] at e2
        cases ad with
        | none => cases e2
        | some ad' =>
          rcases hnew with ⟨q, _⟩ | ⟨b2, cs, e, q, _⟩
          · cases q
          · cases q
            cases e2
            exact (hoth k b2 g1 g2 e1).2 0 rfl
      · obtain ⟨g3, g4, _⟩ := hold k' c2 l2
        rw [upd_ne _ _ c2] at e2
        exact h.inj k k' b g1 g3 e1 e2
  · intro k
    by_cases c1 : k = nm
    · subst c1
      rw [hnm, upd_own, upd_own]
      refine ⟨ad, c, rfl, hnc, ?_⟩
      rcases hnew with q | ⟨b, cs, e, rfl, g1, g2, g3, g4, g5⟩
      · exact .inl q
      · refine .inr ⟨b, cs, e, rfl, g1, g2, g3, fun i hi j hj => ⟨(g4 i hi j hj).1, Rd.mono hSm (fun _ _ => rfl) _ (fun _ _ h => h) _ (g4 i hi j hj).2⟩, ?_, fun hs o ho => .inr ⟨hs, ho, b, rfl, rfl⟩⟩
        rintro o (ho | ⟨hs, ho, _⟩)
        · exact g5 o ho
        · exact ⟨hs, ho⟩
    · by_cases hl : nmw σ.name ((kill.toList.map fun k => (k, AB.none)) ++ [(nm, AB.own z n G sd)]) k = .none
      · rw [hl]; trivial
      · obtain ⟨g1, g2, g3⟩ := hold k c1 hl
        rw [g3, upd_ne _ _ c1]
        refine RdB.keep (h.names k) hSm (upd_mono hk) hc (fun b hb' => ⟨(hoth k b g1 g2 hb').1, ?_⟩)
        rintro o (ho | ⟨_, _, b2, hb2, e⟩)
        · exact ho
        · cases e
          exact ((hoth k _ g1 g2 hb').2 0 hb2).elim
end
end Go.Proofs.Ytaemlmpcclfmdaa
