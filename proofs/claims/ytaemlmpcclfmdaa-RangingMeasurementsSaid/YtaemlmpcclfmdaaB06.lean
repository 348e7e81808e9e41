/- Helpers: whole bodies: what is known of slots and memory along a function's code. No condition but the hypotheses that each theorem names. -/
import Derived.Test.YtaemlmpcclfmdaaB05
import Derived.LoopN
import Derived.Shelf.Abstract
namespace Go.Proofs.Ytaemlmpcclfmdaa
open Go.RowKit
theorem calls_of_wpIn {P : Program} {f : FuncId} {fn : Func} {c : Code} {args : Array Value} {w : World} {R : Ending → World → Prop} (hf : P.funcs[f]? = some fn) (hb : fn.body = some c)
    (h : c.wpIn (fnc none) 0 P (bodyPostM (fnc none) 0 P fn R) { tmps := args ++ Array.replicate (fn.ntmps - args.size) undef, defers := [] } w) : Calls P f args w R := callsIn_wide.1 (callsIn_of_wp_marks hf hb trivial h rfl)
/-- the marks are taken, one by one -/
theorem leaves_marks {P : Program} {fn : Func} {tmps : Array Value} {R : Ending → World → Prop} : ∀ (Ds : List Nat) (w : World), Ds.Nodup → (∀ D, D ∈ Ds → w.heap[D]? = some (.deferred (some []))) →
    (∀ w', (∀ k, k ∉ Ds → w'.heap[k]? = w.heap[k]?) → (∀ k, k ∈ Ds → ∃ ds, w'.heap[k]? = some (.deferred ds)) → w'.heap.size = w.heap.size → w'.os = w.os → w'.tape = w.tape → w'.output = w.output → ∃ v, (results fn tmps).run P w' = .ok v w' ∧ R (.returned v) w') → LeavesInM (fnc none) 0 P fn tmps R (marks Ds) .returning w
  | [], w, _, _, h => by
    obtain ⟨v, h1, h2⟩ := h w (fun _ _ => rfl) (fun k hk => by cases hk) rfl rfl rfl rfl
    exact ⟨v, h1, h2⟩
  | D :: Ds, w, hn, hd, h => by
    have hD := hd D (by simp)
    have hlt := (Array.getElem?_eq_some_iff.1 hD).1
    have hn' := List.nodup_cons.1 hn
    refine ⟨(fun q => by cases q), .inl ⟨D, _, rfl, run_takeDeferred hD, leaves_marks Ds _ hn'.2 (fun D' h' => ?_) (fun w' h1 h2 h3 h4 h5 h6 => ?_)⟩⟩
    · rw [World.putObj_heap_other (fun q => hn'.1 (by rw [← q]; exact h'))]
      exact hd D' (by simp [h'])
    · refine h w' (fun k hk => ?_) (fun k hk => ?_) (h3.trans (by simp)) h4 h5 h6
      · rw [h1 k (fun q => hk (by simp [q])), World.putObj_heap_other (fun q => hk (by simp [q]))]
      · rcases List.mem_cons.1 hk with rfl | q
        · exact ⟨none, by rw [h1 k hn'.1]; exact World.putObj_heap_same hlt⟩
        · exact h2 k q
theorem cell_def {w : World} {x : Addr} {ds : Option (List Deferred)} (h : w.heap[x.block]? = some (Obj.deferred ds)) : w.cell? x = none := by simp [World.cell?, h]
/-- the marks are gone -/
theorem RelX.unmark {S0 : Addr → Prop} {mm : Nat} {w0 : Bs mm} {N : Nat} {U : Nat → Prop} {σ : ASt} {a : Act} {w w' : World} {S : Addr → Prop} {κ : Nat → Option Hdr} (h : RelX S0 w0 N U σ a w S κ) {Ds : List Nat} (hd : ∀ D, D ∈ Ds → w0.O D ∧ w.heap[D]? = some (Obj.deferred (some [])))
    (h1 : ∀ k, k ∉ Ds → w'.heap[k]? = w.heap[k]?) (h2 : ∀ k, k ∈ Ds → ∃ ds, w'.heap[k]? = some (Obj.deferred ds)) (h3 : w'.heap.size = w.heap.size) (h4 : w'.os = w.os) (h5 : w'.tape = w.tape) (h6 : w'.output = w.output) : RelX S0 w0 N U σ { a with defers := [] } w' S κ := by
  have hc : ∀ x : Addr, w'.cell? x = w.cell? x := by
    intro x
    by_cases hx : x.block ∈ Ds
    · obtain ⟨ds, e⟩ := h2 _ hx
      rw [cell_def e, cell_def (hd _ hx).2]
    · exact World.cell?_of_block (h1 _ hx)
  refine ⟨h.below.trans ⟨h4, h5, h6, by omega, fun i hi hX => h1 i (fun q => (hd i q).1.elim (fun q => by omega) hX)⟩, h.sub, h.new, fun x hx => (hc x).trans (h.keep x hx), h.kap, fun x hx => by rw [h3]; exact h.dfn x hx, h.used, h.inj, fun t => Rd.mono (fun _ h => h) (fun x _ => hc x) _ (fun _ _ h => h) _ (h.slots t), fun k => ?_, ⟨[], rfl, List.nodup_nil, fun D hD => by cases hD⟩, h.size⟩
  by_cases hl : σ.name k = .none
  · rw [hl]; trivial
  · refine RdB.keep (h.names k) (fun _ h => h) (fun _ _ h => h) (fun x _ => hc x) (fun b hb => ⟨h1 b (fun q => RdB.not_def (h.names k) hl hb _ (hd b q).2), fun _ h => h⟩)
abbrev AK := Exit → Nat → ASt → Prop
/-- the loop whose round it is stands, and nobody lends it -/
def okRo {mm : Nat} (w0 : Bs mm) : Option Nat → Prop
  | none => True
  | some l => l < w0.w.heap.size ∧ ¬ w0.X l ∧ ∃ r, w0.w.heap[l]? = some (.loop r)
structure AW (P : Program) (S0 : Addr → Prop) {mm : Nat} (w0 : Bs mm) (N : Nat) (c : Code) (nx : Nat) (σ : ASt) (K : AK) : Prop where
  go : ∀ ro a w, okRo w0 ro → Rel S0 w0 N (fun k => k < nx * 16) σ a w → c.wpIn (fnc ro) 0 P (fun e a' w' => ∃ nx' σ', K e nx' σ' ∧ Rel S0 w0 N (fun k => k < nx' * 16) σ' a' w') a w
/-- what follows a part of a body -/
def thenK (P : Program) (S0 : Addr → Prop) {mm : Nat} (w0 : Bs mm) (N : Nat) (y : Code) (K : AK) : AK := fun e nx σ => match e with | .normal => AW P S0 w0 N y nx σ K | e => K e nx σ
def blockK (id : Nat) (K : AK) : AK := fun e nx σ => match e with | .exit id' => bif Nat.beq id' id then K .normal nx σ else K (.exit id') nx σ | e => K e nx σ
/-- less is known -/
def Wk (S0 : Addr → Prop) {mm : Nat} (w0 : Bs mm) (N : Nat) (nx : Nat) (σ : ASt) (nx' : Nat) (σ' : ASt) : Prop := ∀ a w, Rel S0 w0 N (fun k => k < nx * 16) σ a w → Rel S0 w0 N (fun k => k < nx' * 16) σ' a w
def loopK (S0 : Addr → Prop) {mm : Nat} (w0 : Bs mm) (N : Nat) (nx0 : Nat) (I : Nat → ASt → Prop) (m : Nat) (K : AK) : AK := fun e nx σ => match e with | .normal => ∃ m' σ', m' < m ∧ I m' σ' ∧ Wk S0 w0 N nx σ nx0 σ' | e => K e nx σ
section
variable {P : Program} {S0 : Addr → Prop} {mm : Nat} {w0 : Bs mm} {N : Nat} {nx : Nat} {σ : ASt} {K : AK}
theorem AW.mono {c : Code} {K' : AK} (h : AW P S0 w0 N c nx σ K) (hk : ∀ e nx σ, K e nx σ → K' e nx σ) : AW P S0 w0 N c nx σ K' := ⟨fun ro a w ho hr => wpIn_mono (h.go ro a w ho hr) fun _ _ _ ⟨nx, σ, h1, h2⟩ => ⟨nx, σ, hk _ _ _ h1, h2⟩⟩
theorem AW.seq {x y : Code} (h : AW P S0 w0 N x nx σ (thenK P S0 w0 N y K)) : AW P S0 w0 N (.seq x y) nx σ K := by
  refine ⟨fun ro a w ho hr => ?_⟩
  refine wpIn_seq (wpIn_mono (h.go ro a w ho hr) ?_)
  rintro e a' w' ⟨nx', σ', hk, hr'⟩
  cases e with
  | normal => exact hk.go ro a' w' ho hr'
  | exit id => exact ⟨nx', σ', hk, hr'⟩
  | goto l => exact ⟨nx', σ', hk, hr'⟩
  | ret => exact ⟨nx', σ', hk, hr'⟩
  | panic c => exact ⟨nx', σ', hk, hr'⟩
  | outgrown => exact ⟨nx', σ', hk, hr'⟩
theorem AW.region {id : Nat} {ops : Array Oper} (hints : Nat → AV) (hp : RPre P N (hA hints) nx ops σ) (h : K .normal (nx + ops.size) (rgSt P N (hA hints) nx ops σ)) : AW P S0 w0 N (.region id ops false) nx σ K :=
  ⟨fun _ _ _ _ hr => rg_ok hp.out hr (fun _ _ hr' => ⟨_, _, h, hr'⟩) id⟩
theorem AW.regionM {id : Nat} {ops : Array Oper} (hints : Nat → HT) (hp : RPre P N hints nx ops σ) (h : K .normal (nx + ops.size) (rgSt P N hints nx ops σ)) : AW P S0 w0 N (.region id ops false) nx σ K :=
  ⟨fun _ _ _ _ hr => rg_ok hp.out hr (fun _ _ hr' => ⟨_, _, h, hr'⟩) id⟩
theorem AW.cond {c : Operand} {x y : Code} (b : Bool) (hc : opv σ.slot c = .v (.bool b)) (ht : b = true → AW P S0 w0 N x nx σ K) (hf : b = false → AW P S0 w0 N y nx σ K) : AW P S0 w0 N (.cond c x y) nx σ K := by
  refine ⟨?_⟩
  rintro ro a w ho ⟨S, κ, h⟩
  have hv := h.eval c
  rw [hc] at hv
  exact wpIn_cond_split (t := b) hv (fun hb => (ht hb).go ro a w ho ⟨S, κ, h⟩) (fun hb => (hf hb).go ro a w ho ⟨S, κ, h⟩)
theorem AW.block {id : Nat} {c : Code} (h : AW P S0 w0 N c nx σ (blockK id K)) : AW P S0 w0 N (.block id c) nx σ K := by
  refine ⟨fun ro a w ho hr => ?_⟩
  refine wpIn_block (wpIn_mono (h.go ro a w ho hr) ?_)
  rintro e a' w' ⟨nx', σ', hk, hr'⟩
  cases e with
  | exit id' =>
    simp only [Exit.inBlock, blockK] at hk ⊢
    cases hb : Nat.beq id' id with
    | true =>
      rw [hb] at hk
      rw [if_pos (Nat.eq_of_beq_eq_true hb)]
      exact ⟨nx', σ', hk, hr'⟩
    | false =>
      rw [hb] at hk
      rw [if_neg (fun q => by rw [q, Nat.beq_refl] at hb; cases hb)]
      exact ⟨nx', σ', hk, hr'⟩
  | normal => exact ⟨nx', σ', hk, hr'⟩
  | goto l => exact ⟨nx', σ', hk, hr'⟩
  | ret => exact ⟨nx', σ', hk, hr'⟩
  | panic c => exact ⟨nx', σ', hk, hr'⟩
  | outgrown => exact ⟨nx', σ', hk, hr'⟩
theorem AW.skip (h : K .normal nx σ) : AW P S0 w0 N .skip nx σ K := ⟨fun _ _ _ _ hr => wpIn_skip ⟨nx, σ, h, hr⟩⟩
theorem AW.exit {id : Nat} (h : K (.exit id) nx σ) : AW P S0 w0 N (.exit id) nx σ K := ⟨fun _ _ _ _ hr => wpIn_exit ⟨nx, σ, h, hr⟩⟩
theorem AW.ret (h : K .ret nx σ) : AW P S0 w0 N .ret nx σ K := ⟨fun _ _ _ _ hr => wpIn_ret ⟨nx, σ, h, hr⟩⟩
theorem AW.loop {c : Code} (I : Nat → ASt → Prop) (m : Nat) (h0 : I m σ) (hs : ∀ m σ, I m σ → AW P S0 w0 N c nx σ (loopK S0 w0 N nx I m K)) : AW P S0 w0 N (.loop c) nx σ K := by
  refine ⟨fun ro a w ho hr => ?_⟩
  refine wpIn_loop_rounds (m + 1) ?_
  have key : ∀ n m σ a w, m < n → I m σ → Rel S0 w0 N (fun k => k < nx * 16) σ a w → Code.roundsIn (fnc ro) 0 P c (fun e a' w' => ∃ nx' σ', K e nx' σ' ∧ Rel S0 w0 N (fun k => k < nx' * 16) σ' a' w') n a w := by
    intro n
    induction n with
    | zero => intro m σ a w h; exact absurd h (Nat.not_lt_zero _)
    | succ n ih =>
      intro m σ a w hm hi hr
      rw [roundsIn_succ]
      refine wpIn_mono ((hs m σ hi).go ro a w ho hr) ?_
      rintro e a' w' ⟨nx', σ', hk, hr'⟩
      cases e with
      | normal =>
        obtain ⟨m', σ2, h1, h2, h3⟩ := hk
        exact ih m' σ2 a' w' (by omega) h2 (h3 a' w' hr')
      | exit id => exact ⟨nx', σ', hk, hr'⟩
      | goto l => exact ⟨nx', σ', hk, hr'⟩
      | ret => exact ⟨nx', σ', hk, hr'⟩
      | panic c => exact ⟨nx', σ', hk, hr'⟩
      | outgrown => exact ⟨nx', σ', hk, hr'⟩
  exact key (m + 1) m σ a w (Nat.lt_succ_self m) h0 hr
/-- less is known -/
theorem AW.weak {c : Code} {nx' : Nat} {σ' : ASt} (hw : ∀ a w, Rel S0 w0 N (fun k => k < nx * 16) σ a w → Rel S0 w0 N (fun k => k < nx' * 16) σ' a w) (h : AW P S0 w0 N c nx' σ' K) : AW P S0 w0 N c nx σ K := ⟨fun ro a w ho hr => h.go ro a w ho (hw a w hr)⟩
end
/-- names given anew -/
def renV (ρ : Nat → Nat) : AV → AV
  | .own k => .own (ρ k)
  | .pB k o => .pB (ρ k) o
  | .pX k b l z i o => .pX (ρ k) b l z i o
  | .pA k z i o => .pA (ρ k) z i o
  | .agg n h => .agg n (fun i => renV ρ (h i))
  | .tup n h => .tup n (fun i => renV ρ (h i))
  | .gd b x => .gd b (renV ρ x)
  | .mref k => .mref (ρ k)
  | .yld k => .yld (ρ k)
  | .cloM f n1 h1 n2 h2 => .cloM f n1 (fun i => renV ρ (h1 i)) n2 (fun i => renV ρ (h2 i))
  | x => x
theorem renV_rd {S : Addr → Prop} {κ : Nat → Option Hdr} {w : World} {ρ : Nat → Nat} : ∀ (y : AV) (u : Value), Rd S κ w (renV ρ y) u → Rd S (fun k => κ (ρ k)) w y u := by
  intro y
  induction y with
  | v x => exact fun _ h => h
  | agg n h ih => exact fun _ ⟨cs, h1, h2, h3⟩ => ⟨cs, h1, h2, fun i hi => ih i _ (h3 i hi)⟩
  | tup n h ih => exact fun _ ⟨cs, h1, h2, h3⟩ => ⟨cs, h1, h2, fun i hi => ih i _ (h3 i hi)⟩
  | sl z n g ih => exact fun _ h => h
  | elp m h ih => exact fun _ h => h
  | clo f n1 h1 n2 h2 _ _ => exact fun _ h => h
  | cloM f n1 h1 n2 h2 ih1 ih2 => exact fun _ ⟨fs, cs, e, e1, e2, g1, g2⟩ => ⟨fs, cs, e, e1, e2, fun i hi => ih1 i _ (g1 i hi), fun i hi => ih2 i _ (g2 i hi)⟩
  | mref k => exact fun _ h => h
  | yld k => exact fun _ h => h
  | own k => exact fun _ h => h
  | pB k o => exact fun _ h => h
  | pX k b l z i o => exact fun _ h => h
  | pA k z i o => exact fun _ h => h
  | gd b x ih => exact fun _ h => ⟨fun hb => ih _ (h.1 hb), h.2⟩
  | dead => exact fun _ _ => trivial
def ABle (b b' : AB) : Prop := ∀ S κ w (O : Nat → Prop) q, RdB S κ w O b q → RdB S κ w O b' q
theorem ABle.refl (b : AB) : ABle b b := fun _ _ _ _ _ h => h
theorem ABle.own {z n : Nat} {g g' : Nat → Nat → AV} {sd : Bool} (h : ∀ i, i < n → ∀ j, j < z → AV.le (g i j) (g' i j)) : ABle (.own z n g sd) (.own z n g' sd) := by
  rintro S κ w O q ⟨a, c, h1, h2, h3⟩
  refine ⟨a, c, h1, h2, h3.imp id ?_⟩
  rintro ⟨b, cs, e, g1, g2, g3, g4, g5, g6, g7⟩
  exact ⟨b, cs, e, g1, g2, g3, g4, fun i hi j hj => ⟨(g5 i hi j hj).1, h i hi j hj _ _ _ _ (g5 i hi j hj).2⟩, g6, g7⟩
theorem ABle.box {n : Nat} {h h' : Nat → AV} {sd : Bool} (e : ∀ i, i < n → AV.le (h i) (h' i)) : ABle (.box n h sd) (.box n h' sd) := by
  rintro S κ w O q ⟨b, cs, el, g1, g2, g3, g4, g5, g6, g7⟩
  exact ⟨b, cs, el, g1, g2, g3, g4, fun i hi => ⟨(g5 i hi).1, e i hi _ _ _ _ (g5 i hi).2⟩, g6, g7⟩
theorem ABle.lp {N : Nat} {s s' : Nat → AV} {ps : Array Tmp} {asg bd : Code} {rdy : Bool} {pd : Option Code} (e : ∀ i, i < N → AV.le (s i) (s' i)) : ABle (.lp N s ps asg bd rdy pd) (.lp N s' ps asg bd rdy pd) := by
  rintro S κ w O q ⟨b, r, g1, g2, g3, g4, g5, g6, g7, g8, g9, g10⟩
  exact ⟨b, r, g1, g2, g3, g4, g5, g6, g7, g8, g9, fun t ht => e t ht _ _ _ _ (g10 t ht)⟩
def renB (ρ : Nat → Nat) : AB → AB
  | .box n h sd => .box n (fun i => renV ρ (h i)) sd
  | .lp N s ps asg bd rdy pd => .lp N (fun i => renV ρ (s i)) ps asg bd rdy pd
  | b => b
theorem renB_rd {S : Addr → Prop} {κ : Nat → Option Hdr} {w : World} {ρ : Nat → Nat} {O : Nat → Prop} : ∀ (b : AB) (q : Option Hdr), RdB S κ w O (renB ρ b) q → RdB S (fun k => κ (ρ k)) w O b q
  | .none, _, _ => trivial
  | .box _ _ _, _, ⟨b, cs, e, g1, g2, g3, g4, g5, g6, g7⟩ => ⟨b, cs, e, g1, g2, g3, g4, fun i hi => ⟨(g5 i hi).1, renV_rd _ _ (g5 i hi).2⟩, g6, g7⟩
  | .own _ _ _ _, _, h => h
  | .mp _, _, h => h
  | .lp _ _ _ _ _ _ _, _, ⟨b, r, g1, g2, g3, g4, g5, g6, g7, g8, g9, g10⟩ => ⟨b, r, g1, g2, g3, g4, g5, g6, g7, g8, g9, fun t ht => renV_rd _ _ (g10 t ht)⟩
def nodupB (ρ : List Nat) (d : Nat) : Bool := allN ρ.length (fun i => allN i (fun j => !(Nat.beq (ρ.getD i d) (ρ.getD j d))))
theorem nodupB_iff {ρ : List Nat} {d : Nat} (h : nodupB ρ d = true) : ∀ i j, i < ρ.length → j < ρ.length → ρ.getD i d = ρ.getD j d → i = j := by
  have key : ∀ i j, i < ρ.length → j < i → ρ.getD i d = ρ.getD j d → False := by
    intro i j hi hj e
    have := allN_iff (allN_iff h i hi) j hj
    rw [e, Nat.beq_refl] at this
    cases this
  intro i j hi hj e
  rcases Nat.lt_trichotomy i j with q | q | q
  · exact (key j i hj q e.symm).elim
  · exact q
  · exact (key i j hi q e).elim
/-- the first names, by a list -/
def mkS (l : List (Nat × AV)) : Nat → AV := fun t => match l with
  | [] => .dead
  | (k, v) :: l => bif Nat.beq t k then v else mkS l t
def mkB (l : List AB) : Nat → AB := fun k => l.getD k .none
section
variable {P : Program} {S0 : Addr → Prop} {mm : Nat} {w0 : Bs mm} {N : Nat} {nx : Nat} {σ : ASt} {K : AK}
/-- what is known is told anew: the slots that matter, the memory under new names: the k-th new name is the elder (ρ k)-th -/
theorem wk_base (ls : List (Nat × AV)) (lb : List AB) (ρ : List Nat) (hρ : nodupB ρ (nx * 16) = true) (hl : lb.length = ρ.length) (hfix : ∀ k, k < mm → ρ.getD k (nx * 16) = k)
    (hs : ∀ p, p ∈ ls → AV.le (σ.slot p.1) (renV (fun k => ρ.getD k (nx * 16)) p.2)) (hb : ∀ k, k < lb.length → ABle (σ.name (ρ.getD k (nx * 16))) (renB (fun k => ρ.getD k (nx * 16)) (lb.getD k .none)))
    (hlive : ∀ k, k < lb.length → σ.name (ρ.getD k (nx * 16)) ≠ .none) : Wk S0 w0 N nx σ lb.length ⟨mkS ls, mkB lb⟩ := by
  rintro a w ⟨S, κ, hr⟩
  have hnone : κ (nx * 16) = none := by
    cases hκ : κ (nx * 16) with
    | none => rfl
    | some q => exact absurd (hr.used (nx * 16) (by rw [hκ]; exact fun q => by cases q)) (Nat.lt_irrefl _)
  refine ⟨S, fun k => κ (ρ.getD k (nx * 16)), hr.below, hr.sub, hr.new, hr.keep, ?_, hr.dfn, ?_, ?_, ?_, ?_, hr.dfs, hr.size⟩
  · intro k q hq
    rcases Nat.lt_or_ge k mm with g | g
    · show κ (ρ.getD k (nx * 16)) = _
      rw [hfix k g]
      exact hr.kap k q hq
    · rw [w0.low k g] at hq
      cases hq
  · intro k hk
    rcases Nat.lt_or_ge k lb.length with q | q
    · show k < lb.length * 16
      omega
    · rw [List.getD_eq_getElem?_getD, List.getElem?_eq_none (by omega)] at hk
      exact absurd hnone hk
  · intro k k' b l1 l2 e1 e2
    have hk1 : k < lb.length := by
      rcases Nat.lt_or_ge k lb.length with q | q
      · exact q
      · exact absurd (show mkB lb k = .none by simp [mkB, List.getD_eq_getElem?_getD, List.getElem?_eq_none q]) l1
    have hk2 : k' < lb.length := by
      rcases Nat.lt_or_ge k' lb.length with q | q
      · exact q
      · exact absurd (show mkB lb k' = .none by simp [mkB, List.getD_eq_getElem?_getD, List.getElem?_eq_none q]) l2
    exact nodupB_iff hρ k k' (by omega) (by omega) (hr.inj _ _ b (hlive k hk1) (hlive k' hk2) e1 e2)
  · intro t
    have key : ∀ l : List (Nat × AV), (∀ p, p ∈ l → AV.le (σ.slot p.1) (renV (fun k => ρ.getD k (nx * 16)) p.2)) → Rd S (fun k => κ (ρ.getD k (nx * 16))) w (mkS l t) (a.tmps.getD t undef) := by
      intro l
      induction l with
      | nil => exact fun _ => trivial
      | cons p l ih =>
        intro hl
        unfold mkS
        cases hb : Nat.beq t p.1 with
        | true =>
          have := Nat.eq_of_beq_eq_true hb
          subst this
          simp only [cond_true]
          exact renV_rd _ _ (hl p (by simp) _ _ _ _ (hr.slots p.1))
        | false =>
          simp only [cond_false]
          exact ih fun q hq => hl q (by simp [hq])
    exact key ls hs
  · intro k
    rcases Nat.lt_or_ge k lb.length with q | q
    · exact renB_rd _ _ (hb k q _ _ _ _ _ (hr.names _))
    · show RdB S _ w _ (mkB lb k) _
      rw [show mkB lb k = .none by simp [mkB, List.getD_eq_getElem?_getD, List.getElem?_eq_none q]]
      trivial
/-- a slice that is nil gets a name -/
theorem AW.nil {c : Code} (t z : Nat) (g : Nat → Nat → AV) (ht : σ.slot t = .v (.slice none 0 0)) (h : AW P S0 w0 N c (nx + 1) ⟨upd σ.slot t (.own (nx * 16)), upd σ.name (nx * 16) (.own z 0 g false)⟩ K) : AW P S0 w0 N c nx σ K := by
  refine AW.weak ?_ h
  rintro a w ⟨S, κ, hr⟩
  have hk : κ (nx * 16) = none := by
    cases hκ : κ (nx * 16) with
    | none => rfl
    | some q => exact absurd (hr.used (nx * 16) (by rw [hκ]; exact fun q => by cases q)) (Nat.lt_irrefl _)
  have h1 := hr.step (nm := upd σ.name (nx * 16) (.own z 0 g false)) (κ' := upd κ (nx * 16) (some (.sl none 0 0))) (U' := fun k => k < (nx + 1) * 16) (BelX.refl _ _ _) (fun _ h => h) (fun _ h => .inl h) hr.dfn (upd_mono hk) (fun k hk' => by
    by_cases e : k = nx * 16
    · omega
    · rw [upd_ne _ _ e] at hk'
      have := hr.used k hk'
      omega) (fun _ _ => rfl) (fun k k' b l1 l2 e1 e2 => by
    by_cases c1 : k = nx * 16
    · rw [c1, upd_own] at e1; cases e1
    · by_cases c2 : k' = nx * 16
      · rw [c2, upd_own] at e2; cases e2
      · rw [upd_ne _ _ c1] at l1 e1
        rw [upd_ne _ _ c2] at l2 e2
        exact hr.inj k k' b l1 l2 e1 e2) (fun k => by
    by_cases c1 : k = nx * 16
    · subst c1; rw [upd_own, upd_own]; exact ⟨none, 0, rfl, Nat.le_refl _, .inl ⟨rfl, rfl, rfl⟩⟩
    · rw [upd_ne _ _ c1, upd_ne _ _ c1]
      exact RdB.keep (hr.names k) (fun _ h => h) (upd_mono hk) (fun _ _ => rfl) (fun _ _ => ⟨rfl, fun _ h => h⟩)) (DefK.refl _)
  refine ⟨S, _, h1.below, h1.sub, h1.new, h1.keep, h1.kap, h1.dfn, h1.used, h1.inj, fun j => ?_, h1.names, h1.dfs, h1.size⟩
  by_cases e : j = t
  · subst e
    show Rd S _ w (upd σ.slot j (.own (nx * 16)) j) _
    rw [upd_own]
    have := hr.slots j
    rw [ht] at this
    exact ⟨none, 0, 0, upd_own _ _ _, this⟩
  · show Rd S _ w (upd σ.slot t (.own (nx * 16)) j) _
    rw [upd_ne _ _ e]
    exact h1.slots j
end
theorem castP {p X : Prop} (h : p = X) (x : X) : p := by rw [h]; exact x
theorem le_eq {x y : AV} (h : x = y) : AV.le x y := by rw [h]; exact AV.le.refl _
def SLe (σ : ASt) (ρ : Nat → Nat) : List (Nat × AV) → Prop
  | [] => True
  | p :: l => AV.le (σ.slot p.1) (renV ρ p.2) ∧ SLe σ ρ l
theorem SLe.of {σ : ASt} {ρ : Nat → Nat} : ∀ {l : List (Nat × AV)}, SLe σ ρ l → ∀ p, p ∈ l → AV.le (σ.slot p.1) (renV ρ p.2)
  | q :: l, h, p, hp => by
    rcases List.mem_cons.1 hp with rfl | hp
    · exact h.1
    · exact SLe.of h.2 p hp
/-- all slots at once, by reckoning -/
theorem SLe.all {σ : ASt} {ρ : Nat → Nat} : ∀ {l : List (Nat × AV)}, (l.map fun p => σ.slot p.1) = (l.map fun p => renV ρ p.2) → SLe σ ρ l
  | [], _ => trivial
  | p :: l, h => by
    simp only [List.map_cons, List.cons.injEq] at h
    exact ⟨le_eq h.1, SLe.all h.2⟩
theorem SLe.app {σ : ASt} {ρ : Nat → Nat} : ∀ {l m : List (Nat × AV)}, SLe σ ρ l → SLe σ ρ m → SLe σ ρ (l ++ m)
  | [], _, _, h => h
  | _ :: _, _, h, k => ⟨h.1, SLe.app h.2 k⟩
def BLe (σ : ASt) (ρ : Nat → Nat) (ab : AB) (k : Nat) : Prop := σ.name (ρ k) ≠ .none ∧ ABle (σ.name (ρ k)) (renB ρ ab)
def BLes (σ : ASt) (ρ : Nat → Nat) : Nat → List AB → Prop
  | _, [] => True
  | k, b :: l => BLe σ ρ b k ∧ BLes σ ρ (k + 1) l
theorem BLes.of {σ : ASt} {ρ : Nat → Nat} : ∀ {l : List AB} {j : Nat}, BLes σ ρ j l → ∀ k, k < l.length → BLe σ ρ (l.getD k .none) (j + k)
  | b :: l, j, h, 0, _ => h.1
  | b :: l, j, h, k + 1, hk => by
    have := BLes.of h.2 k (by simpa using hk)
    rw [show j + 1 + k = j + (k + 1) from by omega] at this
    exact this
def isBox : AB → Bool
  | .none => false
  | _ => true
theorem BLe.mk {σ : ASt} {ρ : Nat → Nat} {ab : AB} {k : Nat} (h : isBox (σ.name (ρ k)) = true) (h2 : ABle (σ.name (ρ k)) (renB ρ ab)) : BLe σ ρ ab k := ⟨fun q => (by rw [q] at h; cases h), h2⟩
theorem BLe.eq {σ : ASt} {ρ : Nat → Nat} {ab : AB} {k : Nat} (h : isBox (σ.name (ρ k)) = true) (h2 : σ.name (ρ k) = renB ρ ab) : BLe σ ρ ab k := BLe.mk h (by rw [h2]; exact ABle.refl _)
theorem wk_re {S0 : Addr → Prop} {mm : Nat} {w0 : Bs mm} {N : Nat} {nx : Nat} {σ : ASt} (ls : List (Nat × AV)) (lb : List AB) (ρ : List Nat) (hρ : (nodupB ρ (nx * 16) && Nat.beq lb.length ρ.length && allN mm (fun k => Nat.beq (ρ.getD k (nx * 16)) k)) = true) (hs : SLe σ (fun k => ρ.getD k (nx * 16)) ls) (hb : BLes σ (fun k => ρ.getD k (nx * 16)) 0 lb) : Wk S0 w0 N nx σ lb.length ⟨mkS ls, mkB lb⟩ := by
  simp only [Bool.and_eq_true] at hρ
  exact wk_base ls lb ρ hρ.1.1 (Nat.eq_of_beq_eq_true hρ.1.2) (fun k hk => Nat.eq_of_beq_eq_true (allN_iff hρ.2 k hk)) (SLe.of hs) (fun k hk => by have := (BLes.of hb k hk).2; rwa [Nat.zero_add] at this) (fun k hk => by have := (BLes.of hb k hk).1; rwa [Nat.zero_add] at this)
theorem AW.re {P : Program} {S0 : Addr → Prop} {mm : Nat} {w0 : Bs mm} {N : Nat} {nx : Nat} {σ : ASt} {K : AK} {c : Code} (ls : List (Nat × AV)) (lb : List AB) (ρ : List Nat) (hρ : (nodupB ρ (nx * 16) && Nat.beq lb.length ρ.length && allN mm (fun k => Nat.beq (ρ.getD k (nx * 16)) k)) = true) (hs : SLe σ (fun k => ρ.getD k (nx * 16)) ls) (hb : BLes σ (fun k => ρ.getD k (nx * 16)) 0 lb)
    (h : AW P S0 w0 N c lb.length ⟨mkS ls, mkB lb⟩ K) : AW P S0 w0 N c nx σ K := AW.weak (wk_re ls lb ρ hρ hs hb) h
/-- a result: a slot, or a cell of one's own -/
def resAV (P : Program) (σ : ASt) : ResultVar → Option AV
  | .tmp t => some (σ.slot t)
  | .cell a t => match σ.slot a with
    | .pB k o => match tinf P t, σ.name k with
      | some (b, s), .box n h _ => bif Nat.ble (o + s) n && okLd b s then some (ldV b s fun j => h (o + j)) else none
      | _, _ => none
    | _ => none
def resL (P : Program) (σ : ASt) : List ResultVar → Option (List AV)
  | [] => some []
  | x :: l => match resAV P σ x with
    | some y => match resL P σ l with | some r => some (y :: r) | none => none
    | none => none
def resV (ys : List AV) : AV := match ys with | [y] => y | ys => .tup ys.length (vec ys)
def retSee (P : Program) (fn : Func) (σ : ASt) : Option AV := match resL P σ fn.results.toList with
  | some xs => match seeL σ.name xs with
    | some (ys, _, _) => some (resV ys)
    | none => none
  | none => none
def retK (P : Program) (fn : Func) (r : AV) : AK := fun e _ σ => (e = .ret ∨ e = .normal) ∧ ∃ y, retSee P fn σ = some y ∧ AV.le y r
def resF (tmps : Array Value) : ResultVar → Sem Value
  | .tmp t => pure (tmps.getD t undef)
  | .cell a t => do loadVar t (← asAddr (tmps.getD a undef))
section
variable {P : Program} {S0 : Addr → Prop} {mm : Nat} {w0 : Bs mm} {N : Nat} {U : Nat → Prop} {σ : ASt} {a : Act} {w : World} {S : Addr → Prop} {κ : Nat → Option Hdr}
theorem resAV_ok (h : RelX S0 w0 N U σ a w S κ) {x : ResultVar} {y : AV} (e : resAV P σ x = some y) : ∃ u, (resF a.tmps x).run P w = .ok u w ∧ Rd S κ w y u := by
  cases x with
  | tmp t => cases e; exact ⟨_, rfl, h.slots t⟩
  | cell q t =>
    unfold resAV at e
    simp only at e
    split at e
    case h_2 => cases e
    rename_i k o hq
    split at e
    case h_2 => cases e
    rename_i b s n hh sd ht hk
    obtain ⟨hb, rfl⟩ := bif_some e
    simp only [Bool.and_eq_true] at hb
    have hs := h.slots q
    rw [hq] at hs
    obtain ⟨b', h1, h2⟩ := hs
    have hn := h.names k
    rw [hk] at hn
    obtain ⟨b'', cs, el, h3, h4, h5, h6, h7, _⟩ := hn
    rw [h1] at h3
    cases h3
    have hle := ble_iff hb.1
    refine ⟨_, ?_, ld_rd (f := fun j => cs.getD (o + j) undef) (fun j hj => (h7 (o + j) (by omega)).2) (okLd_iff hb.2)⟩
    unfold resF
    simp only [h2, asAddr, Sem.run_bind, Sem.run_pure, Result.andThen_ok]
    exact run_loadVar_cells ht w b' o _ (okLd_iff hb.2) (fun j hj => by rw [cell_row h5]; exact getD_some (by omega))
theorem resL_ok (h : RelX S0 w0 N U σ a w S κ) : ∀ {l : List ResultVar} {xs : List AV}, resL P σ l = some xs → ∃ us, (l.mapM (resF a.tmps)).run P w = .ok us w ∧ us.length = xs.length ∧ ∀ i, i < xs.length → Rd S κ w (xs.getD i .dead) (us.getD i undef)
  | [], xs, e => by cases e; exact ⟨[], rfl, rfl, fun i hi => absurd hi (Nat.not_lt_zero _)⟩
  | x :: l, xs, e => by
    unfold resL at e
    split at e
    case h_2 => cases e
    rename_i y hy
    split at e
    case h_2 => cases e
    rename_i r hr
    cases e
    obtain ⟨u, h1, h2⟩ := resAV_ok h hy
    obtain ⟨us, h3, h4, h5⟩ := resL_ok h hr
    refine ⟨u :: us, ?_, by simp [h4], fun i hi => ?_⟩
    · simp only [List.mapM_cons, Sem.run_bind, h1, h3, Sem.run_pure, Result.andThen_ok]
    · cases i with
      | zero => exact h2
      | succ i => exact h5 i (by simpa using hi)
end
def resU : List Value → Value
  | [v] => v
  | vs => .tuple vs.toArray
theorem run_results {P : Program} {fn : Func} {tmps : Array Value} {w : World} {vs : List Value} (h : (fn.results.toList.mapM (resF tmps)).run P w = .ok vs w) : (results fn tmps).run P w = .ok (resU vs) w := by
  have key : ∀ F : ResultVar → Sem Value, (∀ x, F x = resF tmps x) → (fn.results.toList.mapM F).run P w = .ok vs w := fun F hF => by rw [funext hF]; exact h
  unfold results
  simp only [Array.mapM_eq_mapM_toList, Sem.run_bind, Sem.run_map]
  rw [key _ (fun x => by cases x <;> rfl)]
  simp only [Result.andThen_ok, Sem.run_pure]
  clear key h
  match vs with
  | [] => simp [resU]
  | [v] => simp [resU]
  | _ :: _ :: _ => simp [resU]
def sig0 (ds : List AV) : ASt := ⟨fun t => bif Nat.blt t ds.length then ds.getD t .dead else .v undef, fun _ => .none⟩
theorem renV_le {ι μ : Nat → Nat} {G : List Nat} (hG : ∀ k, k ∈ G → μ (ι k) = k) : ∀ (x : AV), refsIn G x = true → AV.le x (renV μ (renV ι x)) := by
  intro x
  induction x with
  | v y => exact fun _ => AV.le.refl _
  | agg n h ih => exact fun hn => AV.le_agg fun i hi => ih i (allN_iff (p := fun i => refsIn G (h i)) hn i hi)
  | tup n h ih => exact fun hn => AV.le_tup fun i hi => ih i (allN_iff (p := fun i => refsIn G (h i)) hn i hi)
  | sl z n g ih => exact fun _ => AV.le.refl _
  | elp m g ih => exact fun _ => AV.le.refl _
  | clo f n1 h1 n2 h2 _ _ => exact fun _ => AV.le.refl _
  | cloM f n1 h1 n2 h2 ih1 ih2 =>
    intro hn
    have hn := (Bool.and_eq_true _ _).mp hn
    rintro S κ w u ⟨fs, cs, e, e1, e2, g1, g2⟩
    exact ⟨fs, cs, e, e1, e2, fun i hi => ih1 i (allN_iff (p := fun i => refsIn G (h1 i)) hn.1 i hi) _ _ _ _ (g1 i hi), fun i hi => ih2 i (allN_iff (p := fun i => refsIn G (h2 i)) hn.2 i hi) _ _ _ _ (g2 i hi)⟩
  | mref k => exact fun hn => by simp only [renV]; rw [hG k (has_iff.1 hn)]; exact AV.le.refl _
  | yld k => exact fun hn => by simp only [renV]; rw [hG k (has_iff.1 hn)]; exact AV.le.refl _
  | own k => exact fun hn => by simp only [renV]; rw [hG k (has_iff.1 hn)]; exact AV.le.refl _
  | pB k o => exact fun hn => by simp only [renV]; rw [hG k (has_iff.1 hn)]; exact AV.le.refl _
  | pX k b0 len z i o => exact fun hn => by simp only [renV]; rw [hG k (has_iff.1 hn)]; exact AV.le.refl _
  | pA k z i o => exact fun hn => by simp only [renV]; rw [hG k (has_iff.1 hn)]; exact AV.le.refl _
  | gd b x ih => exact fun hn S κ w u h => ⟨fun hb => ih hn _ _ _ _ (h.1 hb), h.2⟩
  | dead => exact fun _ => AV.le.refl _
theorem renB_le {ι μ : Nat → Nat} {G : List Nat} (hG : ∀ k, k ∈ G → μ (ι k) = k) (b : AB) (h : refsInB G b = true) : ABle b (renB μ (renB ι b)) := by
  cases b with
  | none => exact ABle.refl _
  | box n hh sd => exact ABle.box fun i hi => renV_le hG _ (allN_iff (p := fun i => refsIn G (hh i)) h i hi)
  | own z n g sd => exact ABle.refl _
  | mp es => exact ABle.refl _
  | lp N s ps asg bd rdy pd => exact ABle.lp fun i hi => renV_le hG _ (allN_iff (p := fun i => refsIn G (s i)) h i hi)
/-- new names by their place in a list -/
def muN (nm : Nat) (ρ : List Nat) (k : Nat) : Nat := bif nmRb nm k then ρ.getD (k - nm) 0 else k
/-- the end of a call, or of a round, to which names were lent: fp the names lent, ρ those that are told besides -/
structure RetN (τ : Nat → AB) (mm nm : Nat) (ν : Nat → AB) (fp ρ : List Nat) (r : AV) (wr : List (Nat × AB)) : Prop where
  refs : refsIn (fp ++ List.range' nm ρ.length) r = true
  refsB : ∀ k, refsInB (fp ++ List.range' nm ρ.length) (nmw ν wr k) = true
  names : ∀ k, nmw ν wr k ≠ .none → (k ∈ fp ∨ (nmR nm k ∧ k - nm < ρ.length)) ∧ τ (muN nm ρ k) ≠ .none ∧ ABle (τ (muN nm ρ k)) (renB (muN nm ρ) (nmw ν wr k))
  new : ∀ k, k ∈ ρ → mm ≤ k
  nodup : ∀ i j, i < ρ.length → j < ρ.length → ρ.getD i 0 = ρ.getD j 0 → i = j
structure RetM (P : Program) (fn : Func) (σ : ASt) (mm nm : Nat) (ν : Nat → AB) (fp ρ : List Nat) (r : AV) (wr : List (Nat × AB)) : Prop where
  res : ∃ xs, resL P σ fn.results.toList = some xs ∧ AV.le (resV xs) (renV (muN nm ρ) r)
  rest : RetN σ.name mm nm ν fp ρ r wr
def retKM (P : Program) (fn : Func) (mm nm : Nat) (ν : Nat → AB) (fp ρ : List Nat) (r : AV) (wr : List (Nat × AB)) : AK := fun e _ σ => (e = .ret ∨ e = .normal) ∧ RetM P fn σ mm nm ν fp ρ r wr
theorem RdB.reO {S : Addr → Prop} {κ : Nat → Option Hdr} {w : World} {O O' : Nat → Prop} {b : AB} {q : Option Hdr} (h : RdB S κ w O b q) (hO : ∀ k, b ≠ .none → hblk q = some k → O k → O' k) : RdB S κ w O' b q := by
  by_cases hb : b = .none
  · subst hb; trivial
  · exact RdB.weak h (fun _ _ h => h) (fun k hk => hO k hb hk)
theorem mem_range'' {k a n : Nat} : k ∈ List.range' a n ↔ a ≤ k ∧ k < a + n := by simp [List.mem_range'_1]
theorem RdB.dead {S : Addr → Prop} {κ : Nat → Option Hdr} {w : World} {O : Nat → Prop} {b : AB} (hl : RdB S κ w O b none) : b = .none := by
  cases b with
  | none => rfl
  | box n hh sd => obtain ⟨b, cs, e, q, _⟩ := hl; cases q
  | own z n g sd => obtain ⟨b, cs, q, _⟩ := hl; cases q
  | mp es => obtain ⟨b, ms, cl, q, _⟩ := hl; cases q
  | lp N s ps asg bd rdy pd => obtain ⟨b, r, q, _⟩ := hl; cases q
theorem postM_of {w w' : World} {S S1 : Addr → Prop} {κ κc : Nat → Option Hdr} {ν τ : Nat → AB} {nm nx : Nat} {fp ρ : List Nat} {r : AV} {wr : List (Nat × AB)} {v : Value} (hP : PreM w S κ ν nm fp) (hfp : ∀ k, k ∈ fp → ν k ≠ .none) (hlow : ∀ k, k ∈ fp → k < nx * 16) (h16 : ρ.length ≤ 16)
    (hbel : BelX (lentB ν κ) w.heap.size w w') (hsub : ∀ x, S x → S1 x) (hnew : ∀ x, S1 x → S x ∨ w.heap.size ≤ x.block ∨ lentB ν κ x.block) (hdfn : ∀ x, S1 x → x.block < w'.heap.size) (hkeep : ∀ x, S x → w'.cell? x = w.cell? x) (hkap : ∀ k q, κ k = some q → κc k = some q)
    (hinj : injB τ κc) (hnames : ∀ k, RdB S1 κc w' (fun b => w.heap.size ≤ b ∨ lentB ν κ b) (τ k) (κc k)) (hR : RetN τ (nx * 16) nm ν fp ρ r wr) (hv : Rd S1 κc w' (renV (muN nm ρ) r) v) : PostM w S κ ν nm r wr (.returned v) w' := by
  have hnm := hP.names
  have hK := hP.new
  let κ' : Nat → Option Hdr := fun k => bif nmRb nm k then (bif Nat.blt (k - nm) ρ.length then κc (muN nm ρ k) else none) else κ k
  have hgood : ∀ k, k ∈ fp ++ List.range' nm ρ.length → κ' k = κc (muN nm ρ k) := by
    intro k hk
    by_cases hn : nmR nm k
    · show (bif nmRb nm k then (bif Nat.blt (k - nm) ρ.length then κc (muN nm ρ k) else none) else κ k) = _
      rw [nmRb_iff.2 hn]
      simp only [cond_true]
      rcases List.mem_append.1 hk with q | q
      · -- a name lent is not among the new ones
        have hl := hnm k
        rw [hK k hn] at hl
        have := hfp k q
        cases hs : ν k with
        | none => exact absurd hs this
        | box n hh sd => rw [hs] at hl; obtain ⟨b, cs, e, q, _⟩ := hl; cases q
        | own z n g sd => rw [hs] at hl; obtain ⟨b, cs, q, _⟩ := hl; cases q
        | mp es => rw [hs] at hl; obtain ⟨b, ms, cl, q, _⟩ := hl; cases q
        | lp N s ps asg bd rdy pd => rw [hs] at hl; obtain ⟨b, r, q, _⟩ := hl; cases q
      · have := mem_range''.1 q
        rw [blt_t (by omega)]
        rfl
    · show (bif nmRb nm k then (bif Nat.blt (k - nm) ρ.length then κc (muN nm ρ k) else none) else κ k) = _
      unfold muN
      rw [nmRb_f hn]
      simp only [cond_false]
      rcases List.mem_append.1 hk with q | q
      · have hl := hnm k
        have hv := hfp k q
        cases hq : κ k with
        | some q => exact (hkap k q hq).symm
        | none =>
          rw [hq] at hl
          cases hs : ν k with
          | none => exact absurd hs hv
          | box n hh sd => rw [hs] at hl; obtain ⟨b, cs, e, q, _⟩ := hl; cases q
          | own z n g sd => rw [hs] at hl; obtain ⟨b, cs, q, _⟩ := hl; cases q
          | mp es => rw [hs] at hl; obtain ⟨b, ms, cl, q, _⟩ := hl; cases q
          | lp N s ps asg bd rdy pd => rw [hs] at hl; obtain ⟨b, r, q, _⟩ := hl; cases q
      · have := mem_range''.1 q
        exact absurd ⟨this.1, by omega⟩ hn
  have hmem : ∀ k, (k ∈ fp ∨ (nmR nm k ∧ k - nm < ρ.length)) → k ∈ fp ++ List.range' nm ρ.length := by
    rintro k (q | ⟨q1, q2⟩)
    · exact List.mem_append.2 (.inl q)
    · exact List.mem_append.2 (.inr (mem_range''.2 ⟨q1.1, by have := q1.1; omega⟩))
  have hnfp : ∀ k, k ∈ fp → ¬ nmR nm k := by
    intro k q hn
    have hl := hnm k
    rw [hK k hn] at hl
    cases hs : ν k with
    | none => exact absurd hs (hfp k q)
    | box n hh sd => rw [hs] at hl; obtain ⟨b, cs, e, q, _⟩ := hl; cases q
    | own z n g sd => rw [hs] at hl; obtain ⟨b, cs, q, _⟩ := hl; cases q
    | mp es => rw [hs] at hl; obtain ⟨b, ms, cl, q, _⟩ := hl; cases q
    | lp N s ps asg bd rdy pd => rw [hs] at hl; obtain ⟨b, r, q, _⟩ := hl; cases q
  have hmu : ∀ k k', (k ∈ fp ∨ (nmR nm k ∧ k - nm < ρ.length)) → (k' ∈ fp ∨ (nmR nm k' ∧ k' - nm < ρ.length)) → muN nm ρ k = muN nm ρ k' → k = k' := by
    have h1 : ∀ k, k ∈ fp → muN nm ρ k = k := fun k hk => by unfold muN; rw [nmRb_f (hnfp k hk)]; rfl
    have h2 : ∀ k, nmR nm k → muN nm ρ k = ρ.getD (k - nm) 0 := fun k hk => by unfold muN; rw [nmRb_iff.2 hk]; rfl
    have h3 : ∀ k, nmR nm k → k - nm < ρ.length → nx * 16 ≤ ρ.getD (k - nm) 0 := fun k _ hk2 => hR.new _ (by
      rw [List.getD_eq_getElem?_getD, List.getElem?_eq_getElem hk2]
      exact List.getElem_mem hk2)
    rintro k k' (q | ⟨q1, q2⟩) (q' | ⟨q1', q2'⟩) e
    · rw [h1 k q, h1 k' q'] at e; exact e
    · rw [h1 k q, h2 k' q1'] at e
      have := h3 k' q1' q2'
      have := hlow k q
      omega
    · rw [h2 k q1, h1 k' q'] at e
      have := h3 k q1 q2
      have := hlow k' q'
      omega
    · rw [h2 k q1, h2 k' q1'] at e
      have := hR.nodup _ _ q2 q2' e
      have := q1.1
      have := q1'.1
      omega
  have hgood2 : ∀ k, k ∈ fp ++ List.range' nm ρ.length → κ' k = (fun k => κc (muN nm ρ k)) k := hgood
  refine ⟨v, S1, κ', rfl, hbel, hsub, hnew, hdfn, hkeep, fun k => ?_, fun k k' b l1 l2 e1 e2 => ?_, fun k => ?_, ?_⟩
  · by_cases hn : nmR nm k
    · exact .inr hn
    · left
      show (bif nmRb nm k then (bif Nat.blt (k - nm) ρ.length then κc (muN nm ρ k) else none) else κ k) = _
      rw [nmRb_f hn]
      rfl
  · obtain ⟨g1, g2, _⟩ := hR.names k l1
    obtain ⟨g1', g2', _⟩ := hR.names k' l2
    rw [hgood k (hmem k g1)] at e1
    rw [hgood k' (hmem k' g1')] at e2
    exact hmu k k' g1 g1' (hinj _ _ b g2 g2' e1 e2)
  · by_cases hl : nmw ν wr k = .none
    · rw [hl]; trivial
    · obtain ⟨g1, g2, g3⟩ := hR.names k hl
      have h4 := renB_rd _ _ (g3 _ _ _ _ _ (hnames (muN nm ρ k)))
      rw [← hgood k (hmem k g1)] at h4
      exact refsInB_rd (hR.refsB k) hgood2 h4
  · exact refsIn_rd r hR.refs hgood2 (renV_rd _ _ hv)
theorem PCM.intro {P : Program} {f : FuncId} {fn : Func} {c : Code} {ds : List AV} {nm nx : Nat} {ν : Nat → AB} {fp ρ : List Nat} {r : AV} {wr : List (Nat × AB)} (hf : P.funcs[f]? = some fn) (hname : (fn.name == "runtime.NumGoroutine") = false) (hb : fn.body = some c) (hlen : Nat.ble ds.length fn.ntmps = true)
    (hfp : ∀ k, k ∈ fp → ν k ≠ .none) (hlow : ∀ k, k ∈ fp → k < nx * 16) (h16 : ρ.length ≤ 16) (h : ∀ S0 (w0 : Bs (nx * 16)), AW P S0 w0 fn.ntmps c nx ⟨(sig0 ds).slot, ν⟩ (retKM P fn (nx * 16) nm ν fp ρ r wr)) : PCM P f ds nm ν fp r wr := by
  refine ⟨enters_of hf hname hb, fun w S κ args hP h2 h3 => calls_of_wpIn hf hb ?_⟩
  have h1 := hP.dfn
  have hfk := hP.fp
  have hinj := hP.inj
  have hnm := hP.names
  have hle := ble_iff hlen
  have hsz : (args ++ Array.replicate (fn.ntmps - args.size) undef).size = fn.ntmps := by simp; omega
  have hlk : ∀ k, nx * 16 ≤ k → κ k = none := by
    intro k hk
    cases hq : κ k with
    | none => rfl
    | some q => exact absurd (hlow k (hfk k (by rw [hq]; exact fun q => by cases q))) (Nat.not_lt.2 hk)
  refine wpIn_mono ((h S ⟨w, lentB ν κ, κ, hlk⟩).go none _ w trivial ⟨S, κ, BelX.refl _ _ _, fun _ h => h, fun _ h => .inl h, fun _ _ => rfl, fun _ _ h => h, h1, fun k hk => ?_, hinj, fun t => ?_, fun k => ?_, ⟨[], rfl, List.nodup_nil, fun D hD => by cases hD⟩, hsz⟩) ?_
  · rcases Nat.lt_or_ge k (nx * 16) with q | q
    · exact q
    · exact absurd (hlk k q) hk
  · show Rd S κ w (bif Nat.blt t ds.length then ds.getD t .dead else .v undef) ((args ++ Array.replicate (fn.ntmps - args.size) undef).getD t undef)
    rcases Nat.lt_or_ge t ds.length with q | q
    · rw [blt_t q, arr_l (by omega)]
      exact h3 t q
    · rw [blt_f q, arr_r (by omega)]
      show _ = undef
      by_cases q2 : t - args.size < fn.ntmps - args.size
      · simp [Array.getD_eq_getD_getElem?, q2]
      · simp [Array.getD_eq_getD_getElem?, q2]
  · exact RdB.reO (hnm k) (fun b hl hb _ => .inr ⟨k, hl, hb⟩)
  · rintro e a0 w1 ⟨nx', σ, ⟨he, hR⟩, S1, κc, hr0⟩
    obtain ⟨Ds, d1, d2, d3⟩ := hr0.dfs
    suffices key : ∀ w', RelX S ⟨w, lentB ν κ, κ, hlk⟩ fn.ntmps (fun k => k < nx' * 16) σ { a0 with defers := [] } w' S1 κc → ∃ v, (results fn a0.tmps).run P w' = .ok v w' ∧ PostM w S κ ν nm r wr (.returned v) w' by
      rcases he with rfl | rfl
      · show LeavesInM (fnc none) 0 P fn a0.tmps _ a0.defers .returning w1
        rw [d1]
        exact leaves_marks Ds w1 d2 (fun D hD => (d3 D hD).2) (fun w' h1 h2 h3 h4 h5 h6 => key w' (hr0.unmark d3 h1 h2 h3 h4 h5 h6))
      · show LeavesInM (fnc none) 0 P fn a0.tmps _ a0.defers .returning w1
        rw [d1]
        exact leaves_marks Ds w1 d2 (fun D hD => (d3 D hD).2) (fun w' h1 h2 h3 h4 h5 h6 => key w' (hr0.unmark d3 h1 h2 h3 h4 h5 h6))
    intro w' hr
    obtain ⟨xs, hxs, hle'⟩ := hR.res
    obtain ⟨us, f1, f2, f3⟩ := resL_ok hr hxs
    have hrd : Rd S1 κc w' (resV xs) (resU us) := by
      clear f1
      match us, xs with
      | [], [] => exact ⟨_, rfl, rfl, fun i hi => absurd hi (Nat.not_lt_zero _)⟩
      | [t], [y] => exact f3 0 (by simp)
      | t :: t' :: l, y :: y' :: l' =>
        refine ⟨_, rfl, by simp at f2 ⊢; omega, fun i hi => ?_⟩
        rw [getD_arr]
        exact f3 i hi
      | [], _ :: _ => simp at f2
      | _ :: _, [] => simp at f2
      | [t], y :: y' :: l => simp at f2
      | t :: t' :: l, [y] => simp at f2
    exact ⟨_, run_results f1, postM_of hP hfp hlow h16 hr.below hr.sub hr.new hr.dfn hr.keep hr.kap hr.inj hr.names hR.rest (hle' _ _ _ _ hrd)⟩
theorem PC.intro {P : Program} {f : FuncId} {fn : Func} {c : Code} {ds : List AV} {r : AV} (hf : P.funcs[f]? = some fn) (hname : (fn.name == "runtime.NumGoroutine") = false) (hb : fn.body = some c) (hlen : Nat.ble ds.length fn.ntmps = true)
    (h : ∀ S0 (w0 : Bs 0), AW P S0 w0 fn.ntmps c 0 (sig0 ds) (retK P fn r)) : PC P f ds r := by
  refine ⟨enters_of hf hname hb, fun w S args h1 h2 h3 => calls_of_wpIn hf hb ?_⟩
  have hle := ble_iff hlen
  have hsz : (args ++ Array.replicate (fn.ntmps - args.size) undef).size = fn.ntmps := by simp; omega
  refine wpIn_mono ((h S (bs0 w)).go none _ w trivial ⟨S, fun _ => none, BelX.refl _ _ _, fun _ h => h, fun _ h => .inl h, fun _ _ => rfl, fun _ _ h => h, h1, fun k hk => absurd rfl hk, fun k k' b l1 => absurd rfl l1, fun t => ?_, fun _ => trivial, ⟨[], rfl, List.nodup_nil, fun D hD => by cases hD⟩, hsz⟩) ?_
  · show Rd S _ w (bif Nat.blt t ds.length then ds.getD t .dead else .v undef) ((args ++ Array.replicate (fn.ntmps - args.size) undef).getD t undef)
    rcases Nat.lt_or_ge t ds.length with q | q
    · rw [blt_t q, arr_l (by omega)]
      exact h3 t q
    · rw [blt_f q, arr_r (by omega)]
      show _ = undef
      by_cases q2 : t - args.size < fn.ntmps - args.size
      · simp [Array.getD_eq_getD_getElem?, q2]
      · simp [Array.getD_eq_getD_getElem?, q2]
  · rintro e a0 w1 ⟨nx, σ, ⟨he, y, hy, hle'⟩, S1, κ, hr0⟩
    obtain ⟨Ds, d1, d2, d3⟩ := hr0.dfs
    suffices key : ∀ w', RelX S (bs0 w) fn.ntmps (fun k => k < nx * 16) σ { a0 with defers := [] } w' S1 κ → ∃ v, (results fn a0.tmps).run P w' = .ok v w' ∧ ∃ v' S', Ending.returned v = .returned v' ∧ Below w.heap.size w w' ∧ (∀ x, S x → S' x) ∧ (∀ x, S' x → S x ∨ w.heap.size ≤ x.block) ∧ (∀ x, S' x → x.block < w'.heap.size) ∧ Rd S' (fun _ => none) w' r v' by
      rcases he with rfl | rfl
      · show LeavesInM (fnc none) 0 P fn a0.tmps _ a0.defers .returning w1
        rw [d1]
        exact leaves_marks Ds w1 d2 (fun D hD => (d3 D hD).2) (fun w' h1 h2 h3 h4 h5 h6 => key w' (hr0.unmark d3 h1 h2 h3 h4 h5 h6))
      · show LeavesInM (fnc none) 0 P fn a0.tmps _ a0.defers .returning w1
        rw [d1]
        exact leaves_marks Ds w1 d2 (fun D hD => (d3 D hD).2) (fun w' h1 h2 h3 h4 h5 h6 => key w' (hr0.unmark d3 h1 h2 h3 h4 h5 h6))
    intro w' hr
    unfold retSee at hy
    split at hy
    case h_2 => cases hy
    rename_i xs hxs
    split at hy
    case h_2 => cases hy
    rename_i ys rd wr hs
    cases hy
    obtain ⟨us, f1, f2, f3⟩ := resL_ok hr hxs
    obtain ⟨S2, g1, g2, g3, g4⟩ := seeL_ok see_ok σ.slot xs us _ S1 _ _ _ hr f2 f3 hs
    have hrd : Rd S2 (fun _ => none) w' (resV ys) (resU us) := by
      have hl : ys.length = us.length := by rw [g3, f2]
      clear f1
      match us, ys with
      | [], [] => exact ⟨_, rfl, rfl, fun i hi => absurd hi (Nat.not_lt_zero _)⟩
      | [t], [y] => exact g4 0 (by simp at f2; omega)
      | t :: t' :: l, y :: y' :: l' =>
        refine ⟨_, rfl, by simp at hl ⊢; omega, fun i hi => ?_⟩
        have := g4 i (by rw [← g3]; exact hi)
        rw [getD_arr]
        exact this
      | [], _ :: _ => simp at hl
      | _ :: _, [] => simp at hl
      | [t], y :: y' :: l => simp at hl
      | t :: t' :: l, [y] => simp at hl
    exact ⟨_, run_results f1, _, S2, rfl, g1.below.out (fun _ h => h), g1.sub, (fun x hx => (g1.new x hx).imp id (fun h => h.elim id False.elim)), g1.dfn, hle' _ _ _ _ hrd⟩
end Go.Proofs.Ytaemlmpcclfmdaa
