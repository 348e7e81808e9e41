/- Helpers: calls, closures, lengths, minima. No condition but the hypotheses that each theorem names. -/
import Derived.Test.YtaemlmpcclfmdaaB02
import Derived.Laws.Tables
namespace Go.Proofs.Ytaemlmpcclfmdaa
open Go.RowKit
theorem arr_l {x y : Array Value} {i : Nat} (h : i < x.size) : (x ++ y).getD i undef = x.getD i undef := by simp [Array.getD_eq_getD_getElem?, Array.getElem?_append, h]
theorem arr_r {x y : Array Value} {i : Nat} (h : x.size ≤ i) : (x ++ y).getD i undef = y.getD (i - x.size) undef := by
  have : ¬ i < x.size := by omega
  simp [Array.getD_eq_getD_getElem?, Array.getElem?_append, this]
theorem lis_l {x y : List AV} {i : Nat} (h : i < x.length) : (x ++ y).getD i .dead = x.getD i .dead := by simp [List.getD_eq_getElem?_getD, List.getElem?_append, h]
theorem lis_r {x y : List AV} {i : Nat} (h : x.length ≤ i) : (x ++ y).getD i .dead = y.getD (i - x.length) .dead := by
  have : ¬ i < x.length := by omega
  simp [List.getD_eq_getElem?_getD, List.getElem?_append, this]
def oCall (P : Program) (ν : Nat → AB) (hint : AV) (f : AV) (args : List AV) : Option AO :=
  match f with
  | .clo g n1 h1 n2 h2 => match seeL ν args with
    | some (ys, rd, wr) => bif noref hint then some ⟨[obF (PC P g (lst n1 h1 ++ (ys ++ lst n2 h2)) hint)], rd, hint, wr⟩ else none
    | none => none
  | _ => none
def oMakeFunc (ν : Nat → AB) (f : Fn) (first captured : List AV) : Option AO :=
  match f with
  | .func g => match seeL ν (first ++ captured) with
    | some (ys, rd, wr) => some ⟨[], rd, .clo g first.length (vec (ys.take first.length)) captured.length (vec (ys.drop first.length)), wr⟩
    | none => none
  | _ => none
def oLen (P : Program) (ν : Nat → AB) (t : TypeId) (x : AV) : Option AO :=
  match P.underlying t with
  | some .string => match x with
    | .v (.string s) => some ⟨[], [], .v (.int .i64 (s.size : Nat)), []⟩
    | _ => none
  | some (.slice _) => match x with
    | .v (.slice none 0 0) => some ⟨[], [], .v (.int .i64 (0 : Nat)), []⟩
    | .sl _ n _ => some ⟨[], [], .v (.int .i64 (n : Nat)), []⟩
    | .own k => match ν k with
      | .own _ n _ _ => some ⟨[], [k], .v (.int .i64 (n : Nat)), []⟩
      | _ => none
    | _ => none
  | some (.array n _) => some ⟨[], [], .v (.int .i64 (n : Nat)), []⟩
  | _ => none
def mm2 (mx : Bool) (_ : IntKind) (x y : Int) : Int := bif mx then (if y > x then y else x) else (if y < x then y else x)
def oMM (mx : Bool) : List AV → Option AO
  | [.v (.int k x), .v (.int _ y)] => some ⟨[], [], .v (.int k (mm2 mx k x y)), []⟩
  | [.v (.int k x), .v (.int _ y), .v (.int _ z)] => some ⟨[], [], .v (.int k (mm2 mx k (mm2 mx k x y) z)), []⟩
  | _ => none
section
variable {P : Program} {S0 : Addr → Prop} {mm : Nat} {w0 : Bs mm} {N : Nat} {U U' : Nat → Prop} {σ : ASt} {a : Act} {w w' : World} {S S' : Addr → Prop} {κ κ' : Nat → Option Hdr} {o : Oper} {Q : Exit → Act → World → Prop} {nm : Nat}
/-- behind a call -/
theorem RelX.called (h : RelX S0 w0 N U σ a w S κ) (hb : Below w.heap.size w w') (h1 : ∀ x, S x → S' x) (h2 : ∀ x, S' x → S x ∨ w.heap.size ≤ x.block) (h3 : ∀ x, S' x → x.block < w'.heap.size) : RelX S0 w0 N U σ a w' S' κ := by
  have hc : ∀ x, S x → w'.cell? x = w.cell? x := fun x hx => World.cell?_of_block (w := w) (a := x) (hb.block _ (h.dfn x hx))
  have := h.step (nm := σ.name) (U' := U) (κ' := κ) (.of (hb.mono h.below.size)) h1 (fun x hx => (h2 x hx).imp id (fun q => .inl (Nat.le_trans h.below.size q))) h3 (fun _ _ h => h) h.used hc h.inj (fun k => by
    by_cases hl : σ.name k = .none
    · rw [hl]; trivial
    · refine RdB.keep (h.names k) h1 (fun _ _ h => h) hc (fun b hb' => ?_)
      have hlt := (RdB.lt (h.names k) hl hb').1
      exact ⟨hb.block _ hlt, fun o ho => (h2 _ ho).elim id (fun q => absurd hlt (Nat.not_lt.2 q))⟩) (fun D ds hD => (hb.block D (Array.getElem?_eq_some_iff.1 hD).1).trans hD)
  exact this
theorem sCall {call : Call} {fop : Operand} (ho : o.op = .call call) (hcal : call.callee = .value fop) (hd : ∀ t, o.dst = some t → t < N) (h : RelX S0 w0 N U σ a w S κ) {hint F : AV} {xs : List AV} (hf : Rd S κ w F (a.eval fop)) (hl : xs.length = call.args.size) (hx : ∀ i, i < xs.length → Rd S κ w (xs.getD i .dead) ((call.args.map a.eval).getD i undef))
    {ao : AO} (e : oCall P σ.name hint F xs = some ao) (hp : allP ao.pre) : o.wp P a w (Aft S0 w0 N U σ nm o.dst ao.val ao.wr) Q := by
  unfold oCall at e
  split at e
  case h_2 => cases e
  rename_i g n1 h1 n2 h2
  split at e
  case h_2 => cases e
  rename_i ys rd wr hs
  obtain ⟨hb, q⟩ := bif_some e
  cases q
  obtain ⟨fs, cs, hfv, e1, e2, r1, r2⟩ := hf
  obtain ⟨S1, g1, g2, g3, g4⟩ := seeL_ok see_ok σ.slot xs (call.args.map a.eval).toList _ S _ _ _ h (by simp [hl]) (fun i hi => by
    have := hx i hi
    simpa [List.getD_eq_getElem?_getD, Array.getD_eq_getD_getElem?] using this) hs
  have hpc : PC P g (lst n1 h1 ++ (ys ++ lst n2 h2)) hint := hp
  have hrun : (execOp a.eval o).run P w = .ok (.enter g (fs ++ call.args.map a.eval ++ cs)) w := by
    unfold execOp
    simp [ho, resolve, hcal, hfv, Deferred.ofValue, invoke, hpc.1]
  have hS := fun {x u} => Rd.mono (S := S) (S' := S1) (w := w) (w' := w) g2 (fun _ _ => rfl) x (κ := fun _ => none) (κ' := fun _ => none) (fun _ _ h => h) u
  have hcalls := hpc.2 w S1 (fs ++ call.args.map a.eval ++ cs) g1.dfn (by simp [lst_len, g3, hl, e1, e2]) (fun i hi => by
    have hi' : i < n1 + (xs.length + n2) := by simpa [lst_len, g3] using hi
    have hA : (call.args.map a.eval).size = xs.length := by simp [hl]
    by_cases c1 : i < n1
    · rw [lis_l (by rw [lst_len]; exact c1), lst_getD c1, arr_l (by simp; omega), arr_l (by omega)]
      exact hS (r1 i c1)
    · rw [lis_r (by rw [lst_len]; omega), lst_len]
      by_cases c2 : i < n1 + xs.length
      · have := g4 (i - n1) (by omega)
        rw [lis_l (by omega), arr_l (by rw [Array.size_append]; omega), arr_r (by omega), e1]
        simpa [List.getD_eq_getElem?_getD, Array.getD_eq_getD_getElem?] using this
      · rw [lis_r (by omega), g3, lst_getD (by omega), arr_r (by rw [Array.size_append]; omega), Array.size_append, hA, e1, show i - (n1 + xs.length) = i - n1 - xs.length from by omega]
        exact hS (r2 (i - n1 - xs.length) (by omega)))
  unfold Oper.wp
  rw [hrun]
  refine hcalls.mono ?_
  rintro e w1 ⟨v, S2, rfl, k1, k2, k3, k4, k5⟩
  exact ⟨S2, κ, ((g1.called k1 k2 k3 k4).more fun _ h => .inl h).dst hd (none_mono k5)⟩
/-- behind a call to which names were lent -/
theorem RelX.calledM (h : RelX S0 w0 N U σ a w S κ) (hK : ∀ k, nmR nm k → κ k = none) {fp : List Nat} {wr : List (Nat × AB)} (hwr : ∀ p, p ∈ wr → p.1 ∈ fp ∨ nmR nm p.1) (hb : BelX (lentB (restr fp σ.name) (kres fp κ)) w.heap.size w w') (h1 : ∀ x, S x → S' x) (h2 : ∀ x, S' x → S x ∨ w.heap.size ≤ x.block ∨ lentB (restr fp σ.name) (kres fp κ) x.block) (h3 : ∀ x, S' x → x.block < w'.heap.size)
    (h4 : ∀ x, S x → w'.cell? x = w.cell? x) (h5 : ∀ k, κ' k = kres fp κ k ∨ nmR nm k) (h6 : injB (nmw (restr fp σ.name) wr) κ') (h7 : ∀ k, RdB S' κ' w' (fun b => w.heap.size ≤ b ∨ lentB (restr fp σ.name) (kres fp κ) b) (nmw (restr fp σ.name) wr k) (κ' k)) :
    ∃ κ2, RelX S0 w0 N (fun k => U k ∨ nmR nm k) ⟨σ.slot, nmw σ.name wr⟩ a w' S' κ2 ∧ (∀ k q, κ' k = some q → κ2 k = some q) ∧ ∀ k q, κ k = some q → κ2 k = some q := by
  have hlent : ∀ b, lentB (restr fp σ.name) (kres fp κ) b → ∃ k, k ∈ fp ∧ σ.name k ≠ .none ∧ hblk (κ k) = some b := by
    rintro b ⟨k, g1, g2⟩
    by_cases hk : k ∈ fp
    · rw [restr_in hk] at g1
      rw [kres_in hk] at g2
      exact ⟨k, hk, g1, g2⟩
    · exact absurd (restr_out hk) g1
  have hO : ∀ b, (w.heap.size ≤ b ∨ lentB (restr fp σ.name) (kres fp κ) b) → w0.O b := by
    rintro b (g | g)
    · exact .inl (Nat.le_trans h.below.size g)
    · obtain ⟨k, _, g1, g2⟩ := hlent b g
      exact (RdB.lt (h.names k) g1 g2).2
  have hdead : ∀ k, nmR nm k → σ.name k = .none := by
    intro k hk
    have hn := h.names k
    rw [hK k hk] at hn
    cases hs : σ.name k with
    | none => rfl
    | box n hh sd => rw [hs] at hn; obtain ⟨b, cs, e, q, _⟩ := hn; cases q
    | own z n g sd => rw [hs] at hn; obtain ⟨b, cs, q, _⟩ := hn; cases q
    | mp es => rw [hs] at hn; obtain ⟨b, ms, cl, q, _⟩ := hn; cases q
    | lp N s ps asg bd rdy pd => rw [hs] at hn; obtain ⟨b, r, q, _⟩ := hn; cases q
  let κ2 : Nat → Option Hdr := fun k => bif nmRb nm k then κ' k else κ k
  have hR : ∀ k, nmR nm k → κ2 k = κ' k := fun k hk => by show (bif nmRb nm k then κ' k else κ k) = _; rw [nmRb_iff.2 hk]; rfl
  have hN : ∀ k, ¬ nmR nm k → κ2 k = κ k := fun k hk => by show (bif nmRb nm k then κ' k else κ k) = _; rw [nmRb_f hk]; rfl
  have hup : ∀ k q, κ' k = some q → κ2 k = some q := by
    intro k q hq
    by_cases hk : nmR nm k
    · rw [hR k hk]; exact hq
    · rw [hN k hk]
      rcases h5 k with g | g
      · rw [hq] at g
        by_cases hf : k ∈ fp
        · rw [kres_in hf] at g; exact g.symm
        · rw [kres_out hf] at g; cases g
      · exact absurd g hk
  have hold : ∀ k q, κ k = some q → κ2 k = some q := by
    intro k q hq
    rw [hN k (fun g => by rw [hK k g] at hq; cases hq)]
    exact hq
  have hins : ∀ k, (k ∈ fp ∨ nmR nm k) → nmw σ.name wr k = nmw (restr fp σ.name) wr k := by
    intro k hk
    refine nmw_in _ _ _ _ (.inl ?_)
    by_cases hf : k ∈ fp
    · exact (restr_in hf).symm
    · rw [restr_out hf]
      exact hdead k (hk.resolve_left hf)
  have hink : ∀ k, (k ∈ fp ∨ nmR nm k) → σ.name k ≠ .none ∨ nmR nm k ∨ True → κ2 k = κ' k ∨ nmR nm k ∨ κ2 k = κ k := by
    intro k _ _
    by_cases hk : nmR nm k
    · exact .inr (.inl hk)
    · exact .inr (.inr (hN k hk))
  have hkin : ∀ k, (k ∈ fp ∨ nmR nm k) → κ2 k = κ' k := by
    intro k hk
    by_cases hr : nmR nm k
    · exact hR k hr
    · rw [hN k hr]
      rcases h5 k with g | g
      · rw [g, kres_in (hk.resolve_right hr)]
      · exact absurd g hr
  have hout : ∀ k, ¬ (k ∈ fp ∨ nmR nm k) → nmw σ.name wr k = σ.name k ∧ κ2 k = κ k := by
    intro k hk
    refine ⟨nmw_out _ _ _ (fun g => ?_), hN k (fun g => hk (.inr g))⟩
    obtain ⟨p, hp, rfl⟩ := List.mem_map.1 g
    exact hk (hwr p hp)
  have hblkin : ∀ k b, (k ∈ fp ∨ nmR nm k) → nmw σ.name wr k ≠ .none → hblk (κ2 k) = some b → ∀ k', ¬ (k' ∈ fp ∨ nmR nm k') → σ.name k' ≠ .none → hblk (κ k') = some b → False := by
    intro k b hk hl hb' k' hk' hl' hb2
    rw [hins k hk] at hl
    rw [hkin k hk] at hb'
    have hlt := (RdB.lt (h7 k) hl hb').2
    have hlt2 := (RdB.lt (h.names k') hl' hb2).1
    rcases hlt with g | g
    · omega
    · obtain ⟨j, j1, j2, j3⟩ := hlent b g
      have := h.inj j k' b j2 hl' j3 hb2
      exact hk' (.inl (this ▸ j1))
  refine ⟨κ2, h.step (κ' := κ2) ?_ h1 ?_ h3 hold ?_ h4 ?_ ?_ (fun D ds hD => (hb.block D (Array.getElem?_eq_some_iff.1 hD).1 (fun g => by
    obtain ⟨k, _, g1, g2⟩ := hlent D g
    exact RdB.not_def (h.names k) g1 g2 ds hD)).trans hD), hup, hold⟩
  · refine ⟨hb.os, hb.tape, hb.output, hb.size, fun i hi hX => hb.block i (Nat.lt_of_lt_of_le hi h.below.size) (fun g => ?_)⟩
    rcases hO i (.inr g) with q | q
    · omega
    · exact hX q
  · intro x hx
    exact (h2 x hx).imp id (hO x.block)
  · intro k hk
    by_cases hr : nmR nm k
    · exact .inr hr
    · rw [hN k hr] at hk
      exact .inl (h.used k hk)
  · intro k k' b l1 l2 e1 e2
    by_cases c1 : k ∈ fp ∨ nmR nm k
    · by_cases c2 : k' ∈ fp ∨ nmR nm k'
      · rw [hins k c1] at l1
        rw [hins k' c2] at l2
        rw [hkin k c1] at e1
        rw [hkin k' c2] at e2
        exact h6 k k' b l1 l2 e1 e2
      · obtain ⟨q1, q2⟩ := hout k' c2
        rw [q1] at l2
        rw [q2] at e2
        exact (hblkin k b c1 l1 e1 k' c2 l2 e2).elim
    · obtain ⟨q1, q2⟩ := hout k c1
      rw [q1] at l1
      rw [q2] at e1
      by_cases c2 : k' ∈ fp ∨ nmR nm k'
      · exact (hblkin k' b c2 l2 e2 k c1 l1 e1).elim
      · obtain ⟨q3, q4⟩ := hout k' c2
        rw [q3] at l2
        rw [q4] at e2
        exact h.inj k k' b l1 l2 e1 e2
  · intro k
    by_cases c : k ∈ fp ∨ nmR nm k
    · rw [hins k c, hkin k c]
      exact RdB.weak (h7 k) hup (fun b _ g => hO b g)
    · obtain ⟨q1, q2⟩ := hout k c
      rw [q1, q2]
      by_cases hl : σ.name k = .none
      · rw [hl]; trivial
      · have hnl : ∀ b, hblk (κ k) = some b → ¬ lentB (restr fp σ.name) (kres fp κ) b := by
          intro b hb' g
          obtain ⟨j, j1, j2, j3⟩ := hlent b g
          have := h.inj j k b j2 hl j3 hb'
          exact c (.inl (this ▸ j1))
        refine RdB.keep (h.names k) h1 hold h4 (fun b hb' => ?_)
        have hlt := (RdB.lt (h.names k) hl hb').1
        exact ⟨hb.block b hlt (hnl b hb'), fun o ho => (h2 _ ho).elim id (fun q => q.elim (fun q => absurd hlt (Nat.not_lt.2 q)) (fun q => absurd q (hnl b hb')))⟩
def cloParts : AV → Option (FuncId × List AV × List AV)
  | .clo g n1 h1 n2 h2 => some (g, lst n1 h1, lst n2 h2)
  | .cloM g n1 h1 n2 h2 => some (g, lst n1 h1, lst n2 h2)
  | _ => none
def oCallM (P : Program) (nm : Nat) (ν : Nat → AB) (fp : List Nat) (wr : List (Nat × AB)) (r : AV) (f : AV) (args : List AV) : Option AO :=
  match cloParts f with
  | some (g, l1, l2) => bif refsIn fp f && args.all (refsIn fp) && fp.all (fun k => refsInB fp (ν k)) && wr.all (fun p => has fp p.1 || nmRb nm p.1) then some ⟨[obF (PCM P g (l1 ++ (args ++ l2)) nm (restr fp ν) fp r wr)], fp, r, wr⟩ else none
  | none => none
theorem list_arr {l : List Value} {i : Nat} : l.toArray.getD i undef = l.getD i undef := by simp [Array.getD_eq_getD_getElem?, List.getD_eq_getElem?_getD]
theorem cloParts_rd {f : AV} {u : Value} {g : FuncId} {l1 l2 : List AV} (h : cloParts f = some (g, l1, l2)) (hf : Rd S κ w f u) : ∃ fs cs : Array Value, u = .func (.func g) fs cs ∧ fs.size = l1.length ∧ cs.size = l2.length ∧ (∀ i, i < l1.length → Rd S κ w (l1.getD i .dead) (fs.getD i undef)) ∧ ∀ i, i < l2.length → Rd S κ w (l2.getD i .dead) (cs.getD i undef) := by
  cases f with
  | clo f n1 h1 n2 h2 =>
    cases h
    obtain ⟨fs, cs, e, e1, e2, g1, g2⟩ := hf
    exact ⟨fs, cs, e, by rw [lst_len, e1], by rw [lst_len, e2], fun i hi => by rw [lst_len] at hi; rw [lst_getD hi]; exact none_mono (g1 i hi), fun i hi => by rw [lst_len] at hi; rw [lst_getD hi]; exact none_mono (g2 i hi)⟩
  | cloM f n1 h1 n2 h2 =>
    cases h
    obtain ⟨fs, cs, e, e1, e2, g1, g2⟩ := hf
    exact ⟨fs, cs, e, by rw [lst_len, e1], by rw [lst_len, e2], fun i hi => by rw [lst_len] at hi; rw [lst_getD hi]; exact g1 i hi, fun i hi => by rw [lst_len] at hi; rw [lst_getD hi]; exact g2 i hi⟩
  | _ => cases h
/-- what is lent, as the callee knows it -/
theorem RelX.preM (h : RelX S0 w0 N U σ a w S κ) (hK : ∀ k, nmR nm k → κ k = none) {fp : List Nat} (b3 : fp.all (fun k => refsInB fp (σ.name k)) = true) : PreM w S (kres fp κ) (restr fp σ.name) nm fp := by
  have hkk : ∀ k, k ∈ fp → kres fp κ k = κ k := fun k hk => kres_in hk
  refine ⟨h.dfn, fun k hk => ?_, fun k k' b g1 g2 g3 g4 => ?_, fun k => ?_, fun k hk => ?_⟩
  · by_cases hf : k ∈ fp
    · exact hf
    · exact absurd (kres_out hf) hk
  · by_cases c1 : k ∈ fp
    · by_cases c2 : k' ∈ fp
      · rw [restr_in c1] at g1
        rw [restr_in c2] at g2
        rw [kres_in c1] at g3
        rw [kres_in c2] at g4
        exact h.inj k k' b g1 g2 g3 g4
      · exact absurd (restr_out c2) g2
    · exact absurd (restr_out c1) g1
  · by_cases c1 : k ∈ fp
    · rw [restr_in c1, kres_in c1]
      exact RdB.weak (refsInB_rd (List.all_eq_true.1 b3 k c1) hkk (h.names k)) (fun _ _ h => h) (fun _ _ _ => trivial)
    · rw [restr_out c1]; trivial
  · by_cases c1 : k ∈ fp
    · rw [kres_in c1]; exact hK k hk
    · exact kres_out c1
/-- a call of a function whose arguments' names are lent -/
theorem RelX.callPCM (h : RelX S0 w0 N U σ a w S κ) (hK : ∀ k, nmR nm k → κ k = none) {fp : List Nat} {wr : List (Nat × AB)} {r : AV} {g : FuncId} {ds : List AV} (hpc : PCM P g ds nm (restr fp σ.name) fp r wr) (b3 : fp.all (fun k => refsInB fp (σ.name k)) = true) (b4 : wr.all (fun p => has fp p.1 || nmRb nm p.1) = true)
    {args : Array Value} (hl : args.size = ds.length) (hx : ∀ i, i < ds.length → Rd S (kres fp κ) w (ds.getD i .dead) (args.getD i undef)) : Calls P g args w fun e w' => ∃ v S' κ2, e = .returned v ∧ RelX S0 w0 N (fun k => U k ∨ nmR nm k) ⟨σ.slot, nmw σ.name wr⟩ a w' S' κ2 ∧ (∀ k q, κ k = some q → κ2 k = some q) ∧ Rd S' κ2 w' r v := by
  refine (hpc.2 w S (kres fp κ) args (h.preM hK b3) hl hx).mono ?_
  rintro e w1 ⟨v, S2, κ1, rfl, k1, k2, k3, k4, k5, k6, k7, k8, k9⟩
  obtain ⟨κ2, q1, q2, q3⟩ := h.calledM hK (fun p hp => by
    have := List.all_eq_true.1 b4 p hp
    rw [Bool.or_eq_true] at this
    exact this.imp has_iff.1 nmRb_iff.1) k1 k2 k3 k4 k5 k6 k7 k8
  exact ⟨v, S2, κ2, rfl, q1, q3, Rd.mono (fun _ h => h) (fun _ _ => rfl) _ q2 _ k9⟩
theorem sCallM {call : Call} {fop : Operand} (ho : o.op = .call call) (hcal : call.callee = .value fop) (hd : ∀ t, o.dst = some t → t < N) (h : RelX S0 w0 N U σ a w S κ) (hK : ∀ k, nmR nm k → κ k = none) {fp : List Nat} {wr : List (Nat × AB)} {r F : AV} {xs : List AV} (hf : Rd S κ w F (a.eval fop)) (hl : xs.length = call.args.size) (hx : ∀ i, i < xs.length → Rd S κ w (xs.getD i .dead) ((call.args.map a.eval).getD i undef))
    {ao : AO} (e : oCallM P nm σ.name fp wr r F xs = some ao) (hp : allP ao.pre) : o.wp P a w (Aft S0 w0 N U σ nm o.dst ao.val ao.wr) Q := by
  unfold oCallM at e
  split at e
  case h_2 => cases e
  rename_i g l1 l2 hcp
  obtain ⟨hb, q⟩ := bif_some e
  cases q
  simp only [Bool.and_eq_true] at hb
  obtain ⟨⟨⟨b1, b2⟩, b3⟩, b4⟩ := hb
  have hkk : ∀ k, k ∈ fp → kres fp κ k = κ k := fun k hk => kres_in hk
  have hxs : ∀ i, i < xs.length → Rd S (kres fp κ) w (xs.getD i .dead) ((call.args.map a.eval).getD i undef) := by
    intro i hi
    refine refsIn_rd _ ?_ hkk (hx i hi)
    have := List.all_eq_true.1 b2 xs[i] (List.getElem_mem hi)
    simpa [List.getD_eq_getElem?_getD, hi] using this
  obtain ⟨fs, cs, hfv, e1, e2, r1, r2⟩ := cloParts_rd hcp (refsIn_rd F b1 hkk hf)
  have hpc : PCM P g (l1 ++ (xs ++ l2)) nm (restr fp σ.name) fp r wr := hp
  have hrun : (execOp a.eval o).run P w = .ok (.enter g (fs ++ call.args.map a.eval ++ cs)) w := by
    unfold execOp
    simp [ho, resolve, hcal, hfv, Deferred.ofValue, invoke, hpc.1]
  have hcalls := h.callPCM hK hpc b3 b4 (args := fs ++ call.args.map a.eval ++ cs) (by simp [hl, e1, e2]) (fun i hi => by
    have hi' : i < l1.length + (xs.length + l2.length) := by simpa using hi
    have hA : (call.args.map a.eval).size = xs.length := by simp [hl]
    by_cases c1 : i < l1.length
    · rw [lis_l c1, arr_l (by rw [Array.size_append]; omega), arr_l (by omega)]
      exact r1 i c1
    · rw [lis_r (by omega)]
      by_cases c2 : i < l1.length + xs.length
      · rw [lis_l (by omega), arr_l (by rw [Array.size_append]; omega), arr_r (by omega), e1]
        exact hxs (i - l1.length) (by omega)
      · rw [lis_r (by omega), arr_r (by rw [Array.size_append]; omega), Array.size_append, hA, e1, show i - (l1.length + xs.length) = i - l1.length - xs.length from by omega]
        exact r2 (i - l1.length - xs.length) (by omega))
  unfold Oper.wp
  rw [hrun]
  refine hcalls.mono ?_
  rintro e w1 ⟨v, S2, κ2, rfl, q1, _, q2⟩
  exact ⟨S2, κ2, q1.dst hd q2⟩
/-- a call of yield -/
def oYield (P : Program) (nm : Nat) (ν : Nat → AB) (fp : List Nat) (wr : List (Nat × AB)) (r : AV) (k : Nat) (args : List AV) : Option AO :=
  bif has fp k && args.all (refsIn fp) && fp.all (fun k => refsInB fp (ν k)) && wr.all (fun p => has fp p.1 || nmRb nm p.1) then some ⟨[obF (PCY P k args nm (restr fp ν) fp r wr)], fp, r, wr⟩ else none
def oMakeFuncM (f : Fn) (first captured : List AV) : Option AO :=
  match f with
  | .func g => some ⟨[], [], bif first.all noref && captured.all noref then .clo g first.length (vec first) captured.length (vec captured) else .cloM g first.length (vec first) captured.length (vec captured), []⟩
  | _ => none
theorem sMakeFuncM {fn : Fn} {fi ca : Array Operand} (ho : o.op = .makeFunc fn fi ca) (hd : ∀ t, o.dst = some t → t < N) (h : RelX S0 w0 N U σ a w S κ) {xs ys : List AV} (hl1 : xs.length = fi.size) (hl2 : ys.length = ca.size)
    (hx : ∀ i, i < xs.length → Rd S κ w (xs.getD i .dead) ((fi.map a.eval).getD i undef)) (hy : ∀ i, i < ys.length → Rd S κ w (ys.getD i .dead) ((ca.map a.eval).getD i undef)) {ao : AO} (e : oMakeFuncM fn xs ys = some ao) : o.wp P a w (Aft S0 w0 N U σ nm o.dst ao.val ao.wr) Q := by
  unfold oMakeFuncM at e
  split at e
  case h_2 => cases e
  rename_i g
  cases e
  have hrun : (execOp a.eval o).run P w = .ok (.value (.func (.func g) (fi.map a.eval) (ca.map a.eval))) w := by
    unfold execOp
    simp [ho, Instr.makeFunc]
  refine goes_pure hd h hrun ?_
  cases hb : (xs.all noref && ys.all noref) with
  | false => exact ⟨_, _, rfl, by simp [hl1], by simp [hl2], hx, hy⟩
  | true =>
    rw [Bool.and_eq_true] at hb
    refine ⟨_, _, rfl, by simp [hl1], by simp [hl2], fun i hi => ?_, fun i hi => ?_⟩
    · have h1 := List.all_eq_true.1 hb.1 xs[i] (List.getElem_mem hi)
      exact noref_rd _ (by simpa [vec, List.getD_eq_getElem?_getD, hi] using h1) (hx i hi)
    · have h1 := List.all_eq_true.1 hb.2 ys[i] (List.getElem_mem hi)
      exact noref_rd _ (by simpa [vec, List.getD_eq_getElem?_getD, hi] using h1) (hy i hi)
theorem sMakeFunc {fn : Fn} {fi ca : Array Operand} (ho : o.op = .makeFunc fn fi ca) (hd : ∀ t, o.dst = some t → t < N) (h : RelX S0 w0 N U σ a w S κ) {xs ys : List AV} (hl1 : xs.length = fi.size) (hl2 : ys.length = ca.size)
    (hx : ∀ i, i < xs.length → Rd S κ w (xs.getD i .dead) ((fi.map a.eval).getD i undef)) (hy : ∀ i, i < ys.length → Rd S κ w (ys.getD i .dead) ((ca.map a.eval).getD i undef)) {ao : AO} (e : oMakeFunc σ.name fn xs ys = some ao) : o.wp P a w (Aft S0 w0 N U σ nm o.dst ao.val ao.wr) Q := by
  unfold oMakeFunc at e
  split at e
  case h_2 => cases e
  rename_i g
  split at e
  case h_2 => cases e
  rename_i zs rd wr hs
  cases e
  obtain ⟨S1, g1, g2, g3, g4⟩ := seeL_ok see_ok σ.slot (xs ++ ys) ((fi.map a.eval).toList ++ (ca.map a.eval).toList) _ S _ _ _ h (by simp [hl1, hl2]) (fun i hi => by
    have hi' : i < xs.length + ys.length := by simpa using hi
    by_cases c : i < xs.length
    · have c2 : i < fi.size := by omega
      have := hx i c
      simpa [List.getD_eq_getElem?_getD, Array.getD_eq_getD_getElem?, List.getElem?_append, c, c2] using this
    · have c2 : ¬ i < fi.size := by omega
      have := hy (i - xs.length) (by omega)
      simpa [List.getD_eq_getElem?_getD, Array.getD_eq_getD_getElem?, List.getElem?_append, c, c2, hl1] using this) hs
  refine goes_value hd (u := .func (.func g) (fi.map a.eval) (ca.map a.eval)) ?_ (g1.more fun _ h => .inl h) ?_
  · unfold execOp
    simp [ho, Instr.makeFunc]
  · refine ⟨_, _, rfl, by simp [hl1], by simp [hl2], fun i hi => ?_, fun i hi => ?_⟩
    · have := g4 i (by simp; omega)
      have c2 : i < fi.size := by omega
      rw [show vec (zs.take xs.length) i = zs.getD i .dead from by simp [vec, List.getD_eq_getElem?_getD, hi]]
      simpa [List.getD_eq_getElem?_getD, Array.getD_eq_getD_getElem?, List.getElem?_append, c2] using this
    · have := g4 (xs.length + i) (by simp; omega)
      have c2 : ¬ xs.length + i < fi.size := by omega
      have c3 : xs.length + i - fi.size = i := by omega
      rw [show vec (zs.drop xs.length) i = zs.getD (xs.length + i) .dead from by simp [vec, List.getD_eq_getElem?_getD]]
      simpa [List.getD_eq_getElem?_getD, Array.getD_eq_getD_getElem?, List.getElem?_append, c2, c3] using this
theorem sLen {t : TypeId} {x : Operand} {call : Call} (ho : o.op = .call call) (hcal : call.callee = .builtin .len) (hargs : call.args = #[x]) (hty : call.argTypes = #[t]) (hd : ∀ t, o.dst = some t → t < N) (h : RelX S0 w0 N U σ a w S κ) {X : AV} (hx : Rd S κ w X (a.eval x)) {ao : AO} (e : oLen P σ.name t X = some ao) : o.wp P a w (Aft S0 w0 N U σ nm o.dst ao.val ao.wr) Q := by
  have hexec : ∀ r, (Builtin.len_ #[t] o.type #[a.eval x]).run P w = .ok r w → (execOp a.eval o).run P w = .ok (.value r) w := by
    intro r hr
    unfold execOp
    simp [ho, resolve, hcal, hargs, hty, invoke, builtin, hr]
  unfold oLen at e
  split at e
  · rename_i hu
    split at e
    case h_2 => cases e
    rename_i s
    cases e
    have hx' : a.eval x = .string s := hx
    exact goes_v hd h (hexec _ (by simp [Builtin.len_, run_underlying hu, hx', goInt]))
  · rename_i el hu
    split at e
    · cases e
      have hx' : a.eval x = .slice none 0 0 := hx
      exact goes_v hd h (hexec _ (by simp [Builtin.len_, run_underlying hu, hx', goInt]))
    · rename_i z n g
      cases e
      obtain ⟨ad, c, hx', _⟩ := hx
      exact goes_v hd h (hexec _ (by simp [Builtin.len_, run_underlying hu, hx', goInt]))
    · rename_i k
      split at e
      case h_2 => cases e
      rename_i z n g sd hk
      cases e
      obtain ⟨ad, n', c, h1, hx'⟩ := hx
      have hn := h.names k
      rw [hk] at hn
      obtain ⟨ad', c2, h3, _⟩ := hn
      rw [h1] at h3
      cases h3
      exact goes_v hd h (hexec _ (by simp [Builtin.len_, run_underlying hu, hx', goInt]))
    · cases e
  · rename_i n el hu
    cases e
    exact goes_v hd h (hexec _ (by cases hxv : a.eval x <;> simp [Builtin.len_, run_underlying hu, goInt]))
  · cases e
theorem sMM {mx : Bool} {call : Call} (ho : o.op = .call call) (hcal : call.callee = .builtin (bif mx then .max else .min)) (hd : ∀ t, o.dst = some t → t < N) (h : RelX S0 w0 N U σ a w S κ) {xs : List AV} (hl : xs.length = call.args.size) (hx : ∀ i, i < xs.length → Rd S κ w (xs.getD i .dead) ((call.args.map a.eval).getD i undef)) {ao : AO} (e : oMM mx xs = some ao) :
    o.wp P a w (Aft S0 w0 N U σ nm o.dst ao.val ao.wr) Q := by
  unfold oMM at e
  split at e
  · rename_i k x k2 y
    cases e
    have e0 : (call.args.map a.eval).getD 0 undef = .int k x := hx 0 (by simp)
    have e1 : (call.args.map a.eval).getD 1 undef = .int k2 y := hx 1 (by simp)
    have el : call.args.map a.eval = #[.int k x, .int k2 y] := by
      have hs : (call.args.map a.eval).size = 2 := by simp [← hl]
      apply Array.ext
      · simpa using hs
      · intro i h1 h2
        simp at h2
        rcases i with _ | _ | i
        · have := e0; simp [Array.getD_eq_getD_getElem?, Array.getElem?_eq_getElem (show 0 < call.args.size by simp [← hl])] at this; simpa using this
        · have := e1; simp [Array.getD_eq_getD_getElem?, Array.getElem?_eq_getElem (show 1 < call.args.size by simp [← hl])] at this; simpa using this
        · omega
    refine goes_v hd h ?_
    unfold execOp
    cases mx <;> simp [ho, resolve, hcal, el, invoke, builtin, Builtin.min_, Builtin.min2, Builtin.max_, Builtin.max2, mm2]
  · rename_i k x k2 y k3 z
    cases e
    have e0 : (call.args.map a.eval).getD 0 undef = .int k x := hx 0 (by simp)
    have e1 : (call.args.map a.eval).getD 1 undef = .int k2 y := hx 1 (by simp)
    have e2 : (call.args.map a.eval).getD 2 undef = .int k3 z := hx 2 (by simp)
    have el : call.args.map a.eval = #[.int k x, .int k2 y, .int k3 z] := by
      have hs : (call.args.map a.eval).size = 3 := by simp [← hl]
      apply Array.ext
      · simpa using hs
      · intro i h1 h2
        simp at h2
        rcases i with _ | _ | _ | i
        · have := e0; simp [Array.getD_eq_getD_getElem?, Array.getElem?_eq_getElem (show 0 < call.args.size by simp [← hl])] at this; simpa using this
        · have := e1; simp [Array.getD_eq_getD_getElem?, Array.getElem?_eq_getElem (show 1 < call.args.size by simp [← hl])] at this; simpa using this
        · have := e2; simp [Array.getD_eq_getD_getElem?, Array.getElem?_eq_getElem (show 2 < call.args.size by simp [← hl])] at this; simpa using this
        · omega
    refine goes_v hd h ?_
    unfold execOp
    cases mx <;> simp [ho, resolve, hcal, el, invoke, builtin, Builtin.min_, Builtin.min2, Builtin.max_, Builtin.max2, mm2]
  · cases e
end
end Go.Proofs.Ytaemlmpcclfmdaa
namespace Go.Proofs.Ytaemlmpcclfmdaa
open Go.RowKit
def fillAV (place : Nat → Option (Nat × Nat)) (n : Nat) (h : Nat → AV) : List (Nat × AV) → Option (Nat → AV)
  | [] => some h
  | (i, x) :: l => match place i, cellsAV x with
    | some (off, size), some (s, hv) => bif Nat.beq s size && Nat.ble (off + s) n then fillAV place n (splice h off s hv) l else none
    | _, _ => none
def zeroH (z : Array Value) : Nat → AV := fun j => .v (z.getD (j % z.size) undef)
def oBuild (P : Program) (t : TypeId) (parts : List (Nat × AV)) : Option AO :=
  match P.info? t, P.underlying t with
  | some it, some (.array _ e) =>
    match it.zero, P.info? e with
    | some z, some ie => bif allOne z.cells then match fillAV (fun i => some (i * ie.size, ie.size)) z.cells.size (fun j => .v (z.cells.getD j undef)) parts with
      | some h => some ⟨[], [], .agg z.cells.size (vec (lst z.cells.size h)), []⟩
      | none => none
      else none
    | _, _ => none
  | some it, some (.struct fields) =>
    match it.zero, fields.toList.mapM (fun f => (P.info? f.type).map fun i => (f.offset, i.size)) with
    | some z, some places => bif allOne z.cells then match fillAV (places.toArray[·]?) z.cells.size (fun j => .v (z.cells.getD j undef)) parts with
      | some h => some ⟨[], [], .agg z.cells.size (vec (lst z.cells.size h)), []⟩
      | none => none
      else none
    | _, _ => none
  | _, _ => none
def oBuildSlice (P : Program) (ν : Nat → AB) (nm : Nat) (t : TypeId) (len : Nat) (is : List Nat) (xs : List AV) : Option AO :=
  match P.underlying t with
  | some (.slice e) => match P.info? e with
    | some i => match i.zero with
      | some z => bif allOne z.cells && Nat.blt 0 i.size && Nat.beq z.cells.size i.size && Nat.ble (len * i.size) 16777216 then
        match seeL ν xs with
        | some (ys, rd, wr) => match fillAV (fun j => some (j * i.size, i.size)) (len * i.size) (zeroH z.cells) (is.zip ys) with
          | some h => bif allN (len * i.size) (fun j => noref (h j)) then some ⟨[], rd, .own nm, wr ++ [(nm, .own i.size len (fun k j => vec (lst (len * i.size) h) (k * i.size + j)) false)]⟩ else none
          | none => none
        | none => none
        else none
      | none => none
    | none => none
  | _ => none
def oMakeSlice (P : Program) (nm : Nat) (t : TypeId) (l c : AV) : Option AO :=
  match l, c with
  | .v (.int _ m), .v (.int _ n) => match P.underlying t with
    | some (.slice e) => match P.info? e with
      | some i => match i.zero with
        | some z => bif allOne z.cells && Nat.blt 0 i.size && Nat.beq z.cells.size i.size && Nat.ble i.bytes 4096 then some ⟨[0 ≤ m, m ≤ n, n ≤ 1000000000], [], .own nm, [(nm, .own i.size m.toNat (fun _ j => .v (z.cells.getD j undef)) false)]⟩ else none
        | none => none
      | none => none
    | _ => none
  | _, _ => none
section
variable {P : Program} {S0 : Addr → Prop} {mm : Nat} {w0 : Bs mm} {N : Nat} {U U' : Nat → Prop} {σ : ASt} {a : Act} {w w' : World} {S S' : Addr → Prop} {κ κ' : Nat → Option Hdr} {o : Oper} {Q : Exit → Act → World → Prop} {nm : Nat}
theorem foldl_put (off : Nat) : ∀ (l : List Value) (k : Nat) (cs : Array Value), off + k + l.length ≤ cs.size → ∀ r, ((l.zipIdx k).foldl (fun cs (c, j) => cs.setIfInBounds (off + j) c) cs) = r → r.size = cs.size ∧ ∀ i, r.getD i undef = if off + k ≤ i ∧ i < off + k + l.length then l.getD (i - (off + k)) undef else cs.getD i undef
  | [], k, cs, _, r, h => by
    simp at h
    subst h
    exact ⟨rfl, fun i => by rw [if_neg (fun q => by have := q.2; simp at this; omega)]⟩
  | v :: l, k, cs, hle, r, h => by
    simp only [List.zipIdx_cons, List.foldl_cons] at h
    simp at hle
    obtain ⟨h1, h2⟩ := foldl_put off l (k + 1) (cs.setIfInBounds (off + k) v) (by simp; omega) r h
    refine ⟨by rw [h1]; simp, fun i => ?_⟩
    rw [h2]
    by_cases c1 : i = off + k
    · subst c1
      rw [if_neg (by omega), if_pos (by simp)]
      simp [Array.getD_eq_getD_getElem?, show off + k < cs.size by omega]
    · by_cases c2 : off + (k + 1) ≤ i ∧ i < off + (k + 1) + l.length
      · rw [if_pos c2, if_pos (by simp; omega), show i - (off + k) = (i - (off + (k + 1))) + 1 from by omega]
        rfl
      · rw [if_neg c2, if_neg (by simp; omega)]
        simp [Array.getD_eq_getD_getElem?, Ne.symm c1]
theorem fill_rd {place : Nat → Option (Nat × Nat)} {n : Nat} : ∀ (ps : List (Nat × AV)) (vs : List (Nat × Value)) (h h' : Nat → AV) (cs : Array Value), cs.size = n → (∀ i, i < n → (cs.getD i undef).oneCell' = true ∧ Rd S κ w (h i) (cs.getD i undef)) → vs.length = ps.length → (∀ (i : Nat) (p : Nat × AV) (v : Nat × Value), ps[i]? = some p → vs[i]? = some v → v.1 = p.1 ∧ Rd S κ w p.2 v.2) →
    fillAV place n h ps = some h' → ∃ cs', Instr.fill place cs vs = some cs' ∧ cs'.size = n ∧ ∀ i, i < n → (cs'.getD i undef).oneCell' = true ∧ Rd S κ w (h' i) (cs'.getD i undef)
  | [], [], h, h', cs, hn, hr, _, _, e => by
    cases e
    exact ⟨cs, rfl, hn, hr⟩
  | (i, x) :: ps, (j, u) :: vs, h, h', cs, hn, hr, hl, hv, e => by
    obtain ⟨q1, q2⟩ := hv 0 _ _ rfl rfl
    simp only at q1 q2
    subst q1
    unfold fillAV at e
    split at e
    case h_2 => cases e
    rename_i off size s hh hp hc
    cases hb : (Nat.beq s size && Nat.ble (off + s) n) with
    | false => rw [hb] at e; cases e
    | true =>
    rw [hb] at e
    simp only [Bool.and_eq_true] at hb
    obtain rfl := Nat.eq_of_beq_eq_true hb.1
    have hle := ble_iff hb.2
    obtain ⟨k1, k2⟩ := cellsAV_rd q2 hc
    generalize hr' : u.cells.zipIdx.foldl (fun cs (c, j) => cs.setIfInBounds (off + j) c) cs = r
    have hr2 : ((u.cells.toList.zipIdx 0).foldl (fun cs (c, j) => cs.setIfInBounds (off + j) c) cs) = r := by
      rw [← hr', ← Array.foldl_toList, Array.toList_zipIdx]
    obtain ⟨f1, f2⟩ := foldl_put off u.cells.toList 0 cs (by simp; omega) r hr2
    have hcond : ¬ (u.cells.size ≠ s ∨ off + u.cells.size > cs.size) := by omega
    obtain ⟨cs', g1, g2, g3⟩ := fill_rd ps vs (splice h off s hh) h' r (by omega) (fun i hi => by
      rw [f2]
      by_cases c : off + 0 ≤ i ∧ i < off + 0 + u.cells.toList.length
      · rw [if_pos c, splice_in (by omega) (by simp at c; omega)]
        have := k2 (i - off) (by simp at c; omega)
        simpa [List.getD_eq_getElem?_getD, Array.getD_eq_getD_getElem?] using this
      · rw [if_neg c, splice_out (by simp at c; omega)]
        exact hr i hi) (by simpa using hl) (fun i p v h1 h2 => hv (i + 1) p v h1 h2) e
    refine ⟨cs', ?_, g2, g3⟩
    unfold Instr.fill
    rw [hp]
    simp only [Bool.or_eq_true, decide_eq_true_eq, ne_eq]
    rw [if_neg (by simpa using hcond), hr', g1]
  | [], _ :: _, _, _, _, _, _, hl, _, _ => by simp at hl
  | _ :: _, [], _, _, _, _, _, hl, _, _ => by simp at hl
theorem sMakeSlice {t : TypeId} {l c : Operand} (ho : o.op = .makeSlice t l c) (hd : ∀ t, o.dst = some t → t < N) (h : RelX S0 w0 N U σ a w S κ) (hk : κ nm = none) {L C : AV} (hl : Rd S κ w L (a.eval l)) (hc : Rd S κ w C (a.eval c)) {ao : AO} (e : oMakeSlice P nm t L C = some ao) (hp : allP ao.pre) : o.wp P a w (Aft S0 w0 N U σ nm o.dst ao.val ao.wr) Q := by
  unfold oMakeSlice at e
  split at e
  case h_2 => cases e
  rename_i k1 m k2 n
  split at e
  case h_2 => cases e
  rename_i el hu
  split at e
  case h_2 => cases e
  rename_i i hi
  split at e
  case h_2 => cases e
  rename_i z hz
  obtain ⟨hb, q⟩ := bif_some e
  cases q
  simp only [Bool.and_eq_true] at hb
  obtain ⟨h0, h1, h2⟩ := hp
  have h2' : n ≤ 1000000000 := h2
  have hone := allN_iff hb.1.1.1
  have hsz := blt_iff hb.1.1.2
  have hzs := Nat.eq_of_beq_eq_true hb.1.2
  have hby := ble_iff hb.2
  have hl' : a.eval l = .int k1 m := hl
  have hc' : a.eval c = .int k2 n := hc
  have w1 : IntKind.i64.wrap m = m := wrap_of_inr (k := .i64) ⟨by omega, by omega⟩
  have w2 : IntKind.i64.wrap n = n := wrap_of_inr (k := .i64) ⟨by omega, by omega⟩
  have hbn : ¬ ((i.bytes : Int) * n > 281474976710656) := by
    have : (i.bytes : Int) * n ≤ 4096 * 1000000000 := Int.mul_le_mul (by omega) h2' (by omega) (by omega)
    omega
  generalize hV : ((Array.range (n.toNat * i.size)).map (z.cells[· % z.cells.size]!)) = V
  have hVs : V.size = n.toNat * i.size := by rw [← hV]; simp
  have hn0 : n.toNat * i.size = 0 → V = #[] := fun q => Array.eq_empty_of_size_eq_zero (by omega)
  have hr : (execOp a.eval o).run P w = .ok (.value (.slice (some ⟨w.heap.size, 0, none⟩) m.toNat n.toNat)) (w.alloc (.cells V el)) := by
    unfold execOp
    by_cases hnz : n.toNat * i.size = 0
    · have hVV := hn0 hnz
      have hlt : ¬ n < 0 := by omega
      have hlt2 : ¬ m < 0 := by omega
      have hlt3 : ¬ m > n := by omega
      rw [hVV]
      simp only [ho, hl', hc']
      have hin : (Instr.makeSlice t (.int k1 m) (.int k2 n)).run P w = .ok (.slice (some ⟨w.heap.size, 0, none⟩) m.toNat n.toNat) (w.alloc (.cells #[] el)) := by
        unfold Instr.makeSlice
        simp only [Sem.run_bind, run_underlying hu, Result.andThen_ok, asInt, asIntOf, Sem.run_pure, typeInfo, run_program, hi, w1, w2]
        have he : Array.map (fun _ => (default : Value)) (Array.range 0) = #[] := Array.eq_empty_of_size_eq_zero (by simp)
        simp [hbn, hlt, hlt2, hlt3, run_sizeOf' hi, hnz, he, newRow]
      rw [Sem.run_bind, hin]
      rfl
    · have hlt : ¬ n < 0 := by omega
      have hlt2 : ¬ m < 0 := by omega
      have hlt3 : ¬ m > n := by omega
      simp only [← hV]
      simp [ho, hl', hc', Instr.makeSlice, asInt, asIntOf, run_underlying hu, typeInfo, hi, w1, w2, hbn, hlt, hlt2, hlt3, run_sizeOf' hi, hnz, zeroValue, hz, newRow]
  have hX := h.fresh hk (o := .cells V el) (q := .sl (some ⟨w.heap.size, 0, none⟩) m.toNat n.toNat) (fun b hb => by cases hb; rfl) (B := .own i.size m.toNat (fun _ j => .v (z.cells.getD j undef)) false)
    ⟨_, n.toNat, rfl, by omega, .inr ⟨w.heap.size, V, el, rfl, .inl h.below.size, by show (w.heap.push _)[w.heap.size]? = _; simp, hVs, fun p hp j hj => by
      have hlt : p * i.size + j < n.toNat * i.size := by have : p * i.size + i.size ≤ n.toNat * i.size := by rw [← Nat.succ_mul]; exact Nat.mul_le_mul_right _ (by omega)
                                                         omega
      have hmod : (p * i.size + j) % z.cells.size = j := by rw [hzs, Nat.mul_comm, Nat.mul_add_mod, Nat.mod_eq_of_lt hj]
      have hv : V.getD (p * i.size + j) undef = z.cells.getD j undef := by
        rw [← hV]
        have : j < z.cells.size := by omega
        simp [Array.getD_eq_getD_getElem?, hlt, hmod, this]
      rw [hv]
      exact ⟨hone j (by omega), rfl⟩, fun o ho => absurd (h.dfn _ ho) (Nat.lt_irrefl _), fun q => (by cases q)⟩⟩
  exact goes_value hd hr hX ⟨_, _, _, upd_own _ _ _, rfl⟩
theorem zipRd {f : Operand → Value} {ops : Array (Nat × Operand)} {xs : List AV} (hl : xs.length = ops.size) (hx : ∀ i, i < xs.length → Rd S κ w (xs.getD i .dead) (((ops.map fun (i, x) => (i, f x)).toList.map (·.2)).getD i undef)) :
    ∀ (i : Nat) (p : Nat × AV) (v : Nat × Value), ((ops.toList.map (·.1)).zip xs)[i]? = some p → (ops.map fun (i, x) => (i, f x)).toList[i]? = some v → v.1 = p.1 ∧ Rd S κ w p.2 v.2 := by
  intro i p v h1 h2
  have hi : i < xs.length := by
    rcases Nat.lt_or_ge i xs.length with q | q
    · exact q
    · rw [List.getElem?_eq_none (by simp; omega)] at h1; cases h1
  have hi2 : i < ops.size := by omega
  have h3 := hx i hi
  rw [List.getElem?_zip_eq_some] at h1
  obtain ⟨q1, q2⟩ := h1
  simp [hi, hi2] at q1 q2 h2
  simp [List.getD_eq_getElem?_getD, hi, hi2] at h3
  subst h2
  exact ⟨q1, by rw [← q2]; exact h3⟩
theorem sBuild {t : TypeId} {parts : Array (Nat × Operand)} (ho : o.op = .build t parts) (hd : ∀ t, o.dst = some t → t < N) (h : RelX S0 w0 N U σ a w S κ) {xs : List AV} (hl : xs.length = parts.size) (hx : ∀ i, i < xs.length → Rd S κ w (xs.getD i .dead) (((parts.map fun (i, x) => (i, a.eval x)).toList.map (·.2)).getD i undef))
    {ao : AO} (e : oBuild P t ((parts.toList.map (·.1)).zip xs) = some ao) : o.wp P a w (Aft S0 w0 N U σ nm o.dst ao.val ao.wr) Q := by
  have fin : ∀ (z : Value) (place : Nat → Option (Nat × Nat)) (hh : Nat → AV), allOne z.cells = true → fillAV place z.cells.size (fun j => .v (z.cells.getD j undef)) ((parts.toList.map (·.1)).zip xs) = some hh → (∀ cells, Instr.fill place z.cells (parts.map fun (i, x) => (i, a.eval x)).toList = some cells → P.built t (parts.map fun (i, x) => (i, a.eval x)).toList = some cells) →
      o.wp P a w (Aft S0 w0 N U σ nm o.dst (.agg z.cells.size (vec (lst z.cells.size hh))) []) Q := by
    intro z place hh hb hf hbu
    obtain ⟨cs', g1, g2, g3⟩ := fill_rd (S := S) (κ := κ) (w := w) _ (parts.map fun (i, x) => (i, a.eval x)).toList (fun j => .v (z.cells.getD j undef)) _ z.cells rfl (fun i hi => ⟨allN_iff hb i hi, rfl⟩) (by simp [hl]) (zipRd hl hx) hf
    refine goes_pure hd h (u := .agg cs') ?_ ⟨cs', rfl, g2, fun i hi => by rw [vec_lst hi]; exact (g3 i hi).2⟩
    unfold execOp
    simp only [ho, Sem.run_bind, run_build w t _ cs' (hbu _ g1), Result.andThen_ok]
    rfl
  unfold oBuild at e
  split at e
  · rename_i it n el hi hu
    split at e
    case h_2 => cases e
    rename_i z ie hz hie
    cases hb : allOne z.cells with
    | false => simp only [hb] at e; cases e
    | true =>
    simp only [hb, cond_true] at e
    split at e
    case h_2 => cases e
    rename_i hh hf
    cases e
    exact fin z _ hh hb hf (fun cells hc => by unfold Program.built; simp only [hi, hu, hz, hie]; exact hc)
  · rename_i it fs hi hu
    split at e
    case h_2 => cases e
    rename_i z places hz hie
    cases hb : allOne z.cells with
    | false => simp only [hb] at e; cases e
    | true =>
    simp only [hb, cond_true] at e
    split at e
    case h_2 => cases e
    rename_i hh hf
    cases e
    exact fin z _ hh hb hf (fun cells hc => by unfold Program.built; simp only [hi, hu, hz, hie]; exact hc)
  · cases e
theorem sBuildSlice {t : TypeId} {len : Nat} {parts : Array (Nat × Operand)} (ho : o.op = .buildSlice t len parts) (hd : ∀ t, o.dst = some t → t < N) (h : RelX S0 w0 N U σ a w S κ) (hk : κ nm = none) {xs : List AV} (hl : xs.length = parts.size) (hx : ∀ i, i < xs.length → Rd S κ w (xs.getD i .dead) (((parts.map fun (i, x) => (i, a.eval x)).toList.map (·.2)).getD i undef))
    {ao : AO} (e : oBuildSlice P σ.name nm t len (parts.toList.map (·.1)) xs = some ao) : o.wp P a w (Aft S0 w0 N U σ nm o.dst ao.val ao.wr) Q := by
  unfold oBuildSlice at e
  split at e
  case h_2 => cases e
  rename_i el hu
  split at e
  case h_2 => cases e
  rename_i i hi
  split at e
  case h_2 => cases e
  rename_i z hz
  cases hb : (allOne z.cells && Nat.blt 0 i.size && Nat.beq z.cells.size i.size && Nat.ble (len * i.size) 16777216) with
  | false => rw [hb] at e; cases e
  | true =>
  rw [hb] at e
  simp only [Bool.and_eq_true, cond_true] at hb e
  split at e
  case h_2 => cases e
  rename_i ys rd wr hs
  split at e
  case h_2 => cases e
  rename_i hh hf
  obtain ⟨hnr, q⟩ := bif_some e
  cases q
  have hone := allN_iff hb.1.1.1
  have hsz := blt_iff hb.1.1.2
  have hzs := Nat.eq_of_beq_eq_true hb.1.2
  have hlen := ble_iff hb.2
  obtain ⟨S1, g1, g2, g3, g4⟩ := seeL_ok see_ok σ.slot xs ((parts.map fun (i, x) => (i, a.eval x)).toList.map (·.2)) _ S _ _ _ h (by simp [hl]) hx hs
  generalize hV : (Array.range (len * i.size)).map (z.cells[· % z.cells.size]!) = V
  have hVs : V.size = len * i.size := by rw [← hV]; simp
  obtain ⟨cs', k1, k2, k3⟩ := fill_rd (S := S1) (κ := fun _ => none) (w := w) (n := len * i.size) _ (parts.map fun (i, x) => (i, a.eval x)).toList _ _ V hVs (fun j hj => by
    have hm := Nat.mod_lt j (show 0 < z.cells.size by omega)
    have hv : V.getD j undef = z.cells.getD (j % z.cells.size) undef := by
      rw [← hV]
      simp [Array.getD_eq_getD_getElem?, hj, hm]
    rw [hv]
    exact ⟨hone _ hm, rfl⟩) (by simp [hl, g3]) (zipRd (f := a.eval) (ops := parts) (by rw [g3]; exact hl) (fun i hi => g4 i (by omega))) hf
  have hcell : ∀ x, S1 x → (w.alloc (.cells cs' el)).cell? x = w.cell? x := fun x hx => World.cell?_of_block (w := w) (a := x) (Below.heap_alloc _ _ _ (g1.dfn x hx))
  have hX := g1.fresh hk (o := .cells cs' el) (q := .sl (some ⟨w.heap.size, 0, none⟩) len len) (fun b hb => by cases hb; rfl) (B := .own i.size len (fun k j => vec (lst (len * i.size) hh) (k * i.size + j)) false)
    ⟨_, len, rfl, Nat.le_refl _, .inr ⟨w.heap.size, cs', el, rfl, .inl h.below.size, by show (w.heap.push _)[w.heap.size]? = _; simp, k2, fun p hp j hj => by
      have hlt : p * i.size + j < len * i.size := by have : p * i.size + i.size ≤ len * i.size := by rw [← Nat.succ_mul]; exact Nat.mul_le_mul_right _ hp
                                                     omega
      exact ⟨(k3 _ hlt).1, by show Rd _ _ _ (vec (lst (len * i.size) hh) (p * i.size + j)) _; rw [vec_lst hlt]; exact Rd.mono (fun _ h => h) hcell _ (fun _ _ h => h) _ (k3 _ hlt).2⟩, fun o ho => absurd (g1.dfn _ ho) (Nat.lt_irrefl _), fun q => (by cases q)⟩⟩
  have hwr : nmw σ.name (wr ++ [(nm, .own i.size len (fun k j => vec (lst (len * i.size) hh) (k * i.size + j)) false)]) = upd (nmw σ.name wr) nm (.own i.size len (fun k j => vec (lst (len * i.size) hh) (k * i.size + j)) false) := by rw [nmw_app]; rfl
  refine goes_value hd (u := .slice (some ⟨w.heap.size, 0, none⟩) len len) (w' := w.alloc (.cells cs' el)) ?_ (by rw [hwr]; exact hX) ⟨_, _, _, upd_own _ _ _, rfl⟩
  unfold execOp
  have hin : (Instr.buildSlice t len (parts.map fun (i, x) => (i, a.eval x))).run P w = .ok (.slice (some ⟨w.heap.size, 0, none⟩) len len) (w.alloc (.cells cs' el)) := by
    unfold Instr.buildSlice
    clear hx hs
    generalize (parts.map fun (i, x) => (i, a.eval x)) = pv at k1 ⊢
    by_cases hnz : len * i.size = 0
    · have hVV : V = #[] := Array.eq_empty_of_size_eq_zero (by omega)
      rw [hVV] at k1
      have he : Array.map (fun _ => (default : Value)) (Array.range 0) = #[] := Array.eq_empty_of_size_eq_zero (by simp)
      simp [run_underlying hu, run_sizeOf' hi, hnz, he, k1, newRow]
    · have hlt : ¬ len * i.size > 16777216 := by omega
      simp only [← hV] at k1
      simp [run_underlying hu, run_sizeOf' hi, hnz, hlt, zeroValue, typeInfo, hi, hz, k1, newRow]
  simp only [ho, Sem.run_bind, hin, Result.andThen_ok]
  rfl
end
end Go.Proofs.Ytaemlmpcclfmdaa
