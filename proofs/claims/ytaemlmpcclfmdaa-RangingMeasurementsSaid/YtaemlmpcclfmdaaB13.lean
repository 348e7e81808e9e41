/- Helpers: a call whose arguments are all known is run by reckoning, with the memory that it is lent. No condition but the hypotheses that each theorem names. -/
import Derived.Test.YtaemlmpcclfmdaaB08
import Derived.Test.YtaemlmpcclfmdaaB12
namespace Go.Proofs.Ytaemlmpcclfmdaa
open Go.RowKit
/-- what is called: a function, or a loop's yield -/
inductive Tg where
  | fn (f : FuncId)
  | yl (k : Nat)
def PX (P : Program) (g : Tg) (ds : List AV) (nm : Nat) (ν : Nat → AB) (fp : List Nat) (r : AV) (wr : List (Nat × AB)) : Prop := match g with
  | .fn f => PCM P f ds nm ν fp r wr
  | .yl k => PCY P k ds nm ν fp r wr
abbrev EvM := Tg → List AV → Nat → (Nat → AB) → List Nat → Option (AV × List (Nat × AB))
def okE (P : Program) (E : EvM) : Prop := ∀ g ds nm ν fp r wr, E g ds nm ν fp = some (r, wr) → PX P g ds nm (restr fp ν) fp r wr
/-- what is known of library functions -/
abbrev EvT := FuncId → Option (List AV → Option AV)
def okT (P : Program) (T : EvT) : Prop := ∀ g t ds r, T g = some t → t ds = some r → PC P g ds r
/-- names in a reading -/
def refsL : AV → List Nat
  | .agg n h => (List.range n).flatMap fun i => refsL (h i)
  | .tup n h => (List.range n).flatMap fun i => refsL (h i)
  | .mref k => [k]
  | .yld k => [k]
  | .own k => [k]
  | .pB k _ => [k]
  | .pX k _ _ _ _ _ => [k]
  | .pA k _ _ _ => [k]
  | .cloM _ n1 h1 n2 h2 => ((List.range n1).flatMap fun i => refsL (h1 i)) ++ (List.range n2).flatMap fun i => refsL (h2 i)
  | .gd _ x => refsL x
  | _ => []
def refsLB : AB → List Nat
  | .box n h _ => (List.range n).flatMap fun i => refsL (h i)
  | .lp N s _ _ _ _ _ => (List.range N).flatMap fun i => refsL (s i)
  | _ => []
def reach (ν : Nat → AB) : Nat → List Nat → List Nat → List Nat
  | 0, _, seen => seen
  | _ + 1, [], seen => seen
  | f + 1, k :: l, seen => bif has seen k || !isBox (ν k) then reach ν f l seen else reach ν f (refsLB (ν k) ++ l) (k :: seen)
def zhM (P : Program) (t : TypeId) : AV := match P.underlying t with
  | some .bool => .v (.bool false)
  | some (.int k) => .v (.int k 0)
  | _ => .dead
def wantsM (s : Nat → AV) (ops : Array Oper) (o : Oper) : Bool :=
  match o.guard with
  | none => true
  | some (j, want) => match (ops[j]?).bind (·.dst) with
    | some d => match s d with
      | .v (.bool t) => gc t want
      | .gd b (.v (.bool t)) => b && gc t want
      | _ => false
    | none => false
def plainM (r : Option AO) : Option AO := match r with | some ao => bif allC ao.pre then some ao else none | none => none
theorem plainM_ok {r : Option AO} {ao : AO} (h : plainM r = some ao) : r = some ao ∧ allP ao.pre := by
  unfold plainM at h
  split at h
  case h_2 => cases h
  rename_i a
  cases hc : allC a.pre with
  | false => rw [hc] at h; cases h
  | true => rw [hc] at h; cases h; exact ⟨rfl, allC_ok hc⟩
def seenT (T : EvT) (ν : Nat → AB) (f : AV) (args : List AV) : Option AV :=
  match f with
  | .clo g n1 h1 n2 h2 => match T g with
    | some t => match seeL ν args with
      | some (ys, _, _) => t (lst n1 h1 ++ (ys ++ lst n2 h2))
      | none => none
    | none => none
  | _ => none
/-- a call's hint -/
def evCall (_ : Program) (T : EvT) (E : EvM) (nm : Nat) (ν : Nat → AB) (f : AV) (args : List AV) : Option HT :=
  match yk f with
  | some k => match E (.yl k) args nm ν (reach ν 300 (k :: args.flatMap refsL) []) with
    | some (r, wr) => some ⟨r, true, reach ν 300 (k :: args.flatMap refsL) [], wr⟩
    | none => none
  | none =>
  match seenT T ν f args with
  | some r => some (hR r)
  | none => match cloParts f with
    | some (g, l1, l2) => match E (.fn g) (l1 ++ (args ++ l2)) nm ν (reach ν 300 ((l1 ++ (args ++ l2)).flatMap refsL) []) with
      | some (r, wr) => some ⟨r, true, reach ν 300 ((l1 ++ (args ++ l2)).flatMap refsL) [], wr⟩
      | none => none
    | none => none
def evOpM (P : Program) (T : EvT) (E : EvM) (nm : Nat) (s : Nat → AV) (ν : Nat → AB) (ops : Array Oper) (o : Oper) : Option (HT × AO) :=
  match o.op with
  | .call c => match c.callee with
    | .value f => bif wantsM s ops o then
        bif allC ((opv s f :: c.args.toList.map (opv s)).flatMap obl) then
          match evCall P T E nm ν (strp (opv s f)) (c.args.toList.map fun x => strp (opv s x)) with
          | some h => match opFull P h nm s ν ops o with | some ao => some (h, ao) | none => none
          | none => none
        else none
      else match plainM (opFull P ⟨zhM P o.type, true, reach ν 300 ((match cloParts (strp (opv s f)) with | some (_, l1, l2) => l1 ++ l2 | none => []).flatMap refsL ++ (c.args.toList.map fun x => strp (opv s x)).flatMap refsL) [], []⟩ nm s ν ops o) with | some ao => some (⟨zhM P o.type, true, reach ν 300 ((match cloParts (strp (opv s f)) with | some (_, l1, l2) => l1 ++ l2 | none => []).flatMap refsL ++ (c.args.toList.map fun x => strp (opv s x)).flatMap refsL) [], []⟩, ao) | none => none
    | _ => match plainM (opFull P (hR .dead) nm s ν ops o) with | some ao => some (hR .dead, ao) | none => none
  | .makeFunc .. => match plainM (opFull P ⟨.dead, true, [], []⟩ nm s ν ops o) with | some ao => some (⟨.dead, true, [], []⟩, ao) | none => none
  | _ => match plainM (opFull P (hR .dead) nm s ν ops o) with | some ao => some (hR .dead, ao) | none => none
theorem evCall_pre {P : Program} {T : EvT} {E : EvM} (hT : okT P T) (hE : okE P E) {nm : Nat} {s : Nat → AV} {ν : Nat → AB} {c : Call} {f : Operand} {o : Op} {h : HT} {ao : AO} (ho : o = .call c) (hc : c.callee = .value f) (hev : evCall P T E nm ν (strp (opv s f)) (c.args.toList.map fun x => strp (opv s x)) = some h) (hob : allC ((opv s f :: c.args.toList.map (opv s)).flatMap obl) = true) (e : opI P h nm s ν o = some ao) : allP ao.pre := by
  subst ho
  simp only [opI, hc] at e
  unfold evCall at hev
  cases hy : yk (strp (opv s f)) with
  | some k =>
    rw [hy] at e hev
    simp only at e hev
    obtain ⟨p, e1, e2⟩ := wob_of e
    rw [e2]
    refine allP_join (allC_ok hob) ?_
    split at hev
    case h_2 => cases hev
    rename_i r wr hr
    cases hev
    unfold oYield at e1
    obtain ⟨_, q⟩ := bif_some e1
    simp only [AO.mk.injEq] at q
    rw [← q.1]
    exact hE _ _ _ _ _ _ _ hr
  | none =>
  rw [hy] at e hev
  simp only [opOut, hc] at e hev
  obtain ⟨p, e1, e2⟩ := wob_of e
  rw [e2]
  refine allP_join (allC_ok hob) ?_
  split at hev
  · rename_i r hr
    cases hev
    simp only [hR, cond_false] at e1
    unfold seenT at hr
    unfold oCall at e1
    split at hr
    case h_2 => cases hr
    rename_i g' n1 h1 n2 h2 hq
    rw [hq] at e1
    simp only at e1
    split at hr
    case h_2 => cases hr
    rename_i t ht
    split at hr
    case h_2 => cases hr
    rename_i ys rd wr hsl
    rw [hsl] at e1
    obtain ⟨_, q⟩ := bif_some e1
    cases q
    exact hT _ _ _ _ ht hr
  · split at hev
    case h_2 => cases hev
    rename_i g l1 l2 hcp
    split at hev
    case h_2 => cases hev
    rename_i r wr hr
    cases hev
    simp only [cond_true] at e1
    unfold oCallM at e1
    rw [hcp] at e1
    simp only at e1
    obtain ⟨_, q⟩ := bif_some e1
    simp only [AO.mk.injEq] at q
    rw [← q.1]
    exact hE _ _ _ _ _ _ _ hr
theorem evOpM_ok {P : Program} {T : EvT} {E : EvM} (hT : okT P T) (hE : okE P E) {nm : Nat} {s : Nat → AV} {ν : Nat → AB} {ops : Array Oper} {o : Oper} {h : HT} {ao : AO} (e : evOpM P T E nm s ν ops o = some (h, ao)) : opFull P h nm s ν ops o = some ao ∧ allP ao.pre := by
  have pl : ∀ h0 : HT, (match plainM (opFull P h0 nm s ν ops o) with | some ao => some (h0, ao) | none => none) = some (h, ao) → opFull P h nm s ν ops o = some ao ∧ allP ao.pre := by
    intro h0 e
    split at e
    case h_2 => cases e
    rename_i a ha
    cases e
    exact plainM_ok ha
  unfold evOpM at e
  split at e
  · rename_i c ho
    split at e
    · rename_i f hc
      cases hw : wantsM s ops o with
      | false => rw [hw] at e; exact pl _ e
      | true =>
        rw [hw] at e
        simp only [cond_true] at e
        cases hob : allC ((opv s f :: c.args.toList.map (opv s)).flatMap obl) with
        | false => rw [hob] at e; cases e
        | true =>
        rw [hob] at e
        simp only [cond_true] at e
        split at e
        case h_2 => cases e
        rename_i h1 hev
        split at e
        case h_2 => cases e
        rename_i a ha
        cases e
        refine ⟨ha, ?_⟩
        have key : ∀ ao0, opI P h nm s ν o.op = some ao0 → allP ao0.pre := fun ao0 h0 => evCall_pre hT hE ho hc hev hob h0
        have kg : ∀ c, grdO c (opI P h nm s ν o.op) = some ao → allP ao.pre := by
          intro c hg
          cases h0 : opI P h nm s ν o.op with
          | none =>
            rw [h0] at hg
            cases c with
            | true => cases hg
            | false => cases hg; trivial
          | some ao0 =>
            rw [h0] at hg
            have := key _ h0
            simp only [grdO, grd] at hg
            split at hg
            · cases hg
              simp only
              split
              · trivial
              · rename_i p l q
                rw [q] at this
                exact fun _ => this
            · cases c with
              | true => simp only [cond_true] at hg; cases hg; exact this
              | false => simp only [cond_false] at hg; cases hg; trivial
        unfold opFull at ha
        split at ha
        · exact key _ ha
        · split at ha
          case h_2 => cases ha
          have kn : ∀ b : Bool, (bif b then none else some noA) = some ao → allP ao.pre := by
            intro b h
            cases b with
            | true => cases h
            | false => cases h; trivial
          split at ha
          · exact kg _ ha
          · split at ha
            · exact kg _ ha
            · exact kn _ ha
          · cases ha
    · exact pl _ e
  · exact pl _ e
  · exact pl _ e
noncomputable def evRgM (P : Program) (T : EvT) (N : Nat) (E : EvM) (nx : Nat) (ops : Array Oper) : Nat → List Oper → LSt → Option (List (HT × AO) × LSt)
  | _, [], σ => some ([], σ)
  | i, o :: l, σ => match evOpM P T E ((nx + i) * 16) (lget σ.sl) σ.nm ops o with
    | some (h, ao) => bif okDst N o.dst then
        putK σ o.dst ao.val ao.wr fun σ1 => match evRgM P T N E nx ops (i + 1) l σ1 with
        | some (hs, σ') => some ((h, ao) :: hs, σ')
        | none => none
      else none
    | none => none
def dirt (hs : List (HT × AO)) : List Nat := hs.flatMap fun p => wl p.2
def hsM (hs : List (HT × AO)) : Nat → HT := fun j => (hs.map (·.1)).getD j (hR .dead)
theorem evRgM_ok {P : Program} {T : EvT} {N : Nat} {E : EvM} (hT : okT P T) (hE : okE P E) {nx : Nat} {ops : Array Oper} {hints : Nat → HT} : ∀ (l : List Oper) (i : Nat) (σ σ' : LSt) (hs : List (HT × AO)), σ.sl.length = N → evRgM P T N E nx ops i l σ = some (hs, σ') → (∀ j, j < l.length → hints (i + j) = (hs.map (·.1)).getD j (hR .dead)) → (∃ ps, rgRun P N hints nx ops i l (toA σ) = some (ps, toA σ') ∧ allP ps) ∧ (∀ k, k ∉ dirt hs → σ'.nm k = σ.nm k) ∧ rgAOs P hints nx ops i l (toA σ) = hs.map (·.2) ∧ σ'.sl.length = N
  | [], i, σ, σ', hs, hl, e, _ => by cases e; exact ⟨⟨[], rfl, trivial⟩, fun _ _ => rfl, rfl, hl⟩
  | o :: l, i, σ, σ', hs, hl, e, hh => by
    unfold evRgM at e
    split at e
    case h_2 => cases e
    rename_i h ao hop
    obtain ⟨h1, h2⟩ := evOpM_ok hT hE hop
    cases hd : okDst N o.dst with
    | false => rw [hd] at e; cases e
    | true =>
      rw [hd] at e
      simp only [cond_true] at e
      rw [putK_eq] at e
      split at e
      case h_2 => cases e
      rename_i hs' σ2 hr
      cases e
      obtain ⟨⟨ps, h3, h4⟩, h5, h6, h7⟩ := evRgM_ok hT hE (hints := hints) l (i + 1) _ _ _ ((lput_len _ _ _).trans hl) hr (fun j hj => by
        have := hh (j + 1) (by simpa using hj)
        rw [show i + 1 + j = i + (j + 1) from by omega]
        simpa using this)
      have h0 : hints i = h := by simpa using hh 0 (by simp)
      have hst : toA ⟨lput σ.sl o.dst ao.val, nmw σ.nm ao.wr⟩ = ⟨dstU (toA σ).slot o.dst ao.val, nmw (toA σ).name ao.wr⟩ := by
        show ASt.mk _ _ = _
        rw [lput_get hl hd]
        rfl
      rw [hst] at h3 h6
      refine ⟨⟨ao.pre ++ ps, ?_, allP_join h2 h4⟩, fun k hk => ?_, ?_, h7⟩
      · unfold rgRun
        rw [h0, show opFull P h ((nx + i) * 16) (toA σ).slot (toA σ).name ops o = some ao from h1]
        simp only [hd, cond_true, h3]
      · have hk' : k ∉ wl ao ∧ k ∉ dirt hs' := ⟨fun q => hk (by show k ∈ wl ao ++ dirt hs'; exact List.mem_append.2 (.inl q)), fun q => hk (by show k ∈ wl ao ++ dirt hs'; exact List.mem_append.2 (.inr q))⟩
        rw [h5 k hk'.2]
        exact nmw_out _ _ _ hk'.1
      · unfold rgAOs
        rw [h0, show opFull P h ((nx + i) * 16) (toA σ).slot (toA σ).name ops o = some ao from h1]
        exact congrArg (ao :: ·) h6
abbrev EvRM := Option (Exit × Nat × LSt × List Nat)
def evItM (f : Nat → LSt → EvRM) : Nat → Nat → LSt → EvRM
  | 0, _, _ => none
  | n + 1, nx, σ => match f nx σ with
    | some (.normal, nx', σ', D) => match evItM f n nx' σ' with
      | some (e, nx2, σ2, D2) => some (e, nx2, σ2, D ++ D2)
      | none => none
    | r => r
/-- the names that a loop's record reaches, and its slots without the others -/
def lpFp (ν : Nat → AB) (N nx : Nat) (s : Nat → AV) (l1 l2 : List AV) : List Nat := (nx * 16) :: reach ν 300 (((List.range N).flatMap fun i => refsL (s i)) ++ ((l1 ++ l2).flatMap refsL)) []
def lpS (fp : List Nat) (s : Nat → AV) (t : Nat) : AV := bif refsIn fp (s t) then s t else .dead
noncomputable def evRf (E : EvM) (N nx : Nat) (σ : LSt) (g : AV) (ps : Array Tmp) (asg bd : Code) : EvRM :=
  bif allC (obl g) then match cloParts (strp g) with
    | some (gf, l1, l2) =>
      let fp := lpFp σ.nm N nx (lget σ.sl) l1 l2
      let ν := upd σ.nm (nx * 16) (.lp N (lpS fp (lget σ.sl)) ps asg bd true none)
      match E (.fn gf) (l1 ++ ([.yld (nx * 16)] ++ l2)) ((nx + 1) * 16) ν fp with
      | some (_, wr) => match nmw ν wr (nx * 16) with
        | .lp _ _ _ _ _ _ pd => bif okPd pd && refsIn fp (strp g) && fp.all (fun k => refsInB fp (ν k)) && wr.all (fun p => has fp p.1 || nmRb ((nx + 1) * 16) p.1) then some (exOf pd, nx + 2, ⟨σ.sl, upd (nmw ν wr) (nx * 16) .none⟩, (nx * 16) :: wr.map (·.1)) else none
        | _ => none
      | none => none
    | none => none
  else none
noncomputable def evCM (P : Program) (T : EvT) (N : Nat) (E : EvM) (fuel : Nat) : Code → Nat → LSt → EvRM
  | .skip, nx, σ => some (.normal, nx, σ, [])
  | .region _ ops d, nx, σ => match evRgM P T N E nx ops 0 ops.toList σ with
    | some (hs, σ') => bif !d || dwOkA ops (hs.map (·.2)) then some (.normal, nx + ops.size, σ', dirt hs) else none
    | none => none
  | .seq x y, nx, σ => match evCM P T N E fuel x nx σ with
    | some (.normal, nx', σ', D) => match evCM P T N E fuel y nx' σ' with
      | some (e, nx2, σ2, D2) => some (e, nx2, σ2, D ++ D2)
      | none => none
    | r => r
  | .cond c x y, nx, σ => match opv (lget σ.sl) c with
    | .v (.bool b) => bif b then evCM P T N E fuel x nx σ else evCM P T N E fuel y nx σ
    | _ => none
  | .block id c, nx, σ => match evCM P T N E fuel c nx σ with
    | some (.exit id', nx', σ', D) => bif Nat.beq id' id then some (.normal, nx', σ', D) else some (.exit id', nx', σ', D)
    | r => r
  | .loop c, nx, σ => evItM (fun nx σ => frcL σ.sl fun l => frcN nx fun nx => evCM P T N E fuel c nx ⟨l, σ.nm⟩) fuel nx σ
  | .exit id, nx, σ => some (.exit id, nx, σ, [])
  | .ret, nx, σ => some (.ret, nx, σ, [])
  | .rangeFunc g ps asg bd, nx, σ => evRf E N nx σ (opv (lget σ.sl) g) ps asg bd
  | .label _, nx, σ => some (.normal, nx, σ, [])
  | .scope c, nx, σ => match evCM P T N E fuel c nx σ with
    | some (e, nx', σ', D) => bif isGo e then none else some (e, nx', σ', D)
    | none => none
  | _, _, _ => none
section
variable {P : Program} {S0 : Addr → Prop} {mm : Nat} {w0 : Bs mm} {N : Nat} {T : EvT} {E : EvM} {fuel : Nat}
/-- what is known of a part that was run -/
def EvOK (P : Program) (N : Nat) (c : Code) (nx : Nat) (σ : LSt) (e : Exit) (nx' : Nat) (σ' : LSt) (D : List Nat) : Prop :=
  σ'.sl.length = N ∧ (∀ k, k ∉ D → σ'.nm k = σ.nm k) ∧ ∀ (S0 : Addr → Prop) (mm : Nat) (w0 : Bs mm), AW P S0 w0 N c nx (toA σ) (atKM e nx' (toA σ'))
theorem evItM_ok {c : Code} {f : Nat → LSt → EvRM} (hf : ∀ nx σ e nx' σ' D, σ.sl.length = N → f nx σ = some (e, nx', σ', D) → EvOK P N c nx σ e nx' σ' D) : ∀ (n : Nat) (nx : Nat) (σ : LSt) (e : Exit) (nx' : Nat) (σ' : LSt) (D : List Nat), σ.sl.length = N → evItM f n nx σ = some (e, nx', σ', D) → σ'.sl.length = N ∧ (∀ k, k ∉ D → σ'.nm k = σ.nm k) ∧ e ≠ .normal ∧ ∀ (S0 : Addr → Prop) (mm : Nat) (w0 : Bs mm) ro a w, okRo w0 ro → Rel S0 w0 N (fun k => k < nx * 16) (toA σ) a w → Code.roundsIn (fnc ro) 0 P c (fun e1 a' w' => e1 = e ∧ Rel S0 w0 N (fun k => k < nx' * 16) (toA σ') a' w') n a w
  | 0, _, _, _, _, _, _, _, h => by cases h
  | n + 1, nx, σ, e, nx', σ', D, hl, h => by
    unfold evItM at h
    split at h
    · rename_i nx1 σ1 D1 h1
      split at h
      case h_2 => cases h
      rename_i e2 nx2 σ2 D2 h2
      cases h
      obtain ⟨q1, q2, q3⟩ := hf _ _ _ _ _ _ hl h1
      obtain ⟨g1, g2, g3, g4⟩ := evItM_ok hf n nx1 σ1 _ _ _ _ q1 h2
      refine ⟨g1, fun k hk => ?_, g3, fun S0 mm w0 ro a w ho hr => ?_⟩
      · rw [g2 k (fun q => hk (List.mem_append.2 (.inr q))), q2 k (fun q => hk (List.mem_append.2 (.inl q)))]
      · rw [roundsIn_succ]
        refine wpIn_mono ((q3 S0 mm w0).go ro a w ho hr) ?_
        rintro e1 a' w' ⟨nx2, σ2, ⟨rfl, rfl, rfl⟩, hr'⟩
        exact g4 S0 mm w0 ro a' w' ho hr'
    · rename_i hne
      have hn : e ≠ .normal := by
        rintro rfl
        exact hne _ _ _ h
      obtain ⟨q1, q2, q3⟩ := hf _ _ _ _ _ _ hl h
      refine ⟨q1, q2, hn, fun S0 mm w0 ro a w ho hr => ?_⟩
      rw [roundsIn_succ]
      refine wpIn_mono ((q3 S0 mm w0).go ro a w ho hr) ?_
      rintro e1 a' w' ⟨nx2, σ2, ⟨rfl, rfl, rfl⟩, hr'⟩
      cases e1 with
      | normal => exact absurd rfl hn
      | exit id => exact ⟨rfl, hr'⟩
      | goto l => exact ⟨rfl, hr'⟩
      | ret => exact ⟨rfl, hr'⟩
      | panic c => exact ⟨rfl, hr'⟩
      | outgrown => exact ⟨rfl, hr'⟩
theorem evRf_of {E : EvM} {nx : Nat} {σ : LSt} {g : AV} {ps : Array Tmp} {asg bd : Code} {x : Exit × Nat × LSt × List Nat} (h : evRf E N nx σ g ps asg bd = some x) :
    ∃ gf l1 l2 r wr N2 s2 ps2 a2 b2 rdy pd, allC (obl g) = true ∧ cloParts (strp g) = some (gf, l1, l2) ∧ E (.fn gf) (l1 ++ ([.yld (nx * 16)] ++ l2)) ((nx + 1) * 16) (upd σ.nm (nx * 16) (.lp N (lpS (lpFp σ.nm N nx (lget σ.sl) l1 l2) (lget σ.sl)) ps asg bd true none)) (lpFp σ.nm N nx (lget σ.sl) l1 l2) = some (r, wr) ∧
      nmw (upd σ.nm (nx * 16) (.lp N (lpS (lpFp σ.nm N nx (lget σ.sl) l1 l2) (lget σ.sl)) ps asg bd true none)) wr (nx * 16) = .lp N2 s2 ps2 a2 b2 rdy pd ∧ okPd pd = true ∧ refsIn (lpFp σ.nm N nx (lget σ.sl) l1 l2) (strp g) = true ∧ (lpFp σ.nm N nx (lget σ.sl) l1 l2).all (fun k => refsInB (lpFp σ.nm N nx (lget σ.sl) l1 l2) (upd σ.nm (nx * 16) (.lp N (lpS (lpFp σ.nm N nx (lget σ.sl) l1 l2) (lget σ.sl)) ps asg bd true none) k)) = true ∧ wr.all (fun p => has (lpFp σ.nm N nx (lget σ.sl) l1 l2) p.1 || nmRb ((nx + 1) * 16) p.1) = true ∧
      x = (exOf pd, nx + 2, ⟨σ.sl, upd (nmw (upd σ.nm (nx * 16) (.lp N (lpS (lpFp σ.nm N nx (lget σ.sl) l1 l2) (lget σ.sl)) ps asg bd true none)) wr) (nx * 16) .none⟩, (nx * 16) :: wr.map (·.1)) := by
  unfold evRf at h
  cases h0 : allC (obl g) with
  | false => rw [h0] at h; cases h
  | true =>
  rw [h0] at h
  simp only [cond_true] at h
  split at h
  case h_2 => cases h
  rename_i gf l1 l2 hc
  split at h
  case h_2 => cases h
  rename_i r wr hr
  split at h
  case h_2 => cases h
  rename_i N2 s2 ps2 a2 b2 rdy pd hL
  obtain ⟨hb, q⟩ := bif_some h
  simp only [Bool.and_eq_true] at hb
  exact ⟨gf, l1, l2, r, wr, N2, s2, ps2, a2, b2, rdy, pd, rfl, hc, hr, hL, hb.1.1.1, hb.1.1.2, hb.1.2, hb.2, q.symm⟩
theorem evCM_ok (hm : P.follows .mixedOrders = true) (hT : okT P T) (hE : okE P E) : ∀ (c : Code) (nx : Nat) (σ : LSt) (e : Exit) (nx' : Nat) (σ' : LSt) (D : List Nat), σ.sl.length = N → evCM P T N E fuel c nx σ = some (e, nx', σ', D) → EvOK P N c nx σ e nx' σ' D := by
  intro c
  induction c with
  | skip => intro nx σ e nx' σ' D hl h; cases h; exact ⟨hl, fun _ _ => rfl, fun S0 mm w0 => AW.skip ⟨rfl, rfl, rfl⟩⟩
  | region id ops d =>
    intro nx σ e nx' σ' D hl h
    unfold evCM at h
    split at h
    case h_2 => cases h
    rename_i hs σ1 hr
    obtain ⟨⟨ps, h1, h2⟩, h4, h3, h5⟩ := evRgM_ok hT hE (hints := hsM hs) ops.toList 0 _ _ _ hl hr (fun j _ => by rw [Nat.zero_add]; rfl)
    have hp : RPre P N (hsM hs) nx ops (toA σ) := ⟨by unfold rgPre; rw [h1]; exact h2⟩
    have hs' : rgSt P N (hsM hs) nx ops (toA σ) = toA σ1 := by unfold rgSt; rw [h1]
    obtain ⟨hb, q⟩ := bif_some h
    cases q
    refine ⟨h5, h4, fun S0 mm w0 => ?_⟩
    cases d with
    | false => exact AW.regionM (hsM hs) hp (by rw [hs']; exact ⟨rfl, rfl, rfl⟩)
    | true => exact AW.drawM hm (hsM hs) (by unfold dwOk; rw [h3]; simpa using hb) hp (by rw [hs']; exact ⟨rfl, rfl, rfl⟩)
  | seq x y ihx ihy =>
    intro nx σ e nx' σ' D hl h
    unfold evCM at h
    split at h
    · rename_i nx1 σ1 D1 h1
      split at h
      case h_2 => cases h
      rename_i e2 nx2 σ2 D2 h2
      cases h
      obtain ⟨q1, q2, q3⟩ := ihx _ _ _ _ _ _ hl h1
      obtain ⟨g1, g2, g3⟩ := ihy _ _ _ _ _ _ q1 h2
      refine ⟨g1, fun k hk => ?_, fun S0 mm w0 => AW.seq ((q3 S0 mm w0).mono ?_)⟩
      · rw [g2 k (fun q => hk (List.mem_append.2 (.inr q))), q2 k (fun q => hk (List.mem_append.2 (.inl q)))]
      · rintro e1 nx2 σ2 ⟨rfl, rfl, rfl⟩
        exact g3 S0 mm w0
    · rename_i hne
      obtain ⟨q1, q2, q3⟩ := ihx _ _ _ _ _ _ hl h
      refine ⟨q1, q2, fun S0 mm w0 => AW.seq ((q3 S0 mm w0).mono ?_)⟩
      rintro e1 nx2 σ2 ⟨rfl, rfl, rfl⟩
      cases e1 with
      | normal => exact (hne _ _ _ h).elim
      | exit id => exact ⟨rfl, rfl, rfl⟩
      | goto l => exact ⟨rfl, rfl, rfl⟩
      | ret => exact ⟨rfl, rfl, rfl⟩
      | panic c => exact ⟨rfl, rfl, rfl⟩
      | outgrown => exact ⟨rfl, rfl, rfl⟩
  | cond c x y ihx ihy =>
    intro nx σ e nx' σ' D hl h
    unfold evCM at h
    split at h
    case h_2 => cases h
    rename_i b hb
    cases b with
    | true =>
      obtain ⟨q1, q2, q3⟩ := ihx _ _ _ _ _ _ hl h
      exact ⟨q1, q2, fun S0 mm w0 => AW.cond true hb (fun _ => q3 S0 mm w0) (fun q => by cases q)⟩
    | false =>
      obtain ⟨q1, q2, q3⟩ := ihy _ _ _ _ _ _ hl h
      exact ⟨q1, q2, fun S0 mm w0 => AW.cond false hb (fun q => by cases q) (fun _ => q3 S0 mm w0)⟩
  | block id c ih =>
    intro nx σ e nx' σ' D hl h
    unfold evCM at h
    split at h
    · rename_i id' nx1 σ1 D1 h1
      obtain ⟨q1, q2, q3⟩ := ih _ _ _ _ _ _ hl h1
      cases hb : Nat.beq id' id with
      | true =>
        rw [hb] at h; cases h
        refine ⟨q1, q2, fun S0 mm w0 => AW.block ((q3 S0 mm w0).mono ?_)⟩
        rintro e1 nx2 σ2 ⟨rfl, rfl, rfl⟩
        show bif Nat.beq id' id then _ else _
        rw [hb]; exact ⟨rfl, rfl, rfl⟩
      | false =>
        rw [hb] at h; cases h
        refine ⟨q1, q2, fun S0 mm w0 => AW.block ((q3 S0 mm w0).mono ?_)⟩
        rintro e1 nx2 σ2 ⟨rfl, rfl, rfl⟩
        show bif Nat.beq id' id then _ else _
        rw [hb]; exact ⟨rfl, rfl, rfl⟩
    · rename_i hne
      obtain ⟨q1, q2, q3⟩ := ih _ _ _ _ _ _ hl h
      refine ⟨q1, q2, fun S0 mm w0 => AW.block ((q3 S0 mm w0).mono ?_)⟩
      rintro e1 nx2 σ2 ⟨rfl, rfl, rfl⟩
      cases e1 with
      | exit id' => exact (hne _ _ _ _ h).elim
      | normal => exact ⟨rfl, rfl, rfl⟩
      | goto l => exact ⟨rfl, rfl, rfl⟩
      | ret => exact ⟨rfl, rfl, rfl⟩
      | panic c => exact ⟨rfl, rfl, rfl⟩
      | outgrown => exact ⟨rfl, rfl, rfl⟩
  | loop c ih =>
    intro nx σ e nx' σ' D hl h
    unfold evCM at h
    obtain ⟨q1, q2, _, q4⟩ := evItM_ok (P := P) (N := N) (c := c) (fun nx σ e nx' σ' D hl h => by
      obtain ⟨l', h0, h1, h2⟩ := frcL_ok (R := EvRM) σ.sl
      rw [h2, frcN_eq] at h
      obtain ⟨p1, p2, p3⟩ := ih nx ⟨l', σ.nm⟩ e nx' σ' D (h0.trans hl) h
      exact ⟨p1, p2, fun S0 mm w0 => AW.slotle h1 (p3 S0 mm w0)⟩) fuel nx σ e nx' σ' D hl h
    refine ⟨q1, q2, fun S0 mm w0 => ⟨fun ro a w ho hr => ?_⟩⟩
    refine wpIn_mono (wpIn_loop_rounds fuel (q4 S0 mm w0 ro a w ho hr)) ?_
    rintro e1 a' w' ⟨rfl, hr'⟩
    exact ⟨nx', toA σ', ⟨rfl, rfl, rfl⟩, hr'⟩
  | exit id => intro nx σ e nx' σ' D hl h; cases h; exact ⟨hl, fun _ _ => rfl, fun S0 mm w0 => AW.exit ⟨rfl, rfl, rfl⟩⟩
  | ret => intro nx σ e nx' σ' D hl h; cases h; exact ⟨hl, fun _ _ => rfl, fun S0 mm w0 => AW.ret ⟨rfl, rfl, rfl⟩⟩
  | label l => intro nx σ e nx' σ' D hl h; cases h; exact ⟨hl, fun _ _ => rfl, fun S0 mm w0 => AW.label ⟨rfl, rfl, rfl⟩⟩
  | scope c ih =>
    intro nx σ e nx' σ' D hl h
    unfold evCM at h
    split at h
    case h_2 => cases h
    rename_i e1 nx1 σ1 D1 h1
    cases hg : isGo e1 with
    | true => rw [hg] at h; cases h
    | false =>
      rw [hg] at h
      cases h
      obtain ⟨q1, q2, q3⟩ := ih _ _ _ _ _ _ hl h1
      refine ⟨q1, q2, fun S0 mm w0 => AW.scope ((q3 S0 mm w0).mono ?_)⟩
      rintro e2 nx2 σ2 ⟨rfl, rfl, rfl⟩
      exact ⟨fun l q => (by rw [q] at hg; cases hg), rfl, rfl, rfl⟩
  | rangeFunc g ps asg bd _ _ =>
    intro nx σ e nx' σ' D hl h
    obtain ⟨gf, l1, l2, r, wr, N2, s2, ps2, a2, b2, rdy, pd, h0, h1, h2, h3, h4, h5, h6, h7, q⟩ := evRf_of h
    cases q
    refine ⟨hl, fun k hk => ?_, fun S0 mm w0 => ?_⟩
    · have h1 : k ≠ nx * 16 := fun q => hk (by rw [q]; exact List.mem_cons_self ..)
      show upd (nmw _ wr) (nx * 16) .none k = σ.nm k
      rw [upd_ne _ _ h1, nmw_out _ _ _ (fun q => hk (List.mem_cons_of_mem _ q)), upd_ne _ _ h1]
    · refine AW.rangeFunc (σ := toA σ) (s' := lpS (lpFp σ.nm N nx (lget σ.sl) l1 l2) (lget σ.sl)) h1 (allC_ok h0) h5 (fun t ht => ?_) h6 (by simp [lpFp, has]) h7 (hE _ _ _ _ _ _ _ h2) h3 h4 ⟨rfl, rfl, rfl⟩
      show AV.le (lget σ.sl t) _
      unfold lpS
      cases refsIn (lpFp σ.nm N nx (lget σ.sl) l1 l2) (lget σ.sl t) with
      | true => exact AV.le.refl _
      | false => exact AV.le_dead _
  | _ => intro nx σ e nx' σ' D hl h; cases h
end
def ixOf : List Nat → Nat → Nat
  | [], _ => 0
  | x :: l, k => bif Nat.beq x k then 0 else ixOf l k + 1
theorem ixOf_lt : ∀ {l : List Nat} {k : Nat}, k ∈ l → ixOf l k < l.length ∧ l.getD (ixOf l k) 0 = k
  | x :: l, k, h => by
    unfold ixOf
    cases hb : Nat.beq x k with
    | true => exact ⟨Nat.zero_lt_succ _, Nat.eq_of_beq_eq_true hb⟩
    | false =>
      have hk : k ∈ l := (List.mem_cons.1 h).resolve_left (fun q => by rw [q, Nat.beq_refl] at hb; cases hb)
      obtain ⟨h1, h2⟩ := ixOf_lt hk
      exact ⟨Nat.succ_lt_succ h1, h2⟩
def iotaN (nm : Nat) (fp ρ : List Nat) (k : Nat) : Nat := bif has fp k then k else nm + ixOf ρ k
def wrM (τ : Nat → AB) (nm : Nat) (fp ρ dt : List Nat) : List (Nat × AB) := (dt ++ List.range' nm ρ.length).map fun k => (k, renB (iotaN nm fp ρ) (τ (muN nm ρ k)))
theorem nmw_map (ν : Nat → AB) (F : Nat → AB) : ∀ (l : List Nat) (k : Nat), nmw ν (l.map fun k => (k, F k)) k = if k ∈ l then F k else ν k
  | [], k => by simp [nmw]
  | x :: l, k => by
    show nmw (upd ν x (F x)) (l.map fun k => (k, F k)) k = _
    rw [nmw_map]
    by_cases h1 : k ∈ l
    · simp [h1]
    · by_cases h2 : k = x
      · subst h2; simp [h1, upd_own]
      · simp [h1, h2, upd_ne _ _ h2]
theorem renV_fix {μ : Nat → Nat} {G : List Nat} (hG : ∀ k, k ∈ G → μ k = k) : ∀ (x : AV), refsIn G x = true → AV.le x (renV μ x) := by
  intro x
  induction x with
  | v y => exact fun _ => AV.le.refl _
  | agg n h ih => exact fun hn => AV.le_agg fun i hi => ih i (allN_iff (p := fun i => refsIn G (h i)) hn i hi)
  | tup n h ih => exact fun hn => AV.le_tup fun i hi => ih i (allN_iff (p := fun i => refsIn G (h i)) hn i hi)
  | sl z n g ih => exact fun _ => AV.le.refl _
  | elp m g ih => exact fun _ => AV.le.refl _
  | clo f n1 h1 n2 h2 _ _ => exact fun _ => AV.le.refl _
  | cloM f n1 h1 n2 h2 ih1 ih2 =>
    intro hn
    have hn := (Bool.and_eq_true _ _).mp hn
    rintro S κ w u ⟨fs, cs, e, e1, e2, g1, g2⟩
    exact ⟨fs, cs, e, e1, e2, fun i hi => ih1 i (allN_iff (p := fun i => refsIn G (h1 i)) hn.1 i hi) _ _ _ _ (g1 i hi), fun i hi => ih2 i (allN_iff (p := fun i => refsIn G (h2 i)) hn.2 i hi) _ _ _ _ (g2 i hi)⟩
  | mref k => exact fun hn => by simp only [renV]; rw [hG k (has_iff.1 hn)]; exact AV.le.refl _
  | yld k => exact fun hn => by simp only [renV]; rw [hG k (has_iff.1 hn)]; exact AV.le.refl _
  | own k => exact fun hn => by simp only [renV]; rw [hG k (has_iff.1 hn)]; exact AV.le.refl _
  | pB k o => exact fun hn => by simp only [renV]; rw [hG k (has_iff.1 hn)]; exact AV.le.refl _
  | pX k b0 len z i o => exact fun hn => by simp only [renV]; rw [hG k (has_iff.1 hn)]; exact AV.le.refl _
  | pA k z i o => exact fun hn => by simp only [renV]; rw [hG k (has_iff.1 hn)]; exact AV.le.refl _
  | gd b x ih => exact fun hn S κ w u h => ⟨fun hb => ih hn _ _ _ _ (h.1 hb), h.2⟩
  | dead => exact fun _ => AV.le.refl _
theorem renB_fix {μ : Nat → Nat} {G : List Nat} (hG : ∀ k, k ∈ G → μ k = k) (b : AB) (h : refsInB G b = true) : ABle b (renB μ b) := by
  cases b with
  | none => exact ABle.refl _
  | box n hh sd => exact ABle.box fun i hi => renV_fix hG _ (allN_iff (p := fun i => refsIn G (hh i)) h i hi)
  | own z n g sd => exact ABle.refl _
  | mp es => exact ABle.refl _
  | lp N s ps asg bd rdy pd => exact ABle.lp fun i hi => renV_fix hG _ (allN_iff (p := fun i => refsIn G (s i)) h i hi)
theorem refsIn_ren {ι : Nat → Nat} {G G' : List Nat} (hG : ∀ k, k ∈ G → ι k ∈ G') : ∀ (x : AV), refsIn G x = true → refsIn G' (renV ι x) = true := by
  have al : ∀ (n : Nat) (p : Nat → Bool), (∀ i, i < n → p i = true) → allN n p = true := fun n p h => List.all_eq_true.2 fun i hi => h i (List.mem_range.1 hi)
  intro x
  induction x with
  | v y => exact fun _ => rfl
  | agg n h ih => exact fun hn => al n _ fun i hi => ih i (allN_iff (p := fun i => refsIn G (h i)) hn i hi)
  | tup n h ih => exact fun hn => al n _ fun i hi => ih i (allN_iff (p := fun i => refsIn G (h i)) hn i hi)
  | sl z n g ih => exact fun _ => rfl
  | elp m g ih => exact fun _ => rfl
  | clo f n1 h1 n2 h2 _ _ => exact fun _ => rfl
  | cloM f n1 h1 n2 h2 ih1 ih2 =>
    intro hn
    have hn := (Bool.and_eq_true _ _).mp hn
    refine (Bool.and_eq_true _ _).mpr ⟨al n1 _ fun i hi => ih1 i (allN_iff (p := fun i => refsIn G (h1 i)) hn.1 i hi), al n2 _ fun i hi => ih2 i (allN_iff (p := fun i => refsIn G (h2 i)) hn.2 i hi)⟩
  | mref k => exact fun hn => has_iff.2 (hG k (has_iff.1 hn))
  | yld k => exact fun hn => has_iff.2 (hG k (has_iff.1 hn))
  | own k => exact fun hn => has_iff.2 (hG k (has_iff.1 hn))
  | pB k o => exact fun hn => has_iff.2 (hG k (has_iff.1 hn))
  | pX k b0 len z i o => exact fun hn => has_iff.2 (hG k (has_iff.1 hn))
  | pA k z i o => exact fun hn => has_iff.2 (hG k (has_iff.1 hn))
  | gd b x ih => exact fun hn => ih hn
  | dead => exact fun _ => rfl
theorem refsInB_ren {ι : Nat → Nat} {G G' : List Nat} (hG : ∀ k, k ∈ G → ι k ∈ G') (b : AB) (h : refsInB G b = true) : refsInB G' (renB ι b) = true := by
  cases b with
  | none => rfl
  | box n hh sd => exact List.all_eq_true.2 fun i hi => refsIn_ren hG _ (allN_iff (p := fun i => refsIn G (hh i)) h i (List.mem_range.1 hi))
  | own z n g sd => rfl
  | mp es => rfl
  | lp N s ps asg bd rdy pd => exact List.all_eq_true.2 fun i hi => refsIn_ren hG _ (allN_iff (p := fun i => refsIn G (s i)) h i (List.mem_range.1 hi))
theorem refsIn_mono {G G' : List Nat} (hG : ∀ k, k ∈ G → k ∈ G') : ∀ (x : AV), refsIn G x = true → refsIn G' x = true := by
  have al : ∀ (n : Nat) (p : Nat → Bool), (∀ i, i < n → p i = true) → allN n p = true := fun n p h => List.all_eq_true.2 fun i hi => h i (List.mem_range.1 hi)
  intro x
  induction x with
  | v y => exact fun _ => rfl
  | agg n h ih => exact fun hn => al n _ fun i hi => ih i (allN_iff (p := fun i => refsIn G (h i)) hn i hi)
  | tup n h ih => exact fun hn => al n _ fun i hi => ih i (allN_iff (p := fun i => refsIn G (h i)) hn i hi)
  | sl z n g ih => exact fun _ => rfl
  | elp m g ih => exact fun _ => rfl
  | clo f n1 h1 n2 h2 _ _ => exact fun _ => rfl
  | cloM f n1 h1 n2 h2 ih1 ih2 =>
    intro hn
    have hn := (Bool.and_eq_true _ _).mp hn
    refine (Bool.and_eq_true _ _).mpr ⟨al n1 _ fun i hi => ih1 i (allN_iff (p := fun i => refsIn G (h1 i)) hn.1 i hi), al n2 _ fun i hi => ih2 i (allN_iff (p := fun i => refsIn G (h2 i)) hn.2 i hi)⟩
  | mref k => exact fun hn => has_iff.2 (hG k (has_iff.1 hn))
  | yld k => exact fun hn => has_iff.2 (hG k (has_iff.1 hn))
  | own k => exact fun hn => has_iff.2 (hG k (has_iff.1 hn))
  | pB k o => exact fun hn => has_iff.2 (hG k (has_iff.1 hn))
  | pX k b0 len z i o => exact fun hn => has_iff.2 (hG k (has_iff.1 hn))
  | pA k z i o => exact fun hn => has_iff.2 (hG k (has_iff.1 hn))
  | gd b x ih => exact fun hn => ih hn
  | dead => exact fun _ => rfl
theorem refsInB_mono {G G' : List Nat} (hG : ∀ k, k ∈ G → k ∈ G') (b : AB) (h : refsInB G b = true) : refsInB G' b = true := by
  cases b with
  | none => rfl
  | box n hh sd => exact List.all_eq_true.2 fun i hi => refsIn_mono hG _ (allN_iff (p := fun i => refsIn G (hh i)) h i (List.mem_range.1 hi))
  | own z n g sd => rfl
  | mp es => rfl
  | lp N s ps asg bd rdy pd => exact List.all_eq_true.2 fun i hi => refsIn_mono hG _ (allN_iff (p := fun i => refsIn G (s i)) h i (List.mem_range.1 hi))
/-- the end of a call, or of a round: what is told of it -/
def endN (τ : Nat → AB) (D : List Nat) (mm _ : Nat) (fp : List Nat) (r : AV) : Option (List Nat × List Nat) :=
  let ρ := (reach τ 300 (refsL r ++ fp) []).filter fun k => !has fp k
  let dt := fp.filter (has D)
  bif Nat.ble ρ.length 16 && ρ.all (fun k => Nat.ble mm k && isBox (τ k)) && nodupB ρ 0 && refsIn (fp ++ ρ) r && (dt ++ ρ).all (fun k => refsInB (fp ++ ρ) (τ k)) then some (ρ, dt) else none
def isRN : Exit → Bool
  | .ret => true
  | .normal => true
  | _ => false
theorem isBox_ne {b : AB} (h : isBox b = true) : b ≠ .none := fun q => by rw [q] at h; cases h
theorem endN_ok {τ ν : Nat → AB} {D : List Nat} {mm nm : Nat} {fp ρ dt : List Nat} {r : AV} (h : endN τ D mm nm fp r = some (ρ, dt)) (hnm : mm ≤ nm) (hfp : ∀ k, k ∈ fp → ν k ≠ .none ∧ k < mm ∧ refsInB fp (ν k) = true) (hD : ∀ k, k ∉ D → τ k = restr fp ν k) :
    ρ.length ≤ 16 ∧ AV.le r (renV (muN nm ρ) (renV (iotaN nm fp ρ) r)) ∧ RetN τ mm nm (restr fp ν) fp ρ (renV (iotaN nm fp ρ) r) (wrM τ nm fp ρ dt) := by
  unfold endN at h
  simp only at h
  obtain ⟨hck2, q⟩ := bif_some h
  simp only [Prod.mk.injEq] at q
  obtain ⟨hρ, hdt⟩ := q
  rw [hρ, hdt] at hck2
  simp only [Bool.and_eq_true] at hck2
  obtain ⟨⟨⟨⟨h16, hnew⟩, hnd⟩, hrx⟩, hrb⟩ := hck2
  have hρfp : ∀ k, k ∈ ρ → k ∉ fp := by
    intro k hk hf
    rw [← hρ] at hk
    have := (List.mem_filter.1 hk).2
    rw [has_iff.2 hf] at this
    cases this
  have hmufp : ∀ k, k ∈ fp → muN nm ρ k = k := by
    intro k hk
    unfold muN
    rw [nmRb_f (fun q => by have := (hfp k hk).2.1; have := q.1; omega)]
    rfl
  have hmunew : ∀ j, j < ρ.length → muN nm ρ (nm + j) = ρ.getD j 0 := by
    intro j hj
    unfold muN
    rw [nmRb_iff.2 ⟨by omega, by have := ble_iff h16; omega⟩, show nm + j - nm = j from by omega]
    rfl
  have hιfp : ∀ k, k ∈ fp → iotaN nm fp ρ k = k := fun k hk => by unfold iotaN; rw [has_iff.2 hk]; rfl
  have hινew : ∀ k, k ∈ ρ → iotaN nm fp ρ k = nm + ixOf ρ k := fun k hk => by unfold iotaN; rw [has_f (hρfp k hk)]; rfl
  have hG : ∀ k, k ∈ fp ++ ρ → muN nm ρ (iotaN nm fp ρ k) = k := by
    intro k hk
    rcases List.mem_append.1 hk with q | q
    · rw [hιfp k q, hmufp k q]
    · obtain ⟨g1, g2⟩ := ixOf_lt q
      rw [hινew k q, hmunew _ g1, g2]
  have hG2 : ∀ k, k ∈ fp ++ ρ → iotaN nm fp ρ k ∈ fp ++ List.range' nm ρ.length := by
    intro k hk
    rcases List.mem_append.1 hk with q | q
    · rw [hιfp k q]; exact List.mem_append.2 (.inl q)
    · obtain ⟨g1, _⟩ := ixOf_lt q
      rw [hινew k q]
      exact List.mem_append.2 (.inr (mem_range''.2 ⟨by omega, by omega⟩))
  have hdtfp : ∀ k, k ∈ dt → k ∈ fp := fun k hk => by rw [← hdt] at hk; exact (List.mem_filter.1 hk).1
  have hbox : ∀ k, k ∈ dt ++ ρ → refsInB (fp ++ ρ) (τ k) = true := fun k hk => List.all_eq_true.1 hrb k hk
  have hnw : ∀ k, nmw (restr fp ν) (wrM τ nm fp ρ dt) k = if k ∈ dt ++ List.range' nm ρ.length then renB (iotaN nm fp ρ) (τ (muN nm ρ k)) else restr fp ν k := fun k => nmw_map _ _ _ _
  have hcase : ∀ k, k ∈ dt ++ List.range' nm ρ.length → muN nm ρ k ∈ dt ++ ρ := by
    intro k hk
    rcases List.mem_append.1 hk with q | q
    · rw [hmufp k (hdtfp k q)]; exact List.mem_append.2 (.inl q)
    · have := mem_range''.1 q
      rw [show k = nm + (k - nm) from by omega, hmunew _ (by omega)]
      refine List.mem_append.2 (.inr ?_)
      have hl : k - nm < ρ.length := by omega
      rw [List.getD_eq_getElem?_getD, List.getElem?_eq_getElem hl]
      exact List.getElem_mem hl
  refine ⟨ble_iff h16, renV_le hG _ hrx, refsIn_ren hG2 _ hrx, fun k => ?_, fun k hl => ?_, fun k hk => ?_, fun i j hi hj e => nodupB_iff hnd i j hi hj e⟩
  · rw [hnw]
    by_cases hk : k ∈ dt ++ List.range' nm ρ.length
    · rw [if_pos hk]
      exact refsInB_ren hG2 _ (hbox _ (hcase k hk))
    · rw [if_neg hk]
      by_cases hf : k ∈ fp
      · rw [restr_in hf]
        exact refsInB_mono (fun j hj => List.mem_append.2 (.inl hj)) _ (hfp k hf).2.2
      · rw [restr_out hf]; rfl
  · rw [hnw] at hl ⊢
    by_cases hk : k ∈ dt ++ List.range' nm ρ.length
    · rw [if_pos hk] at hl ⊢
      have hne : τ (muN nm ρ k) ≠ .none := fun q => hl (by rw [q]; rfl)
      refine ⟨?_, hne, renB_le hG _ (hbox _ (hcase k hk))⟩
      rcases List.mem_append.1 hk with q | q
      · exact .inl (hdtfp k q)
      · have := mem_range''.1 q
        exact .inr ⟨⟨this.1, by have := ble_iff h16; omega⟩, by omega⟩
    · rw [if_neg hk] at hl ⊢
      have hf : k ∈ fp := by
        by_cases hf : k ∈ fp
        · exact hf
        · exact absurd (restr_out hf) hl
      have hkD : k ∉ D := by
        intro q
        refine hk (List.mem_append.2 (.inl ?_))
        rw [← hdt]
        exact List.mem_filter.2 ⟨hf, has_iff.2 q⟩
      rw [hmufp k hf, hD k hkD]
      refine ⟨.inl hf, hl, renB_fix hmufp _ ?_⟩
      show refsInB fp (restr fp ν k) = true
      rw [restr_in hf]
      exact (hfp k hf).2.2
  · have := List.all_eq_true.1 hnew k hk
    simp only [Bool.and_eq_true] at this
    exact ble_iff this.1
/-- the names that are lent: known, below, shut -/
def okFp (ν : Nat → AB) (mm : Nat) (fp : List Nat) : Bool := fp.all fun k => isBox (ν k) && Nat.blt k mm && refsInB fp (ν k)
theorem okFp_of {ν : Nat → AB} {mm : Nat} {fp : List Nat} (h : okFp ν mm fp = true) : ∀ k, k ∈ fp → ν k ≠ .none ∧ k < mm ∧ refsInB fp (ν k) = true := fun k hk => by
  have := List.all_eq_true.1 h k hk
  simp only [Bool.and_eq_true] at this
  exact ⟨isBox_ne this.1.1, blt_iff this.1.2, this.2⟩
noncomputable def evF (P : Program) (T : EvT) (fuel : Nat) (E : EvM) (f : FuncId) (ds : List AV) (nm : Nat) (ν : Nat → AB) (fp : List Nat) : Option (AV × List (Nat × AB)) :=
  match P.funcs[f]? with
  | some fn => match fn.body with
    | some c => bif !(fn.name == "runtime.NumGoroutine") && Nat.ble ds.length fn.ntmps && okFp ν (nm / 16 * 16) fp then
        match frcD ds fun l => frcN (nm / 16) fun nx => evCM P T fn.ntmps E fuel c nx ⟨beg fn.ntmps l, restr fp ν⟩ with
        | some (e, _, σ, D) => bif isRN e then match resL P (toA σ) fn.results.toList with
            | some xs => match endN σ.nm D (nm / 16 * 16) nm fp (resV xs) with
              | some (ρ, dt) => some (renV (iotaN nm fp ρ) (resV xs), wrM σ.nm nm fp ρ dt)
              | none => none
            | none => none
          else none
        | none => none
      else none
    | none => none
  | none => none
/-- a round -/
noncomputable def evY (P : Program) (T : EvT) (fuel : Nat) (E : EvM) (k : Nat) (xs : List AV) (nm : Nat) (ν : Nat → AB) (fp : List Nat) : Option (AV × List (Nat × AB)) :=
  match ν k with
  | .lp N s ps asg bd true none => bif Nat.beq xs.length ps.size && ps.toList.all (fun p => Nat.blt p N) && has fp k && okFp ν (nm / 16 * 16) fp then
      match frcR N 0 (fun t => frcV (parL (ps.toList.zip xs) (fun t => bif Nat.blt t N then s t else .v undef) t)) fun l => frcN (nm / 16) fun nx => evCM P T N E fuel asg nx ⟨l, upd (restr fp ν) k .none⟩ with
      | some (.normal, nx1, σa, Da) => match evCM P T N E fuel bd nx1 σa with
        | some (e, _, σb, Db) => bif okEx e then match endN (upd σb.nm k (.lp N s ps asg bd (isNm e) (jumpOf e))) (k :: (Da ++ Db)) (nm / 16 * 16) nm fp (.v (.bool (isNm e))) with
            | some (ρ, dt) => some (.v (.bool (isNm e)), wrM (upd σb.nm k (.lp N s ps asg bd (isNm e) (jumpOf e))) nm fp ρ dt)
            | none => none
          else none
        | none => none
      | _ => none
    else none
  | _ => none
noncomputable def evFM (P : Program) (T : EvT) (fuel : Nat) : Nat → EvM
  | 0, _, _, _, _, _ => none
  | k + 1, .fn f, ds, nm, ν, fp => evF P T fuel (evFM P T fuel k) f ds nm ν fp
  | k + 1, .yl j, ds, nm, ν, fp => evY P T fuel (evFM P T fuel k) j ds nm ν fp
theorem evF_ok {P : Program} (hm : P.follows .mixedOrders = true) {T : EvT} (hT : okT P T) {fuel : Nat} {E : EvM} (hE : okE P E) {f : FuncId} {ds : List AV} {nm : Nat} {ν : Nat → AB} {fp : List Nat} {r : AV} {wr : List (Nat × AB)} (h : evF P T fuel E f ds nm ν fp = some (r, wr)) : PCM P f ds nm (restr fp ν) fp r wr := by
  unfold evF at h
  split at h
  case h_2 => cases h
  rename_i fn hf
  split at h
  case h_2 => cases h
  rename_i c hb
  cases hck : (!(fn.name == "runtime.NumGoroutine") && Nat.ble ds.length fn.ntmps && okFp ν (nm / 16 * 16) fp) with
  | false => rw [hck] at h; cases h
  | true =>
  rw [hck] at h
  simp only [cond_true] at h
  simp only [Bool.and_eq_true, Bool.not_eq_true'] at hck
  obtain ⟨⟨hname, hlen⟩, hall⟩ := hck
  have hfp := okFp_of hall
  split at h
  case h_2 => cases h
  rename_i e nx' σ D hev
  obtain ⟨l, hl0, hl1, hl2⟩ := frcD_ok (R := EvRM) ds
  rw [hl2, frcN_eq] at hev
  cases hrn : isRN e with
  | false => rw [hrn] at h; cases h
  | true =>
  rw [hrn] at h
  simp only [cond_true] at h
  split at h
  case h_2 => cases h
  rename_i xs hxs
  split at h
  case h_2 => cases h
  rename_i ρ dt hend
  simp only [Option.some.injEq, Prod.mk.injEq] at h
  obtain ⟨rfl, rfl⟩ := h
  obtain ⟨_, hD, hW⟩ := evCM_ok (N := fn.ntmps) hm hT hE c _ _ _ _ _ _ (beg_len (by rw [hl0]; exact ble_iff hlen)) hev
  obtain ⟨h16, hle, hR⟩ := endN_ok hend (Nat.div_mul_le_self nm 16) hfp hD
  refine PCM.intro (ρ := ρ) hf hname hb hlen (fun k hk => by rw [restr_in hk]; exact (hfp k hk).1) (fun k hk => (hfp k hk).2.1) h16 (fun S0 w0 => AW.slotle (s' := lget (beg fn.ntmps l)) (fun t => (hl1 t).trans (beg_le t)) ((hW S0 _ w0).mono ?_))
  rintro e1 nx1 σ1 ⟨rfl, rfl, rfl⟩
  refine ⟨?_, ⟨xs, hxs, hle⟩, hR⟩
  cases e1 with
  | ret => exact .inl rfl
  | normal => exact .inr rfl
  | exit id => cases hrn
  | goto l => cases hrn
  | panic c => cases hrn
  | outgrown => cases hrn
theorem evY_ok {P : Program} (hm : P.follows .mixedOrders = true) {T : EvT} (hT : okT P T) {fuel : Nat} {E : EvM} (hE : okE P E) {k : Nat} {xs : List AV} {nm : Nat} {ν : Nat → AB} {fp : List Nat} {r : AV} {wr : List (Nat × AB)} (h : evY P T fuel E k xs nm ν fp = some (r, wr)) : PCY P k xs nm (restr fp ν) fp r wr := by
  unfold evY at h
  split at h
  case h_2 => cases h
  rename_i N s ps asg bd hk
  cases hck : (Nat.beq xs.length ps.size && ps.toList.all (fun p => Nat.blt p N) && has fp k && okFp ν (nm / 16 * 16) fp) with
  | false => rw [hck] at h; cases h
  | true =>
  rw [hck] at h
  simp only [cond_true] at h
  simp only [Bool.and_eq_true] at hck
  obtain ⟨⟨⟨hxl, hps⟩, hkf⟩, hall⟩ := hck
  have hfp := okFp_of hall
  have hkf := has_iff.1 hkf
  split at h
  case h_2 => cases h
  rename_i nx1 σa Da h1
  obtain ⟨l, hl0, hl1, hl2⟩ := frcR_ok (R := EvRM) (parL (ps.toList.zip xs) (fun t => bif Nat.blt t N then s t else .v undef)) (fun t => frcV (parL (ps.toList.zip xs) (fun t => bif Nat.blt t N then s t else .v undef) t)) N 0 (fun i _ => by rw [Nat.zero_add]; exact frcV_ok _)
  rw [hl2, frcN_eq] at h1
  have hle : ∀ t, AV.le (parL (ps.toList.zip xs) (fun t => bif Nat.blt t N then s t else .v undef) t) (lget l t) := by
    intro t
    rw [lget_eq]
    by_cases ht : t < N
    · have := hl1 t ht; rwa [Nat.zero_add] at this
    · rw [show l.getD t .dead = .dead from by rw [List.getD_eq_getElem?_getD, List.getElem?_eq_none (show l.length ≤ t by omega)]; rfl]
      exact AV.le_dead _
  split at h
  case h_2 => cases h
  rename_i e nx2 σb Db h2
  cases he : okEx e with
  | false => rw [he] at h; cases h
  | true =>
  rw [he] at h
  simp only [cond_true] at h
  split at h
  case h_2 => cases h
  rename_i ρ dt hend
  simp only [Option.some.injEq, Prod.mk.injEq] at h
  obtain ⟨rfl, rfl⟩ := h
  obtain ⟨hN1, hD1, hW1⟩ := evCM_ok (N := N) hm hT hE asg _ _ _ _ _ _ hl0 h1
  obtain ⟨_, hD2, hW2⟩ := evCM_ok (N := N) hm hT hE bd _ _ _ _ _ _ hN1 h2
  obtain ⟨h16, _, hR⟩ := endN_ok hend (Nat.div_mul_le_self nm 16) hfp (fun j hj => by
    have c : j ≠ k := fun q => hj (by rw [q]; exact List.mem_cons_self ..)
    have hj' := fun q => hj (List.mem_cons_of_mem _ (List.mem_append.2 q))
    rw [upd_ne _ _ c, hD2 j (fun q => hj' (.inr q)), hD1 j (fun q => hj' (.inl q))]
    exact upd_ne _ _ c)
  exact PCY.intro (ρ := ρ) (by rw [restr_in hkf]; exact hk) hkf (Nat.eq_of_beq_eq_true hxl) hps (fun j hj => by rw [restr_in hj]; exact (hfp j hj).1) (fun j hj => (hfp j hj).2.1) h16 he
    (fun S0 w0 => AW.slotle (s' := lget l) hle (hW1 S0 _ w0)) (fun S0 w0 => hW2 S0 _ w0) hR
theorem evFM_ok {P : Program} (hm : P.follows .mixedOrders = true) {T : EvT} (hT : okT P T) (fuel : Nat) : ∀ k, okE P (evFM P T fuel k)
  | 0, g, _, _, _, _, _, _, h => by cases g <;> cases h
  | k + 1, .fn f, ds, nm, ν, fp, r, wr, h => evF_ok hm hT (evFM_ok hm hT fuel k) h
  | k + 1, .yl j, ds, nm, ν, fp, r, wr, h => evY_ok hm hT (evFM_ok hm hT fuel k) h
/-- a run without names ahead, its result as others see it -/
noncomputable def evTop (P : Program) (T : EvT) (fuel k : Nat) (f : FuncId) (ds : List AV) : Option AV :=
  match P.funcs[f]? with
  | some fn => match fn.body with
    | some c => bif !(fn.name == "runtime.NumGoroutine") && Nat.ble ds.length fn.ntmps then
        match evCM P T fn.ntmps (evFM P T fuel k) fuel c 0 ⟨beg fn.ntmps ds, fun _ => .none⟩ with
        | some (e, _, σ, _) => bif isRN e then retSee P fn (toA σ) else none
        | none => none
      else none
    | none => none
  | none => none
theorem evTop_ok {P : Program} (hm : P.follows .mixedOrders = true) {T : EvT} (hT : okT P T) {fuel k : Nat} {f : FuncId} {ds : List AV} {r : AV} (h : evTop P T fuel k f ds = some r) : PC P f ds r := by
  unfold evTop at h
  split at h
  case h_2 => cases h
  rename_i fn hf
  split at h
  case h_2 => cases h
  rename_i c hb
  cases hck : (!(fn.name == "runtime.NumGoroutine") && Nat.ble ds.length fn.ntmps) with
  | false => rw [hck] at h; cases h
  | true =>
  rw [hck] at h
  simp only [cond_true] at h
  simp only [Bool.and_eq_true, Bool.not_eq_true'] at hck
  split at h
  case h_2 => cases h
  rename_i e nx' σ D hev
  cases hrn : isRN e with
  | false => rw [hrn] at h; cases h
  | true =>
  rw [hrn] at h
  simp only [cond_true] at h
  obtain ⟨_, _, hW⟩ := evCM_ok (N := fn.ntmps) hm hT (evFM_ok hm hT fuel k) c _ _ _ _ _ _ (beg_len (ble_iff hck.2)) hev
  refine PC.intro hf hck.1 hb hck.2 (fun S0 w0 => AW.slotle (s' := lget (beg fn.ntmps ds)) beg_le ((hW S0 _ w0).mono ?_))
  rintro e1 nx1 σ1 ⟨rfl, rfl, rfl⟩
  refine ⟨?_, r, h, AV.le.refl _⟩
  cases e1 with
  | ret => exact .inl rfl
  | normal => exact .inr rfl
  | exit id => cases hrn
  | goto l => cases hrn
  | panic c => cases hrn
  | outgrown => cases hrn
def noT : EvT := fun _ => none
theorem noT_ok {P : Program} : okT P noT := fun _ _ _ _ h => by cases h
end Go.Proofs.Ytaemlmpcclfmdaa
