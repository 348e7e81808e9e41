/-
  No cell of these rows narrows 'for every input' (looked for: loops, veiled, ifaces, maps, wideKeys, modest, calm, conditions, laid).
  DERIVED. THE GIVEN ROWS OF THIS SEAT. 3 by the template 'for every input the law returns true; each argument reads behind the call as it read before'; 0 by the template 'total and deterministic' (their statements: YtmhcmiajikffpaaTotals.lean).
  GIVEN WITH THE SEED: the statements are not yours to turn. If you find one false, say at which input.
  Laid BY PROGRAM, IN A SANDBOX (cutbox-rows.mjs): the forced cells as the released guide's own fill.sh prints them over the translation fb72ccf89f1c583c… (all of the seat's roots in one cut). By AI agents, Wed Nov 11 2026. No macro, syntax, notation, axiom, sorry.
-/
import Derived.Test.YtmhcmiajikffpaaChecked
import GoSem.Claim
import GoSem.ClaimJoined
import GoSem.ClaimMapViews
import Derived.JoinedTies
import Derived.KernelRfl
namespace Go.Proofs.Ytmhcmiajikffpaa
/- THE CELL 'sum', in the pinned program and in every row, IS THE sha256 OF THE DUMP (.gsa) THAT YtmhcmiajikffpaaProg.lean LOADS. Nothing in Lean hashes anything: it is a label: what it is worth is what the hold of that sum in a sandbox is worth. -/
noncomputable def Try.pinned : Pinned := { name := "ytmhcmiajikffpaa", sum := "fb72ccf89f1c583c81c640af5c484983994f8064102707b125c0d91d9e146000", checked := Try.checked }
namespace Rows
def none {H : Type} : Left H := { results := [], args := [] }

/-- 'cassegrainlaw01.PathEnclosed': WHATEVER THE INPUT: true; the input reads as it did. -/
def pathEnclosedSpec : ChangeSpec := { name := "pathEnclosed", fn := fun _ => fun
  | [d1, d2, d3] => { results := [.lit (.bool true)], args := [d1, d2, d3] }
  | _ => none }
def pathEnclosedRow : OpenClaim := { program := "ytmhcmiajikffpaa", sum := "fb72ccf89f1c583c81c640af5c484983994f8064102707b125c0d91d9e146000", func := "cassegrain/cassegrainlaw01.PathEnclosed", spec := "pathEnclosed", inPlace := ["math/bits.Add64"], unfollowed := true, recurses := true, apart := false }
def PathEnclosedSaid : Prop := pathEnclosedRow.holds Try.pinned (OpenSpec.ofChange pathEnclosedSpec)

/-- ITS FALSE NEIGHBOUR: 'it returns false'. Refute it at one input. -/
def pathEnclosedWrong : ChangeSpec := { name := "pathEnclosed", fn := fun _ => fun
  | [d1, d2, d3] => { results := [.lit (.bool false)], args := [d1, d2, d3] }
  | _ => none }
def PathEnclosedWrongFalsely : Prop := pathEnclosedRow.holds Try.pinned (OpenSpec.ofChange pathEnclosedWrong)

/-- 'cassegrainlaw01.PathMotions': WHATEVER THE INPUT: true; the input reads as it did. -/
def pathMotionsSpec : ChangeSpec := { name := "pathMotions", fn := fun _ => fun
  | [d1, d2] => { results := [.lit (.bool true)], args := [d1, d2] }
  | _ => none }
def pathMotionsRow : OpenClaim := { program := "ytmhcmiajikffpaa", sum := "fb72ccf89f1c583c81c640af5c484983994f8064102707b125c0d91d9e146000", func := "cassegrain/cassegrainlaw01.PathMotions", spec := "pathMotions", inPlace := ["math/bits.Add64"], unfollowed := true, recurses := true, apart := false }
def PathMotionsSaid : Prop := pathMotionsRow.holds Try.pinned (OpenSpec.ofChange pathMotionsSpec)

/-- ITS FALSE NEIGHBOUR: 'it returns false'. Refute it at one input. -/
def pathMotionsWrong : ChangeSpec := { name := "pathMotions", fn := fun _ => fun
  | [d1, d2] => { results := [.lit (.bool false)], args := [d1, d2] }
  | _ => none }
def PathMotionsWrongFalsely : Prop := pathMotionsRow.holds Try.pinned (OpenSpec.ofChange pathMotionsWrong)

/-- 'cassegraintop.TopPathLightTimes': WHATEVER THE INPUT: true; the input reads as it did. -/
def topPathLightTimesSpec : ChangeSpec := { name := "topPathLightTimes", fn := fun _ => fun
  | [d] => { results := [.lit (.bool true)], args := [d] }
  | _ => none }
def topPathLightTimesRow : OpenClaim := { program := "ytmhcmiajikffpaa", sum := "fb72ccf89f1c583c81c640af5c484983994f8064102707b125c0d91d9e146000", func := "cassegrain/cassegraintop.TopPathLightTimes", spec := "topPathLightTimes", inPlace := ["math/bits.Add64"], unfollowed := true, recurses := true, apart := false }
def TopPathLightTimesSaid : Prop := topPathLightTimesRow.holds Try.pinned (OpenSpec.ofChange topPathLightTimesSpec)

/-- ITS FALSE NEIGHBOUR: 'it returns false'. Refute it at one input. -/
def topPathLightTimesWrong : ChangeSpec := { name := "topPathLightTimes", fn := fun _ => fun
  | [d] => { results := [.lit (.bool false)], args := [d] }
  | _ => none }
def TopPathLightTimesWrongFalsely : Prop := topPathLightTimesRow.holds Try.pinned (OpenSpec.ofChange topPathLightTimesWrong)

/- THE SECOND FORM. 'bulk': how many values and letters a reading holds, each counted each time it is reached (what is shared counts as often as it is met; a slice's spare places count too). A statement '..UptoSaid' is the law's where the arguments, and the package variables that the reading takes, are together of bulk at most 1048576: NARROWER than '..Said'. Prove '..Said' where nothing that the law and all that it calls make is longer than what came in: it says more and counts as full. Else prove '..UptoSaid'. A law counts once. -/
mutual
def uptoBulk {H : Type} : DataW H → Nat
  | .lit (.string bytes) => bytes.length + 1
  | .lit _ => 1
  | .nil => 1
  | .ptr d => uptoBulk d + 1
  | .slice elems spare => uptoBulkAll elems + uptoBulkAll spare + 1
  | .agg parts => uptoBulkAll parts + 1
  | .iface _ d => uptoBulk d + 1
  | .map entries => uptoBulkEntries entries + 1
  | .held _ => 1
def uptoBulkAll {H : Type} : List (DataW H) → Nat
  | [] => 0
  | d :: r => uptoBulk d + uptoBulkAll r
def uptoBulkEntries {H : Type} : List (Lit × DataW H) → Nat
  | [] => 0
  | x :: r => uptoBulkEntry x + uptoBulkEntries r
def uptoBulkEntry {H : Type} : Lit × DataW H → Nat
  | (.string bytes, d) => bytes.length + uptoBulk d + 1
  | (_, d) => uptoBulk d + 1
 end
def uptoSmall : (H : Type) → List (DataW H) → Bool := fun _ ds => decide (uptoBulkAll ds ≤ 1048576)
def OpenSpec.upto (s : _root_.Go.ChangeSpec) : _root_.Go.OpenSpec := { _root_.Go.OpenSpec.ofChange s with cond := some uptoSmall }

/-- 'cassegrainlaw01.PathEnclosed', WHERE WHAT IT READS IS OF BULK AT MOST 1048576: true; the input reads as it did. -/
def pathEnclosedUptoRow : OpenClaim := { program := "ytmhcmiajikffpaa", sum := "fb72ccf89f1c583c81c640af5c484983994f8064102707b125c0d91d9e146000", func := "cassegrain/cassegrainlaw01.PathEnclosed", spec := "pathEnclosed", inPlace := ["math/bits.Add64"], unfollowed := true, recurses := true, apart := false, narrowed := true }
def PathEnclosedUptoSaid : Prop := pathEnclosedUptoRow.holds Try.pinned (OpenSpec.upto pathEnclosedSpec)

/-- 'cassegrainlaw01.PathMotions', WHERE WHAT IT READS IS OF BULK AT MOST 1048576: true; the input reads as it did. -/
def pathMotionsUptoRow : OpenClaim := { program := "ytmhcmiajikffpaa", sum := "fb72ccf89f1c583c81c640af5c484983994f8064102707b125c0d91d9e146000", func := "cassegrain/cassegrainlaw01.PathMotions", spec := "pathMotions", inPlace := ["math/bits.Add64"], unfollowed := true, recurses := true, apart := false, narrowed := true }
def PathMotionsUptoSaid : Prop := pathMotionsUptoRow.holds Try.pinned (OpenSpec.upto pathMotionsSpec)

/-- 'cassegraintop.TopPathLightTimes', WHERE WHAT IT READS IS OF BULK AT MOST 1048576: true; the input reads as it did. -/
def topPathLightTimesUptoRow : OpenClaim := { program := "ytmhcmiajikffpaa", sum := "fb72ccf89f1c583c81c640af5c484983994f8064102707b125c0d91d9e146000", func := "cassegrain/cassegraintop.TopPathLightTimes", spec := "topPathLightTimes", inPlace := ["math/bits.Add64"], unfollowed := true, recurses := true, apart := false, narrowed := true }
def TopPathLightTimesUptoSaid : Prop := topPathLightTimesUptoRow.holds Try.pinned (OpenSpec.upto topPathLightTimesSpec)

end Rows
end Go.Proofs.Ytmhcmiajikffpaa
