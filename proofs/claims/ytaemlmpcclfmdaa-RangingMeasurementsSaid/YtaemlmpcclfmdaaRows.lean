/-
  No cell of these rows narrows 'for every input' (looked for: loops, veiled, ifaces, maps, wideKeys, modest, calm, conditions, laid).
  DERIVED. THE GIVEN ROWS OF THIS SEAT. 6 by the template 'for every input the law returns true; each argument reads behind the call as it read before'; 0 by the template 'total and deterministic' (their statements: YtaemlmpcclfmdaaTotals.lean).
  GIVEN WITH THE SEED: the statements are not yours to turn. If you find one false, say at which input.
  Laid BY PROGRAM, IN A SANDBOX (cutbox-rows.mjs): the forced cells as the released guide's own fill.sh prints them over the translation 823f6bf9fb967a61… (all of the seat's roots in one cut). By AI agents, Wed Nov 11 2026. No macro, syntax, notation, axiom, sorry.
-/
import Derived.Test.YtaemlmpcclfmdaaChecked
import GoSem.Claim
import GoSem.ClaimJoined
import GoSem.ClaimMapViews
import Derived.JoinedTies
import Derived.KernelRfl
namespace Go.Proofs.Ytaemlmpcclfmdaa
/- THE CELL 'sum', in the pinned program and in every row, IS THE sha256 OF THE DUMP (.gsa) THAT YtaemlmpcclfmdaaProg.lean LOADS. Nothing in Lean hashes anything: it is a label: what it is worth is what the hold of that sum in a sandbox is worth. -/
noncomputable def Try.pinned : Pinned := { name := "ytaemlmpcclfmdaa", sum := "823f6bf9fb967a6132a6f81d7481dd61074761caecd5b10e12a14370b63b7469", checked := Try.checked }
namespace Rows
def none {H : Type} : Left H := { results := [], args := [] }

/-- 'cassegrainlaw07.RangingCandidates': WHATEVER THE INPUT: true; the input reads as it did. -/
def rangingCandidatesSpec : ChangeSpec := { name := "rangingCandidates", fn := fun _ => fun
  | [d1, d2] => { results := [.lit (.bool true)], args := [d1, d2] }
  | _ => none }
def rangingCandidatesRow : OpenClaim := { program := "ytaemlmpcclfmdaa", sum := "823f6bf9fb967a6132a6f81d7481dd61074761caecd5b10e12a14370b63b7469", func := "cassegrain/cassegrainlaw07.RangingCandidates", spec := "rangingCandidates", unfollowed := true, recurses := true, plainKeys := false, apart := false }
def RangingCandidatesSaid : Prop := rangingCandidatesRow.holds Try.pinned (OpenSpec.ofChange rangingCandidatesSpec)

/-- ITS FALSE NEIGHBOUR: 'it returns false'. Refute it at one input. -/
def rangingCandidatesWrong : ChangeSpec := { name := "rangingCandidates", fn := fun _ => fun
  | [d1, d2] => { results := [.lit (.bool false)], args := [d1, d2] }
  | _ => none }
def RangingCandidatesWrongFalsely : Prop := rangingCandidatesRow.holds Try.pinned (OpenSpec.ofChange rangingCandidatesWrong)

/-- 'cassegrainlaw07.RangingAll': WHATEVER THE INPUT: true; the input reads as it did. -/
def rangingAllSpec : ChangeSpec := { name := "rangingAll", fn := fun _ => fun
  | [d1, d2, d3] => { results := [.lit (.bool true)], args := [d1, d2, d3] }
  | _ => none }
def rangingAllRow : OpenClaim := { program := "ytaemlmpcclfmdaa", sum := "823f6bf9fb967a6132a6f81d7481dd61074761caecd5b10e12a14370b63b7469", func := "cassegrain/cassegrainlaw07.RangingAll", spec := "rangingAll", unfollowed := true, recurses := true, plainKeys := false, apart := false }
def RangingAllSaid : Prop := rangingAllRow.holds Try.pinned (OpenSpec.ofChange rangingAllSpec)

/-- ITS FALSE NEIGHBOUR: 'it returns false'. Refute it at one input. -/
def rangingAllWrong : ChangeSpec := { name := "rangingAll", fn := fun _ => fun
  | [d1, d2, d3] => { results := [.lit (.bool false)], args := [d1, d2, d3] }
  | _ => none }
def RangingAllWrongFalsely : Prop := rangingAllRow.holds Try.pinned (OpenSpec.ofChange rangingAllWrong)

/-- 'cassegrainlaw07.RangingMeasurements': WHATEVER THE INPUT: true; the input reads as it did. -/
def rangingMeasurementsSpec : ChangeSpec := { name := "rangingMeasurements", fn := fun _ => fun
  | [d] => { results := [.lit (.bool true)], args := [d] }
  | _ => none }
def rangingMeasurementsRow : OpenClaim := { program := "ytaemlmpcclfmdaa", sum := "823f6bf9fb967a6132a6f81d7481dd61074761caecd5b10e12a14370b63b7469", func := "cassegrain/cassegrainlaw07.RangingMeasurements", spec := "rangingMeasurements", unfollowed := true, recurses := true, plainKeys := false, apart := false }
def RangingMeasurementsSaid : Prop := rangingMeasurementsRow.holds Try.pinned (OpenSpec.ofChange rangingMeasurementsSpec)

/-- ITS FALSE NEIGHBOUR: 'it returns false'. Refute it at one input. -/
def rangingMeasurementsWrong : ChangeSpec := { name := "rangingMeasurements", fn := fun _ => fun
  | [d] => { results := [.lit (.bool false)], args := [d] }
  | _ => none }
def RangingMeasurementsWrongFalsely : Prop := rangingMeasurementsRow.holds Try.pinned (OpenSpec.ofChange rangingMeasurementsWrong)

/-- 'cassegrainlaw07.RangingEnclosed': WHATEVER THE INPUT: true; the input reads as it did. -/
def rangingEnclosedSpec : ChangeSpec := { name := "rangingEnclosed", fn := fun _ => fun
  | [d1, d2, d3] => { results := [.lit (.bool true)], args := [d1, d2, d3] }
  | _ => none }
def rangingEnclosedRow : OpenClaim := { program := "ytaemlmpcclfmdaa", sum := "823f6bf9fb967a6132a6f81d7481dd61074761caecd5b10e12a14370b63b7469", func := "cassegrain/cassegrainlaw07.RangingEnclosed", spec := "rangingEnclosed", unfollowed := true, recurses := true, plainKeys := false, apart := false }
def RangingEnclosedSaid : Prop := rangingEnclosedRow.holds Try.pinned (OpenSpec.ofChange rangingEnclosedSpec)

/-- ITS FALSE NEIGHBOUR: 'it returns false'. Refute it at one input. -/
def rangingEnclosedWrong : ChangeSpec := { name := "rangingEnclosed", fn := fun _ => fun
  | [d1, d2, d3] => { results := [.lit (.bool false)], args := [d1, d2, d3] }
  | _ => none }
def RangingEnclosedWrongFalsely : Prop := rangingEnclosedRow.holds Try.pinned (OpenSpec.ofChange rangingEnclosedWrong)

/-- 'cassegrainlaw07.RangingContradicting': WHATEVER THE INPUT: true; the input reads as it did. -/
def rangingContradictingSpec : ChangeSpec := { name := "rangingContradicting", fn := fun _ => fun
  | [d] => { results := [.lit (.bool true)], args := [d] }
  | _ => none }
def rangingContradictingRow : OpenClaim := { program := "ytaemlmpcclfmdaa", sum := "823f6bf9fb967a6132a6f81d7481dd61074761caecd5b10e12a14370b63b7469", func := "cassegrain/cassegrainlaw07.RangingContradicting", spec := "rangingContradicting", unfollowed := true, recurses := true, plainKeys := false, apart := false }
def RangingContradictingSaid : Prop := rangingContradictingRow.holds Try.pinned (OpenSpec.ofChange rangingContradictingSpec)

/-- ITS FALSE NEIGHBOUR: 'it returns false'. Refute it at one input. -/
def rangingContradictingWrong : ChangeSpec := { name := "rangingContradicting", fn := fun _ => fun
  | [d] => { results := [.lit (.bool false)], args := [d] }
  | _ => none }
def RangingContradictingWrongFalsely : Prop := rangingContradictingRow.holds Try.pinned (OpenSpec.ofChange rangingContradictingWrong)

/-- 'cassegraintop.TopRangingResolves': WHATEVER THE INPUT: true; the input reads as it did. -/
def topRangingResolvesSpec : ChangeSpec := { name := "topRangingResolves", fn := fun _ => fun
  | [d] => { results := [.lit (.bool true)], args := [d] }
  | _ => none }
def topRangingResolvesRow : OpenClaim := { program := "ytaemlmpcclfmdaa", sum := "823f6bf9fb967a6132a6f81d7481dd61074761caecd5b10e12a14370b63b7469", func := "cassegrain/cassegraintop.TopRangingResolves", spec := "topRangingResolves", unfollowed := true, recurses := true, plainKeys := false, apart := false }
def TopRangingResolvesSaid : Prop := topRangingResolvesRow.holds Try.pinned (OpenSpec.ofChange topRangingResolvesSpec)

/-- ITS FALSE NEIGHBOUR: 'it returns false'. Refute it at one input. -/
def topRangingResolvesWrong : ChangeSpec := { name := "topRangingResolves", fn := fun _ => fun
  | [d] => { results := [.lit (.bool false)], args := [d] }
  | _ => none }
def TopRangingResolvesWrongFalsely : Prop := topRangingResolvesRow.holds Try.pinned (OpenSpec.ofChange topRangingResolvesWrong)

/- THE SECOND FORM. 'bulk': how many values and letters a reading holds, each counted each time it is reached (what is shared counts as often as it is met; a slice's spare places count too). A statement '..UptoSaid' is the law's where the arguments, and the package variables that the reading takes, are together of bulk at most 1048576: NARROWER than '..Said'. Prove '..Said' where nothing that the law and all that it calls make is longer than what came in: it says more and counts as full. Else prove '..UptoSaid'. A law counts once. -/
mutual
def uptoBulk {H : Type} : DataW H → Nat
  | .lit (.string bytes) => bytes.length + 1
  | .lit _ => 1
  | .nil => 1
  | .ptr d => uptoBulk d + 1
  | .slice elems spare => uptoBulkAll elems + uptoBulkAll spare + 1
  | .agg parts => uptoBulkAll parts + 1
  | .iface _ d => uptoBulk d + 1
  | .map entries => uptoBulkEntries entries + 1
  | .held _ => 1
def uptoBulkAll {H : Type} : List (DataW H) → Nat
  | [] => 0
  | d :: r => uptoBulk d + uptoBulkAll r
def uptoBulkEntries {H : Type} : List (Lit × DataW H) → Nat
  | [] => 0
  | x :: r => uptoBulkEntry x + uptoBulkEntries r
def uptoBulkEntry {H : Type} : Lit × DataW H → Nat
  | (.string bytes, d) => bytes.length + uptoBulk d + 1
  | (_, d) => uptoBulk d + 1
 end
def uptoSmall : (H : Type) → List (DataW H) → Bool := fun _ ds => decide (uptoBulkAll ds ≤ 1048576)
def OpenSpec.upto (s : _root_.Go.ChangeSpec) : _root_.Go.OpenSpec := { _root_.Go.OpenSpec.ofChange s with cond := some uptoSmall }

/-- 'cassegrainlaw07.RangingCandidates', WHERE WHAT IT READS IS OF BULK AT MOST 1048576: true; the input reads as it did. -/
def rangingCandidatesUptoRow : OpenClaim := { program := "ytaemlmpcclfmdaa", sum := "823f6bf9fb967a6132a6f81d7481dd61074761caecd5b10e12a14370b63b7469", func := "cassegrain/cassegrainlaw07.RangingCandidates", spec := "rangingCandidates", unfollowed := true, recurses := true, plainKeys := false, apart := false, narrowed := true }
def RangingCandidatesUptoSaid : Prop := rangingCandidatesUptoRow.holds Try.pinned (OpenSpec.upto rangingCandidatesSpec)

/-- 'cassegrainlaw07.RangingAll', WHERE WHAT IT READS IS OF BULK AT MOST 1048576: true; the input reads as it did. -/
def rangingAllUptoRow : OpenClaim := { program := "ytaemlmpcclfmdaa", sum := "823f6bf9fb967a6132a6f81d7481dd61074761caecd5b10e12a14370b63b7469", func := "cassegrain/cassegrainlaw07.RangingAll", spec := "rangingAll", unfollowed := true, recurses := true, plainKeys := false, apart := false, narrowed := true }
def RangingAllUptoSaid : Prop := rangingAllUptoRow.holds Try.pinned (OpenSpec.upto rangingAllSpec)

/-- 'cassegrainlaw07.RangingMeasurements', WHERE WHAT IT READS IS OF BULK AT MOST 1048576: true; the input reads as it did. -/
def rangingMeasurementsUptoRow : OpenClaim := { program := "ytaemlmpcclfmdaa", sum := "823f6bf9fb967a6132a6f81d7481dd61074761caecd5b10e12a14370b63b7469", func := "cassegrain/cassegrainlaw07.RangingMeasurements", spec := "rangingMeasurements", unfollowed := true, recurses := true, plainKeys := false, apart := false, narrowed := true }
def RangingMeasurementsUptoSaid : Prop := rangingMeasurementsUptoRow.holds Try.pinned (OpenSpec.upto rangingMeasurementsSpec)

/-- 'cassegrainlaw07.RangingEnclosed', WHERE WHAT IT READS IS OF BULK AT MOST 1048576: true; the input reads as it did. -/
def rangingEnclosedUptoRow : OpenClaim := { program := "ytaemlmpcclfmdaa", sum := "823f6bf9fb967a6132a6f81d7481dd61074761caecd5b10e12a14370b63b7469", func := "cassegrain/cassegrainlaw07.RangingEnclosed", spec := "rangingEnclosed", unfollowed := true, recurses := true, plainKeys := false, apart := false, narrowed := true }
def RangingEnclosedUptoSaid : Prop := rangingEnclosedUptoRow.holds Try.pinned (OpenSpec.upto rangingEnclosedSpec)

/-- 'cassegrainlaw07.RangingContradicting', WHERE WHAT IT READS IS OF BULK AT MOST 1048576: true; the input reads as it did. -/
def rangingContradictingUptoRow : OpenClaim := { program := "ytaemlmpcclfmdaa", sum := "823f6bf9fb967a6132a6f81d7481dd61074761caecd5b10e12a14370b63b7469", func := "cassegrain/cassegrainlaw07.RangingContradicting", spec := "rangingContradicting", unfollowed := true, recurses := true, plainKeys := false, apart := false, narrowed := true }
def RangingContradictingUptoSaid : Prop := rangingContradictingUptoRow.holds Try.pinned (OpenSpec.upto rangingContradictingSpec)

/-- 'cassegraintop.TopRangingResolves', WHERE WHAT IT READS IS OF BULK AT MOST 1048576: true; the input reads as it did. -/
def topRangingResolvesUptoRow : OpenClaim := { program := "ytaemlmpcclfmdaa", sum := "823f6bf9fb967a6132a6f81d7481dd61074761caecd5b10e12a14370b63b7469", func := "cassegrain/cassegraintop.TopRangingResolves", spec := "topRangingResolves", unfollowed := true, recurses := true, plainKeys := false, apart := false, narrowed := true }
def TopRangingResolvesUptoSaid : Prop := topRangingResolvesUptoRow.holds Try.pinned (OpenSpec.upto topRangingResolvesSpec)

end Rows
end Go.Proofs.Ytaemlmpcclfmdaa
