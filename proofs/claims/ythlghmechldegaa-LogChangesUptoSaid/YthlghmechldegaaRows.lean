/-
  No cell of these rows narrows 'for every input' (looked for: loops, veiled, ifaces, maps, wideKeys, modest, calm, conditions, laid).
  DERIVED. THE GIVEN ROWS OF THIS SEAT. 5 by the template 'for every input the law returns true; each argument reads behind the call as it read before'; 0 by the template 'total and deterministic' (their statements: YthlghmechldegaaTotals.lean).
  GIVEN WITH THE SEED: the statements are not yours to turn. If you find one false, say at which input.
  Laid BY PROGRAM, IN A SANDBOX (cutbox-rows.mjs): the forced cells as the released guide's own fill.sh prints them over the translation 9e3583c3e663d125… (all of the seat's roots in one cut). By AI agents, Wed Nov 11 2026. No macro, syntax, notation, axiom, sorry.
-/
import Derived.Test.YthlghmechldegaaChecked
import GoSem.Claim
import GoSem.ClaimJoined
import GoSem.ClaimMapViews
import Derived.JoinedTies
import Derived.KernelRfl
namespace Go.Proofs.Ythlghmechldegaa
/- THE CELL 'sum', in the pinned program and in every row, IS THE sha256 OF THE DUMP (.gsa) THAT YthlghmechldegaaProg.lean LOADS. Nothing in Lean hashes anything: it is a label: what it is worth is what the hold of that sum in a sandbox is worth. -/
noncomputable def Try.pinned : Pinned := { name := "ythlghmechldegaa", sum := "9e3583c3e663d12593af3a9006b4d6d0344a176f1c80ee1d3a0bf692aed06f7a", checked := Try.checked }
namespace Rows
def none {H : Type} : Left H := { results := [], args := [] }

/-- 'tandemlaw19.LogTells': WHATEVER THE INPUT: true; the input reads as it did. -/
def logTellsSpec : ChangeSpec := { name := "logTells", fn := fun _ => fun
  | [d1, d2, d3, d4] => { results := [.lit (.bool true)], args := [d1, d2, d3, d4] }
  | _ => none }
def logTellsRow : OpenClaim := { program := "ythlghmechldegaa", sum := "9e3583c3e663d12593af3a9006b4d6d0344a176f1c80ee1d3a0bf692aed06f7a", func := "tandem/tandemlaw19.LogTells", spec := "logTells", apart := false }
def LogTellsSaid : Prop := logTellsRow.holds Try.pinned (OpenSpec.ofChange logTellsSpec)

/-- ITS FALSE NEIGHBOUR: 'it returns false'. Refute it at one input. -/
def logTellsWrong : ChangeSpec := { name := "logTells", fn := fun _ => fun
  | [d1, d2, d3, d4] => { results := [.lit (.bool false)], args := [d1, d2, d3, d4] }
  | _ => none }
def LogTellsWrongFalsely : Prop := logTellsRow.holds Try.pinned (OpenSpec.ofChange logTellsWrong)

/-- 'tandemlaw19.LogChanges': WHATEVER THE INPUT: true; the input reads as it did. -/
def logChangesSpec : ChangeSpec := { name := "logChanges", fn := fun _ => fun
  | [d1, d2, d3, d4] => { results := [.lit (.bool true)], args := [d1, d2, d3, d4] }
  | _ => none }
def logChangesRow : OpenClaim := { program := "ythlghmechldegaa", sum := "9e3583c3e663d12593af3a9006b4d6d0344a176f1c80ee1d3a0bf692aed06f7a", func := "tandem/tandemlaw19.LogChanges", spec := "logChanges", apart := false }
def LogChangesSaid : Prop := logChangesRow.holds Try.pinned (OpenSpec.ofChange logChangesSpec)

/-- ITS FALSE NEIGHBOUR: 'it returns false'. Refute it at one input. -/
def logChangesWrong : ChangeSpec := { name := "logChanges", fn := fun _ => fun
  | [d1, d2, d3, d4] => { results := [.lit (.bool false)], args := [d1, d2, d3, d4] }
  | _ => none }
def LogChangesWrongFalsely : Prop := logChangesRow.holds Try.pinned (OpenSpec.ofChange logChangesWrong)

/-- 'tandemlaw19.LogCounts': WHATEVER THE INPUT: true; the input reads as it did. -/
def logCountsSpec : ChangeSpec := { name := "logCounts", fn := fun _ => fun
  | [d1, d2, d3, d4] => { results := [.lit (.bool true)], args := [d1, d2, d3, d4] }
  | _ => none }
def logCountsRow : OpenClaim := { program := "ythlghmechldegaa", sum := "9e3583c3e663d12593af3a9006b4d6d0344a176f1c80ee1d3a0bf692aed06f7a", func := "tandem/tandemlaw19.LogCounts", spec := "logCounts", apart := false }
def LogCountsSaid : Prop := logCountsRow.holds Try.pinned (OpenSpec.ofChange logCountsSpec)

/-- ITS FALSE NEIGHBOUR: 'it returns false'. Refute it at one input. -/
def logCountsWrong : ChangeSpec := { name := "logCounts", fn := fun _ => fun
  | [d1, d2, d3, d4] => { results := [.lit (.bool false)], args := [d1, d2, d3, d4] }
  | _ => none }
def LogCountsWrongFalsely : Prop := logCountsRow.holds Try.pinned (OpenSpec.ofChange logCountsWrong)

/-- 'tandemlaw19.LogMeet': WHATEVER THE INPUT: true; the input reads as it did. -/
def logMeetSpec : ChangeSpec := { name := "logMeet", fn := fun _ => fun
  | [d1, d2, d3, d4] => { results := [.lit (.bool true)], args := [d1, d2, d3, d4] }
  | _ => none }
def logMeetRow : OpenClaim := { program := "ythlghmechldegaa", sum := "9e3583c3e663d12593af3a9006b4d6d0344a176f1c80ee1d3a0bf692aed06f7a", func := "tandem/tandemlaw19.LogMeet", spec := "logMeet", apart := false }
def LogMeetSaid : Prop := logMeetRow.holds Try.pinned (OpenSpec.ofChange logMeetSpec)

/-- ITS FALSE NEIGHBOUR: 'it returns false'. Refute it at one input. -/
def logMeetWrong : ChangeSpec := { name := "logMeet", fn := fun _ => fun
  | [d1, d2, d3, d4] => { results := [.lit (.bool false)], args := [d1, d2, d3, d4] }
  | _ => none }
def LogMeetWrongFalsely : Prop := logMeetRow.holds Try.pinned (OpenSpec.ofChange logMeetWrong)

/-- 'tandemlaw19.LogAgreed': WHATEVER THE INPUT: true; the input reads as it did. -/
def logAgreedSpec : ChangeSpec := { name := "logAgreed", fn := fun _ => fun
  | [d1, d2] => { results := [.lit (.bool true)], args := [d1, d2] }
  | _ => none }
def logAgreedRow : OpenClaim := { program := "ythlghmechldegaa", sum := "9e3583c3e663d12593af3a9006b4d6d0344a176f1c80ee1d3a0bf692aed06f7a", func := "tandem/tandemlaw19.LogAgreed", spec := "logAgreed", apart := false }
def LogAgreedSaid : Prop := logAgreedRow.holds Try.pinned (OpenSpec.ofChange logAgreedSpec)

/-- ITS FALSE NEIGHBOUR: 'it returns false'. Refute it at one input. -/
def logAgreedWrong : ChangeSpec := { name := "logAgreed", fn := fun _ => fun
  | [d1, d2] => { results := [.lit (.bool false)], args := [d1, d2] }
  | _ => none }
def LogAgreedWrongFalsely : Prop := logAgreedRow.holds Try.pinned (OpenSpec.ofChange logAgreedWrong)

/- THE SECOND FORM. 'bulk': how many values and letters a reading holds, each counted each time it is reached (what is shared counts as often as it is met; a slice's spare places count too). A statement '..UptoSaid' is the law's where the arguments, and the package variables that the reading takes, are together of bulk at most 1048576: NARROWER than '..Said'. Prove '..Said' where nothing that the law and all that it calls make is longer than what came in: it says more and counts as full. Else prove '..UptoSaid'. A law counts once. -/
mutual
def uptoBulk {H : Type} : DataW H → Nat
  | .lit (.string bytes) => bytes.length + 1
  | .lit _ => 1
  | .nil => 1
  | .ptr d => uptoBulk d + 1
  | .slice elems spare => uptoBulkAll elems + uptoBulkAll spare + 1
  | .agg parts => uptoBulkAll parts + 1
  | .iface _ d => uptoBulk d + 1
  | .map entries => uptoBulkEntries entries + 1
  | .held _ => 1
def uptoBulkAll {H : Type} : List (DataW H) → Nat
  | [] => 0
  | d :: r => uptoBulk d + uptoBulkAll r
def uptoBulkEntries {H : Type} : List (Lit × DataW H) → Nat
  | [] => 0
  | x :: r => uptoBulkEntry x + uptoBulkEntries r
def uptoBulkEntry {H : Type} : Lit × DataW H → Nat
  | (.string bytes, d) => bytes.length + uptoBulk d + 1
  | (_, d) => uptoBulk d + 1
 end
def uptoSmall : (H : Type) → List (DataW H) → Bool := fun _ ds => decide (uptoBulkAll ds ≤ 1048576)
def OpenSpec.upto (s : _root_.Go.ChangeSpec) : _root_.Go.OpenSpec := { _root_.Go.OpenSpec.ofChange s with cond := some uptoSmall }

/-- 'tandemlaw19.LogTells', WHERE WHAT IT READS IS OF BULK AT MOST 1048576: true; the input reads as it did. -/
def logTellsUptoRow : OpenClaim := { program := "ythlghmechldegaa", sum := "9e3583c3e663d12593af3a9006b4d6d0344a176f1c80ee1d3a0bf692aed06f7a", func := "tandem/tandemlaw19.LogTells", spec := "logTells", apart := false, narrowed := true }
def LogTellsUptoSaid : Prop := logTellsUptoRow.holds Try.pinned (OpenSpec.upto logTellsSpec)

/-- 'tandemlaw19.LogChanges', WHERE WHAT IT READS IS OF BULK AT MOST 1048576: true; the input reads as it did. -/
def logChangesUptoRow : OpenClaim := { program := "ythlghmechldegaa", sum := "9e3583c3e663d12593af3a9006b4d6d0344a176f1c80ee1d3a0bf692aed06f7a", func := "tandem/tandemlaw19.LogChanges", spec := "logChanges", apart := false, narrowed := true }
def LogChangesUptoSaid : Prop := logChangesUptoRow.holds Try.pinned (OpenSpec.upto logChangesSpec)

/-- 'tandemlaw19.LogCounts', WHERE WHAT IT READS IS OF BULK AT MOST 1048576: true; the input reads as it did. -/
def logCountsUptoRow : OpenClaim := { program := "ythlghmechldegaa", sum := "9e3583c3e663d12593af3a9006b4d6d0344a176f1c80ee1d3a0bf692aed06f7a", func := "tandem/tandemlaw19.LogCounts", spec := "logCounts", apart := false, narrowed := true }
def LogCountsUptoSaid : Prop := logCountsUptoRow.holds Try.pinned (OpenSpec.upto logCountsSpec)

/-- 'tandemlaw19.LogMeet', WHERE WHAT IT READS IS OF BULK AT MOST 1048576: true; the input reads as it did. -/
def logMeetUptoRow : OpenClaim := { program := "ythlghmechldegaa", sum := "9e3583c3e663d12593af3a9006b4d6d0344a176f1c80ee1d3a0bf692aed06f7a", func := "tandem/tandemlaw19.LogMeet", spec := "logMeet", apart := false, narrowed := true }
def LogMeetUptoSaid : Prop := logMeetUptoRow.holds Try.pinned (OpenSpec.upto logMeetSpec)

/-- 'tandemlaw19.LogAgreed', WHERE WHAT IT READS IS OF BULK AT MOST 1048576: true; the input reads as it did. -/
def logAgreedUptoRow : OpenClaim := { program := "ythlghmechldegaa", sum := "9e3583c3e663d12593af3a9006b4d6d0344a176f1c80ee1d3a0bf692aed06f7a", func := "tandem/tandemlaw19.LogAgreed", spec := "logAgreed", apart := false, narrowed := true }
def LogAgreedUptoSaid : Prop := logAgreedUptoRow.holds Try.pinned (OpenSpec.upto logAgreedSpec)

end Rows
end Go.Proofs.Ythlghmechldegaa
