/-
  No cell of these rows narrows 'for every input' (looked for: loops, veiled, ifaces, maps, wideKeys, modest, calm, conditions, laid).
  DERIVED. THE GIVEN ROWS OF THIS SEAT. 4 by the template 'for every input the law returns true; each argument reads behind the call as it read before'; 0 by the template 'total and deterministic' (their statements: YtmmkopdcbiiedaaTotals.lean).
  GIVEN WITH THE SEED: the statements are not yours to turn. If you find one false, say at which input.
  Laid BY PROGRAM, IN A SANDBOX (cutbox-rows.mjs): the forced cells as the released guide's own fill.sh prints them over the translation 20102805f83a9fea… (all of the seat's roots in one cut). By AI agents, Wed Nov 11 2026. No macro, syntax, notation, axiom, sorry.
-/
import Derived.Test.YtmmkopdcbiiedaaChecked
import GoSem.Claim
import GoSem.ClaimJoined
import GoSem.ClaimMapViews
import Derived.JoinedTies
import Derived.KernelRfl
namespace Go.Proofs.Ytmmkopdcbiiedaa
/- THE CELL 'sum', in the pinned program and in every row, IS THE sha256 OF THE DUMP (.gsa) THAT YtmmkopdcbiiedaaProg.lean LOADS. Nothing in Lean hashes anything: it is a label: what it is worth is what the hold of that sum in a sandbox is worth. -/
noncomputable def Try.pinned : Pinned := { name := "ytmmkopdcbiiedaa", sum := "20102805f83a9feaccdab4c9ec0db0212e8d4b4c9d87e2a4ee0c8d4ef042a320", checked := Try.checked }
namespace Rows
def none {H : Type} : Left H := { results := [], args := [] }

/-- 'ententelaw09.CheckTells': WHATEVER THE INPUT: true; the input reads as it did. -/
def checkTellsSpec : ChangeSpec := { name := "checkTells", fn := fun _ => fun
  | [d1, d2, d3] => { results := [.lit (.bool true)], args := [d1, d2, d3] }
  | _ => none }
def checkTellsRow : OpenClaim := { program := "ytmmkopdcbiiedaa", sum := "20102805f83a9feaccdab4c9ec0db0212e8d4b4c9d87e2a4ee0c8d4ef042a320", func := "entente/ententelaw09.CheckTells", spec := "checkTells", inPlace := ["internal/bytealg.abigen_runtime_cmpstring"], unfollowed := true, recurses := true, plainKeys := false, apart := false }
def CheckTellsSaid : Prop := checkTellsRow.holds Try.pinned (OpenSpec.ofChange checkTellsSpec)

/-- ITS FALSE NEIGHBOUR: 'it returns false'. Refute it at one input. -/
def checkTellsWrong : ChangeSpec := { name := "checkTells", fn := fun _ => fun
  | [d1, d2, d3] => { results := [.lit (.bool false)], args := [d1, d2, d3] }
  | _ => none }
def CheckTellsWrongFalsely : Prop := checkTellsRow.holds Try.pinned (OpenSpec.ofChange checkTellsWrong)

/-- 'ententelaw09.CheckTight': WHATEVER THE INPUT: true; the input reads as it did. -/
def checkTightSpec : ChangeSpec := { name := "checkTight", fn := fun _ => fun
  | [d] => { results := [.lit (.bool true)], args := [d] }
  | _ => none }
def checkTightRow : OpenClaim := { program := "ytmmkopdcbiiedaa", sum := "20102805f83a9feaccdab4c9ec0db0212e8d4b4c9d87e2a4ee0c8d4ef042a320", func := "entente/ententelaw09.CheckTight", spec := "checkTight", inPlace := ["internal/bytealg.abigen_runtime_cmpstring"], unfollowed := true, recurses := true, plainKeys := false, apart := false }
def CheckTightSaid : Prop := checkTightRow.holds Try.pinned (OpenSpec.ofChange checkTightSpec)

/-- ITS FALSE NEIGHBOUR: 'it returns false'. Refute it at one input. -/
def checkTightWrong : ChangeSpec := { name := "checkTight", fn := fun _ => fun
  | [d] => { results := [.lit (.bool false)], args := [d] }
  | _ => none }
def CheckTightWrongFalsely : Prop := checkTightRow.holds Try.pinned (OpenSpec.ofChange checkTightWrong)

/-- 'ententelaw09.CheckGets': WHATEVER THE INPUT: true; the input reads as it did. -/
def checkGetsSpec : ChangeSpec := { name := "checkGets", fn := fun _ => fun
  | [d1, d2, d3] => { results := [.lit (.bool true)], args := [d1, d2, d3] }
  | _ => none }
def checkGetsRow : OpenClaim := { program := "ytmmkopdcbiiedaa", sum := "20102805f83a9feaccdab4c9ec0db0212e8d4b4c9d87e2a4ee0c8d4ef042a320", func := "entente/ententelaw09.CheckGets", spec := "checkGets", inPlace := ["internal/bytealg.abigen_runtime_cmpstring"], unfollowed := true, recurses := true, plainKeys := false, apart := false }
def CheckGetsSaid : Prop := checkGetsRow.holds Try.pinned (OpenSpec.ofChange checkGetsSpec)

/-- ITS FALSE NEIGHBOUR: 'it returns false'. Refute it at one input. -/
def checkGetsWrong : ChangeSpec := { name := "checkGets", fn := fun _ => fun
  | [d1, d2, d3] => { results := [.lit (.bool false)], args := [d1, d2, d3] }
  | _ => none }
def CheckGetsWrongFalsely : Prop := checkGetsRow.holds Try.pinned (OpenSpec.ofChange checkGetsWrong)

/-- 'ententelaw09.CheckSound': WHATEVER THE INPUT: true; the input reads as it did. -/
def checkSoundSpec : ChangeSpec := { name := "checkSound", fn := fun _ => fun
  | [d1, d2] => { results := [.lit (.bool true)], args := [d1, d2] }
  | _ => none }
def checkSoundRow : OpenClaim := { program := "ytmmkopdcbiiedaa", sum := "20102805f83a9feaccdab4c9ec0db0212e8d4b4c9d87e2a4ee0c8d4ef042a320", func := "entente/ententelaw09.CheckSound", spec := "checkSound", inPlace := ["internal/bytealg.abigen_runtime_cmpstring"], unfollowed := true, recurses := true, plainKeys := false, apart := false }
def CheckSoundSaid : Prop := checkSoundRow.holds Try.pinned (OpenSpec.ofChange checkSoundSpec)

/-- ITS FALSE NEIGHBOUR: 'it returns false'. Refute it at one input. -/
def checkSoundWrong : ChangeSpec := { name := "checkSound", fn := fun _ => fun
  | [d1, d2] => { results := [.lit (.bool false)], args := [d1, d2] }
  | _ => none }
def CheckSoundWrongFalsely : Prop := checkSoundRow.holds Try.pinned (OpenSpec.ofChange checkSoundWrong)

/- THE SECOND FORM. 'bulk': how many values and letters a reading holds, each counted each time it is reached (what is shared counts as often as it is met; a slice's spare places count too). A statement '..UptoSaid' is the law's where the arguments, and the package variables that the reading takes, are together of bulk at most 1048576: NARROWER than '..Said'. Prove '..Said' where nothing that the law and all that it calls make is longer than what came in: it says more and counts as full. Else prove '..UptoSaid'. A law counts once. -/
mutual
def uptoBulk {H : Type} : DataW H → Nat
  | .lit (.string bytes) => bytes.length + 1
  | .lit _ => 1
  | .nil => 1
  | .ptr d => uptoBulk d + 1
  | .slice elems spare => uptoBulkAll elems + uptoBulkAll spare + 1
  | .agg parts => uptoBulkAll parts + 1
  | .iface _ d => uptoBulk d + 1
  | .map entries => uptoBulkEntries entries + 1
  | .held _ => 1
def uptoBulkAll {H : Type} : List (DataW H) → Nat
  | [] => 0
  | d :: r => uptoBulk d + uptoBulkAll r
def uptoBulkEntries {H : Type} : List (Lit × DataW H) → Nat
  | [] => 0
  | x :: r => uptoBulkEntry x + uptoBulkEntries r
def uptoBulkEntry {H : Type} : Lit × DataW H → Nat
  | (.string bytes, d) => bytes.length + uptoBulk d + 1
  | (_, d) => uptoBulk d + 1
 end
def uptoSmall : (H : Type) → List (DataW H) → Bool := fun _ ds => decide (uptoBulkAll ds ≤ 1048576)
def OpenSpec.upto (s : _root_.Go.ChangeSpec) : _root_.Go.OpenSpec := { _root_.Go.OpenSpec.ofChange s with cond := some uptoSmall }

/-- 'ententelaw09.CheckTells', WHERE WHAT IT READS IS OF BULK AT MOST 1048576: true; the input reads as it did. -/
def checkTellsUptoRow : OpenClaim := { program := "ytmmkopdcbiiedaa", sum := "20102805f83a9feaccdab4c9ec0db0212e8d4b4c9d87e2a4ee0c8d4ef042a320", func := "entente/ententelaw09.CheckTells", spec := "checkTells", inPlace := ["internal/bytealg.abigen_runtime_cmpstring"], unfollowed := true, recurses := true, plainKeys := false, apart := false, narrowed := true }
def CheckTellsUptoSaid : Prop := checkTellsUptoRow.holds Try.pinned (OpenSpec.upto checkTellsSpec)

/-- 'ententelaw09.CheckTight', WHERE WHAT IT READS IS OF BULK AT MOST 1048576: true; the input reads as it did. -/
def checkTightUptoRow : OpenClaim := { program := "ytmmkopdcbiiedaa", sum := "20102805f83a9feaccdab4c9ec0db0212e8d4b4c9d87e2a4ee0c8d4ef042a320", func := "entente/ententelaw09.CheckTight", spec := "checkTight", inPlace := ["internal/bytealg.abigen_runtime_cmpstring"], unfollowed := true, recurses := true, plainKeys := false, apart := false, narrowed := true }
def CheckTightUptoSaid : Prop := checkTightUptoRow.holds Try.pinned (OpenSpec.upto checkTightSpec)

/-- 'ententelaw09.CheckGets', WHERE WHAT IT READS IS OF BULK AT MOST 1048576: true; the input reads as it did. -/
def checkGetsUptoRow : OpenClaim := { program := "ytmmkopdcbiiedaa", sum := "20102805f83a9feaccdab4c9ec0db0212e8d4b4c9d87e2a4ee0c8d4ef042a320", func := "entente/ententelaw09.CheckGets", spec := "checkGets", inPlace := ["internal/bytealg.abigen_runtime_cmpstring"], unfollowed := true, recurses := true, plainKeys := false, apart := false, narrowed := true }
def CheckGetsUptoSaid : Prop := checkGetsUptoRow.holds Try.pinned (OpenSpec.upto checkGetsSpec)

/-- 'ententelaw09.CheckSound', WHERE WHAT IT READS IS OF BULK AT MOST 1048576: true; the input reads as it did. -/
def checkSoundUptoRow : OpenClaim := { program := "ytmmkopdcbiiedaa", sum := "20102805f83a9feaccdab4c9ec0db0212e8d4b4c9d87e2a4ee0c8d4ef042a320", func := "entente/ententelaw09.CheckSound", spec := "checkSound", inPlace := ["internal/bytealg.abigen_runtime_cmpstring"], unfollowed := true, recurses := true, plainKeys := false, apart := false, narrowed := true }
def CheckSoundUptoSaid : Prop := checkSoundUptoRow.holds Try.pinned (OpenSpec.upto checkSoundSpec)

end Rows
end Go.Proofs.Ytmmkopdcbiiedaa
