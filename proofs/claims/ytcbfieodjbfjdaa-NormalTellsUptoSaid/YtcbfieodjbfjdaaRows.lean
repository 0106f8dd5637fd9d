/-
  NARROWER THAN 'FOR EVERY INPUT', by the rows' own cells (each row's printed sentence says how): NormalTells: loops · NormalSays: loops · SetsSuffice: loops.
  DERIVED. THE GIVEN ROWS OF THIS SEAT. 3 by the template 'for every input the law returns true; each argument reads behind the call as it read before'; 0 by the template 'total and deterministic' (their statements: YtcbfieodjbfjdaaTotals.lean).
  GIVEN WITH THE SEED: the statements are not yours to turn. If you find one false, say at which input.
  Laid BY PROGRAM, IN A SANDBOX (cutbox-rows.mjs): the forced cells as the released guide's own fill.sh prints them over the translation 3cad5ca4a47639ec… (all of the seat's roots in one cut). By AI agents, Wed Nov 11 2026. No macro, syntax, notation, axiom, sorry.
-/
import Derived.Test.YtcbfieodjbfjdaaChecked
import GoSem.Claim
import GoSem.ClaimJoined
import GoSem.ClaimMapViews
import Derived.JoinedTies
import Derived.KernelRfl
namespace Go.Proofs.Ytcbfieodjbfjdaa
/- THE CELL 'sum', in the pinned program and in every row, IS THE sha256 OF THE DUMP (.gsa) THAT YtcbfieodjbfjdaaProg.lean LOADS. Nothing in Lean hashes anything: it is a label: what it is worth is what the hold of that sum in a sandbox is worth. -/
noncomputable def Try.pinned : Pinned := { name := "ytcbfieodjbfjdaa", sum := "3cad5ca4a47639ec7ba097af4204557fef74394700788e7e761e125b3235316a", checked := Try.checked }
namespace Rows
def none {H : Type} : Left H := { results := [], args := [] }

/-- 'ententelaw13.NormalTells': WHATEVER THE INPUT: true; the input reads as it did. -/
def normalTellsSpec : ChangeSpec := { name := "normalTells", fn := fun _ => fun
  | [d1, d2] => { results := [.lit (.bool true)], args := [d1, d2] }
  | _ => none }
def normalTellsRow : OpenClaim := { program := "ytcbfieodjbfjdaa", sum := "3cad5ca4a47639ec7ba097af4204557fef74394700788e7e761e125b3235316a", func := "entente/ententelaw13.NormalTells", spec := "normalTells", inPlace := ["internal/bytealg.Compare"], unfollowed := true, recurses := true, loops := true, plainKeys := false, apart := false }
def NormalTellsSaid : Prop := normalTellsRow.holds Try.pinned (OpenSpec.ofChange normalTellsSpec)

/-- ITS FALSE NEIGHBOUR: 'it returns false'. Refute it at one input. -/
def normalTellsWrong : ChangeSpec := { name := "normalTells", fn := fun _ => fun
  | [d1, d2] => { results := [.lit (.bool false)], args := [d1, d2] }
  | _ => none }
def NormalTellsWrongFalsely : Prop := normalTellsRow.holds Try.pinned (OpenSpec.ofChange normalTellsWrong)

/-- 'ententelaw13.NormalSays': WHATEVER THE INPUT: true; the input reads as it did. -/
def normalSaysSpec : ChangeSpec := { name := "normalSays", fn := fun _ => fun
  | [d1, d2, d3] => { results := [.lit (.bool true)], args := [d1, d2, d3] }
  | _ => none }
def normalSaysRow : OpenClaim := { program := "ytcbfieodjbfjdaa", sum := "3cad5ca4a47639ec7ba097af4204557fef74394700788e7e761e125b3235316a", func := "entente/ententelaw13.NormalSays", spec := "normalSays", inPlace := ["internal/bytealg.Compare"], unfollowed := true, recurses := true, loops := true, plainKeys := false, apart := false }
def NormalSaysSaid : Prop := normalSaysRow.holds Try.pinned (OpenSpec.ofChange normalSaysSpec)

/-- ITS FALSE NEIGHBOUR: 'it returns false'. Refute it at one input. -/
def normalSaysWrong : ChangeSpec := { name := "normalSays", fn := fun _ => fun
  | [d1, d2, d3] => { results := [.lit (.bool false)], args := [d1, d2, d3] }
  | _ => none }
def NormalSaysWrongFalsely : Prop := normalSaysRow.holds Try.pinned (OpenSpec.ofChange normalSaysWrong)

/-- 'ententelaw14.SetsSuffice': WHATEVER THE INPUT: true; the input reads as it did. -/
def setsSufficeSpec : ChangeSpec := { name := "setsSuffice", fn := fun _ => fun
  | [d1, d2] => { results := [.lit (.bool true)], args := [d1, d2] }
  | _ => none }
def setsSufficeRow : OpenClaim := { program := "ytcbfieodjbfjdaa", sum := "3cad5ca4a47639ec7ba097af4204557fef74394700788e7e761e125b3235316a", func := "entente/ententelaw14.SetsSuffice", spec := "setsSuffice", inPlace := ["internal/bytealg.abigen_runtime_cmpstring"], unfollowed := true, recurses := true, loops := true, plainKeys := false, apart := false }
def SetsSufficeSaid : Prop := setsSufficeRow.holds Try.pinned (OpenSpec.ofChange setsSufficeSpec)

/-- ITS FALSE NEIGHBOUR: 'it returns false'. Refute it at one input. -/
def setsSufficeWrong : ChangeSpec := { name := "setsSuffice", fn := fun _ => fun
  | [d1, d2] => { results := [.lit (.bool false)], args := [d1, d2] }
  | _ => none }
def SetsSufficeWrongFalsely : Prop := setsSufficeRow.holds Try.pinned (OpenSpec.ofChange setsSufficeWrong)

/- THE SECOND FORM. 'bulk': how many values and letters a reading holds, each counted each time it is reached (what is shared counts as often as it is met; a slice's spare places count too). A statement '..UptoSaid' is the law's where the arguments, and the package variables that the reading takes, are together of bulk at most 1048576: NARROWER than '..Said'. Prove '..Said' where nothing that the law and all that it calls make is longer than what came in: it says more and counts as full. Else prove '..UptoSaid'. A law counts once. -/
mutual
def uptoBulk {H : Type} : DataW H → Nat
  | .lit (.string bytes) => bytes.length + 1
  | .lit _ => 1
  | .nil => 1
  | .ptr d => uptoBulk d + 1
  | .slice elems spare => uptoBulkAll elems + uptoBulkAll spare + 1
  | .agg parts => uptoBulkAll parts + 1
  | .iface _ d => uptoBulk d + 1
  | .map entries => uptoBulkEntries entries + 1
  | .held _ => 1
def uptoBulkAll {H : Type} : List (DataW H) → Nat
  | [] => 0
  | d :: r => uptoBulk d + uptoBulkAll r
def uptoBulkEntries {H : Type} : List (Lit × DataW H) → Nat
  | [] => 0
  | x :: r => uptoBulkEntry x + uptoBulkEntries r
def uptoBulkEntry {H : Type} : Lit × DataW H → Nat
  | (.string bytes, d) => bytes.length + uptoBulk d + 1
  | (_, d) => uptoBulk d + 1
 end
def uptoSmall : (H : Type) → List (DataW H) → Bool := fun _ ds => decide (uptoBulkAll ds ≤ 1048576)
def OpenSpec.upto (s : _root_.Go.ChangeSpec) : _root_.Go.OpenSpec := { _root_.Go.OpenSpec.ofChange s with cond := some uptoSmall }

/-- 'ententelaw13.NormalTells', WHERE WHAT IT READS IS OF BULK AT MOST 1048576: true; the input reads as it did. -/
def normalTellsUptoRow : OpenClaim := { program := "ytcbfieodjbfjdaa", sum := "3cad5ca4a47639ec7ba097af4204557fef74394700788e7e761e125b3235316a", func := "entente/ententelaw13.NormalTells", spec := "normalTells", inPlace := ["internal/bytealg.Compare"], unfollowed := true, recurses := true, loops := true, plainKeys := false, apart := false, narrowed := true }
def NormalTellsUptoSaid : Prop := normalTellsUptoRow.holds Try.pinned (OpenSpec.upto normalTellsSpec)

/-- 'ententelaw13.NormalSays', WHERE WHAT IT READS IS OF BULK AT MOST 1048576: true; the input reads as it did. -/
def normalSaysUptoRow : OpenClaim := { program := "ytcbfieodjbfjdaa", sum := "3cad5ca4a47639ec7ba097af4204557fef74394700788e7e761e125b3235316a", func := "entente/ententelaw13.NormalSays", spec := "normalSays", inPlace := ["internal/bytealg.Compare"], unfollowed := true, recurses := true, loops := true, plainKeys := false, apart := false, narrowed := true }
def NormalSaysUptoSaid : Prop := normalSaysUptoRow.holds Try.pinned (OpenSpec.upto normalSaysSpec)

/-- 'ententelaw14.SetsSuffice', WHERE WHAT IT READS IS OF BULK AT MOST 1048576: true; the input reads as it did. -/
def setsSufficeUptoRow : OpenClaim := { program := "ytcbfieodjbfjdaa", sum := "3cad5ca4a47639ec7ba097af4204557fef74394700788e7e761e125b3235316a", func := "entente/ententelaw14.SetsSuffice", spec := "setsSuffice", inPlace := ["internal/bytealg.abigen_runtime_cmpstring"], unfollowed := true, recurses := true, loops := true, plainKeys := false, apart := false, narrowed := true }
def SetsSufficeUptoSaid : Prop := setsSufficeUptoRow.holds Try.pinned (OpenSpec.upto setsSufficeSpec)

end Rows
end Go.Proofs.Ytcbfieodjbfjdaa
