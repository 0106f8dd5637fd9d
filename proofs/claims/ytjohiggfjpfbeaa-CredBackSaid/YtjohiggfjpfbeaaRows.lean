/-
  No cell of these rows narrows 'for every input' (looked for: loops, veiled, ifaces, maps, wideKeys, modest, calm, conditions, laid).
  DERIVED. THE GIVEN ROWS OF THIS SEAT. 4 by the template 'for every input the law returns true; each argument reads behind the call as it read before'; 0 by the template 'total and deterministic' (their statements: YtjohiggfjpfbeaaTotals.lean).
  GIVEN WITH THE SEED: the statements are not yours to turn. If you find one false, say at which input.
  Laid BY PROGRAM, IN A SANDBOX (cutbox-rows.mjs): the forced cells as the released guide's own fill.sh prints them over the translation 8593f03a2511d19c… (all of the seat's roots in one cut). By AI agents, Wed Nov 11 2026. No macro, syntax, notation, axiom, sorry.
-/
import Derived.Test.YtjohiggfjpfbeaaChecked
import GoSem.Claim
import GoSem.ClaimJoined
import GoSem.ClaimMapViews
import Derived.JoinedTies
import Derived.KernelRfl
namespace Go.Proofs.Ytjohiggfjpfbeaa
/- THE CELL 'sum', in the pinned program and in every row, IS THE sha256 OF THE DUMP (.gsa) THAT YtjohiggfjpfbeaaProg.lean LOADS. Nothing in Lean hashes anything: it is a label: what it is worth is what the hold of that sum in a sandbox is worth. -/
noncomputable def Try.pinned : Pinned := { name := "ytjohiggfjpfbeaa", sum := "8593f03a2511d19cdf62e84192cbfca52715983421209337df5fbb41b727ccb5", checked := Try.checked }
namespace Rows
def none {H : Type} : Left H := { results := [], args := [] }

/-- 'ententelaw05.CredTells': WHATEVER THE INPUT: true; the input reads as it did. -/
def credTellsSpec : ChangeSpec := { name := "credTells", fn := fun _ => fun
  | [d1, d2] => { results := [.lit (.bool true)], args := [d1, d2] }
  | _ => none }
def credTellsRow : OpenClaim := { program := "ytjohiggfjpfbeaa", sum := "8593f03a2511d19cdf62e84192cbfca52715983421209337df5fbb41b727ccb5", func := "entente/ententelaw05.CredTells", spec := "credTells", inPlace := ["internal/bytealg.IndexByteString", "internal/bytealg.IndexString", "internal/bytealg.CountString", "internal/bytealg.abigen_runtime_cmpstring", "internal/bytealg.Compare"], unfollowed := true, recurses := true, named := ["internal/bytealg.MaxLen"], apart := false }
def CredTellsSaid : Prop := credTellsRow.holds Try.pinned (OpenSpec.ofChange credTellsSpec)

/-- ITS FALSE NEIGHBOUR: 'it returns false'. Refute it at one input. -/
def credTellsWrong : ChangeSpec := { name := "credTells", fn := fun _ => fun
  | [d1, d2] => { results := [.lit (.bool false)], args := [d1, d2] }
  | _ => none }
def CredTellsWrongFalsely : Prop := credTellsRow.holds Try.pinned (OpenSpec.ofChange credTellsWrong)

/-- 'ententelaw05.CredGets': WHATEVER THE INPUT: true; the input reads as it did. -/
def credGetsSpec : ChangeSpec := { name := "credGets", fn := fun _ => fun
  | [d] => { results := [.lit (.bool true)], args := [d] }
  | _ => none }
def credGetsRow : OpenClaim := { program := "ytjohiggfjpfbeaa", sum := "8593f03a2511d19cdf62e84192cbfca52715983421209337df5fbb41b727ccb5", func := "entente/ententelaw05.CredGets", spec := "credGets", inPlace := ["internal/bytealg.IndexByteString", "internal/bytealg.IndexString", "internal/bytealg.CountString", "internal/bytealg.abigen_runtime_cmpstring", "internal/bytealg.Compare"], unfollowed := true, recurses := true, named := ["internal/bytealg.MaxLen"], apart := false }
def CredGetsSaid : Prop := credGetsRow.holds Try.pinned (OpenSpec.ofChange credGetsSpec)

/-- ITS FALSE NEIGHBOUR: 'it returns false'. Refute it at one input. -/
def credGetsWrong : ChangeSpec := { name := "credGets", fn := fun _ => fun
  | [d] => { results := [.lit (.bool false)], args := [d] }
  | _ => none }
def CredGetsWrongFalsely : Prop := credGetsRow.holds Try.pinned (OpenSpec.ofChange credGetsWrong)

/-- 'ententelaw05.CredSets': WHATEVER THE INPUT: true; the input reads as it did. -/
def credSetsSpec : ChangeSpec := { name := "credSets", fn := fun _ => fun
  | [d1, d2] => { results := [.lit (.bool true)], args := [d1, d2] }
  | _ => none }
def credSetsRow : OpenClaim := { program := "ytjohiggfjpfbeaa", sum := "8593f03a2511d19cdf62e84192cbfca52715983421209337df5fbb41b727ccb5", func := "entente/ententelaw05.CredSets", spec := "credSets", inPlace := ["internal/bytealg.IndexByteString", "internal/bytealg.IndexString", "internal/bytealg.CountString", "internal/bytealg.abigen_runtime_cmpstring", "internal/bytealg.Compare"], unfollowed := true, recurses := true, named := ["internal/bytealg.MaxLen"], apart := false }
def CredSetsSaid : Prop := credSetsRow.holds Try.pinned (OpenSpec.ofChange credSetsSpec)

/-- ITS FALSE NEIGHBOUR: 'it returns false'. Refute it at one input. -/
def credSetsWrong : ChangeSpec := { name := "credSets", fn := fun _ => fun
  | [d1, d2] => { results := [.lit (.bool false)], args := [d1, d2] }
  | _ => none }
def CredSetsWrongFalsely : Prop := credSetsRow.holds Try.pinned (OpenSpec.ofChange credSetsWrong)

/-- 'ententelaw05.CredBack': WHATEVER THE INPUT: true; the input reads as it did. -/
def credBackSpec : ChangeSpec := { name := "credBack", fn := fun _ => fun
  | [d1, d2] => { results := [.lit (.bool true)], args := [d1, d2] }
  | _ => none }
def credBackRow : OpenClaim := { program := "ytjohiggfjpfbeaa", sum := "8593f03a2511d19cdf62e84192cbfca52715983421209337df5fbb41b727ccb5", func := "entente/ententelaw05.CredBack", spec := "credBack", inPlace := ["internal/bytealg.IndexByteString", "internal/bytealg.IndexString", "internal/bytealg.CountString", "internal/bytealg.abigen_runtime_cmpstring", "internal/bytealg.Compare"], unfollowed := true, recurses := true, named := ["internal/bytealg.MaxLen"], apart := false }
def CredBackSaid : Prop := credBackRow.holds Try.pinned (OpenSpec.ofChange credBackSpec)

/-- ITS FALSE NEIGHBOUR: 'it returns false'. Refute it at one input. -/
def credBackWrong : ChangeSpec := { name := "credBack", fn := fun _ => fun
  | [d1, d2] => { results := [.lit (.bool false)], args := [d1, d2] }
  | _ => none }
def CredBackWrongFalsely : Prop := credBackRow.holds Try.pinned (OpenSpec.ofChange credBackWrong)

/- THE SECOND FORM. 'bulk': how many values and letters a reading holds, each counted each time it is reached (what is shared counts as often as it is met; a slice's spare places count too). A statement '..UptoSaid' is the law's where the arguments, and the package variables that the reading takes, are together of bulk at most 1048576: NARROWER than '..Said'. Prove '..Said' where nothing that the law and all that it calls make is longer than what came in: it says more and counts as full. Else prove '..UptoSaid'. A law counts once. -/
mutual
def uptoBulk {H : Type} : DataW H → Nat
  | .lit (.string bytes) => bytes.length + 1
  | .lit _ => 1
  | .nil => 1
  | .ptr d => uptoBulk d + 1
  | .slice elems spare => uptoBulkAll elems + uptoBulkAll spare + 1
  | .agg parts => uptoBulkAll parts + 1
  | .iface _ d => uptoBulk d + 1
  | .map entries => uptoBulkEntries entries + 1
  | .held _ => 1
def uptoBulkAll {H : Type} : List (DataW H) → Nat
  | [] => 0
  | d :: r => uptoBulk d + uptoBulkAll r
def uptoBulkEntries {H : Type} : List (Lit × DataW H) → Nat
  | [] => 0
  | x :: r => uptoBulkEntry x + uptoBulkEntries r
def uptoBulkEntry {H : Type} : Lit × DataW H → Nat
  | (.string bytes, d) => bytes.length + uptoBulk d + 1
  | (_, d) => uptoBulk d + 1
 end
def uptoSmall : (H : Type) → List (DataW H) → Bool := fun _ ds => decide (uptoBulkAll ds ≤ 1048576)
def OpenSpec.upto (s : _root_.Go.ChangeSpec) : _root_.Go.OpenSpec := { _root_.Go.OpenSpec.ofChange s with cond := some uptoSmall }

/-- 'ententelaw05.CredTells', WHERE WHAT IT READS IS OF BULK AT MOST 1048576: true; the input reads as it did. -/
def credTellsUptoRow : OpenClaim := { program := "ytjohiggfjpfbeaa", sum := "8593f03a2511d19cdf62e84192cbfca52715983421209337df5fbb41b727ccb5", func := "entente/ententelaw05.CredTells", spec := "credTells", inPlace := ["internal/bytealg.IndexByteString", "internal/bytealg.IndexString", "internal/bytealg.CountString", "internal/bytealg.abigen_runtime_cmpstring", "internal/bytealg.Compare"], unfollowed := true, recurses := true, named := ["internal/bytealg.MaxLen"], apart := false, narrowed := true }
def CredTellsUptoSaid : Prop := credTellsUptoRow.holds Try.pinned (OpenSpec.upto credTellsSpec)

/-- 'ententelaw05.CredGets', WHERE WHAT IT READS IS OF BULK AT MOST 1048576: true; the input reads as it did. -/
def credGetsUptoRow : OpenClaim := { program := "ytjohiggfjpfbeaa", sum := "8593f03a2511d19cdf62e84192cbfca52715983421209337df5fbb41b727ccb5", func := "entente/ententelaw05.CredGets", spec := "credGets", inPlace := ["internal/bytealg.IndexByteString", "internal/bytealg.IndexString", "internal/bytealg.CountString", "internal/bytealg.abigen_runtime_cmpstring", "internal/bytealg.Compare"], unfollowed := true, recurses := true, named := ["internal/bytealg.MaxLen"], apart := false, narrowed := true }
def CredGetsUptoSaid : Prop := credGetsUptoRow.holds Try.pinned (OpenSpec.upto credGetsSpec)

/-- 'ententelaw05.CredSets', WHERE WHAT IT READS IS OF BULK AT MOST 1048576: true; the input reads as it did. -/
def credSetsUptoRow : OpenClaim := { program := "ytjohiggfjpfbeaa", sum := "8593f03a2511d19cdf62e84192cbfca52715983421209337df5fbb41b727ccb5", func := "entente/ententelaw05.CredSets", spec := "credSets", inPlace := ["internal/bytealg.IndexByteString", "internal/bytealg.IndexString", "internal/bytealg.CountString", "internal/bytealg.abigen_runtime_cmpstring", "internal/bytealg.Compare"], unfollowed := true, recurses := true, named := ["internal/bytealg.MaxLen"], apart := false, narrowed := true }
def CredSetsUptoSaid : Prop := credSetsUptoRow.holds Try.pinned (OpenSpec.upto credSetsSpec)

/-- 'ententelaw05.CredBack', WHERE WHAT IT READS IS OF BULK AT MOST 1048576: true; the input reads as it did. -/
def credBackUptoRow : OpenClaim := { program := "ytjohiggfjpfbeaa", sum := "8593f03a2511d19cdf62e84192cbfca52715983421209337df5fbb41b727ccb5", func := "entente/ententelaw05.CredBack", spec := "credBack", inPlace := ["internal/bytealg.IndexByteString", "internal/bytealg.IndexString", "internal/bytealg.CountString", "internal/bytealg.abigen_runtime_cmpstring", "internal/bytealg.Compare"], unfollowed := true, recurses := true, named := ["internal/bytealg.MaxLen"], apart := false, narrowed := true }
def CredBackUptoSaid : Prop := credBackUptoRow.holds Try.pinned (OpenSpec.upto credBackSpec)

end Rows
end Go.Proofs.Ytjohiggfjpfbeaa
