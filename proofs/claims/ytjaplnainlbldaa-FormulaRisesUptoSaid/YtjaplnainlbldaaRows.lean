/-
  NARROWER THAN 'FOR EVERY INPUT', by the rows' own cells (each row's printed sentence says how): FormulaRises: loops.
  DERIVED. THE GIVEN ROWS OF THIS SEAT. 4 by the template 'for every input the law returns true; each argument reads behind the call as it read before'; 0 by the template 'total and deterministic' (their statements: YtjaplnainlbldaaTotals.lean).
  GIVEN WITH THE SEED: the statements are not yours to turn. If you find one false, say at which input.
  Laid BY PROGRAM, IN A SANDBOX (cutbox-rows.mjs): the forced cells as the released guide's own fill.sh prints them over the translation 0a7ca39c76962bc0… (all of the seat's roots in one cut). By AI agents, Wed Nov 11 2026. No macro, syntax, notation, axiom, sorry.
-/
import Derived.Test.YtjaplnainlbldaaChecked
import GoSem.Claim
import GoSem.ClaimJoined
import GoSem.ClaimMapViews
import Derived.JoinedTies
import Derived.KernelRfl
namespace Go.Proofs.Ytjaplnainlbldaa
/- THE CELL 'sum', in the pinned program and in every row, IS THE sha256 OF THE DUMP (.gsa) THAT YtjaplnainlbldaaProg.lean LOADS. Nothing in Lean hashes anything: it is a label: what it is worth is what the hold of that sum in a sandbox is worth. -/
noncomputable def Try.pinned : Pinned := { name := "ytjaplnainlbldaa", sum := "0a7ca39c76962bc0a5c9dc973b7b60a1af5d6acbd53fb906d6df42df3ca60ba2", checked := Try.checked }
namespace Rows
def none {H : Type} : Left H := { results := [], args := [] }

/-- 'ententelaw10.ChainFinds': WHATEVER THE INPUT: true; the input reads as it did. -/
def chainFindsSpec : ChangeSpec := { name := "chainFinds", fn := fun _ => fun
  | [d1, d2] => { results := [.lit (.bool true)], args := [d1, d2] }
  | _ => none }
def chainFindsRow : OpenClaim := { program := "ytjaplnainlbldaa", sum := "0a7ca39c76962bc0a5c9dc973b7b60a1af5d6acbd53fb906d6df42df3ca60ba2", func := "entente/ententelaw10.ChainFinds", spec := "chainFinds", inPlace := ["internal/bytealg.abigen_runtime_cmpstring", "internal/bytealg.Compare"], unfollowed := true, recurses := true, plainKeys := false, apart := false }
def ChainFindsSaid : Prop := chainFindsRow.holds Try.pinned (OpenSpec.ofChange chainFindsSpec)

/-- ITS FALSE NEIGHBOUR: 'it returns false'. Refute it at one input. -/
def chainFindsWrong : ChangeSpec := { name := "chainFinds", fn := fun _ => fun
  | [d1, d2] => { results := [.lit (.bool false)], args := [d1, d2] }
  | _ => none }
def ChainFindsWrongFalsely : Prop := chainFindsRow.holds Try.pinned (OpenSpec.ofChange chainFindsWrong)

/-- 'ententelaw10.ChainUses': WHATEVER THE INPUT: true; the input reads as it did. -/
def chainUsesSpec : ChangeSpec := { name := "chainUses", fn := fun _ => fun
  | [d] => { results := [.lit (.bool true)], args := [d] }
  | _ => none }
def chainUsesRow : OpenClaim := { program := "ytjaplnainlbldaa", sum := "0a7ca39c76962bc0a5c9dc973b7b60a1af5d6acbd53fb906d6df42df3ca60ba2", func := "entente/ententelaw10.ChainUses", spec := "chainUses", inPlace := ["internal/bytealg.abigen_runtime_cmpstring", "internal/bytealg.Compare"], unfollowed := true, recurses := true, plainKeys := false, apart := false }
def ChainUsesSaid : Prop := chainUsesRow.holds Try.pinned (OpenSpec.ofChange chainUsesSpec)

/-- ITS FALSE NEIGHBOUR: 'it returns false'. Refute it at one input. -/
def chainUsesWrong : ChangeSpec := { name := "chainUses", fn := fun _ => fun
  | [d] => { results := [.lit (.bool false)], args := [d] }
  | _ => none }
def ChainUsesWrongFalsely : Prop := chainUsesRow.holds Try.pinned (OpenSpec.ofChange chainUsesWrong)

/-- 'ententelaw10.ChainStands': WHATEVER THE INPUT: true; the input reads as it did. -/
def chainStandsSpec : ChangeSpec := { name := "chainStands", fn := fun _ => fun
  | [d1, d2] => { results := [.lit (.bool true)], args := [d1, d2] }
  | _ => none }
def chainStandsRow : OpenClaim := { program := "ytjaplnainlbldaa", sum := "0a7ca39c76962bc0a5c9dc973b7b60a1af5d6acbd53fb906d6df42df3ca60ba2", func := "entente/ententelaw10.ChainStands", spec := "chainStands", inPlace := ["internal/bytealg.abigen_runtime_cmpstring", "internal/bytealg.Compare"], unfollowed := true, recurses := true, plainKeys := false, apart := false }
def ChainStandsSaid : Prop := chainStandsRow.holds Try.pinned (OpenSpec.ofChange chainStandsSpec)

/-- ITS FALSE NEIGHBOUR: 'it returns false'. Refute it at one input. -/
def chainStandsWrong : ChangeSpec := { name := "chainStands", fn := fun _ => fun
  | [d1, d2] => { results := [.lit (.bool false)], args := [d1, d2] }
  | _ => none }
def ChainStandsWrongFalsely : Prop := chainStandsRow.holds Try.pinned (OpenSpec.ofChange chainStandsWrong)

/-- 'ententelaw11.FormulaRises': WHATEVER THE INPUT: true; the input reads as it did. -/
def formulaRisesSpec : ChangeSpec := { name := "formulaRises", fn := fun _ => fun
  | [d1, d2, d3] => { results := [.lit (.bool true)], args := [d1, d2, d3] }
  | _ => none }
def formulaRisesRow : OpenClaim := { program := "ytjaplnainlbldaa", sum := "0a7ca39c76962bc0a5c9dc973b7b60a1af5d6acbd53fb906d6df42df3ca60ba2", func := "entente/ententelaw11.FormulaRises", spec := "formulaRises", inPlace := ["internal/bytealg.abigen_runtime_cmpstring", "internal/bytealg.Compare"], unfollowed := true, recurses := true, loops := true, plainKeys := false, apart := false }
def FormulaRisesSaid : Prop := formulaRisesRow.holds Try.pinned (OpenSpec.ofChange formulaRisesSpec)

/-- ITS FALSE NEIGHBOUR: 'it returns false'. Refute it at one input. -/
def formulaRisesWrong : ChangeSpec := { name := "formulaRises", fn := fun _ => fun
  | [d1, d2, d3] => { results := [.lit (.bool false)], args := [d1, d2, d3] }
  | _ => none }
def FormulaRisesWrongFalsely : Prop := formulaRisesRow.holds Try.pinned (OpenSpec.ofChange formulaRisesWrong)

/- THE SECOND FORM. 'bulk': how many values and letters a reading holds, each counted each time it is reached (what is shared counts as often as it is met; a slice's spare places count too). A statement '..UptoSaid' is the law's where the arguments, and the package variables that the reading takes, are together of bulk at most 1048576: NARROWER than '..Said'. Prove '..Said' where nothing that the law and all that it calls make is longer than what came in: it says more and counts as full. Else prove '..UptoSaid'. A law counts once. -/
mutual
def uptoBulk {H : Type} : DataW H → Nat
  | .lit (.string bytes) => bytes.length + 1
  | .lit _ => 1
  | .nil => 1
  | .ptr d => uptoBulk d + 1
  | .slice elems spare => uptoBulkAll elems + uptoBulkAll spare + 1
  | .agg parts => uptoBulkAll parts + 1
  | .iface _ d => uptoBulk d + 1
  | .map entries => uptoBulkEntries entries + 1
  | .held _ => 1
def uptoBulkAll {H : Type} : List (DataW H) → Nat
  | [] => 0
  | d :: r => uptoBulk d + uptoBulkAll r
def uptoBulkEntries {H : Type} : List (Lit × DataW H) → Nat
  | [] => 0
  | x :: r => uptoBulkEntry x + uptoBulkEntries r
def uptoBulkEntry {H : Type} : Lit × DataW H → Nat
  | (.string bytes, d) => bytes.length + uptoBulk d + 1
  | (_, d) => uptoBulk d + 1
 end
def uptoSmall : (H : Type) → List (DataW H) → Bool := fun _ ds => decide (uptoBulkAll ds ≤ 1048576)
def OpenSpec.upto (s : _root_.Go.ChangeSpec) : _root_.Go.OpenSpec := { _root_.Go.OpenSpec.ofChange s with cond := some uptoSmall }

/-- 'ententelaw10.ChainFinds', WHERE WHAT IT READS IS OF BULK AT MOST 1048576: true; the input reads as it did. -/
def chainFindsUptoRow : OpenClaim := { program := "ytjaplnainlbldaa", sum := "0a7ca39c76962bc0a5c9dc973b7b60a1af5d6acbd53fb906d6df42df3ca60ba2", func := "entente/ententelaw10.ChainFinds", spec := "chainFinds", inPlace := ["internal/bytealg.abigen_runtime_cmpstring", "internal/bytealg.Compare"], unfollowed := true, recurses := true, plainKeys := false, apart := false, narrowed := true }
def ChainFindsUptoSaid : Prop := chainFindsUptoRow.holds Try.pinned (OpenSpec.upto chainFindsSpec)

/-- 'ententelaw10.ChainUses', WHERE WHAT IT READS IS OF BULK AT MOST 1048576: true; the input reads as it did. -/
def chainUsesUptoRow : OpenClaim := { program := "ytjaplnainlbldaa", sum := "0a7ca39c76962bc0a5c9dc973b7b60a1af5d6acbd53fb906d6df42df3ca60ba2", func := "entente/ententelaw10.ChainUses", spec := "chainUses", inPlace := ["internal/bytealg.abigen_runtime_cmpstring", "internal/bytealg.Compare"], unfollowed := true, recurses := true, plainKeys := false, apart := false, narrowed := true }
def ChainUsesUptoSaid : Prop := chainUsesUptoRow.holds Try.pinned (OpenSpec.upto chainUsesSpec)

/-- 'ententelaw10.ChainStands', WHERE WHAT IT READS IS OF BULK AT MOST 1048576: true; the input reads as it did. -/
def chainStandsUptoRow : OpenClaim := { program := "ytjaplnainlbldaa", sum := "0a7ca39c76962bc0a5c9dc973b7b60a1af5d6acbd53fb906d6df42df3ca60ba2", func := "entente/ententelaw10.ChainStands", spec := "chainStands", inPlace := ["internal/bytealg.abigen_runtime_cmpstring", "internal/bytealg.Compare"], unfollowed := true, recurses := true, plainKeys := false, apart := false, narrowed := true }
def ChainStandsUptoSaid : Prop := chainStandsUptoRow.holds Try.pinned (OpenSpec.upto chainStandsSpec)

/-- 'ententelaw11.FormulaRises', WHERE WHAT IT READS IS OF BULK AT MOST 1048576: true; the input reads as it did. -/
def formulaRisesUptoRow : OpenClaim := { program := "ytjaplnainlbldaa", sum := "0a7ca39c76962bc0a5c9dc973b7b60a1af5d6acbd53fb906d6df42df3ca60ba2", func := "entente/ententelaw11.FormulaRises", spec := "formulaRises", inPlace := ["internal/bytealg.abigen_runtime_cmpstring", "internal/bytealg.Compare"], unfollowed := true, recurses := true, loops := true, plainKeys := false, apart := false, narrowed := true }
def FormulaRisesUptoSaid : Prop := formulaRisesUptoRow.holds Try.pinned (OpenSpec.upto formulaRisesSpec)

end Rows
end Go.Proofs.Ytjaplnainlbldaa
