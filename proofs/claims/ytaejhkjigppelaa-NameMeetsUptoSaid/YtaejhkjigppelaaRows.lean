/-
  No cell of these rows narrows 'for every input' (looked for: loops, veiled, ifaces, maps, wideKeys, modest, calm, conditions, laid).
  DERIVED. THE GIVEN ROWS OF THIS SEAT. 9 by the template 'for every input the law returns true; each argument reads behind the call as it read before'; 0 by the template 'total and deterministic' (their statements: YtaejhkjigppelaaTotals.lean).
  GIVEN WITH THE SEED: the statements are not yours to turn. If you find one false, say at which input.
  Laid BY PROGRAM, IN A SANDBOX (cutbox-rows.mjs): the forced cells as the released guide's own fill.sh prints them over the translation 2e7be9ad9d54e529… (all of the seat's roots in one cut). By AI agents, Wed Nov 11 2026. No macro, syntax, notation, axiom, sorry.
-/
import Derived.Test.YtaejhkjigppelaaChecked
import GoSem.Claim
import GoSem.ClaimJoined
import GoSem.ClaimMapViews
import Derived.JoinedTies
import Derived.KernelRfl
namespace Go.Proofs.Ytaejhkjigppelaa
/- THE CELL 'sum', in the pinned program and in every row, IS THE sha256 OF THE DUMP (.gsa) THAT YtaejhkjigppelaaProg.lean LOADS. Nothing in Lean hashes anything: it is a label: what it is worth is what the hold of that sum in a sandbox is worth. -/
noncomputable def Try.pinned : Pinned := { name := "ytaejhkjigppelaa", sum := "2e7be9ad9d54e529c45912fb0d0272ff768b2806b7d6e6e6b85a51700186ba01", checked := Try.checked }
namespace Rows
def none {H : Type} : Left H := { results := [], args := [] }

/-- 'ententelaw01.TapeWrites': WHATEVER THE INPUT: true; the input reads as it did. -/
def tapeWritesSpec : ChangeSpec := { name := "tapeWrites", fn := fun _ => fun
  | [d] => { results := [.lit (.bool true)], args := [d] }
  | _ => none }
def tapeWritesRow : OpenClaim := { program := "ytaejhkjigppelaa", sum := "2e7be9ad9d54e529c45912fb0d0272ff768b2806b7d6e6e6b85a51700186ba01", func := "entente/ententelaw01.TapeWrites", spec := "tapeWrites", unfollowed := true, recurses := true, apart := false }
def TapeWritesSaid : Prop := tapeWritesRow.holds Try.pinned (OpenSpec.ofChange tapeWritesSpec)

/-- ITS FALSE NEIGHBOUR: 'it returns false'. Refute it at one input. -/
def tapeWritesWrong : ChangeSpec := { name := "tapeWrites", fn := fun _ => fun
  | [d] => { results := [.lit (.bool false)], args := [d] }
  | _ => none }
def TapeWritesWrongFalsely : Prop := tapeWritesRow.holds Try.pinned (OpenSpec.ofChange tapeWritesWrong)

/-- 'ententelaw01.TapeReads': WHATEVER THE INPUT: true; the input reads as it did. -/
def tapeReadsSpec : ChangeSpec := { name := "tapeReads", fn := fun _ => fun
  | [d1, d2] => { results := [.lit (.bool true)], args := [d1, d2] }
  | _ => none }
def tapeReadsRow : OpenClaim := { program := "ytaejhkjigppelaa", sum := "2e7be9ad9d54e529c45912fb0d0272ff768b2806b7d6e6e6b85a51700186ba01", func := "entente/ententelaw01.TapeReads", spec := "tapeReads", unfollowed := true, recurses := true, apart := false }
def TapeReadsSaid : Prop := tapeReadsRow.holds Try.pinned (OpenSpec.ofChange tapeReadsSpec)

/-- ITS FALSE NEIGHBOUR: 'it returns false'. Refute it at one input. -/
def tapeReadsWrong : ChangeSpec := { name := "tapeReads", fn := fun _ => fun
  | [d1, d2] => { results := [.lit (.bool false)], args := [d1, d2] }
  | _ => none }
def TapeReadsWrongFalsely : Prop := tapeReadsRow.holds Try.pinned (OpenSpec.ofChange tapeReadsWrong)

/-- 'ententelaw01.TapePanics': WHATEVER THE INPUT: true; the input reads as it did. -/
def tapePanicsSpec : ChangeSpec := { name := "tapePanics", fn := fun _ => fun
  | [d1, d2, d3] => { results := [.lit (.bool true)], args := [d1, d2, d3] }
  | _ => none }
def tapePanicsRow : OpenClaim := { program := "ytaejhkjigppelaa", sum := "2e7be9ad9d54e529c45912fb0d0272ff768b2806b7d6e6e6b85a51700186ba01", func := "entente/ententelaw01.TapePanics", spec := "tapePanics", unfollowed := true, recurses := true, apart := false }
def TapePanicsSaid : Prop := tapePanicsRow.holds Try.pinned (OpenSpec.ofChange tapePanicsSpec)

/-- ITS FALSE NEIGHBOUR: 'it returns false'. Refute it at one input. -/
def tapePanicsWrong : ChangeSpec := { name := "tapePanics", fn := fun _ => fun
  | [d1, d2, d3] => { results := [.lit (.bool false)], args := [d1, d2, d3] }
  | _ => none }
def TapePanicsWrongFalsely : Prop := tapePanicsRow.holds Try.pinned (OpenSpec.ofChange tapePanicsWrong)

/-- 'ententelaw01.TapeBack': WHATEVER THE INPUT: true; the input reads as it did. -/
def tapeBackSpec : ChangeSpec := { name := "tapeBack", fn := fun _ => fun
  | [d1, d2] => { results := [.lit (.bool true)], args := [d1, d2] }
  | _ => none }
def tapeBackRow : OpenClaim := { program := "ytaejhkjigppelaa", sum := "2e7be9ad9d54e529c45912fb0d0272ff768b2806b7d6e6e6b85a51700186ba01", func := "entente/ententelaw01.TapeBack", spec := "tapeBack", unfollowed := true, recurses := true, apart := false }
def TapeBackSaid : Prop := tapeBackRow.holds Try.pinned (OpenSpec.ofChange tapeBackSpec)

/-- ITS FALSE NEIGHBOUR: 'it returns false'. Refute it at one input. -/
def tapeBackWrong : ChangeSpec := { name := "tapeBack", fn := fun _ => fun
  | [d1, d2] => { results := [.lit (.bool false)], args := [d1, d2] }
  | _ => none }
def TapeBackWrongFalsely : Prop := tapeBackRow.holds Try.pinned (OpenSpec.ofChange tapeBackWrong)

/-- 'ententelaw02.TagMakes': WHATEVER THE INPUT: true; the input reads as it did. -/
def tagMakesSpec : ChangeSpec := { name := "tagMakes", fn := fun _ => fun
  | [d1, d2, d3] => { results := [.lit (.bool true)], args := [d1, d2, d3] }
  | _ => none }
def tagMakesRow : OpenClaim := { program := "ytaejhkjigppelaa", sum := "2e7be9ad9d54e529c45912fb0d0272ff768b2806b7d6e6e6b85a51700186ba01", func := "entente/ententelaw02.TagMakes", spec := "tagMakes", apart := false }
def TagMakesSaid : Prop := tagMakesRow.holds Try.pinned (OpenSpec.ofChange tagMakesSpec)

/-- ITS FALSE NEIGHBOUR: 'it returns false'. Refute it at one input. -/
def tagMakesWrong : ChangeSpec := { name := "tagMakes", fn := fun _ => fun
  | [d1, d2, d3] => { results := [.lit (.bool false)], args := [d1, d2, d3] }
  | _ => none }
def TagMakesWrongFalsely : Prop := tagMakesRow.holds Try.pinned (OpenSpec.ofChange tagMakesWrong)

/-- 'ententelaw02.TagTells': WHATEVER THE INPUT: true; the input reads as it did. -/
def tagTellsSpec : ChangeSpec := { name := "tagTells", fn := fun _ => fun
  | [d1, d2, d3] => { results := [.lit (.bool true)], args := [d1, d2, d3] }
  | _ => none }
def tagTellsRow : OpenClaim := { program := "ytaejhkjigppelaa", sum := "2e7be9ad9d54e529c45912fb0d0272ff768b2806b7d6e6e6b85a51700186ba01", func := "entente/ententelaw02.TagTells", spec := "tagTells", apart := false }
def TagTellsSaid : Prop := tagTellsRow.holds Try.pinned (OpenSpec.ofChange tagTellsSpec)

/-- ITS FALSE NEIGHBOUR: 'it returns false'. Refute it at one input. -/
def tagTellsWrong : ChangeSpec := { name := "tagTells", fn := fun _ => fun
  | [d1, d2, d3] => { results := [.lit (.bool false)], args := [d1, d2, d3] }
  | _ => none }
def TagTellsWrongFalsely : Prop := tagTellsRow.holds Try.pinned (OpenSpec.ofChange tagTellsWrong)

/-- 'ententelaw03.NameSets': WHATEVER THE INPUT: true; the input reads as it did. -/
def nameSetsSpec : ChangeSpec := { name := "nameSets", fn := fun _ => fun
  | [d1, d2, d3] => { results := [.lit (.bool true)], args := [d1, d2, d3] }
  | _ => none }
def nameSetsRow : OpenClaim := { program := "ytaejhkjigppelaa", sum := "2e7be9ad9d54e529c45912fb0d0272ff768b2806b7d6e6e6b85a51700186ba01", func := "entente/ententelaw03.NameSets", spec := "nameSets", unfollowed := true, recurses := true, apart := false }
def NameSetsSaid : Prop := nameSetsRow.holds Try.pinned (OpenSpec.ofChange nameSetsSpec)

/-- ITS FALSE NEIGHBOUR: 'it returns false'. Refute it at one input. -/
def nameSetsWrong : ChangeSpec := { name := "nameSets", fn := fun _ => fun
  | [d1, d2, d3] => { results := [.lit (.bool false)], args := [d1, d2, d3] }
  | _ => none }
def NameSetsWrongFalsely : Prop := nameSetsRow.holds Try.pinned (OpenSpec.ofChange nameSetsWrong)

/-- 'ententelaw03.NameGets': WHATEVER THE INPUT: true; the input reads as it did. -/
def nameGetsSpec : ChangeSpec := { name := "nameGets", fn := fun _ => fun
  | [d1, d2] => { results := [.lit (.bool true)], args := [d1, d2] }
  | _ => none }
def nameGetsRow : OpenClaim := { program := "ytaejhkjigppelaa", sum := "2e7be9ad9d54e529c45912fb0d0272ff768b2806b7d6e6e6b85a51700186ba01", func := "entente/ententelaw03.NameGets", spec := "nameGets", unfollowed := true, recurses := true, apart := false }
def NameGetsSaid : Prop := nameGetsRow.holds Try.pinned (OpenSpec.ofChange nameGetsSpec)

/-- ITS FALSE NEIGHBOUR: 'it returns false'. Refute it at one input. -/
def nameGetsWrong : ChangeSpec := { name := "nameGets", fn := fun _ => fun
  | [d1, d2] => { results := [.lit (.bool false)], args := [d1, d2] }
  | _ => none }
def NameGetsWrongFalsely : Prop := nameGetsRow.holds Try.pinned (OpenSpec.ofChange nameGetsWrong)

/-- 'ententelaw03.NameMeets': WHATEVER THE INPUT: true; the input reads as it did. -/
def nameMeetsSpec : ChangeSpec := { name := "nameMeets", fn := fun _ => fun
  | [d1, d2] => { results := [.lit (.bool true)], args := [d1, d2] }
  | _ => none }
def nameMeetsRow : OpenClaim := { program := "ytaejhkjigppelaa", sum := "2e7be9ad9d54e529c45912fb0d0272ff768b2806b7d6e6e6b85a51700186ba01", func := "entente/ententelaw03.NameMeets", spec := "nameMeets", unfollowed := true, recurses := true, apart := false }
def NameMeetsSaid : Prop := nameMeetsRow.holds Try.pinned (OpenSpec.ofChange nameMeetsSpec)

/-- ITS FALSE NEIGHBOUR: 'it returns false'. Refute it at one input. -/
def nameMeetsWrong : ChangeSpec := { name := "nameMeets", fn := fun _ => fun
  | [d1, d2] => { results := [.lit (.bool false)], args := [d1, d2] }
  | _ => none }
def NameMeetsWrongFalsely : Prop := nameMeetsRow.holds Try.pinned (OpenSpec.ofChange nameMeetsWrong)

/- THE SECOND FORM. 'bulk': how many values and letters a reading holds, each counted each time it is reached (what is shared counts as often as it is met; a slice's spare places count too). A statement '..UptoSaid' is the law's where the arguments, and the package variables that the reading takes, are together of bulk at most 1048576: NARROWER than '..Said'. Prove '..Said' where nothing that the law and all that it calls make is longer than what came in: it says more and counts as full. Else prove '..UptoSaid'. A law counts once. -/
mutual
def uptoBulk {H : Type} : DataW H → Nat
  | .lit (.string bytes) => bytes.length + 1
  | .lit _ => 1
  | .nil => 1
  | .ptr d => uptoBulk d + 1
  | .slice elems spare => uptoBulkAll elems + uptoBulkAll spare + 1
  | .agg parts => uptoBulkAll parts + 1
  | .iface _ d => uptoBulk d + 1
  | .map entries => uptoBulkEntries entries + 1
  | .held _ => 1
def uptoBulkAll {H : Type} : List (DataW H) → Nat
  | [] => 0
  | d :: r => uptoBulk d + uptoBulkAll r
def uptoBulkEntries {H : Type} : List (Lit × DataW H) → Nat
  | [] => 0
  | x :: r => uptoBulkEntry x + uptoBulkEntries r
def uptoBulkEntry {H : Type} : Lit × DataW H → Nat
  | (.string bytes, d) => bytes.length + uptoBulk d + 1
  | (_, d) => uptoBulk d + 1
 end
def uptoSmall : (H : Type) → List (DataW H) → Bool := fun _ ds => decide (uptoBulkAll ds ≤ 1048576)
def OpenSpec.upto (s : _root_.Go.ChangeSpec) : _root_.Go.OpenSpec := { _root_.Go.OpenSpec.ofChange s with cond := some uptoSmall }

/-- 'ententelaw01.TapeWrites', WHERE WHAT IT READS IS OF BULK AT MOST 1048576: true; the input reads as it did. -/
def tapeWritesUptoRow : OpenClaim := { program := "ytaejhkjigppelaa", sum := "2e7be9ad9d54e529c45912fb0d0272ff768b2806b7d6e6e6b85a51700186ba01", func := "entente/ententelaw01.TapeWrites", spec := "tapeWrites", unfollowed := true, recurses := true, apart := false, narrowed := true }
def TapeWritesUptoSaid : Prop := tapeWritesUptoRow.holds Try.pinned (OpenSpec.upto tapeWritesSpec)

/-- 'ententelaw01.TapeReads', WHERE WHAT IT READS IS OF BULK AT MOST 1048576: true; the input reads as it did. -/
def tapeReadsUptoRow : OpenClaim := { program := "ytaejhkjigppelaa", sum := "2e7be9ad9d54e529c45912fb0d0272ff768b2806b7d6e6e6b85a51700186ba01", func := "entente/ententelaw01.TapeReads", spec := "tapeReads", unfollowed := true, recurses := true, apart := false, narrowed := true }
def TapeReadsUptoSaid : Prop := tapeReadsUptoRow.holds Try.pinned (OpenSpec.upto tapeReadsSpec)

/-- 'ententelaw01.TapePanics', WHERE WHAT IT READS IS OF BULK AT MOST 1048576: true; the input reads as it did. -/
def tapePanicsUptoRow : OpenClaim := { program := "ytaejhkjigppelaa", sum := "2e7be9ad9d54e529c45912fb0d0272ff768b2806b7d6e6e6b85a51700186ba01", func := "entente/ententelaw01.TapePanics", spec := "tapePanics", unfollowed := true, recurses := true, apart := false, narrowed := true }
def TapePanicsUptoSaid : Prop := tapePanicsUptoRow.holds Try.pinned (OpenSpec.upto tapePanicsSpec)

/-- 'ententelaw01.TapeBack', WHERE WHAT IT READS IS OF BULK AT MOST 1048576: true; the input reads as it did. -/
def tapeBackUptoRow : OpenClaim := { program := "ytaejhkjigppelaa", sum := "2e7be9ad9d54e529c45912fb0d0272ff768b2806b7d6e6e6b85a51700186ba01", func := "entente/ententelaw01.TapeBack", spec := "tapeBack", unfollowed := true, recurses := true, apart := false, narrowed := true }
def TapeBackUptoSaid : Prop := tapeBackUptoRow.holds Try.pinned (OpenSpec.upto tapeBackSpec)

/-- 'ententelaw02.TagMakes', WHERE WHAT IT READS IS OF BULK AT MOST 1048576: true; the input reads as it did. -/
def tagMakesUptoRow : OpenClaim := { program := "ytaejhkjigppelaa", sum := "2e7be9ad9d54e529c45912fb0d0272ff768b2806b7d6e6e6b85a51700186ba01", func := "entente/ententelaw02.TagMakes", spec := "tagMakes", apart := false, narrowed := true }
def TagMakesUptoSaid : Prop := tagMakesUptoRow.holds Try.pinned (OpenSpec.upto tagMakesSpec)

/-- 'ententelaw02.TagTells', WHERE WHAT IT READS IS OF BULK AT MOST 1048576: true; the input reads as it did. -/
def tagTellsUptoRow : OpenClaim := { program := "ytaejhkjigppelaa", sum := "2e7be9ad9d54e529c45912fb0d0272ff768b2806b7d6e6e6b85a51700186ba01", func := "entente/ententelaw02.TagTells", spec := "tagTells", apart := false, narrowed := true }
def TagTellsUptoSaid : Prop := tagTellsUptoRow.holds Try.pinned (OpenSpec.upto tagTellsSpec)

/-- 'ententelaw03.NameSets', WHERE WHAT IT READS IS OF BULK AT MOST 1048576: true; the input reads as it did. -/
def nameSetsUptoRow : OpenClaim := { program := "ytaejhkjigppelaa", sum := "2e7be9ad9d54e529c45912fb0d0272ff768b2806b7d6e6e6b85a51700186ba01", func := "entente/ententelaw03.NameSets", spec := "nameSets", unfollowed := true, recurses := true, apart := false, narrowed := true }
def NameSetsUptoSaid : Prop := nameSetsUptoRow.holds Try.pinned (OpenSpec.upto nameSetsSpec)

/-- 'ententelaw03.NameGets', WHERE WHAT IT READS IS OF BULK AT MOST 1048576: true; the input reads as it did. -/
def nameGetsUptoRow : OpenClaim := { program := "ytaejhkjigppelaa", sum := "2e7be9ad9d54e529c45912fb0d0272ff768b2806b7d6e6e6b85a51700186ba01", func := "entente/ententelaw03.NameGets", spec := "nameGets", unfollowed := true, recurses := true, apart := false, narrowed := true }
def NameGetsUptoSaid : Prop := nameGetsUptoRow.holds Try.pinned (OpenSpec.upto nameGetsSpec)

/-- 'ententelaw03.NameMeets', WHERE WHAT IT READS IS OF BULK AT MOST 1048576: true; the input reads as it did. -/
def nameMeetsUptoRow : OpenClaim := { program := "ytaejhkjigppelaa", sum := "2e7be9ad9d54e529c45912fb0d0272ff768b2806b7d6e6e6b85a51700186ba01", func := "entente/ententelaw03.NameMeets", spec := "nameMeets", unfollowed := true, recurses := true, apart := false, narrowed := true }
def NameMeetsUptoSaid : Prop := nameMeetsUptoRow.holds Try.pinned (OpenSpec.upto nameMeetsSpec)

end Rows
end Go.Proofs.Ytaejhkjigppelaa
