/- Texts that the proof leans on, in one: RefKBytes, TagMath, KeyMath, KeyCells, RefKey, TagRef, RefCheck, RefSign, RefCredStep, RefCredGet, RefSGet, RefKGet, StepEq, RefKSame, End, Defer, Read, GetNe, CheckG, FirstS, ChFst. -/
import Derived.Test.YtjaplnainlbldaaSc6
import Derived.Test.YtjaplnainlbldaaSc40
import Derived.Test.YtjaplnainlbldaaSc2
import Derived.Test.YtjaplnainlbldaaSc41
import Derived.Test.YtjaplnainlbldaaSc1
import Derived.Test.YtjaplnainlbldaaSc5
import Derived.Test.YtjaplnainlbldaaSc4
import Derived.Test.YtjaplnainlbldaaSc29
import Derived.Test.YtjaplnainlbldaaSc3
import Derived.Defers
import Derived.Recover
import Derived.LaidEqlPtr
import Derived.Test.YtjaplnainlbldaaSc12
import Derived.Test.YtjaplnainlbldaaSc11
/- The contract of the document's Bytes, of layer 9. -/
namespace Go.Proofs.Ytjaplnainlbldaa
open Go.RowKit

theorem run_neqg_roleK (x y : Operand) (a b : RoleB) (w : World) : Sem.run Try.prog (eqGuard BinOp.neq 24 x y (.agg #[.string ⟨a.1.toArray⟩, .string ⟨a.2.toArray⟩]) (.agg #[.string ⟨b.1.toArray⟩, .string ⟨b.2.toArray⟩])) w = .ok () w := by
  go_simp
theorem run_neq_roleK (a b : RoleB) (w : World) : Sem.run Try.prog (binOp BinOp.neq 24 (.agg #[.string ⟨a.1.toArray⟩, .string ⟨a.2.toArray⟩]) (.agg #[.string ⟨b.1.toArray⟩, .string ⟨b.2.toArray⟩])) w = .ok (.bool (!decide (a = b))) w := by
  have : decide (a = b) = decide (a.1 = b.1 ∧ a.2 = b.2) := by simp only [Prod.ext_iff]
  rw [this]
  go_simp
  by_cases h1 : a.1 = b.1 <;> by_cases h2 : a.2 = b.2 <;> simp [h1, h2]
attribute [local go_sem ↓ high] run_neqg_roleK run_neq_roleK

end Go.Proofs.Ytjaplnainlbldaa

/- Plain arithmetic of layer 2's sums and tags: nothing of the program's text. -/
namespace Go.Proofs.Ytjaplnainlbldaa
open Go.RowKit

end Go.Proofs.Ytjaplnainlbldaa

/- Keys and signed credentials: plain words. -/
namespace Go.Proofs.Ytjaplnainlbldaa
open Go.RowKit

/-- Somebody's key. -/
structure KeyB where
  who : List UInt8
  key : List UInt8
  deriving DecidableEq, Inhabited

/-- The first key of somebody's. -/
def keyAt (l : List KeyB) (o : List UInt8) : Option (List UInt8) := (l.find? (·.who == o)).map (·.key)
def keyOf (l : List KeyB) (o : List UInt8) : List UInt8 := (keyAt l o).getD []
end Go.Proofs.Ytjaplnainlbldaa

/- Keys and signed credentials, as they lie in memory. -/
namespace Go.Proofs.Ytjaplnainlbldaa
open Go.RowKit

end Go.Proofs.Ytjaplnainlbldaa

/- Whose key signs: the contract of the document's key, of layer 6. -/
namespace Go.Proofs.Ytjaplnainlbldaa
open Go.RowKit

end Go.Proofs.Ytjaplnainlbldaa

/- The contract of the document's Make. -/
namespace Go.Proofs.Ytjaplnainlbldaa
open Go.RowKit

end Go.Proofs.Ytjaplnainlbldaa

/- The contract of the document's Check, of layer 6. -/
namespace Go.Proofs.Ytjaplnainlbldaa
open Go.RowKit

end Go.Proofs.Ytjaplnainlbldaa

/- The contract of the document's Sign, of layer 6. -/
namespace Go.Proofs.Ytjaplnainlbldaa
open Go.RowKit

end Go.Proofs.Ytjaplnainlbldaa

/- The document's Get of a role and of a name, of a tape in whatever state; what follows for a credential. -/
namespace Go.Proofs.Ytjaplnainlbldaa
open Go.RowKit

end Go.Proofs.Ytjaplnainlbldaa

/- The contract of the document's Get of layer 5. -/
namespace Go.Proofs.Ytjaplnainlbldaa
open Go.RowKit

end Go.Proofs.Ytjaplnainlbldaa

/- The contract of the document's Get, of layer 6. -/
namespace Go.Proofs.Ytjaplnainlbldaa
open Go.RowKit

end Go.Proofs.Ytjaplnainlbldaa

/- The contract of the document's Get, of layer 9. -/
namespace Go.Proofs.Ytjaplnainlbldaa
open Go.RowKit

end Go.Proofs.Ytjaplnainlbldaa

/- '==' and '!=' at steps whose cells are told. -/
namespace Go.Proofs.Ytjaplnainlbldaa
open Go.RowKit

def eqK (a b : StepB) : Bool := decide (a = b)
theorem eqK_iff (a b : StepB) : eqK a b = decide (a.c.kind = b.c.kind ∧ a.c.head.1 = b.c.head.1 ∧ a.c.head.2 = b.c.head.2 ∧ a.c.who = b.c.who ∧ a.c.b.1 = b.c.b.1 ∧ a.c.b.2 = b.c.b.2 ∧ a.c.c.1 = b.c.c.1 ∧ a.c.c.2 = b.c.c.2 ∧ a.c.w2 = b.c.w2 ∧ a.f.1.1 = b.f.1.1 ∧ a.f.1.2 = b.f.1.2 ∧ a.f.2 = b.f.2) := by
  unfold eqK
  apply decide_eq_decide.2
  obtain ⟨⟨k, ⟨h1, h2⟩, w1, ⟨b1, b2⟩, ⟨c1, c2⟩, w2⟩, ⟨⟨f1, f2⟩, f3⟩⟩ := a
  obtain ⟨⟨k', ⟨h1', h2'⟩, w1', ⟨b1', b2'⟩, ⟨c1', c2'⟩, w2'⟩, ⟨⟨f1', f2'⟩, f3'⟩⟩ := b
  simp [and_assoc]

set_option maxRecDepth 100000 in
set_option maxHeartbeats 4000000 in
theorem run_neqgK (x y : Operand) (a b : StepB) (w : World) : Sem.run Try.prog (eqGuard BinOp.neq 43 x y (.agg #[.int .i64 a.c.kind, .string ⟨a.c.head.1.toArray⟩, .string ⟨a.c.head.2.toArray⟩, .string ⟨a.c.who.toArray⟩, .string ⟨a.c.b.1.toArray⟩, .string ⟨a.c.b.2.toArray⟩, .string ⟨a.c.c.1.toArray⟩, .string ⟨a.c.c.2.toArray⟩, .string ⟨a.c.w2.toArray⟩, .string ⟨a.f.1.1.toArray⟩, .string ⟨a.f.1.2.toArray⟩, .string ⟨a.f.2.toArray⟩]) (.agg #[.int .i64 b.c.kind, .string ⟨b.c.head.1.toArray⟩, .string ⟨b.c.head.2.toArray⟩, .string ⟨b.c.who.toArray⟩, .string ⟨b.c.b.1.toArray⟩, .string ⟨b.c.b.2.toArray⟩, .string ⟨b.c.c.1.toArray⟩, .string ⟨b.c.c.2.toArray⟩, .string ⟨b.c.w2.toArray⟩, .string ⟨b.f.1.1.toArray⟩, .string ⟨b.f.1.2.toArray⟩, .string ⟨b.f.2.toArray⟩])) w = .ok () w := by
  go_simp
set_option maxRecDepth 100000 in
set_option maxHeartbeats 4000000 in
theorem run_neqK (a b : StepB) (w : World) : Sem.run Try.prog (binOp BinOp.neq 43 (.agg #[.int .i64 a.c.kind, .string ⟨a.c.head.1.toArray⟩, .string ⟨a.c.head.2.toArray⟩, .string ⟨a.c.who.toArray⟩, .string ⟨a.c.b.1.toArray⟩, .string ⟨a.c.b.2.toArray⟩, .string ⟨a.c.c.1.toArray⟩, .string ⟨a.c.c.2.toArray⟩, .string ⟨a.c.w2.toArray⟩, .string ⟨a.f.1.1.toArray⟩, .string ⟨a.f.1.2.toArray⟩, .string ⟨a.f.2.toArray⟩]) (.agg #[.int .i64 b.c.kind, .string ⟨b.c.head.1.toArray⟩, .string ⟨b.c.head.2.toArray⟩, .string ⟨b.c.who.toArray⟩, .string ⟨b.c.b.1.toArray⟩, .string ⟨b.c.b.2.toArray⟩, .string ⟨b.c.c.1.toArray⟩, .string ⟨b.c.c.2.toArray⟩, .string ⟨b.c.w2.toArray⟩, .string ⟨b.f.1.1.toArray⟩, .string ⟨b.f.1.2.toArray⟩, .string ⟨b.f.2.toArray⟩])) w = .ok (.bool (!eqK a b)) w := by
  rw [eqK_iff]
  go_simp
  by_cases h0 : a.c.kind = b.c.kind
  rotate_left
  · simp [h0]
  simp only [h0, if_true, decide_true, Bool.not_true, Bool.false_or]
  by_cases h1 : a.c.head.1 = b.c.head.1
  rotate_left
  · simp [h1]
  simp only [h1, if_true, decide_true, Bool.not_true, Bool.false_or]
  by_cases h2 : a.c.head.2 = b.c.head.2
  rotate_left
  · simp [h2]
  simp only [h2, if_true, decide_true, Bool.not_true, Bool.false_or]
  by_cases h3 : a.c.who = b.c.who
  rotate_left
  · simp [h3]
  simp only [h3, if_true, decide_true, Bool.not_true, Bool.false_or]
  by_cases h4 : a.c.b.1 = b.c.b.1
  rotate_left
  · simp [h4]
  simp only [h4, if_true, decide_true, Bool.not_true, Bool.false_or]
  by_cases h5 : a.c.b.2 = b.c.b.2
  rotate_left
  · simp [h5]
  simp only [h5, if_true, decide_true, Bool.not_true, Bool.false_or]
  by_cases h6 : a.c.c.1 = b.c.c.1
  rotate_left
  · simp [h6]
  simp only [h6, if_true, decide_true, Bool.not_true, Bool.false_or]
  by_cases h7 : a.c.c.2 = b.c.c.2
  rotate_left
  · simp [h7]
  simp only [h7, if_true, decide_true, Bool.not_true, Bool.false_or]
  by_cases h8 : a.c.w2 = b.c.w2
  rotate_left
  · simp [h8]
  simp only [h8, if_true, decide_true, Bool.not_true, Bool.false_or]
  by_cases h9 : a.f.1.1 = b.f.1.1
  rotate_left
  · simp [h9]
  simp only [h9, if_true, decide_true, Bool.not_true, Bool.false_or]
  by_cases h10 : a.f.1.2 = b.f.1.2
  rotate_left
  · simp [h10]
  simp only [h10, if_true, decide_true, Bool.not_true, Bool.false_or]
  by_cases h11 : a.f.2 = b.f.2 <;> simp [h11]
end Go.Proofs.Ytjaplnainlbldaa

/- The contract of the document's Same, of layer 9. -/
namespace Go.Proofs.Ytjaplnainlbldaa
open Go.RowKit
attribute [local go_sem ↓ high] run_neqgK run_neqK

end Go.Proofs.Ytjaplnainlbldaa

/- The contract of a reader's end. -/
namespace Go.Proofs.Ytjaplnainlbldaa
open Go.RowKit

end Go.Proofs.Ytjaplnainlbldaa

/- The three contracts of the function that Read defers. -/
namespace Go.Proofs.Ytjaplnainlbldaa
open Go.RowKit

end Go.Proofs.Ytjaplnainlbldaa

/- The four contracts of Read, by how f ends. -/
namespace Go.Proofs.Ytjaplnainlbldaa
open Go.RowKit

end Go.Proofs.Ytjaplnainlbldaa

/- What a failed Get of a credential tells is no zero. (As in SignRead, under names of its own, without the program's keys.) -/
namespace Go.Proofs.Ytjaplnainlbldaa
open Go.RowKit

end Go.Proofs.Ytjaplnainlbldaa

/- What the law CheckGets asks of the program's check beside CK, and Read with the law's function over it. -/
namespace Go.Proofs.Ytjaplnainlbldaa
open Go.RowKit

end Go.Proofs.Ytjaplnainlbldaa

/- Words for law 9's first. -/
namespace Go.Proofs.Ytjaplnainlbldaa
open Go.RowKit

def cM9 : CredB := ⟨1, ([98], [115]), [100], noneR, noneR, []⟩
def fB9 : FactB := (([98], [115]), [100])

theorem cM9_ok : isCred cM9 = true := by decide +kernel
theorem short_M9 : credShort cM9 16 := isCred_short cM9_ok

def stX : StepB := ⟨cM9, fB9⟩
end Go.Proofs.Ytjaplnainlbldaa

/- Words for law 10's first. -/
namespace Go.Proofs.Ytjaplnainlbldaa
open Go.RowKit

theorem fst_set : SetC [cM9] [cM9] := by
  refine ⟨?_, fun c => ?_⟩
  · exact ⟨fun y hy => by simp at hy, trivial⟩
  · constructor
    · intro h
      rw [List.mem_singleton] at h
      subst h
      exact ⟨by simp, by decide +kernel⟩
    · exact fun h => h.1
theorem fst_set0 : SetC [] [] := ⟨trivial, fun c => by simp⟩
theorem fst_find : FindIs [cM9] fB9 [stX] true :=
  ⟨[cM9], [stX], fst_set, ⟨0, by decide +kernel, .inr (by decide +kernel), fun j hj => absurd hj (Nat.not_lt_zero j)⟩, .inl ⟨by decide +kernel, rfl, by decide +kernel⟩⟩
theorem fst_none : FindIs [] fB9 [] false :=
  ⟨[], [], fst_set0, ⟨0, by decide +kernel, .inl (Nat.le_refl 0), fun j hj => absurd hj (Nat.not_lt_zero j)⟩, .inr ⟨by decide +kernel, rfl, rfl⟩⟩
theorem fst_merge : mergeL [[stX], [stX]] = [stX] := by decide +kernel
end Go.Proofs.Ytjaplnainlbldaa
