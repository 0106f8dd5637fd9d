/- Texts that the proof leans on, in one: RefFLess, RefFSame. -/
import Derived.Test.YtjaplnainlbldaaFc6
import Derived.Test.YtjaplnainlbldaaFc7
import Derived.Test.YtjaplnainlbldaaProg
import Derived.Test.YtjaplnainlbldaaChecked
import Derived.Deep.QuietTactic
import Derived.BigQuiet
/- The contract of the document's less, of layer 8; == and != at facts. -/
namespace Go.Proofs.Ytjaplnainlbldaa
open Go.RowKit

theorem run_eqg_fact (x y : Operand) (a b : FactB) (w : World) : Sem.run Try.prog (eqGuard BinOp.neq 26 x y (.agg #[.string ⟨a.1.1.toArray⟩, .string ⟨a.1.2.toArray⟩, .string ⟨a.2.toArray⟩]) (.agg #[.string ⟨b.1.1.toArray⟩, .string ⟨b.1.2.toArray⟩, .string ⟨b.2.toArray⟩])) w = .ok () w := by
 go_simp

theorem run_neq_fact (a b : FactB) (w : World) : Sem.run Try.prog (binOp BinOp.neq 26 (.agg #[.string ⟨a.1.1.toArray⟩, .string ⟨a.1.2.toArray⟩, .string ⟨a.2.toArray⟩]) (.agg #[.string ⟨b.1.1.toArray⟩, .string ⟨b.1.2.toArray⟩, .string ⟨b.2.toArray⟩])) w = .ok (.bool (!decide (a = b))) w := by
 have : decide (a = b) = decide (a.1.1 = b.1.1 ∧ a.1.2 = b.1.2 ∧ a.2 = b.2) := by simp only [Prod.ext_iff, and_assoc]
 rw [this]
 go_simp
 repeat' split
 all_goals simp_all

theorem ltF_def (a b : FactB) : ltF a b = (ltR a.1 b.1 || (decide (a.1 = b.1) && ltS a.2 b.2)) := by
 unfold ltF lexLt
 congr 1
 congr 1
 cases h : (a.1 == b.1) with
 | true => simp [beq_iff_eq.1 h]
 | false => simp at h; simp [h]

theorem retb7 {a b : Bool} (h : a = b) : Ending.returned (.bool a) = .returned (.bool b) := by rw [h]

attribute [local go_sem ↓ high] run_eqg_role run_eql_role
set_option maxRecDepth 100000 in
set_option maxHeartbeats 2000000 in
theorem rfless (a b : FactB) (w : World) :
  Calls Try.prog 84 #[.agg #[.string ⟨a.1.1.toArray⟩, .string ⟨a.1.2.toArray⟩, .string ⟨a.2.toArray⟩], .agg #[.string ⟨b.1.1.toArray⟩, .string ⟨b.1.2.toArray⟩, .string ⟨b.2.toArray⟩]] w fun e w' => e = .returned (.bool (ltF a b)) ∧ Chg (fun _ => False) w w' := by
 have hA := heap_alloc_new w (.cells (factBox a) 26)
 have hB := heap_alloc_new (w.alloc (.cells (factBox a) 26)) (.cells (factBox b) 26)
 rw [World.size_alloc] at hB
 have hA2 := blk_keep hA ((Chg.refl (fun _ => False) _).alloc (.cells (factBox b) 26)) id
 have hc : Chg (fun _ => False) w ((w.alloc (.cells (factBox a) 26)).alloc (.cells (factBox b) 26)) := ((Chg.refl _ w).alloc _).alloc _
 have HH := hid (And.intro hA2 (And.intro hB hc))
 have HL := hid (fun W => less_ref a.1 b.1 W)
 clear hA hB hA2 hc
 go_enter Try.func84, Try.ntmps84
 go_wp2_with fail
 refine (HL.out _).mono ?_
 rintro e W ⟨rfl, hc1⟩
 obtain ⟨hA, hB, hc⟩ := HH.out
 replace hA := blk_keep hA hc1 id
 replace hB := blk_keep hB hc1 id
 have a0 := cell_blk hA 0
 have a1 := cell_blk hA 1
 have a2 := cell_blk hA 2
 have b0 := cell_blk hB 0
 have b1 := cell_blk hB 1
 have b2 := cell_blk hB 2
 simp only [factBox, List.getElem?_toArray, List.getElem?_cons_zero, List.getElem?_cons_succ] at a0 a1 a2 b0 b1 b2
 have HC := hid (hc.trans hc1 (fun _ _ h => h))
 clear hA hB hc hc1 HH HL
 have HL := hid (ltF_def a b)
 cases hl : ltR a.1 b.1 with
 | true =>
  rw [hl] at HL
  go_wp2
  go_ret
  exact ⟨retb7 (by rw [HL.out]; rfl), HC.out⟩
 | false =>
  rw [hl] at HL
  generalize a.1 = ar at *
  generalize b.1 = br at *
  by_cases hr : ar = br
  ·have d1 : decide (ar = br) = true := decide_eq_true hr
   rw [d1] at HL
   clear hr
   go_wp2
   go_ret
   exact ⟨retb7 (by rw [HL.out]; simp [ltS]), HC.out⟩
  ·have d1 : decide (ar = br) = false := decide_eq_false hr
   rw [d1] at HL
   clear hr
   go_wp2
   go_ret
   exact ⟨retb7 (by rw [HL.out]; rfl), HC.out⟩
end Go.Proofs.Ytjaplnainlbldaa

/- The contract of the document's Same of layer 8. -/
namespace Go.Proofs.Ytjaplnainlbldaa
open Go.RowKit
attribute [local go_sem ↓ high] run_eqg_fact run_neq_fact

end Go.Proofs.Ytjaplnainlbldaa
