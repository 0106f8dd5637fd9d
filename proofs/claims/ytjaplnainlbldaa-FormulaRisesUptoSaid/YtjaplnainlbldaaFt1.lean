/- The law FormulaRises of layer 11, at every formula and two lists of roles that hold together at most 1048576 values and letters. -/
import Derived.Test.YtjaplnainlbldaaFr27
import Derived.Test.YtjaplnainlbldaaFr28
import Derived.ChangeMaps5
import Derived.ProofKit
import Derived.OpenShut
namespace Go.Proofs.Ytjaplnainlbldaa
open Go.ChangeShapes Go.WideShapes Go.ChangeAt Go.RowKit

theorem totalR_lenF (l : List RoleB) : l.length ≤ totalR l := by
  induction l with
  | nil => exact Nat.zero_le _
  | cons x l ih => rw [totalR, List.length_cons]; omega

set_option maxRecDepth 100000 in
theorem formulaRises_lifted (os : Os) (started : os.Started) (H : Type) (enc : TypeId × Value → H) (F : Stop.Interp) :
    ReturnsInHanded {} Try.checked os 6 .any ((Rows.OpenSpec.upto Rows.formulaRisesSpec).pre6 enc Try.prog Try.f6 Rows.formulaRisesUptoRow.domain false) (((Rows.OpenSpec.upto Rows.formulaRisesSpec).at F).post enc Try.prog Try.f6 false true false false) := by
  refine handed_cond_shaped (C := Try.checked) (s := Rows.OpenSpec.upto Rows.formulaRisesSpec) (k := Rows.uptoSmall) rfl Try.own started (by kernel_rfl) Try.func6
    (OpenSpec.witness (enc := enc) (C := Try.checked) (s := Rows.OpenSpec.upto Rows.formulaRisesSpec) (k := Rows.uptoSmall) rfl false ⟨#[], #[.agg #[.int .i64 0, .int .i64 0, .string ⟨#[]⟩, .string ⟨#[]⟩, .slice none 0 0], .slice none 0 0, .slice none 0 0], []⟩ 8 (by kernel_rfl) (by kernel_rfl) (by kernel_rfl)
      (x := ([.agg [.lit (.int .i64 0), .lit (.int .i64 0), .agg [.lit (.string []), .lit (.string [])], .nil], .nil, .nil], [], [])) (by kernel_rfl) rfl (by kernel_rfl)) ?_
  intro W base args ds gs before hshp hval0 hW hk
  have hval : ∀ (j : Nat) t v, Try.f6.params[j]? = some t → args[j]? = some v → Value.okWide Try.prog W .any base t v := hval0
  have hW' := hW
  obtain ⟨p, q, hA0, hV, rfl, hfz, hnd⟩ := hW
  have hA : DataW.TrodAll enc Try.prog W 0 (fun _ => true) true Try.f6.params.toList args.toList ds p := hA0
  rw [Try.params6] at hA hval
  obtain ⟨v0, v1, v2, d0, d1, d2, p0, p1, p2, rfl, rfl, rfl, h0, h1, h2⟩ := trodAll_three hA
  obtain ⟨rfl, rfl⟩ := trodVars_none hV
  have k0 := h0
  have k1 := h1
  have k2 := h2
  have lt0 : ∀ x ∈ p0, x.block < W.heap.size := by obtain ⟨m, hm⟩ := k0; exact DataW.trod_lt m _ _ _ hm
  have lt1 : ∀ x ∈ p1, x.block < W.heap.size := by obtain ⟨m, hm⟩ := k1; exact DataW.trod_lt m _ _ _ hm
  have lt2 : ∀ x ∈ p2, x.block < W.heap.size := by obtain ⟨m, hm⟩ := k2; exact DataW.trod_lt m _ _ _ hm
  have hk' := of_decide_eq_true hk
  simp only [List.append_nil, Rows.uptoBulkAll] at hk'
  obtain ⟨cs0, rfl, _⟩ := okWide_struct Try.underlying58 (hval 0 58 v0 rfl rfl)
  obtain ⟨fuel0, hf0⟩ := h0
  obtain ⟨f, ao, cp, hcs0, hfm, hok, hz, hg⟩ := open_fm 1048576 (x := (d0, p0)) (by dsimp only; omega) hf0
  have hcs1 : cs0.toList = fmCells f ao cp := hcs0
  have hcs2 : cs0 = (fmCells f ao cp).toArray := by rw [← hcs1]
  subst hcs2
  obtain ⟨a1, len1, cap1, rfl⟩ := okWide_slice Try.underlying59 (hval 1 59 v1 rfl rfl)
  obtain ⟨fuel1, hf1⟩ := h1
  obtain ⟨co, cc, xs, hcs3, hrx, htx, hzx⟩ := open_roles hf1
  simp only [Value.cells, List.cons.injEq, and_true, Value.slice.injEq] at hcs3
  obtain ⟨rfl, rfl, rfl⟩ := hcs3
  obtain ⟨a2, len2, cap2, rfl⟩ := okWide_slice Try.underlying59 (hval 2 59 v2 rfl rfl)
  obtain ⟨fuel2, hf2⟩ := h2
  obtain ⟨co2, cc2, ys, hcs4, hry, hty, hzy⟩ := open_roles hf2
  simp only [Value.cells, List.cons.injEq, and_true, Value.slice.injEq] at hcs4
  obtain ⟨rfl, rfl, rfl⟩ := hcs4
  dsimp only at htx hty hg
  have hlx := totalR_lenF xs
  have hly := totalR_lenF ys
  clear hA0 hval0
  refine (frises_main 1048576 f ao cp xs ys _ _ xs.length _ ys.length _ W hfm hok hz hrx hry hzx hzy (fun _ h => h) (by omega) rfl rfl (by omega) (by omega)).mono fun e W' ⟨he, hc⟩ => ?_
  subst he
  have bel : Below W.heap.size W W' := hc.below (Nat.le_refl _) (fun _ _ => id)
  exact ⟨_, rfl, _, _, _, [], _, [], hW', trodAll_mk1 (shut_bool Try.underlying4 _), (trodAll_cons_mk (Below.trod Try.laidOut (by kernel_rfl) (of_decide_eq_true (by kernel_rfl)) k0 bel lt0) (trodAll_cons_mk (Below.trod Try.laidOut (by kernel_rfl) (of_decide_eq_true (by kernel_rfl)) k1 bel lt1) (trodAll_cons_mk (Below.trod Try.laidOut (by kernel_rfl) (of_decide_eq_true (by kernel_rfl)) k2 bel lt2) trodAll_mk0))), rfl, bel.frame _, fun h => by cases h⟩

theorem formulaRises_said : Rows.FormulaRisesUptoSaid :=
  OpenClaim.holds_of_cond 6 Try.f6 rfl rfl rfl rfl rfl rfl rfl ⟨rfl, rfl, rfl, rfl, rfl⟩ rfl rfl rfl rfl rfl (by kernel_rfl) Try.func6 (by kernel_rfl)
    (of_decide_eq_true (by kernel_rfl)) (by unfold Func.isWrapper; first | (rw [if_pos (by decide +kernel)]; kernel_rfl) | (rw [if_neg (by decide +kernel)]; exact ⟨rfl, rfl⟩))
    (fun os started H enc _ F => formulaRises_lifted os started H enc F)
end Go.Proofs.Ytjaplnainlbldaa
