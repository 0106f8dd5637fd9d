/- The law NormalSays of layer 13, at two formulas and a list of roles that hold together at most 1048576 values and letters. -/
import Derived.Test.YtlmlcjjjkplccaaNa28
import Derived.Test.YtlmlcjjjkplccaaNa29
import Derived.ChangeMaps5
import Derived.ProofKit
import Derived.OpenShut
namespace Go.Proofs.Ytlmlcjjjkplccaa
open Go.ChangeShapes Go.WideShapes Go.ChangeAt Go.RowKit

theorem totalR_lenN (l : List RoleB) : l.length ≤ totalR l := by
  induction l with
  | nil => exact Nat.zero_le _
  | cons x l ih => rw [totalR, List.length_cons]; omega

set_option maxRecDepth 100000 in
theorem normalSays_lifted (os : Os) (started : os.Started) (H : Type) (enc : TypeId × Value → H) (F : Stop.Interp) :
    ReturnsInHanded {} Try.checked os 4 .any ((Rows.OpenSpec.upto Rows.normalSaysSpec).pre6 enc Try.prog Try.f4 Rows.normalSaysUptoRow.domain false) (((Rows.OpenSpec.upto Rows.normalSaysSpec).at F).post enc Try.prog Try.f4 false true false false) := by
  refine handed_cond_shaped (C := Try.checked) (s := Rows.OpenSpec.upto Rows.normalSaysSpec) (k := Rows.uptoSmall) rfl Try.own started (by kernel_rfl) Try.func4
    (OpenSpec.witness (enc := enc) (C := Try.checked) (s := Rows.OpenSpec.upto Rows.normalSaysSpec) (k := Rows.uptoSmall) rfl false ⟨#[], #[.agg #[.int .i64 0, .int .i64 0, .string ⟨#[]⟩, .string ⟨#[]⟩, .slice none 0 0], .agg #[.int .i64 0, .int .i64 0, .string ⟨#[]⟩, .string ⟨#[]⟩, .slice none 0 0], .slice none 0 0], []⟩ 8 (by kernel_rfl) (by kernel_rfl) (by kernel_rfl)
      (x := ([.agg [.lit (.int .i64 0), .lit (.int .i64 0), .agg [.lit (.string []), .lit (.string [])], .nil], .agg [.lit (.int .i64 0), .lit (.int .i64 0), .agg [.lit (.string []), .lit (.string [])], .nil], .nil], [], [])) (by kernel_rfl) rfl (by kernel_rfl)) ?_
  intro W base args ds gs before hshp hval0 hW hk
  have hval : ∀ (j : Nat) t v, Try.f4.params[j]? = some t → args[j]? = some v → Value.okWide Try.prog W .any base t v := hval0
  have hW' := hW
  obtain ⟨p, q, hA0, hV, rfl, hfz, hnd⟩ := hW
  have hA : DataW.TrodAll enc Try.prog W 0 (fun _ => true) true Try.f4.params.toList args.toList ds p := hA0
  rw [Try.params4] at hA hval
  obtain ⟨v0, v1, v2, d0, d1, d2, p0, p1, p2, rfl, rfl, rfl, h0, h1, h2⟩ := trodAll_three hA
  obtain ⟨rfl, rfl⟩ := trodVars_none hV
  have k0 := h0
  have k1 := h1
  have k2 := h2
  have lt0 : ∀ x ∈ p0, x.block < W.heap.size := by obtain ⟨m, hm⟩ := k0; exact DataW.trod_lt m _ _ _ hm
  have lt1 : ∀ x ∈ p1, x.block < W.heap.size := by obtain ⟨m, hm⟩ := k1; exact DataW.trod_lt m _ _ _ hm
  have lt2 : ∀ x ∈ p2, x.block < W.heap.size := by obtain ⟨m, hm⟩ := k2; exact DataW.trod_lt m _ _ _ hm
  have hk' := of_decide_eq_true hk
  simp only [List.append_nil, Rows.uptoBulkAll] at hk'
  obtain ⟨cs0, rfl, _⟩ := okWide_struct Try.underlying26 (hval 0 26 v0 rfl rfl)
  obtain ⟨fuel0, hf0⟩ := h0
  obtain ⟨f, ao, cp, hcs0, hfm, hok, hz, hg⟩ := open_fm 1048576 (x := (d0, p0)) (by dsimp only; omega) hf0
  have hcs1 : cs0.toList = fmCells f ao cp := hcs0
  have hcs2 : cs0 = (fmCells f ao cp).toArray := by rw [← hcs1]
  subst hcs2
  obtain ⟨cs1, rfl, _⟩ := okWide_struct Try.underlying26 (hval 1 26 v1 rfl rfl)
  obtain ⟨fuel1, hf1⟩ := h1
  obtain ⟨g, bo, bp, hcs3, hfm2, hok2, hz2, hg2⟩ := open_fm 1048576 (x := (d1, p1)) (by dsimp only; omega) hf1
  have hcs4 : cs1.toList = fmCells g bo bp := hcs3
  have hcs5 : cs1 = (fmCells g bo bp).toArray := by rw [← hcs4]
  subst hcs5
  obtain ⟨a2, len2, cap2, rfl⟩ := okWide_slice Try.underlying37 (hval 2 37 v2 rfl rfl)
  obtain ⟨fuel2, hf2⟩ := h2
  obtain ⟨co2, cc2, ys, hcs6, hry, hty, hzy⟩ := open_roles hf2
  simp only [Value.cells, List.cons.injEq, and_true, Value.slice.injEq] at hcs6
  obtain ⟨rfl, rfl, rfl⟩ := hcs6
  dsimp only at hty hg hg2
  have hly := totalR_lenN ys
  clear hA0 hval0
  refine (nsays_main 1048576 f g ao bo cp bp ys _ ys.length _ W ⟨hfm, fun _ h => h, hok, hz⟩ ⟨hfm2, fun _ h => h, hok2, hz2⟩ hry hzy (by omega) rfl (by omega)).mono fun e W' ⟨he, hc⟩ => ?_
  subst he
  have bel : Below W.heap.size W W' := hc.below (Nat.le_refl _) (fun _ _ => id)
  exact ⟨_, rfl, _, _, _, [], _, [], hW', trodAll_mk1 (shut_bool Try.underlying4 _), (trodAll_cons_mk (Below.trod Try.laidOut (by kernel_rfl) (of_decide_eq_true (by kernel_rfl)) k0 bel lt0) (trodAll_cons_mk (Below.trod Try.laidOut (by kernel_rfl) (of_decide_eq_true (by kernel_rfl)) k1 bel lt1) (trodAll_cons_mk (Below.trod Try.laidOut (by kernel_rfl) (of_decide_eq_true (by kernel_rfl)) k2 bel lt2) trodAll_mk0))), rfl, bel.frame _, fun h => by cases h⟩

theorem normalSays_said : Rows.NormalSaysUptoSaid :=
  OpenClaim.holds_of_cond 4 Try.f4 rfl rfl rfl rfl rfl rfl rfl ⟨rfl, rfl, rfl, rfl, rfl⟩ rfl rfl rfl rfl rfl (by kernel_rfl) Try.func4 (by kernel_rfl)
    (of_decide_eq_true (by kernel_rfl)) (by unfold Func.isWrapper; first | (rw [if_pos (by decide +kernel)]; kernel_rfl) | (rw [if_neg (by decide +kernel)]; exact ⟨rfl, rfl⟩))
    (fun os started H enc _ F => normalSays_lifted os started H enc F)
end Go.Proofs.Ytlmlcjjjkplccaa
