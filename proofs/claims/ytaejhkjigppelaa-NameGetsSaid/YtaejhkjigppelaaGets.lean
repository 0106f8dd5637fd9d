/- The law NameGets of layer 3 is true at every text and all bytes, and leaves them as they read. Under no condition of its own. -/
import Derived.Test.YtaejhkjigppelaaNmGets
import Derived.Test.YtaejhkjigppelaaOpenB
import Derived.ChangeMaps5
namespace Go.Proofs.Ytaejhkjigppelaa
open Go.ChangeShapes Go.WideShapes Go.ChangeAt Go.RowKit

set_option maxRecDepth 100000 in
theorem gets_walk {D : Nat → Prop} (a1 : Option Addr) (c1 : Nat) (s b : List UInt8) (w : World) (hs : s.length ≤ 9223372036854775807) (hb : b.length ≤ 9223372036854775807) (k1 : BytesAt D w (.slice a1 b.length c1) b) (hD : ∀ i, D i → i < w.heap.size) :
    Calls Try.prog 10 #[.string ⟨s.toArray⟩, .slice a1 b.length c1] w fun e w' => e = .returned (.bool true) ∧ Chg (fun _ => False) w w' := by
  by_cases h1 : s.length ≤ 100
  · by_cases h2 : b.length ≤ 100
    · cases hn : isName s with
      | true => exact gets_yes a1 c1 s b w h1 h2 k1 hD hn
      | false => exact gets_no a1 c1 s b w h1 h2 k1 hD hn
    · have d1 : decide (100 < (s.length : Int)) = false := by simp; omega
      have d2 : decide (100 < (b.length : Int)) = true := by simp; omega
      clear h1 h2
      go_enter Try.func10, Try.ntmps10
      go_wp2_with (go_at_call 42; refine (first_any _).mono ?_; rintro e w1 ⟨rfl, hc⟩)
      go_ret
      exact ⟨rfl, hc⟩
  · have d1 : decide (100 < (s.length : Int)) = true := by simp; omega
    clear h1
    go_enter Try.func10, Try.ntmps10
    go_wp2_with (go_at_call 42; refine (first_any _).mono ?_; rintro e w1 ⟨rfl, hc⟩)
    go_ret
    exact ⟨rfl, hc⟩

set_option maxRecDepth 100000 in
theorem gets_lifted (os : Os) (started : os.Started) (H : Type) (enc : TypeId × Value → H) :
    ReturnsInHanded {} Try.checked os 10 .any (Rows.nameGetsSpec.pre6 enc Try.prog Try.f10 Rows.nameGetsRow.domain false) (Rows.nameGetsSpec.post enc Try.prog Try.f10 false true false false) := by
  refine returnsInHanded_of_change (C := Try.checked) Try.own started (by kernel_rfl) Try.func10
    (ChangeSpec.witness6 (enc := enc) (C := Try.checked) false ⟨#[], #[.string ⟨#[]⟩, .slice none 0 0], []⟩ 8 (by kernel_rfl) (by kernel_rfl) (by kernel_rfl) (by kernel_rfl)) ?_
  intro W base args ds gs before hval0 hW hcnd _
  have hval : ∀ (j : Nat) t v, Try.f10.params[j]? = some t → args[j]? = some v → Value.okWide Try.prog W .any base t v := hval0
  have hW' := hW
  obtain ⟨p, q, hA0, hV, rfl, hfz, hnd⟩ := hW
  have hA : DataW.TrodAll enc Try.prog W 0 (fun _ => true) true Try.f10.params.toList args.toList ds p := hA0
  rw [Try.params10] at hA hval
  obtain ⟨v0, v1, d0, d1, p0, p1, rfl, rfl, rfl, h0, h1⟩ := trodAll_two hA
  obtain ⟨rfl, rfl⟩ := trodVars_none hV
  obtain ⟨a1, len1, cap1, rfl⟩ := okWide_slice Try.underlying25 (hval 1 25 v1 rfl rfl)
  have k0 := h0
  have k1 := h1
  have lt0 : ∀ x ∈ p0, x.block < W.heap.size := by obtain ⟨m, hm⟩ := k0; exact DataW.trod_lt m _ _ _ hm
  have lt1 : ∀ x ∈ p1, x.block < W.heap.size := by obtain ⟨m, hm⟩ := k1; exact DataW.trod_lt m _ _ _ hm
  obtain ⟨s, rfl, rfl, rfl, hs⟩ := Go.ChangeMaps.open_string Try.underlying9 (hval 0 9 v0 rfl rfl) h0
  obtain ⟨fuel1, hf1⟩ := h1
  obtain ⟨ao2, cap2, ys, hcs2, hlen2, hby2⟩ := open_bytes hf1
  simp only [Value.cells, List.cons.injEq, and_true, Value.slice.injEq] at hcs2
  obtain ⟨rfl, rfl, rfl⟩ := hcs2
  clear hA0 hval0
  have hss : s.data.toList.length ≤ 9223372036854775807 := by unfold maxLen at hs; exact hs
  refine (gets_walk _ _ s.data.toList ys W hss hlen2 hby2 (fun _ h => h)).mono fun e W' ⟨he, hc⟩ => ?_
  subst he
  have bel : Below W.heap.size W W' := hc.below (Nat.le_refl _) (fun _ _ => id)
  exact ⟨_, rfl, _, _, _, [], _, [], hW', trodAll_mk1 (shut_bool Try.underlying4 _), trodAll_cons_mk (Below.trod Try.laidOut (by kernel_rfl) (of_decide_eq_true (by kernel_rfl)) k0 bel lt0) (trodAll_cons_mk (Below.trod Try.laidOut (by kernel_rfl) (of_decide_eq_true (by kernel_rfl)) k1 bel lt1) trodAll_mk0), rfl, bel.frame _, fun h => by cases h⟩

theorem nameGets_holds : Rows.NameGetsSaid :=
  OpenClaim.holds_of_wide 10 Try.f10 rfl rfl rfl rfl rfl rfl rfl ⟨rfl, rfl, rfl, rfl, rfl⟩ rfl rfl rfl rfl rfl (by kernel_rfl) Try.func10 (by kernel_rfl)
    (of_decide_eq_true (by kernel_rfl)) (by unfold Func.isWrapper; first | (rw [if_pos (by decide +kernel)]; kernel_rfl) | (rw [if_neg (by decide +kernel)]; exact ⟨rfl, rfl⟩))
    (fun os started H enc _ => gets_lifted os started H enc)

#print axioms nameGets_holds

end Go.Proofs.Ytaejhkjigppelaa
