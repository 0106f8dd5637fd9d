/- The law TagMakes of layer 2 is true at every key, all bytes and every tag, and leaves them as they read. Under no condition of its own. -/
import Derived.Test.YtjipfbggoeiakaaTagMakes
import Derived.Test.YtjipfbggoeiakaaOpenB
namespace Go.Proofs.Ytjipfbggoeiakaa
open Go.ChangeShapes Go.WideShapes Go.ChangeAt Go.RowKit

set_option maxRecDepth 100000 in
theorem makes_walk {D : Nat → Prop} (a0 a1 a2 : Option Addr) (c0 c1 c2 : Nat) (key b t : List UInt8) (w : World) (hk : key.length ≤ 9223372036854775807) (hb : b.length ≤ 9223372036854775807) (ht : t.length ≤ 9223372036854775807)
    (k0 : BytesAt D w (.slice a0 key.length c0) key) (k1 : BytesAt D w (.slice a1 b.length c1) b) (k2 : BytesAt D w (.slice a2 t.length c2) t) :
    Calls Try.prog 7 #[.slice a0 key.length c0, .slice a1 b.length c1, .slice a2 t.length c2] w fun e w' => e = .returned (.bool true) ∧ Chg (fun _ => False) w w' := by
  by_cases h1 : key.length ≤ 100
  · by_cases h2 : b.length ≤ 2000
    · by_cases h3 : t.length ≤ 100
      · by_cases hl : 1 ≤ key.length
        · by_cases hr : key.length ≤ 32
          · exact makes_Yes a0 a1 a2 c0 c1 c2 key b t w hl hr h1 h2 h3 k0 k1 k2
          · exact makes_Long a0 a1 a2 c0 c1 c2 key b t w (by omega) h1 h2 h3 k0 k1 k2
        · exact makes_Nil a0 a1 a2 c0 c1 c2 key b t w (by omega) h1 h2 h3 k0 k1 k2
      · have d1 : decide (100 < (key.length : Int)) = false := by simp; omega
        have d2 : decide (2000 < (b.length : Int)) = false := by simp; omega
        have d3 : decide (100 < (t.length : Int)) = true := by simp; omega
        go_enter Try.func7, Try.ntmps7
        go_wp2_with (go_at_call 33; refine (first_any _).mono ?_; rintro e w1 ⟨rfl, hc⟩)
        go_ret
        exact ⟨rfl, hc⟩
    · have d1 : decide (100 < (key.length : Int)) = false := by simp; omega
      have d2 : decide (2000 < (b.length : Int)) = true := by simp; omega
      go_enter Try.func7, Try.ntmps7
      go_wp2_with (go_at_call 33; refine (first_any _).mono ?_; rintro e w1 ⟨rfl, hc⟩)
      go_ret
      exact ⟨rfl, hc⟩
  · have d1 : decide (100 < (key.length : Int)) = true := by simp; omega
    go_enter Try.func7, Try.ntmps7
    go_wp2_with (go_at_call 33; refine (first_any _).mono ?_; rintro e w1 ⟨rfl, hc⟩)
    go_ret
    exact ⟨rfl, hc⟩

set_option maxRecDepth 100000 in
theorem makes_lifted (os : Os) (started : os.Started) (H : Type) (enc : TypeId × Value → H) :
    ReturnsInHanded {} Try.checked os 7 .any (Rows.tagMakesSpec.pre6 enc Try.prog Try.f7 Rows.tagMakesRow.domain false) (Rows.tagMakesSpec.post enc Try.prog Try.f7 false true false false) := by
  refine returnsInHanded_of_change (C := Try.checked) Try.own started (by kernel_rfl) Try.func7
    (ChangeSpec.witness6 (enc := enc) (C := Try.checked) false ⟨#[], #[.slice none 0 0, .slice none 0 0, .slice none 0 0], []⟩ 8 (by kernel_rfl) (by kernel_rfl) (by kernel_rfl) (by kernel_rfl)) ?_
  intro W base args ds gs before hval0 hW hcnd _
  have hval : ∀ (j : Nat) t v, Try.f7.params[j]? = some t → args[j]? = some v → Value.okWide Try.prog W .any base t v := hval0
  have hW' := hW
  obtain ⟨p, q, hA0, hV, rfl, hfz, hnd⟩ := hW
  have hA : DataW.TrodAll enc Try.prog W 0 (fun _ => true) true Try.f7.params.toList args.toList ds p := hA0
  rw [Try.params7] at hA hval
  obtain ⟨v0, v1, v2, d0, d1, d2, p0, p1, p2, rfl, rfl, rfl, h0, h1, h2⟩ := trodAll_three hA
  obtain ⟨rfl, rfl⟩ := trodVars_none hV
  obtain ⟨a0, len0, cap0, rfl⟩ := okWide_slice Try.underlying25 (hval 0 25 v0 rfl rfl)
  obtain ⟨a1, len1, cap1, rfl⟩ := okWide_slice Try.underlying25 (hval 1 25 v1 rfl rfl)
  obtain ⟨a2, len2, cap2, rfl⟩ := okWide_slice Try.underlying25 (hval 2 25 v2 rfl rfl)
  have k0 := h0
  have k1 := h1
  have k2 := h2
  have lt0 : ∀ x ∈ p0, x.block < W.heap.size := by obtain ⟨m, hm⟩ := k0; exact DataW.trod_lt m _ _ _ hm
  have lt1 : ∀ x ∈ p1, x.block < W.heap.size := by obtain ⟨m, hm⟩ := k1; exact DataW.trod_lt m _ _ _ hm
  have lt2 : ∀ x ∈ p2, x.block < W.heap.size := by obtain ⟨m, hm⟩ := k2; exact DataW.trod_lt m _ _ _ hm
  obtain ⟨fuel, hf⟩ := h0
  obtain ⟨ao, cap, xs, hcs, hlen, hby⟩ := open_bytes hf
  simp only [Value.cells, List.cons.injEq, and_true, Value.slice.injEq] at hcs
  obtain ⟨rfl, rfl, rfl⟩ := hcs
  obtain ⟨fuel1, hf1⟩ := h1
  obtain ⟨ao2, cap2, ys, hcs2, hlen2, hby2⟩ := open_bytes hf1
  simp only [Value.cells, List.cons.injEq, and_true, Value.slice.injEq] at hcs2
  obtain ⟨rfl, rfl, rfl⟩ := hcs2
  obtain ⟨fuel2, hf2⟩ := h2
  obtain ⟨ao3, cap3, zs, hcs3, hlen3, hby3⟩ := open_bytes hf2
  simp only [Value.cells, List.cons.injEq, and_true, Value.slice.injEq] at hcs3
  obtain ⟨rfl, rfl, rfl⟩ := hcs3
  clear hA0 hval0
  refine (makes_walk _ _ _ _ _ _ xs ys zs W hlen hlen2 hlen3 hby hby2 hby3).mono fun e W' ⟨he, hc⟩ => ?_
  subst he
  have bel : Below W.heap.size W W' := hc.below (Nat.le_refl _) (fun _ _ => id)
  exact ⟨_, rfl, _, _, _, [], _, [], hW', trodAll_mk1 (shut_bool Try.underlying4 _), trodAll_cons_mk (Below.trod Try.laidOut (by kernel_rfl) (of_decide_eq_true (by kernel_rfl)) k0 bel lt0) (trodAll_cons_mk (Below.trod Try.laidOut (by kernel_rfl) (of_decide_eq_true (by kernel_rfl)) k1 bel lt1) (trodAll_cons_mk (Below.trod Try.laidOut (by kernel_rfl) (of_decide_eq_true (by kernel_rfl)) k2 bel lt2) trodAll_mk0)), rfl, bel.frame _, fun h => by cases h⟩

theorem tagMakes_holds : Rows.TagMakesSaid :=
  OpenClaim.holds_of_wide 7 Try.f7 rfl rfl rfl rfl rfl rfl rfl ⟨rfl, rfl, rfl, rfl, rfl⟩ rfl rfl rfl rfl rfl (by kernel_rfl) Try.func7 (by kernel_rfl)
    (of_decide_eq_true (by kernel_rfl)) (by unfold Func.isWrapper; first | (rw [if_pos (by decide +kernel)]; kernel_rfl) | (rw [if_neg (by decide +kernel)]; exact ⟨rfl, rfl⟩))
    (fun os started H enc _ => makes_lifted os started H enc)

#print axioms tagMakes_holds

end Go.Proofs.Ytjipfbggoeiakaa
