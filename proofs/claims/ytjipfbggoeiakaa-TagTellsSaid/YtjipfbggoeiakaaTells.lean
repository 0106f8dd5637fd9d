/- The law TagTells of layer 2 is true at every key, all bytes and every three numbers, and leaves them as they read. Under no condition of its own. -/
import Derived.Test.YtjipfbggoeiakaaTagTells
import Derived.Test.YtjipfbggoeiakaaOpenB
namespace Go.Proofs.Ytjipfbggoeiakaa
open Go.ChangeShapes Go.WideShapes Go.ChangeAt Go.RowKit

set_option maxRecDepth 100000 in
theorem tells_walk {D : Nat → Prop} (a1 a2 : Option Addr) (c1 c2 : Nat) (key b : List UInt8) (n0 n1 n2 : Nat) (w : World) (hk : key.length ≤ 9223372036854775807) (hb : b.length ≤ 9223372036854775807) (b0 : n0 < 256) (b1 : n1 < 256) (b2 : n2 < 256)
    (k1 : BytesAt D w (.slice a1 key.length c1) key) (k2 : BytesAt D w (.slice a2 b.length c2) b) :
    Calls Try.prog 8 #[.slice a1 key.length c1, .slice a2 b.length c2, .agg #[.int .u8 n0, .int .u8 n1, .int .u8 n2]] w fun e w' => e = .returned (.bool true) ∧ Chg (fun _ => False) w w' := by
  by_cases h1 : 1 ≤ key.length
  · by_cases h2 : key.length ≤ 32
    · by_cases h3 : b.length ≤ 2000
      · exact tells_main a1 a2 c1 c2 key b n0 n1 n2 w h3 h1 h2 b0 b1 b2 k1 k2
      · have d1 : decide ((key.length : Int) < 1) = false := by simp; omega
        have d2 : decide (32 < (key.length : Int)) = false := by simp; omega
        have d3 : decide (2000 < (b.length : Int)) = true := by simp; omega
        have hc0 := (Chg.refl (fun _ => False) w).alloc (.cells #[.int .u8 n0, .int .u8 n1, .int .u8 n2] 58)
        go_enter Try.func8, Try.ntmps8
        go_wp2_with (go_at_call 33; refine (first_any _).mono ?_; rintro e w1 ⟨rfl, hc⟩)
        go_ret
        exact ⟨rfl, hc0.trans hc (fun _ _ h => h)⟩
    · have d1 : decide ((key.length : Int) < 1) = false := by simp; omega
      have d2 : decide (32 < (key.length : Int)) = true := by simp; omega
      have hc0 := (Chg.refl (fun _ => False) w).alloc (.cells #[.int .u8 n0, .int .u8 n1, .int .u8 n2] 58)
      go_enter Try.func8, Try.ntmps8
      go_wp2_with (go_at_call 33; refine (first_any _).mono ?_; rintro e w1 ⟨rfl, hc⟩)
      go_ret
      exact ⟨rfl, hc0.trans hc (fun _ _ h => h)⟩
  · have d1 : decide ((key.length : Int) < 1) = true := by simp; omega
    have hc0 := (Chg.refl (fun _ => False) w).alloc (.cells #[.int .u8 n0, .int .u8 n1, .int .u8 n2] 58)
    go_enter Try.func8, Try.ntmps8
    go_wp2_with (go_at_call 33; refine (first_any _).mono ?_; rintro e w1 ⟨rfl, hc⟩)
    go_ret
    exact ⟨rfl, hc0.trans hc (fun _ _ h => h)⟩

set_option maxRecDepth 100000 in
theorem tells_lifted (os : Os) (started : os.Started) (H : Type) (enc : TypeId × Value → H) :
    ReturnsInHanded {} Try.checked os 8 .any (Rows.tagTellsSpec.pre6 enc Try.prog Try.f8 Rows.tagTellsRow.domain false) (Rows.tagTellsSpec.post enc Try.prog Try.f8 false true false false) := by
  refine returnsInHanded_of_change (C := Try.checked) Try.own started (by kernel_rfl) Try.func8
    (ChangeSpec.witness6 (enc := enc) (C := Try.checked) false ⟨#[], #[.slice none 0 0, .slice none 0 0, .agg #[.int .u8 0, .int .u8 0, .int .u8 0]], []⟩ 8 (by kernel_rfl) (by kernel_rfl) (by kernel_rfl) (by kernel_rfl)) ?_
  intro W base args ds gs before hval0 hW hcnd _
  have hval : ∀ (j : Nat) t v, Try.f8.params[j]? = some t → args[j]? = some v → Value.okWide Try.prog W .any base t v := hval0
  have hW' := hW
  obtain ⟨p, q, hA0, hV, rfl, hfz, hnd⟩ := hW
  have hA : DataW.TrodAll enc Try.prog W 0 (fun _ => true) true Try.f8.params.toList args.toList ds p := hA0
  rw [Try.params8] at hA hval
  obtain ⟨v0, v1, v2, d0, d1, d2, p0, p1, p2, rfl, rfl, rfl, h0, h1, h2⟩ := trodAll_three hA
  obtain ⟨rfl, rfl⟩ := trodVars_none hV
  obtain ⟨a0, len0, cap0, rfl⟩ := okWide_slice Try.underlying25 (hval 0 25 v0 rfl rfl)
  obtain ⟨a1, len1, cap1, rfl⟩ := okWide_slice Try.underlying25 (hval 1 25 v1 rfl rfl)
  obtain ⟨cs2, rfl, _⟩ := okWide_array Try.underlying58 (hval 2 58 v2 rfl rfl)
  have k0 := h0
  have k1 := h1
  have k2 := h2
  have lt0 : ∀ x ∈ p0, x.block < W.heap.size := by obtain ⟨m, hm⟩ := k0; exact DataW.trod_lt m _ _ _ hm
  have lt1 : ∀ x ∈ p1, x.block < W.heap.size := by obtain ⟨m, hm⟩ := k1; exact DataW.trod_lt m _ _ _ hm
  have lt2 : ∀ x ∈ p2, x.block < W.heap.size := by obtain ⟨m, hm⟩ := k2; exact DataW.trod_lt m _ _ _ hm
  obtain ⟨fuel, hf⟩ := h0
  obtain ⟨ao, cap, xs, hcs, hlen, hby⟩ := open_bytes hf
  simp only [Value.cells, List.cons.injEq, and_true, Value.slice.injEq] at hcs
  obtain ⟨rfl, rfl, rfl⟩ := hcs
  obtain ⟨fuel1, hf1⟩ := h1
  obtain ⟨ao2, cap2, ys, hcs2, hlen2, hby2⟩ := open_bytes hf1
  simp only [Value.cells, List.cons.injEq, and_true, Value.slice.injEq] at hcs2
  obtain ⟨rfl, rfl, rfl⟩ := hcs2
  obtain ⟨fuel2, hf2⟩ := h2
  obtain ⟨n0, n1, n2, hcs3, b0, b1, b2⟩ := open_three hf2
  have hcs3' : cs2 = #[.int .u8 n0, .int .u8 n1, .int .u8 n2] := by
    apply Array.ext'
    simpa [Value.cells] using hcs3
  subst hcs3'
  clear hA0 hval0
  refine (tells_walk _ _ _ _ xs ys n0 n1 n2 W hlen hlen2 b0 b1 b2 hby hby2).mono fun e W' ⟨he, hc⟩ => ?_
  subst he
  have bel : Below W.heap.size W W' := hc.below (Nat.le_refl _) (fun _ _ => id)
  exact ⟨_, rfl, _, _, _, [], _, [], hW', trodAll_mk1 (shut_bool Try.underlying4 _), trodAll_cons_mk (Below.trod Try.laidOut (by kernel_rfl) (of_decide_eq_true (by kernel_rfl)) k0 bel lt0) (trodAll_cons_mk (Below.trod Try.laidOut (by kernel_rfl) (of_decide_eq_true (by kernel_rfl)) k1 bel lt1) (trodAll_cons_mk (Below.trod Try.laidOut (by kernel_rfl) (of_decide_eq_true (by kernel_rfl)) k2 bel lt2) trodAll_mk0)), rfl, bel.frame _, fun h => by cases h⟩

theorem tagTells_holds : Rows.TagTellsSaid :=
  OpenClaim.holds_of_wide 8 Try.f8 rfl rfl rfl rfl rfl rfl rfl ⟨rfl, rfl, rfl, rfl, rfl⟩ rfl rfl rfl rfl rfl (by kernel_rfl) Try.func8 (by kernel_rfl)
    (of_decide_eq_true (by kernel_rfl)) (by unfold Func.isWrapper; first | (rw [if_pos (by decide +kernel)]; kernel_rfl) | (rw [if_neg (by decide +kernel)]; exact ⟨rfl, rfl⟩))
    (fun os started H enc _ => tells_lifted os started H enc)

#print axioms tagTells_holds

end Go.Proofs.Ytjipfbggoeiakaa
