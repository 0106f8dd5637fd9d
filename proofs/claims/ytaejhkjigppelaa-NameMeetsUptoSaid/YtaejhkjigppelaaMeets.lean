/- The law NameMeets of layer 3 is true at every two lists of texts that hold together at most 1048576 values and letters, and leaves them as they read. -/
import Derived.Test.YtaejhkjigppelaaNmMeets
import Derived.ChangeMaps5
import Derived.ProofKit
import Derived.OpenShut
import Derived.JoinedCond
namespace Go.Proofs.Ytaejhkjigppelaa
open Go.ChangeShapes Go.WideShapes Go.ChangeAt Go.RowKit

set_option maxRecDepth 100000 in
theorem meets_walk {D : Nat → Prop} (a0 a1 : Option Addr) (c0 c1 : Nat) (la lb : List (List UInt8)) (w : World) (hA : totalS la ≤ 1048576) (hB : totalS lb ≤ 1048576)
    (kA : StrsAt D w a0 la) (kB : StrsAt D w a1 lb) (z0 : a0 = none → c0 = 0) (z1 : a1 = none → c1 = 0) :
    Calls Try.prog 11 #[.slice a0 la.length c0, .slice a1 lb.length c1] w fun e w' => e = .returned (.bool true) ∧ Chg (fun _ => False) w w' := by
  by_cases hA6 : totalS la ≤ 600
  · by_cases hB6 : totalS lb ≤ 600
    · exact meets_main a0 a1 c0 c1 la lb w hA6 hB6 kA kB z0 z1
    · have dA : decide (600 < totalS la) = false := decide_eq_false (by omega)
      have dB : decide (600 < totalS lb) = true := decide_eq_true (by omega)
      clear hA6 hB6
      go_enter Try.func11, Try.ntmps11
      go_wp2_with fail
      refine (first_any _).mono ?_
      rintro e w1 ⟨rfl, hc1⟩
      have kA1 := kA.keep hc1 (fun _ _ => id)
      have kB1 := kB.keep hc1 (fun _ _ => id)
      go_wp2_with fail
      refine (long_any a0 c0 la w1 (by omega) kA1).mono ?_
      rintro e w' ⟨rfl, rfl⟩
      rw [dA]
      go_wp2_with fail
      refine (long_any a1 c1 lb w1 (by omega) kB1).mono ?_
      rintro e w' ⟨rfl, rfl⟩
      rw [dB]
      go_wp2
      go_ret
      exact ⟨rfl, hc1⟩
  · have dA : decide (600 < totalS la) = true := decide_eq_true (by omega)
    clear hA6
    go_enter Try.func11, Try.ntmps11
    go_wp2_with fail
    refine (first_any _).mono ?_
    rintro e w1 ⟨rfl, hc1⟩
    have kA1 := kA.keep hc1 (fun _ _ => id)
    go_wp2_with fail
    refine (long_any a0 c0 la w1 (by omega) kA1).mono ?_
    rintro e w' ⟨rfl, rfl⟩
    rw [dA]
    go_wp2
    go_ret
    exact ⟨rfl, hc1⟩

set_option maxRecDepth 100000 in
theorem meets_lifted (os : Os) (started : os.Started) (H : Type) (enc : TypeId × Value → H) (F : Stop.Interp) :
    ReturnsInHanded {} Try.checked os 11 .any ((Rows.OpenSpec.upto Rows.nameMeetsSpec).pre6 enc Try.prog Try.f11 Rows.nameMeetsUptoRow.domain false) (((Rows.OpenSpec.upto Rows.nameMeetsSpec).at F).post enc Try.prog Try.f11 false true false false) := by
  refine returnsInHanded_of_cond (C := Try.checked) (s := Rows.OpenSpec.upto Rows.nameMeetsSpec) (k := Rows.uptoSmall) rfl Try.own started (by kernel_rfl) Try.func11
    (OpenSpec.witness (enc := enc) (C := Try.checked) (s := Rows.OpenSpec.upto Rows.nameMeetsSpec) (k := Rows.uptoSmall) rfl false ⟨#[], #[.slice none 0 0, .slice none 0 0], []⟩ 8 (by kernel_rfl) (by kernel_rfl) (by kernel_rfl)
      (x := ([.nil, .nil], [], [])) (by kernel_rfl) rfl (by kernel_rfl)) ?_
  intro W base args ds gs before hval0 hW _ hk _
  have hval : ∀ (j : Nat) t v, Try.f11.params[j]? = some t → args[j]? = some v → Value.okWide Try.prog W .any base t v := hval0
  have hW' := hW
  obtain ⟨p, q, hA0, hV, rfl, hfz, hnd⟩ := hW
  have hA : DataW.TrodAll enc Try.prog W 0 (fun _ => true) true Try.f11.params.toList args.toList ds p := hA0
  rw [Try.params11] at hA hval
  obtain ⟨v0, v1, d0, d1, p0, p1, rfl, rfl, rfl, h0, h1⟩ := trodAll_two hA
  obtain ⟨rfl, rfl⟩ := trodVars_none hV
  obtain ⟨a0, len0, cap0, rfl⟩ := okWide_slice Try.underlying60 (hval 0 60 v0 rfl rfl)
  obtain ⟨a1, len1, cap1, rfl⟩ := okWide_slice Try.underlying60 (hval 1 60 v1 rfl rfl)
  have k0 := h0
  have k1 := h1
  have lt0 : ∀ x ∈ p0, x.block < W.heap.size := by obtain ⟨m, hm⟩ := k0; exact DataW.trod_lt m _ _ _ hm
  have lt1 : ∀ x ∈ p1, x.block < W.heap.size := by obtain ⟨m, hm⟩ := k1; exact DataW.trod_lt m _ _ _ hm
  have hk' := of_decide_eq_true hk
  simp only [List.append_nil, Rows.uptoBulkAll] at hk'
  obtain ⟨fuel, hf⟩ := h0
  obtain ⟨ao, cap, xs, hcs, hlen, hst0, ht0, z0⟩ := open_strsZ hf
  simp only [Value.cells, List.cons.injEq, and_true, Value.slice.injEq] at hcs
  obtain ⟨rfl, rfl, rfl⟩ := hcs
  obtain ⟨fuel1, hf1⟩ := h1
  obtain ⟨ao2, cap2, ys, hcs2, hlen2, hst1, ht1, z1⟩ := open_strsZ hf1
  simp only [Value.cells, List.cons.injEq, and_true, Value.slice.injEq] at hcs2
  obtain ⟨rfl, rfl, rfl⟩ := hcs2
  clear hA0 hval0
  dsimp only at ht0 ht1
  refine (meets_walk _ _ _ _ xs ys W (by omega) (by omega) hst0 hst1 z0 z1).mono fun e W' ⟨he, hc⟩ => ?_
  subst he
  have bel : Below W.heap.size W W' := hc.below (Nat.le_refl _) (fun _ _ => id)
  exact ⟨_, rfl, _, _, _, [], _, [], hW', trodAll_mk1 (shut_bool Try.underlying4 _), trodAll_cons_mk (Below.trod Try.laidOut (by kernel_rfl) (of_decide_eq_true (by kernel_rfl)) k0 bel lt0) (trodAll_cons_mk (Below.trod Try.laidOut (by kernel_rfl) (of_decide_eq_true (by kernel_rfl)) k1 bel lt1) trodAll_mk0), rfl, bel.frame _, fun h => by cases h⟩

theorem nameMeets_holds : Rows.NameMeetsUptoSaid :=
  OpenClaim.holds_of_cond 11 Try.f11 rfl rfl rfl rfl rfl rfl rfl ⟨rfl, rfl, rfl, rfl, rfl⟩ rfl rfl rfl rfl rfl (by kernel_rfl) Try.func11 (by kernel_rfl)
    (of_decide_eq_true (by kernel_rfl)) (by unfold Func.isWrapper; first | (rw [if_pos (by decide +kernel)]; kernel_rfl) | (rw [if_neg (by decide +kernel)]; exact ⟨rfl, rfl⟩))
    (fun os started H enc _ F => meets_lifted os started H enc F)

#print axioms nameMeets_holds

end Go.Proofs.Ytaejhkjigppelaa
