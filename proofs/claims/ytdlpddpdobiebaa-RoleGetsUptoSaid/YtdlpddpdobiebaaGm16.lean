/- The law RoleGets of layer 4 is true at every role and bytes that hold together at most 1048576 values and letters, and leaves them as they read. -/
import Derived.Test.YtdlpddpdobiebaaGm14
import Derived.Test.YtdlpddpdobiebaaGm15
import Derived.ChangeMaps5
import Derived.ProofKit
import Derived.OpenShut
import Derived.JoinedCond
namespace Go.Proofs.Ytdlpddpdobiebaa
open Go.ChangeShapes Go.WideShapes Go.ChangeAt Go.RowKit

set_option maxRecDepth 100000 in
set_option maxHeartbeats 4000000 in
theorem rgets_long {D : Nat → Prop} (a1 : Option Addr) (c1 : Nat) (r : RoleB) (b : List UInt8) (w : World) (hr : 800 < totalR [r]) (hu : totalR [r] ≤ 1048576) (k1 : BytesAt D w (.slice a1 b.length c1) b) :
    Calls Try.prog 4 #[roleV r, .slice a1 b.length c1] w fun e w' => e = .returned (.bool true) ∧ Chg (fun _ => False) w w' := by
  have hr2 := totalR_one r
  have dR : decide (800 < totalR [r]) = true := decide_eq_true (by omega)

  show Calls Try.prog 4 #[.agg #[.string ⟨r.1.toArray⟩, .string ⟨r.2.toArray⟩], .slice a1 b.length c1] w _
  have hx1 : (w.alloc (.cells (roleBox r) 24)).heap[w.heap.size]? = some (.cells (roleBox r) 24 (0, 0)) := heap_alloc_new w _
  have hc1 : Chg (fun _ => False) w (w.alloc (.cells #[.string ⟨r.1.toArray⟩, .string ⟨r.2.toArray⟩] 24)) := (Chg.refl _ w).alloc _
  go_enter Try.func4, Try.ntmps4
  go_wp2_with fail
  refine (first_any _).mono ?_
  rintro e w2 ⟨rfl, hc2⟩
  have hx2 := blk_keep hx1 hc2 id
  have hcw := hc1.trans hc2 (fun _ _ h => h)
  have s0 := cell_blk hx2 0
  have s1 := cell_blk hx2 1
  simp only [roleBox, List.getElem?_toArray, List.getElem?_cons_zero, List.getElem?_cons_succ] at s0 s1
  clear hx1 hc1 hc2
  have hBw : w.heap.size ≤ w.heap.size := Nat.le_refl _
  generalize hBx : w.heap.size = Bx at *
  have hl3 := roles_lit [r] w2 (0, 0) (by intro x hx; rw [List.mem_singleton.1 hx]; omega)
  have hc23 : Chg (fun _ => False) w2 (w2.alloc (.cells (roleRow [r]).toArray 24)) := (Chg.refl _ w2).alloc _
  have hlg := rlong_any (some ⟨w2.heap.size, 0, none⟩) 1 [r] (w2.alloc (.cells (roleRow [r]).toArray 24)) (by omega) hl3
  have HL := hid (And.intro hlg hc23)
  clear hlg hc23 hl3
  go_wp2_with fail
  obtain ⟨hlg, hc23⟩ := HL.out
  refine hlg.mono ?_
  rintro e w3 ⟨rfl, hc3⟩
  rw [dR]
  have HX := hid (hcw.trans (hc23.trans hc3 (fun _ _ h => h)) (fun _ _ h => h))
  clear HL hlg hc23 hc3 hcw hx2 s0 s1
  go_wp2
  go_ret
  exact ⟨rfl, HX.out⟩

set_option maxRecDepth 100000 in
set_option maxHeartbeats 4000000 in
theorem rgets_blong {D : Nat → Prop} (a1 : Option Addr) (c1 : Nat) (r : RoleB) (b : List UInt8) (w : World) (hr : totalR [r] ≤ 800) (hb : 200 < b.length) (k1 : BytesAt D w (.slice a1 b.length c1) b) :
    Calls Try.prog 4 #[roleV r, .slice a1 b.length c1] w fun e w' => e = .returned (.bool true) ∧ Chg (fun _ => False) w w' := by
  have hr2 := totalR_one r
  have dR : decide (800 < totalR [r]) = false := decide_eq_false (by omega)
  have dB : decide (200 < (b.length : Int)) = true := by simp; omega
  show Calls Try.prog 4 #[.agg #[.string ⟨r.1.toArray⟩, .string ⟨r.2.toArray⟩], .slice a1 b.length c1] w _
  have hx1 : (w.alloc (.cells (roleBox r) 24)).heap[w.heap.size]? = some (.cells (roleBox r) 24 (0, 0)) := heap_alloc_new w _
  have hc1 : Chg (fun _ => False) w (w.alloc (.cells #[.string ⟨r.1.toArray⟩, .string ⟨r.2.toArray⟩] 24)) := (Chg.refl _ w).alloc _
  go_enter Try.func4, Try.ntmps4
  go_wp2_with fail
  refine (first_any _).mono ?_
  rintro e w2 ⟨rfl, hc2⟩
  have hx2 := blk_keep hx1 hc2 id
  have hcw := hc1.trans hc2 (fun _ _ h => h)
  have s0 := cell_blk hx2 0
  have s1 := cell_blk hx2 1
  simp only [roleBox, List.getElem?_toArray, List.getElem?_cons_zero, List.getElem?_cons_succ] at s0 s1
  clear hx1 hc1 hc2
  have hBw : w.heap.size ≤ w.heap.size := Nat.le_refl _
  generalize hBx : w.heap.size = Bx at *
  have hl3 := roles_lit [r] w2 (0, 0) (by intro x hx; rw [List.mem_singleton.1 hx]; omega)
  have hc23 : Chg (fun _ => False) w2 (w2.alloc (.cells (roleRow [r]).toArray 24)) := (Chg.refl _ w2).alloc _
  have hlg := rlong_any (some ⟨w2.heap.size, 0, none⟩) 1 [r] (w2.alloc (.cells (roleRow [r]).toArray 24)) (by omega) hl3
  have HL := hid (And.intro hlg hc23)
  clear hlg hc23 hl3
  go_wp2_with fail
  obtain ⟨hlg, hc23⟩ := HL.out
  refine hlg.mono ?_
  rintro e w3 ⟨rfl, hc3⟩
  rw [dR]
  have HX := hid (hcw.trans (hc23.trans hc3 (fun _ _ h => h)) (fun _ _ h => h))
  clear HL hlg hc23 hc3 hcw hx2 s0 s1
  go_wp2
  go_ret
  exact ⟨rfl, HX.out⟩

theorem rgets_walk {D : Nat → Prop} (a1 : Option Addr) (c1 : Nat) (r : RoleB) (b : List UInt8) (w : World) (hu : totalR [r] ≤ 1048576) (k1 : BytesAt D w (.slice a1 b.length c1) b) (hD : ∀ i, D i → i < w.heap.size) :
    Calls Try.prog 4 #[roleV r, .slice a1 b.length c1] w fun e w' => e = .returned (.bool true) ∧ Chg (fun _ => False) w w' := by
  by_cases h1 : totalR [r] ≤ 800
  · by_cases h2 : b.length ≤ 200
    · cases hn : isRole r with
      | true => exact rgets_yes a1 c1 r b w h1 h2 k1 hD hn
      | false => exact rgets_no a1 c1 r b w h1 h2 k1 hD hn
    · exact rgets_blong a1 c1 r b w h1 (by omega) k1
  · exact rgets_long a1 c1 r b w (by omega) hu k1

set_option maxRecDepth 100000 in
theorem rgets_lifted (os : Os) (started : os.Started) (H : Type) (enc : TypeId × Value → H) (F : Stop.Interp) :
    ReturnsInHanded {} Try.checked os 4 .any ((Rows.OpenSpec.upto Rows.roleGetsSpec).pre6 enc Try.prog Try.f4 Rows.roleGetsUptoRow.domain false) (((Rows.OpenSpec.upto Rows.roleGetsSpec).at F).post enc Try.prog Try.f4 false true false false) := by
  refine returnsInHanded_of_cond (C := Try.checked) (s := Rows.OpenSpec.upto Rows.roleGetsSpec) (k := Rows.uptoSmall) rfl Try.own started (by kernel_rfl) Try.func4
    (OpenSpec.witness (enc := enc) (C := Try.checked) (s := Rows.OpenSpec.upto Rows.roleGetsSpec) (k := Rows.uptoSmall) rfl false ⟨#[], #[roleV noRole, .slice none 0 0], []⟩ 8 (by kernel_rfl) (by kernel_rfl) (by kernel_rfl)
      (x := ([.agg [.lit (.string []), .lit (.string [])], .nil], [], [])) (by kernel_rfl) rfl (by kernel_rfl)) ?_
  intro W base args ds gs before hval0 hW _ hk _
  have hval : ∀ (j : Nat) t v, Try.f4.params[j]? = some t → args[j]? = some v → Value.okWide Try.prog W .any base t v := hval0
  have hW' := hW
  obtain ⟨p, q, hA0, hV, rfl, hfz, hnd⟩ := hW
  have hA : DataW.TrodAll enc Try.prog W 0 (fun _ => true) true Try.f4.params.toList args.toList ds p := hA0
  rw [Try.params4] at hA hval
  obtain ⟨v0, v1, d0, d1, p0, p1, rfl, rfl, rfl, h0, h1⟩ := trodAll_two hA
  obtain ⟨rfl, rfl⟩ := trodVars_none hV
  obtain ⟨a1, len1, cap1, rfl⟩ := okWide_slice Try.underlying37 (hval 1 37 v1 rfl rfl)
  have k0 := h0
  have k1 := h1
  have lt0 : ∀ x ∈ p0, x.block < W.heap.size := by obtain ⟨m, hm⟩ := k0; exact DataW.trod_lt m _ _ _ hm
  have lt1 : ∀ x ∈ p1, x.block < W.heap.size := by obtain ⟨m, hm⟩ := k1; exact DataW.trod_lt m _ _ _ hm
  have hk' := of_decide_eq_true hk
  simp only [List.append_nil, Rows.uptoBulkAll] at hk'
  obtain ⟨a, rfl, _, _, ha⟩ := open_role (hval 0 24 v0 rfl rfl) h0
  obtain ⟨fuel1, hf1⟩ := h1
  obtain ⟨ao2, cap2, ys, hcs2, hlen2, hby2⟩ := open_bytes hf1
  simp only [Value.cells, List.cons.injEq, and_true, Value.slice.injEq] at hcs2
  obtain ⟨rfl, rfl, rfl⟩ := hcs2
  clear hA0 hval0
  refine (rgets_walk _ _ a ys W (by rw [totalR_one]; omega) hby2 (fun _ h => h)).mono fun e W' ⟨he, hc⟩ => ?_
  subst he
  have bel : Below W.heap.size W W' := hc.below (Nat.le_refl _) (fun _ _ => id)
  exact ⟨_, rfl, _, _, _, [], _, [], hW', trodAll_mk1 (shut_bool Try.underlying4 _), (trodAll_cons_mk (Below.trod Try.laidOut (by kernel_rfl) (of_decide_eq_true (by kernel_rfl)) k0 bel lt0) (trodAll_cons_mk (Below.trod Try.laidOut (by kernel_rfl) (of_decide_eq_true (by kernel_rfl)) k1 bel lt1) trodAll_mk0)), rfl, bel.frame _, fun h => by cases h⟩

theorem roleGets_holds : Rows.RoleGetsUptoSaid :=
  OpenClaim.holds_of_cond 4 Try.f4 rfl rfl rfl rfl rfl rfl rfl ⟨rfl, rfl, rfl, rfl, rfl⟩ rfl rfl rfl rfl rfl (by kernel_rfl) Try.func4 (by kernel_rfl)
    (of_decide_eq_true (by kernel_rfl)) (by unfold Func.isWrapper; first | (rw [if_pos (by decide +kernel)]; kernel_rfl) | (rw [if_neg (by decide +kernel)]; exact ⟨rfl, rfl⟩))
    (fun os started H enc _ F => rgets_lifted os started H enc F)

#print axioms roleGets_holds

end Go.Proofs.Ytdlpddpdobiebaa
