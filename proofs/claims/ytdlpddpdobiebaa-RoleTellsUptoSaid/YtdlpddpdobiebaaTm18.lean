/- The law RoleTells of layer 4 is true at every list of roles, role and text that hold together at most 1048576 values and letters, and leaves them as they read. -/
import Derived.Test.YtdlpddpdobiebaaTm16
import Derived.Test.YtdlpddpdobiebaaTm17
import Derived.ChangeMaps5
import Derived.ProofKit
import Derived.OpenShut
import Derived.JoinedCond
namespace Go.Proofs.Ytdlpddpdobiebaa
open Go.ChangeShapes Go.WideShapes Go.ChangeAt Go.RowKit

set_option maxRecDepth 100000 in
set_option maxHeartbeats 4000000 in
theorem rtells_long {D : Nat → Prop} (a0 : Option Addr) (c0 : Nat) (l : List RoleB) (r : RoleB) (s : List UInt8) (w : World) (hl : 800 < totalR l) (hu : totalR l ≤ 1048576) (h0 : RolesAt D w a0 l) (z0 : a0 = none → c0 = 0) :
    Calls Try.prog 3 #[.slice a0 l.length c0, roleV r, .string ⟨s.toArray⟩] w fun e w' => e = .returned (.bool true) ∧ Chg (fun _ => False) w w' := by
  have hr2 := totalR_one' r
  have hln := totalR_len l
  have dL : decide (800 < totalR l) = true := decide_eq_true (by omega)
  show Calls Try.prog 3 #[.slice a0 l.length c0, .agg #[.string ⟨r.1.toArray⟩, .string ⟨r.2.toArray⟩], .string ⟨s.toArray⟩] w _
  have hx1 : (w.alloc (.cells (roleBox r) 24)).heap[w.heap.size]? = some (.cells (roleBox r) 24 (0, 0)) := heap_alloc_new w _
  have hc1 : Chg (fun _ => False) w (w.alloc (.cells #[.string ⟨r.1.toArray⟩, .string ⟨r.2.toArray⟩] 24)) := (Chg.refl _ w).alloc _
  go_enter Try.func3, Try.ntmps3
  go_wp2_with fail
  refine (first_any _).mono ?_
  rintro e w2 ⟨rfl, hc2⟩
  have hx2 := blk_keep hx1 hc2 id
  have hcw := hc1.trans hc2 (fun _ _ h => h)
  clear hx1 hc1 hc2
  generalize hBx : w.heap.size = Bx at *
  have h2 := h0.keep hcw (fun _ _ => id)
  go_wp2_with fail
  refine (rlong_any a0 c0 l w2 (by omega) h2).mono ?_
  rintro e w3 ⟨rfl, hc23⟩
  rw [dL]
  have HX := hid (hcw.trans hc23 (fun _ _ h => h))
  clear hc23 hcw hx2 h2
  go_wp2
  go_ret
  exact ⟨rfl, HX.out⟩

set_option maxRecDepth 100000 in
set_option maxHeartbeats 4000000 in
theorem rtells_rlong {D : Nat → Prop} (a0 : Option Addr) (c0 : Nat) (l : List RoleB) (r : RoleB) (s : List UInt8) (w : World) (hl : totalR l ≤ 800) (hr : 800 < totalR [r]) (hu : totalR [r] ≤ 1048576) (h0 : RolesAt D w a0 l) (z0 : a0 = none → c0 = 0) :
    Calls Try.prog 3 #[.slice a0 l.length c0, roleV r, .string ⟨s.toArray⟩] w fun e w' => e = .returned (.bool true) ∧ Chg (fun _ => False) w w' := by
  have hr2 := totalR_one' r
  have hln := totalR_len l
  have dL : decide (800 < totalR l) = false := decide_eq_false (by omega)
  have dR : decide (800 < totalR [r]) = true := decide_eq_true (by omega)
  show Calls Try.prog 3 #[.slice a0 l.length c0, .agg #[.string ⟨r.1.toArray⟩, .string ⟨r.2.toArray⟩], .string ⟨s.toArray⟩] w _
  have hx1 : (w.alloc (.cells (roleBox r) 24)).heap[w.heap.size]? = some (.cells (roleBox r) 24 (0, 0)) := heap_alloc_new w _
  have hc1 : Chg (fun _ => False) w (w.alloc (.cells #[.string ⟨r.1.toArray⟩, .string ⟨r.2.toArray⟩] 24)) := (Chg.refl _ w).alloc _
  go_enter Try.func3, Try.ntmps3
  go_wp2_with fail
  refine (first_any _).mono ?_
  rintro e w2 ⟨rfl, hc2⟩
  have hx2 := blk_keep hx1 hc2 id
  have hcw := hc1.trans hc2 (fun _ _ h => h)
  clear hx1 hc1 hc2
  generalize hBx : w.heap.size = Bx at *
  have h2 := h0.keep hcw (fun _ _ => id)
  go_wp2_with fail
  refine (rlong_any a0 c0 l w2 (by omega) h2).mono ?_
  rintro e w3 ⟨rfl, hc23⟩
  rw [dL]
  have hx3 := blk_keep hx2 hc23 id
  have hcw3 := hcw.trans hc23 (fun _ _ h => h)
  have s0 := cell_blk hx3 0
  have s1 := cell_blk hx3 1
  simp only [roleBox, List.getElem?_toArray, List.getElem?_cons_zero, List.getElem?_cons_succ] at s0 s1
  clear hx2 hcw hc23 h2
  have hl3 := roles_lit [r] w3 (0, 0) (by intro x hx; rw [List.mem_singleton.1 hx]; omega)
  have hc34 : Chg (fun _ => False) w3 (w3.alloc (.cells (roleRow [r]).toArray 24)) := (Chg.refl _ w3).alloc _
  have hlg := rlong_any (some ⟨w3.heap.size, 0, none⟩) 1 [r] (w3.alloc (.cells (roleRow [r]).toArray 24)) (by omega) hl3
  have HL := hid (And.intro hlg hc34)
  clear hlg hc34 hl3
  go_wp2_with fail
  obtain ⟨hlg, hc34⟩ := HL.out
  refine hlg.mono ?_
  rintro e w4 ⟨rfl, hc4⟩
  rw [dR]
  have HX := hid (hcw3.trans (hc34.trans hc4 (fun _ _ h => h)) (fun _ _ h => h))
  clear HL hlg hc34 hc4 hcw3 hx3 s0 s1
  go_wp2
  go_ret
  exact ⟨rfl, HX.out⟩

set_option maxRecDepth 100000 in
set_option maxHeartbeats 4000000 in
theorem rtells_slong {D : Nat → Prop} (a0 : Option Addr) (c0 : Nat) (l : List RoleB) (r : RoleB) (s : List UInt8) (w : World) (hl : totalR l ≤ 800) (hr : totalR [r] ≤ 800) (hs : 200 < s.length) (h0 : RolesAt D w a0 l) (z0 : a0 = none → c0 = 0) :
    Calls Try.prog 3 #[.slice a0 l.length c0, roleV r, .string ⟨s.toArray⟩] w fun e w' => e = .returned (.bool true) ∧ Chg (fun _ => False) w w' := by
  have hr2 := totalR_one' r
  have hln := totalR_len l
  have dL : decide (800 < totalR l) = false := decide_eq_false (by omega)
  have dR : decide (800 < totalR [r]) = false := decide_eq_false (by omega)
  have dS : decide (200 < (s.length : Int)) = true := by simp; omega
  show Calls Try.prog 3 #[.slice a0 l.length c0, .agg #[.string ⟨r.1.toArray⟩, .string ⟨r.2.toArray⟩], .string ⟨s.toArray⟩] w _
  have hx1 : (w.alloc (.cells (roleBox r) 24)).heap[w.heap.size]? = some (.cells (roleBox r) 24 (0, 0)) := heap_alloc_new w _
  have hc1 : Chg (fun _ => False) w (w.alloc (.cells #[.string ⟨r.1.toArray⟩, .string ⟨r.2.toArray⟩] 24)) := (Chg.refl _ w).alloc _
  go_enter Try.func3, Try.ntmps3
  go_wp2_with fail
  refine (first_any _).mono ?_
  rintro e w2 ⟨rfl, hc2⟩
  have hx2 := blk_keep hx1 hc2 id
  have hcw := hc1.trans hc2 (fun _ _ h => h)
  clear hx1 hc1 hc2
  generalize hBx : w.heap.size = Bx at *
  have h2 := h0.keep hcw (fun _ _ => id)
  go_wp2_with fail
  refine (rlong_any a0 c0 l w2 (by omega) h2).mono ?_
  rintro e w3 ⟨rfl, hc23⟩
  rw [dL]
  have hx3 := blk_keep hx2 hc23 id
  have hcw3 := hcw.trans hc23 (fun _ _ h => h)
  have s0 := cell_blk hx3 0
  have s1 := cell_blk hx3 1
  simp only [roleBox, List.getElem?_toArray, List.getElem?_cons_zero, List.getElem?_cons_succ] at s0 s1
  clear hx2 hcw hc23 h2
  have hl3 := roles_lit [r] w3 (0, 0) (by intro x hx; rw [List.mem_singleton.1 hx]; omega)
  have hc34 : Chg (fun _ => False) w3 (w3.alloc (.cells (roleRow [r]).toArray 24)) := (Chg.refl _ w3).alloc _
  have hlg := rlong_any (some ⟨w3.heap.size, 0, none⟩) 1 [r] (w3.alloc (.cells (roleRow [r]).toArray 24)) (by omega) hl3
  have HL := hid (And.intro hlg hc34)
  clear hlg hc34 hl3
  go_wp2_with fail
  obtain ⟨hlg, hc34⟩ := HL.out
  refine hlg.mono ?_
  rintro e w4 ⟨rfl, hc4⟩
  rw [dR]
  have HX := hid (hcw3.trans (hc34.trans hc4 (fun _ _ h => h)) (fun _ _ h => h))
  clear HL hlg hc34 hc4 hcw3 hx3 s0 s1
  go_wp2
  go_ret
  exact ⟨rfl, HX.out⟩

theorem rtells_walk {D : Nat → Prop} (a0 : Option Addr) (c0 : Nat) (l : List RoleB) (r : RoleB) (s : List UInt8) (w : World) (hul : totalR l ≤ 1048576) (hur : totalR [r] ≤ 1048576) (h0 : RolesAt D w a0 l) (z0 : a0 = none → c0 = 0) :
    Calls Try.prog 3 #[.slice a0 l.length c0, roleV r, .string ⟨s.toArray⟩] w fun e w' => e = .returned (.bool true) ∧ Chg (fun _ => False) w w' := by
  by_cases h1 : totalR l ≤ 800
  · by_cases h2 : totalR [r] ≤ 800
    · by_cases h3 : s.length ≤ 200
      · exact rtells_main a0 c0 l r s w h1 h2 h3 h0 z0
      · exact rtells_slong a0 c0 l r s w h1 h2 (by omega) h0 z0
    · exact rtells_rlong a0 c0 l r s w h1 (by omega) hur h0 z0
  · exact rtells_long a0 c0 l r s w (by omega) hul h0 z0

set_option maxRecDepth 100000 in
theorem rtells_lifted (os : Os) (started : os.Started) (H : Type) (enc : TypeId × Value → H) (F : Stop.Interp) :
    ReturnsInHanded {} Try.checked os 3 .any ((Rows.OpenSpec.upto Rows.roleTellsSpec).pre6 enc Try.prog Try.f3 Rows.roleTellsUptoRow.domain false) (((Rows.OpenSpec.upto Rows.roleTellsSpec).at F).post enc Try.prog Try.f3 false true false false) := by
  refine returnsInHanded_of_cond (C := Try.checked) (s := Rows.OpenSpec.upto Rows.roleTellsSpec) (k := Rows.uptoSmall) rfl Try.own started (by kernel_rfl) Try.func3
    (OpenSpec.witness (enc := enc) (C := Try.checked) (s := Rows.OpenSpec.upto Rows.roleTellsSpec) (k := Rows.uptoSmall) rfl false ⟨#[], #[.slice none 0 0, roleV noRole, .string ⟨#[]⟩], []⟩ 8 (by kernel_rfl) (by kernel_rfl) (by kernel_rfl)
      (x := ([.nil, .agg [.lit (.string []), .lit (.string [])], .lit (.string [])], [], [])) (by kernel_rfl) rfl (by kernel_rfl)) ?_
  intro W base args ds gs before hval0 hW _ hk _
  have hval : ∀ (j : Nat) t v, Try.f3.params[j]? = some t → args[j]? = some v → Value.okWide Try.prog W .any base t v := hval0
  have hW' := hW
  obtain ⟨p, q, hA0, hV, rfl, hfz, hnd⟩ := hW
  have hA : DataW.TrodAll enc Try.prog W 0 (fun _ => true) true Try.f3.params.toList args.toList ds p := hA0
  rw [Try.params3] at hA hval
  obtain ⟨v0, v1, v2, d0, d1, d2, p0, p1, p2, rfl, rfl, rfl, h0, h1, h2⟩ := trodAll_three hA
  obtain ⟨rfl, rfl⟩ := trodVars_none hV
  obtain ⟨a0, len0, cap0, rfl⟩ := okWide_slice Try.underlying22 (hval 0 22 v0 rfl rfl)
  have k0 := h0
  have k1 := h1
  have k2 := h2
  have lt0 : ∀ x ∈ p0, x.block < W.heap.size := by obtain ⟨m, hm⟩ := k0; exact DataW.trod_lt m _ _ _ hm
  have lt1 : ∀ x ∈ p1, x.block < W.heap.size := by obtain ⟨m, hm⟩ := k1; exact DataW.trod_lt m _ _ _ hm
  have lt2 : ∀ x ∈ p2, x.block < W.heap.size := by obtain ⟨m, hm⟩ := k2; exact DataW.trod_lt m _ _ _ hm
  have hk' := of_decide_eq_true hk
  simp only [List.append_nil, Rows.uptoBulkAll] at hk'
  obtain ⟨fuel0, hf0⟩ := h0
  obtain ⟨ao, cap, xs, hcs, hst0, ht0, z0⟩ := open_roles hf0
  simp only [Value.cells, List.cons.injEq, and_true, Value.slice.injEq] at hcs
  obtain ⟨rfl, rfl, rfl⟩ := hcs
  obtain ⟨a, rfl, _, _, ha⟩ := open_role (hval 1 24 v1 rfl rfl) h1
  obtain ⟨s, rfl, rfl, rfl, hs⟩ := Go.ChangeMaps.open_string Try.underlying9 (hval 2 9 v2 rfl rfl) h2
  dsimp only at ht0
  clear hA0 hval0
  refine (rtells_walk _ _ xs a s.data.toList W (by omega) (by rw [totalR_one']; omega) hst0 z0).mono fun e W' ⟨he, hc⟩ => ?_
  subst he
  have bel : Below W.heap.size W W' := hc.below (Nat.le_refl _) (fun _ _ => id)
  exact ⟨_, rfl, _, _, _, [], _, [], hW', trodAll_mk1 (shut_bool Try.underlying4 _), (trodAll_cons_mk (Below.trod Try.laidOut (by kernel_rfl) (of_decide_eq_true (by kernel_rfl)) k0 bel lt0) (trodAll_cons_mk (Below.trod Try.laidOut (by kernel_rfl) (of_decide_eq_true (by kernel_rfl)) k1 bel lt1) (trodAll_cons_mk (Below.trod Try.laidOut (by kernel_rfl) (of_decide_eq_true (by kernel_rfl)) k2 bel lt2) trodAll_mk0))), rfl, bel.frame _, fun h => by cases h⟩

theorem roleTells_holds : Rows.RoleTellsUptoSaid :=
  OpenClaim.holds_of_cond 3 Try.f3 rfl rfl rfl rfl rfl rfl rfl ⟨rfl, rfl, rfl, rfl, rfl⟩ rfl rfl rfl rfl rfl (by kernel_rfl) Try.func3 (by kernel_rfl)
    (of_decide_eq_true (by kernel_rfl)) (by unfold Func.isWrapper; first | (rw [if_pos (by decide +kernel)]; kernel_rfl) | (rw [if_neg (by decide +kernel)]; exact ⟨rfl, rfl⟩))
    (fun os started H enc _ F => rtells_lifted os started H enc F)

#print axioms roleTells_holds

end Go.Proofs.Ytdlpddpdobiebaa
