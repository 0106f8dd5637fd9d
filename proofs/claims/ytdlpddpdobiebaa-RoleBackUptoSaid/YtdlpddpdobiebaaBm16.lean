/- The law RoleBack of layer 4 is true at every three roles that hold together at most 1048576 values and letters, and leaves them as they read. -/
import Derived.Test.YtdlpddpdobiebaaBm14
import Derived.Test.YtdlpddpdobiebaaBm15
import Derived.ChangeMaps5
import Derived.ProofKit
import Derived.OpenShut
import Derived.JoinedCond
namespace Go.Proofs.Ytdlpddpdobiebaa
open Go.ChangeShapes Go.WideShapes Go.ChangeAt Go.RowKit

set_option maxRecDepth 100000 in
set_option maxHeartbeats 4000000 in
theorem rback_long (a b c : RoleB) (w : World) (hl : 800 < totalR [a, b, c]) (hu : totalR [a, b, c] ≤ 1048576) :
    Calls Try.prog 5 #[roleV a, roleV b, roleV c] w fun e w' => e = .returned (.bool true) ∧ Chg (fun _ => False) w w' := by
  have dL : decide (800 < totalR [a, b, c]) = true := decide_eq_true (by omega)
  have hl2 : totalR [a, b, c] = (1 + a.1.length + a.2.length) + ((1 + b.1.length + b.2.length) + (1 + c.1.length + c.2.length)) := by simp [totalR]
  have hlen : ∀ z ∈ [a, b, c], z.1.length ≤ 1048576 ∧ z.2.length ≤ 1048576 := by
    intro z hz
    simp only [List.mem_cons, List.not_mem_nil, or_false] at hz
    rcases hz with rfl | rfl | rfl <;> omega
  show Calls Try.prog 5 #[.agg #[.string ⟨a.1.toArray⟩, .string ⟨a.2.toArray⟩], .agg #[.string ⟨b.1.toArray⟩, .string ⟨b.2.toArray⟩], .agg #[.string ⟨c.1.toArray⟩, .string ⟨c.2.toArray⟩]] w _
  have hA0 : (w.alloc (.cells (roleBox a) 24)).heap[w.heap.size]? = some (.cells (roleBox a) 24 (0, 0)) := heap_alloc_new w _
  have hB0 : ((w.alloc (.cells (roleBox a) 24)).alloc (.cells (roleBox b) 24)).heap[(w.alloc (.cells (roleBox a) 24)).heap.size]? = some (.cells (roleBox b) 24 (0, 0)) := heap_alloc_new _ _
  have hC0 : (((w.alloc (.cells (roleBox a) 24)).alloc (.cells (roleBox b) 24)).alloc (.cells (roleBox c) 24)).heap[((w.alloc (.cells (roleBox a) 24)).alloc (.cells (roleBox b) 24)).heap.size]? = some (.cells (roleBox c) 24 (0, 0)) := heap_alloc_new _ _
  have hs1 : (w.alloc (.cells (roleBox a) 24)).heap.size = w.heap.size + 1 := by simp
  have hs2 : ((w.alloc (.cells (roleBox a) 24)).alloc (.cells (roleBox b) 24)).heap.size = w.heap.size + 1 + 1 := by simp
  rw [hs1] at hB0
  rw [hs2] at hC0
  have k1 : Chg (fun _ => False) (w.alloc (.cells (roleBox a) 24)) (((w.alloc (.cells (roleBox a) 24)).alloc (.cells (roleBox b) 24)).alloc (.cells (roleBox c) 24)) := ((Chg.refl _ _).alloc _).alloc _
  have k2 : Chg (fun _ => False) ((w.alloc (.cells (roleBox a) 24)).alloc (.cells (roleBox b) 24)) (((w.alloc (.cells (roleBox a) 24)).alloc (.cells (roleBox b) 24)).alloc (.cells (roleBox c) 24)) := (Chg.refl _ _).alloc _
  have k3 : Chg (fun _ => False) w (((w.alloc (.cells (roleBox a) 24)).alloc (.cells (roleBox b) 24)).alloc (.cells (roleBox c) 24)) := (((Chg.refl _ _).alloc _).alloc _).alloc _
  have HH := hid (And.intro (blk_keep hA0 k1 id) (And.intro (blk_keep hB0 k2 id) (And.intro hC0 k3)))
  clear hA0 hB0 hC0 hs1 hs2 k1 k2 k3
  go_enter Try.func5, Try.ntmps5
  go_wp2_with fail
  refine (first_any _).mono ?_
  rintro e w2 ⟨rfl, hc2⟩
  obtain ⟨hA, hB, hC, hcw⟩ := HH.out
  have hA2 := blk_keep hA hc2 id
  have hB2 := blk_keep hB hc2 id
  have hC2 := blk_keep hC hc2 id
  have hcw2 := hcw.trans hc2 (fun _ _ h => h)
  clear HH hA hB hC hcw hc2
  generalize hBa : w.heap.size = Ba at *
  have p0 := cell_blk hA2 0
  have p1 := cell_blk hA2 1
  have p2 := cell_blk hB2 0
  have p3 := cell_blk hB2 1
  have p4 := cell_blk hC2 0
  have p5 := cell_blk hC2 1
  simp only [roleBox, List.getElem?_toArray, List.getElem?_cons_zero, List.getElem?_cons_succ] at p0 p1 p2 p3 p4 p5
  have hl3 := roles_lit [a, b, c] w2 (0, 0) (fun z hz => by have := hlen z hz; omega)
  have hc23 : Chg (fun _ => False) w2 (w2.alloc (.cells (roleRow [a, b, c]).toArray 24)) := (Chg.refl _ w2).alloc _
  have hlg := rlong_any (some ⟨w2.heap.size, 0, none⟩) 3 [a, b, c] (w2.alloc (.cells (roleRow [a, b, c]).toArray 24)) (by omega) hl3
  have hT3 : StB w w2.heap.size Ba (Ba + 1) (Ba + 1 + 1) a b c (w2.alloc (.cells (roleRow [a, b, c]).toArray 24)) := ⟨hcw2.trans hc23 (fun _ _ h => h), hl3.mono (fun _ _ => trivial), blk_keep hA2 hc23 id, blk_keep hB2 hc23 id, blk_keep hC2 hc23 id⟩
  have HL := hid (And.intro hlg hT3)
  clear hlg hc23 hl3 hT3 hA2 hB2 hC2 hcw2
  go_wp2_with fail
  obtain ⟨hlg, hT3⟩ := HL.out
  clear HL p0 p1 p2 p3 p4 p5
  generalize w2.heap.size = Lb at *
  refine hlg.mono ?_
  rintro e w4 ⟨rfl, hc4⟩
  rw [dL]
  have HX := hid (hT3.go hc4).chg
  clear hlg hT3 hc4 dL
  go_wp2
  go_ret
  exact ⟨rfl, HX.out⟩

set_option maxRecDepth 100000 in
theorem rback_lifted (os : Os) (started : os.Started) (H : Type) (enc : TypeId × Value → H) (F : Stop.Interp) :
    ReturnsInHanded {} Try.checked os 5 .any ((Rows.OpenSpec.upto Rows.roleBackSpec).pre6 enc Try.prog Try.f5 Rows.roleBackUptoRow.domain false) (((Rows.OpenSpec.upto Rows.roleBackSpec).at F).post enc Try.prog Try.f5 false true false false) := by
  refine returnsInHanded_of_cond (C := Try.checked) (s := Rows.OpenSpec.upto Rows.roleBackSpec) (k := Rows.uptoSmall) rfl Try.own started (by kernel_rfl) Try.func5
    (OpenSpec.witness (enc := enc) (C := Try.checked) (s := Rows.OpenSpec.upto Rows.roleBackSpec) (k := Rows.uptoSmall) rfl false ⟨#[], #[roleV noRole, roleV noRole, roleV noRole], []⟩ 8 (by kernel_rfl) (by kernel_rfl) (by kernel_rfl)
      (x := ([.agg [.lit (.string []), .lit (.string [])], .agg [.lit (.string []), .lit (.string [])], .agg [.lit (.string []), .lit (.string [])]], [], [])) (by kernel_rfl) rfl (by kernel_rfl)) ?_
  intro W base args ds gs before hval0 hW _ hk _
  have hval : ∀ (j : Nat) t v, Try.f5.params[j]? = some t → args[j]? = some v → Value.okWide Try.prog W .any base t v := hval0
  have hW' := hW
  obtain ⟨p, q, hA0, hV, rfl, hfz, hnd⟩ := hW
  have hA : DataW.TrodAll enc Try.prog W 0 (fun _ => true) true Try.f5.params.toList args.toList ds p := hA0
  rw [Try.params5] at hA hval
  obtain ⟨v0, v1, v2, d0, d1, d2, p0, p1, p2, rfl, rfl, rfl, h0, h1, h2⟩ := trodAll_three hA
  obtain ⟨rfl, rfl⟩ := trodVars_none hV
  have k0 := h0
  have k1 := h1
  have k2 := h2
  have lt0 : ∀ x ∈ p0, x.block < W.heap.size := by obtain ⟨m, hm⟩ := k0; exact DataW.trod_lt m _ _ _ hm
  have lt1 : ∀ x ∈ p1, x.block < W.heap.size := by obtain ⟨m, hm⟩ := k1; exact DataW.trod_lt m _ _ _ hm
  have lt2 : ∀ x ∈ p2, x.block < W.heap.size := by obtain ⟨m, hm⟩ := k2; exact DataW.trod_lt m _ _ _ hm
  have hk' := of_decide_eq_true hk
  simp only [List.append_nil, Rows.uptoBulkAll] at hk'
  obtain ⟨a, rfl, _, _, ha⟩ := open_role (hval 0 24 v0 rfl rfl) h0
  obtain ⟨b, rfl, _, _, hb⟩ := open_role (hval 1 24 v1 rfl rfl) h1
  obtain ⟨c, rfl, _, _, hc⟩ := open_role (hval 2 24 v2 rfl rfl) h2
  clear hA0 hval0
  have ht : totalR [a, b, c] = (1 + a.1.length + a.2.length) + ((1 + b.1.length + b.2.length) + (1 + c.1.length + c.2.length)) := by simp [totalR]
  have hwalk : Calls Try.prog 5 #[roleV a, roleV b, roleV c] W fun e w' => e = .returned (.bool true) ∧ Chg (fun _ => False) W w' := by
    by_cases hl : totalR [a, b, c] ≤ 800
    · exact rback_main a b c W hl
    · exact rback_long a b c W (by omega) (by omega)
  refine hwalk.mono fun e W' ⟨he, hc⟩ => ?_
  subst he
  have bel : Below W.heap.size W W' := hc.below (Nat.le_refl _) (fun _ _ => id)
  exact ⟨_, rfl, _, _, _, [], _, [], hW', trodAll_mk1 (shut_bool Try.underlying4 _), trodAll_cons_mk (Below.trod Try.laidOut (by kernel_rfl) (of_decide_eq_true (by kernel_rfl)) k0 bel lt0) (trodAll_cons_mk (Below.trod Try.laidOut (by kernel_rfl) (of_decide_eq_true (by kernel_rfl)) k1 bel lt1) (trodAll_cons_mk (Below.trod Try.laidOut (by kernel_rfl) (of_decide_eq_true (by kernel_rfl)) k2 bel lt2) trodAll_mk0)), rfl, bel.frame _, fun h => by cases h⟩

theorem roleBack_holds : Rows.RoleBackUptoSaid :=
  OpenClaim.holds_of_cond 5 Try.f5 rfl rfl rfl rfl rfl rfl rfl ⟨rfl, rfl, rfl, rfl, rfl⟩ rfl rfl rfl rfl rfl (by kernel_rfl) Try.func5 (by kernel_rfl)
    (of_decide_eq_true (by kernel_rfl)) (by unfold Func.isWrapper; first | (rw [if_pos (by decide +kernel)]; kernel_rfl) | (rw [if_neg (by decide +kernel)]; exact ⟨rfl, rfl⟩))
    (fun os started H enc _ F => rback_lifted os started H enc F)

#print axioms roleBack_holds

end Go.Proofs.Ytdlpddpdobiebaa
