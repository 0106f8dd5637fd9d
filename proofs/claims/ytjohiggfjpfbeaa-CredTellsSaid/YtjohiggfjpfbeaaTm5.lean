/- The law CredTells of layer 5 is true at every credential and text, and leaves them as they read. -/
import Derived.Test.YtjohiggfjpfbeaaTm3
import Derived.ChangeMaps5
import Derived.ProofKit
import Derived.OpenShut
import Derived.HandedShaped
import Derived.Test.YtjohiggfjpfbeaaCm17
import Derived.Test.YtjohiggfjpfbeaaTm4
namespace Go.Proofs.Ytjohiggfjpfbeaa
open Go.ChangeShapes Go.WideShapes Go.ChangeAt Go.RowKit

set_option maxRecDepth 100000 in
set_option maxHeartbeats 4000000 in
theorem ctells_long (c : CredB) (s : List UInt8) (w : World) (hsh : credShort c 9223372036854775807) (hz : sizeC c ≤ 4503599627370496) (hb : 500 < sizeC c ∨ 300 < s.length) (hm : MaxAt w) :
    Calls Try.prog 3 #[credV c, .string ⟨s.toArray⟩] w fun e w' => e = .returned (.bool true) ∧ Chg (fun _ => False) w w' := by
  have hA1 : (w.alloc (.cells #[.int .i64 c.kind, .string ⟨c.head.1.toArray⟩, .string ⟨c.head.2.toArray⟩, .string ⟨c.who.toArray⟩, .string ⟨c.b.1.toArray⟩, .string ⟨c.b.2.toArray⟩, .string ⟨c.c.1.toArray⟩, .string ⟨c.c.2.toArray⟩, .string ⟨c.w2.toArray⟩] 25)).heap[w.heap.size]? = some (.cells (credBox c) 25 (0, 0)) := heap_alloc_new w _
  have hc1 : Chg (fun _ => False) w (w.alloc (.cells #[.int .i64 c.kind, .string ⟨c.head.1.toArray⟩, .string ⟨c.head.2.toArray⟩, .string ⟨c.who.toArray⟩, .string ⟨c.b.1.toArray⟩, .string ⟨c.b.2.toArray⟩, .string ⟨c.c.1.toArray⟩, .string ⟨c.c.2.toArray⟩, .string ⟨c.w2.toArray⟩] 25)) := (Chg.refl _ w).alloc _
  have hft := cfirst_any (w.alloc (.cells #[.int .i64 c.kind, .string ⟨c.head.1.toArray⟩, .string ⟨c.head.2.toArray⟩, .string ⟨c.who.toArray⟩, .string ⟨c.b.1.toArray⟩, .string ⟨c.b.2.toArray⟩, .string ⟨c.c.1.toArray⟩, .string ⟨c.c.2.toArray⟩, .string ⟨c.w2.toArray⟩] 25)) (hm.keep hc1 id)
  have HH := hid (And.intro hft (And.intro hA1 hc1))
  clear hft hA1 hc1
  show Calls Try.prog 3 #[.agg #[.int .i64 c.kind, .string ⟨c.head.1.toArray⟩, .string ⟨c.head.2.toArray⟩, .string ⟨c.who.toArray⟩, .string ⟨c.b.1.toArray⟩, .string ⟨c.b.2.toArray⟩, .string ⟨c.c.1.toArray⟩, .string ⟨c.c.2.toArray⟩, .string ⟨c.w2.toArray⟩], .string ⟨s.toArray⟩] w _
  go_enter Try.func3, Try.ntmps3
  go_wp2_with fail
  obtain ⟨hft, hA1, hc1⟩ := HH.out
  clear HH
  refine hft.mono ?_
  rintro e w2 ⟨rfl, hc12⟩
  have hA2 := blk_keep hA1 hc12 id
  have hc2 := hc1.trans hc12 (fun _ _ h => h)
  clear hft hA1 hc1 hc12
  generalize w.heap.size = A at *
  obtain ⟨a0, a1, a2, a3, a4, a5, a6, a7, a8⟩ := cred_at_blk hA2
  simp only [Nat.zero_add] at a0 a1 a2 a3 a4 a5 a6 a7 a8
  have hl3 := creds_lit [c] w2 (0, 0) (by intro x hx; rw [List.mem_singleton.1 hx]; exact hsh)
  have ha3 : Chg (fun _ => False) w2 (w2.alloc (.cells (credRow [c]).toArray 25)) := (Chg.refl _ w2).alloc _
  have htot : totalC [c] = sizeC c := by simp [totalC]
  have hgr := great_any (some ⟨w2.heap.size, 0, none⟩) 1 [c] (w2.alloc (.cells (credRow [c]).toArray 25)) (by rw [htot]; omega) hl3
  have HH := hid (And.intro hgr (And.intro ha3 hc2))
  clear hgr hl3 ha3 hA2 hc2
  go_wp2_with fail
  clear a0 a1 a2 a3 a4 a5 a6 a7 a8
  obtain ⟨hgr, ha3, hc2⟩ := HH.out
  clear HH
  refine hgr.mono ?_
  rintro e w4 ⟨rfl, hc4⟩
  rw [htot]
  have HC := hid (hc2.trans (ha3.trans hc4 (fun _ _ h => h)) (fun _ _ h => h))
  clear hgr ha3 hc2 hc4 htot
  by_cases h1 : 500 < sizeC c
  · have zz1 : ((500 : Int) < (sizeC c : Int)) = True := eq_true (by omega)
    clear hb
    generalize sizeC c = sz at *
    go_wp2
    go_ret
    exact ⟨rfl, HC.out⟩
  · have zz1 : ((500 : Int) < (sizeC c : Int)) = False := eq_false (by omega)
    have zz2 : ((300 : Int) < (s.length : Int)) = True := eq_true (by omega)
    clear hb h1
    generalize sizeC c = sz at *
    go_wp2
    go_ret
    exact ⟨rfl, HC.out⟩

theorem ctells_walk (c : CredB) (s : List UInt8) (w : World) (hsh : credShort c 9223372036854775807) (hz : sizeC c ≤ 4503599627370496) (hm : MaxAt w) :
    Calls Try.prog 3 #[credV c, .string ⟨s.toArray⟩] w fun e w' => e = .returned (.bool true) ∧ Chg (fun _ => False) w w' := by
  by_cases h1 : 500 < sizeC c
  · exact ctells_long c s w hsh hz (.inl h1) hm
  · by_cases h2 : 300 < s.length
    · exact ctells_long c s w hsh hz (.inr h2) hm
    · exact ctells_main c s w (by omega) (by omega) hm

set_option maxRecDepth 100000 in
theorem ctells_lifted (os : Os) (started : os.Started) (H : Type) (enc : TypeId × Value → H) :
    ReturnsInHanded {} Try.checked os 3 .any (Rows.credTellsSpec.pre6 enc Try.prog Try.f3 Rows.credTellsRow.domain false) (Rows.credTellsSpec.post enc Try.prog Try.f3 false true false false) := by
  refine returnsInHanded_of_change_shaped (C := Try.checked) Try.own started (by kernel_rfl) Try.func3
    (ChangeSpec.witness6 (enc := enc) (C := Try.checked) false ⟨#[], #[credV noCred, .string ⟨#[]⟩], []⟩ 8 (by kernel_rfl) (by kernel_rfl) (by kernel_rfl) (by kernel_rfl)) ?_
  intro W base args ds gs before hval0 hW hcnd hrc hshp _
  have hval : ∀ (j : Nat) t v, Try.f3.params[j]? = some t → args[j]? = some v → Value.okWide Try.prog W .any base t v := hval0
  have hW' := hW
  obtain ⟨p, q, hA0, hV, rfl, hfz, hnd⟩ := hW
  have hA : DataW.TrodAll enc Try.prog W 0 (fun _ => true) true Try.f3.params.toList args.toList ds p := hA0
  have hrc' : (DataW.weightsEach Try.prog (Try.f3.params.toList ++ Rows.credTellsSpec.plain.varTypes Try.prog) (ds ++ gs)).all (· ≤ reachBytes) = true := hrc
  rw [Try.params3] at hA hval hrc'
  obtain ⟨v0, v1, d0, d1, p0, p1, rfl, rfl, rfl, h0, h1⟩ := trodAll_two hA
  obtain ⟨rfl, rfl⟩ := trodVars_none hV
  have k0 := h0
  have k1 := h1
  have lt0 : ∀ x ∈ p0, x.block < W.heap.size := by obtain ⟨m, hm⟩ := k0; exact DataW.trod_lt m _ _ _ hm
  have lt1 : ∀ x ∈ p1, x.block < W.heap.size := by obtain ⟨m, hm⟩ := k1; exact DataW.trod_lt m _ _ _ hm
  obtain ⟨a, rfl, hsh, ha⟩ := reach_cred (hval 0 25 v0 rfl rfl) h0 (InReach.of (j := 0) hrc' rfl rfl)
  obtain ⟨s, rfl, rfl, rfl, hs⟩ := Go.ChangeMaps.open_string Try.underlying9 (hval 1 9 v1 rfl rfl) h1
  clear hA0 hval0 hrc hrc'
  refine (ctells_walk a s.data.toList W hsh (by omega) (max_shaped hshp)).mono fun e W' ⟨he, hc⟩ => ?_
  subst he
  have bel : Below W.heap.size W W' := hc.below (Nat.le_refl _) (fun _ _ => id)
  exact ⟨_, rfl, _, _, _, [], _, [], hW', trodAll_mk1 (shut_bool Try.underlying4 _), (trodAll_cons_mk (Below.trod Try.laidOut (by kernel_rfl) (of_decide_eq_true (by kernel_rfl)) k0 bel lt0) (trodAll_cons_mk (Below.trod Try.laidOut (by kernel_rfl) (of_decide_eq_true (by kernel_rfl)) k1 bel lt1) trodAll_mk0)), rfl, bel.frame _, fun h => by cases h⟩

theorem credTells_holds : Rows.CredTellsSaid :=
  OpenClaim.holds_of_wide 3 Try.f3 rfl rfl rfl rfl rfl rfl rfl ⟨rfl, rfl, rfl, rfl, rfl⟩ rfl rfl rfl rfl rfl (by kernel_rfl) Try.func3 (by kernel_rfl)
    (of_decide_eq_true (by kernel_rfl)) (by unfold Func.isWrapper; first | (rw [if_pos (by decide +kernel)]; kernel_rfl) | (rw [if_neg (by decide +kernel)]; exact ⟨rfl, rfl⟩))
    (fun os started H enc _ => ctells_lifted os started H enc)

#print axioms credTells_holds
end Go.Proofs.Ytjohiggfjpfbeaa
