/- Texts that the proof leans on, in one: RefKFollows, RefKStands. -/
import Derived.Test.YtjaplnainlbldaaFc7
import Derived.Test.YtjaplnainlbldaaFc6
/- The contract of the document's Follows, of layer 9. -/
namespace Go.Proofs.Ytjaplnainlbldaa
open Go.RowKit
attribute [local go_sem ↓ high] run_eqg_role run_eql_role

/-- Does a step follow facts? -/
def followsK (s : StepB) (hs : List FactB) : Bool := isCred s.c && (decide (s.f.1 = s.c.head) && stepF hs s.c (whosF hs) s.f.2)

def Spec.strsK (xs : List (List UInt8)) : Spec := ⟨fun v w => ∃ ao cap, v = .slice ao xs.length cap ∧ StrsAt (fun _ => True) w ao xs, fun _ _ _ hc ⟨a, c, h1, h2⟩ => ⟨a, c, h1, h2.keep hc (fun _ _ => id)⟩⟩

set_option maxRecDepth 100000 in
set_option maxHeartbeats 4000000 in
theorem rkfollows {D : Nat → Prop} (ao : Option Addr) (cp : Nat) (s : StepB) (hs : List FactB) (w : World) (hn : hs.length ≤ 1048576) (hsh : stepShort s 9223372036854775807) (hfs : ∀ f ∈ hs, f.2.length ≤ 9223372036854775807) (h : FactsAt D w ao hs) :
  Calls Try.prog 44 #[.agg #[.int .i64 s.c.kind, .string ⟨s.c.head.1.toArray⟩, .string ⟨s.c.head.2.toArray⟩, .string ⟨s.c.who.toArray⟩, .string ⟨s.c.b.1.toArray⟩, .string ⟨s.c.b.2.toArray⟩, .string ⟨s.c.c.1.toArray⟩, .string ⟨s.c.c.2.toArray⟩, .string ⟨s.c.w2.toArray⟩, .string ⟨s.f.1.1.toArray⟩, .string ⟨s.f.1.2.toArray⟩, .string ⟨s.f.2.toArray⟩], .slice ao hs.length cp] w fun e w' => e = .returned (.bool (followsK s hs)) ∧ Chg (fun _ => False) w w' := by
 have hA := heap_alloc_new w (.cells #[.int .i64 s.c.kind, .string ⟨s.c.head.1.toArray⟩, .string ⟨s.c.head.2.toArray⟩, .string ⟨s.c.who.toArray⟩, .string ⟨s.c.b.1.toArray⟩, .string ⟨s.c.b.2.toArray⟩, .string ⟨s.c.c.1.toArray⟩, .string ⟨s.c.c.2.toArray⟩, .string ⟨s.c.w2.toArray⟩, .string ⟨s.f.1.1.toArray⟩, .string ⟨s.f.1.2.toArray⟩, .string ⟨s.f.2.toArray⟩] 43)
 have hc0 : Chg (fun _ => False) w (w.alloc (.cells #[.int .i64 s.c.kind, .string ⟨s.c.head.1.toArray⟩, .string ⟨s.c.head.2.toArray⟩, .string ⟨s.c.who.toArray⟩, .string ⟨s.c.b.1.toArray⟩, .string ⟨s.c.b.2.toArray⟩, .string ⟨s.c.c.1.toArray⟩, .string ⟨s.c.c.2.toArray⟩, .string ⟨s.c.w2.toArray⟩, .string ⟨s.f.1.1.toArray⟩, .string ⟨s.f.1.2.toArray⟩, .string ⟨s.f.2.toArray⟩] 43)) := (Chg.refl _ w).alloc _
 have HT : Hid ((w.alloc (.cells #[.int .i64 s.c.kind, .string ⟨s.c.head.1.toArray⟩, .string ⟨s.c.head.2.toArray⟩, .string ⟨s.c.who.toArray⟩, .string ⟨s.c.b.1.toArray⟩, .string ⟨s.c.b.2.toArray⟩, .string ⟨s.c.c.1.toArray⟩, .string ⟨s.c.c.2.toArray⟩, .string ⟨s.c.w2.toArray⟩, .string ⟨s.f.1.1.toArray⟩, .string ⟨s.f.1.2.toArray⟩, .string ⟨s.f.2.toArray⟩] 43)).heap[w.heap.size]? = some (.cells (stepBox s) 43 (0, 0)) ∧ FactsAt D (w.alloc (.cells #[.int .i64 s.c.kind, .string ⟨s.c.head.1.toArray⟩, .string ⟨s.c.head.2.toArray⟩, .string ⟨s.c.who.toArray⟩, .string ⟨s.c.b.1.toArray⟩, .string ⟨s.c.b.2.toArray⟩, .string ⟨s.c.c.1.toArray⟩, .string ⟨s.c.c.2.toArray⟩, .string ⟨s.c.w2.toArray⟩, .string ⟨s.f.1.1.toArray⟩, .string ⟨s.f.1.2.toArray⟩, .string ⟨s.f.2.toArray⟩] 43)) ao hs) := hid ⟨hA, h.keep hc0 (fun _ _ => id)⟩
 have HC0 := hid hc0
 have HS : Hid (credShort s.c 9223372036854775807 ∧ ∀ x ∈ whosF hs, x.length ≤ 9223372036854775807) := hid ⟨hsh.1, fun x hx => by unfold whosF at hx; obtain ⟨f, hf, rfl⟩ := List.mem_map.1 hx; exact hfs f hf⟩
 clear hA hc0 h hsh hfs
 go_enter Try.func44, Try.ntmps44
 go_wp2_with fail
 generalize (w.alloc (.cells #[.int .i64 s.c.kind, .string ⟨s.c.head.1.toArray⟩, .string ⟨s.c.head.2.toArray⟩, .string ⟨s.c.who.toArray⟩, .string ⟨s.c.b.1.toArray⟩, .string ⟨s.c.b.2.toArray⟩, .string ⟨s.c.c.1.toArray⟩, .string ⟨s.c.c.2.toArray⟩, .string ⟨s.c.w2.toArray⟩, .string ⟨s.f.1.1.toArray⟩, .string ⟨s.f.1.2.toArray⟩, .string ⟨s.f.2.toArray⟩] 43)) = w1 at *
 generalize w.heap.size = A at *
 by_cases hr : isCred s.c = true
 ·have HR := hid hr
  by_cases he : s.f.1 = s.c.head
  ·have HEQ : Hid (decide (s.f.1 = s.c.head) = true) := hid (decide_eq_true he)
   have HRES : Hid (followsK s hs = stepF hs s.c (whosF hs) s.f.2) := hid (by unfold followsK; rw [hr, HEQ.out]; simp)
   clear hr he
   refine wp_region_specs ([.any, .eq (.slice ao hs.length cp), .eq (.pointer (some ⟨A, 0, none⟩)), .any, .eq (.bool (stepF hs s.c (whosF hs) s.f.2)), .eq (.pointer (some ⟨A, 0, none⟩)), .eq (.agg #[.int .i64 s.c.kind, .string ⟨s.c.head.1.toArray⟩, .string ⟨s.c.head.2.toArray⟩, .string ⟨s.c.who.toArray⟩, .string ⟨s.c.b.1.toArray⟩, .string ⟨s.c.b.2.toArray⟩, .string ⟨s.c.c.1.toArray⟩, .string ⟨s.c.c.2.toArray⟩, .string ⟨s.c.w2.toArray⟩]), .eq (.bool true), .eq (.bool true), .eq (.pointer (some ⟨A, 9, none⟩)), .eq (.pointer (some ⟨A, 9, none⟩)), .eq (.agg #[.string ⟨s.f.1.1.toArray⟩, .string ⟨s.f.1.2.toArray⟩]), .eq (.pointer (some ⟨A, 0, none⟩)), .eq (.pointer (some ⟨A, 1, none⟩)), .eq (.agg #[.string ⟨s.c.head.1.toArray⟩, .string ⟨s.c.head.2.toArray⟩]), .eq (.bool true), .eq (.bool true), .eq (.bool true), .eq (.slice ao hs.length cp), .eq (.pointer (some ⟨A, 0, none⟩)), .eq (.agg #[.int .i64 s.c.kind, .string ⟨s.c.head.1.toArray⟩, .string ⟨s.c.head.2.toArray⟩, .string ⟨s.c.who.toArray⟩, .string ⟨s.c.b.1.toArray⟩, .string ⟨s.c.b.2.toArray⟩, .string ⟨s.c.c.1.toArray⟩, .string ⟨s.c.c.2.toArray⟩, .string ⟨s.c.w2.toArray⟩]), .eq (.slice ao hs.length cp), .strsK (whosF hs), .eq (.pointer (some ⟨A, 9, none⟩)), .eq (.pointer (some ⟨A, 11, none⟩)), .eq (.string ⟨s.f.2.toArray⟩), .eq (.bool (stepF hs s.c (whosF hs) s.f.2)), .eq (.bool (stepF hs s.c (whosF hs) s.f.2))] : List Spec) [5, 6, 7, 8, 9, 10, 11, 12, 13, 14, 15, 16, 17, 18, 19, 20, 21, 22, 23, 24, 25, 26, 27, 4] [1, 2] (by kernel_rfl) (by kernel_rfl) (by rfl) (by kernel_rfl) ?start ?obs ?fin
   case start =>
    simp only [List.forall_mem_cons]; exact ⟨⟨_, rfl, rfl⟩, ⟨_, rfl, rfl⟩, fun _ h => by cases h⟩
   case obs =>
    refine Obs.cons none (by kernel_rfl) ?_ ?_
    ·refine Ob.plain fun a w hR hk K k => ?_
     obtain ⟨_, e2, rfl⟩ := hk 2 (by decide)
     clear hk
     go_simp
     exact k _ _ (Chg.refl _ _) rfl
    refine Obs.cons none (by kernel_rfl) ?_ ?_
    ·refine Ob.plain fun a w hR hk K k => ?_
     obtain ⟨_, e5, rfl⟩ := hk 5 (by decide)
     clear hk
     obtain ⟨⟨a0, a1, a2, a3, a4, a5, a6, a7, a8⟩, ⟨b0, b1, b2⟩⟩ := step_at_blk (blk_keep HT.out.1 hR id)
     simp only [Nat.zero_add] at a0 a1 a2 a3 a4 a5 a6 a7 a8 b0 b1 b2
     go_simp
     exact k _ _ (Chg.refl _ _) rfl
    refine Obs.cons none (by kernel_rfl) ?_ ?_
    ·refine Ob.plain fun a w hR hk K k => ?_
     obtain ⟨_, e6, rfl⟩ := hk 6 (by decide)
     clear hk
     have hq := cright_ref s.c w HS.out.1
     unfold credV credBox at hq
     rw [HR.out] at hq
     go_simp
     refine hq.mono ?_
     rintro e w2 ⟨rfl, hc⟩
     exact k _ _ hc rfl
    refine Obs.cons none (by kernel_rfl) ?_ ?_
    ·refine Ob.plain fun a w hR hk K k => ?_
     obtain ⟨_, e7, f7⟩ := hk 7 (by decide)
     clear hk
     go_simp
     exact k _ _ (Chg.refl _ _) f7
    refine Obs.cons (some (8, true)) (by kernel_rfl) ?_ ?_
    ·refine Ob.yes (fun _ _ h => h) fun a w hR hk K k => ?_
     obtain ⟨_, e2, rfl⟩ := hk 2 (by decide)
     clear hk
     go_simp
     exact k _ _ (Chg.refl _ _) rfl
    refine Obs.cons (some (8, true)) (by kernel_rfl) ?_ ?_
    ·refine Ob.yes (fun _ _ h => h) fun a w hR hk K k => ?_
     obtain ⟨_, e9, rfl⟩ := hk 9 (by decide)
     clear hk
     go_simp
     exact k _ _ (Chg.refl _ _) rfl
    refine Obs.cons (some (8, true)) (by kernel_rfl) ?_ ?_
    ·refine Ob.yes (fun _ _ h => h) fun a w hR hk K k => ?_
     obtain ⟨_, e10, rfl⟩ := hk 10 (by decide)
     clear hk
     obtain ⟨⟨a0, a1, a2, a3, a4, a5, a6, a7, a8⟩, ⟨b0, b1, b2⟩⟩ := step_at_blk (blk_keep HT.out.1 hR id)
     simp only [Nat.zero_add] at a0 a1 a2 a3 a4 a5 a6 a7 a8 b0 b1 b2
     go_simp
     exact k _ _ (Chg.refl _ _) rfl
    refine Obs.cons (some (8, true)) (by kernel_rfl) ?_ ?_
    ·refine Ob.yes (fun _ _ h => h) fun a w hR hk K k => ?_
     obtain ⟨_, e2, rfl⟩ := hk 2 (by decide)
     clear hk
     go_simp
     exact k _ _ (Chg.refl _ _) rfl
    refine Obs.cons (some (8, true)) (by kernel_rfl) ?_ ?_
    ·refine Ob.yes (fun _ _ h => h) fun a w hR hk K k => ?_
     obtain ⟨_, e12, rfl⟩ := hk 12 (by decide)
     clear hk
     go_simp
     exact k _ _ (Chg.refl _ _) rfl
    refine Obs.cons (some (8, true)) (by kernel_rfl) ?_ ?_
    ·refine Ob.yes (fun _ _ h => h) fun a w hR hk K k => ?_
     obtain ⟨_, e13, rfl⟩ := hk 13 (by decide)
     clear hk
     obtain ⟨⟨a0, a1, a2, a3, a4, a5, a6, a7, a8⟩, ⟨b0, b1, b2⟩⟩ := step_at_blk (blk_keep HT.out.1 hR id)
     simp only [Nat.zero_add] at a0 a1 a2 a3 a4 a5 a6 a7 a8 b0 b1 b2
     go_simp
     exact k _ _ (Chg.refl _ _) rfl
    refine Obs.cons (some (8, true)) (by kernel_rfl) ?_ ?_
    ·refine Ob.yes (fun _ _ h => h) fun a w hR hk K k => ?_
     obtain ⟨_, e11, rfl⟩ := hk 11 (by decide)
     obtain ⟨_, e14, rfl⟩ := hk 14 (by decide)
     clear hk
     go_simp
     exact k _ _ (Chg.refl _ _) (by show Value.bool _ = Value.bool _; rw [HEQ.out])
    refine Obs.cons none (by kernel_rfl) ?_ ?_
    ·refine Ob.plain fun a w hR hk K k => ?_
     obtain ⟨_, e8, rfl⟩ := hk 8 (by decide)
     obtain ⟨_, e15, rfl⟩ := hk 15 (by decide)
     clear hk
     go_simp
     exact k _ _ (Chg.refl _ _) rfl
    refine Obs.cons none (by kernel_rfl) ?_ ?_
    ·refine Ob.plain fun a w hR hk K k => ?_
     obtain ⟨_, e16, f16⟩ := hk 16 (by decide)
     clear hk
     go_simp
     exact k _ _ (Chg.refl _ _) f16
    refine Obs.cons (some (17, true)) (by kernel_rfl) ?_ ?_
    ·refine Ob.yes (fun _ _ h => h) fun a w hR hk K k => ?_
     obtain ⟨_, e1, f1⟩ := hk 1 (by decide)
     clear hk
     go_simp
     exact k _ _ (Chg.refl _ _) f1
    refine Obs.cons (some (17, true)) (by kernel_rfl) ?_ ?_
    ·refine Ob.yes (fun _ _ h => h) fun a w hR hk K k => ?_
     obtain ⟨_, e2, rfl⟩ := hk 2 (by decide)
     clear hk
     go_simp
     exact k _ _ (Chg.refl _ _) rfl
    refine Obs.cons (some (17, true)) (by kernel_rfl) ?_ ?_
    ·refine Ob.yes (fun _ _ h => h) fun a w hR hk K k => ?_
     obtain ⟨_, e19, rfl⟩ := hk 19 (by decide)
     clear hk
     obtain ⟨⟨a0, a1, a2, a3, a4, a5, a6, a7, a8⟩, ⟨b0, b1, b2⟩⟩ := step_at_blk (blk_keep HT.out.1 hR id)
     simp only [Nat.zero_add] at a0 a1 a2 a3 a4 a5 a6 a7 a8 b0 b1 b2
     go_simp
     exact k _ _ (Chg.refl _ _) rfl
    refine Obs.cons (some (17, true)) (by kernel_rfl) ?_ ?_
    ·refine Ob.yes (fun _ _ h => h) fun a w hR hk K k => ?_
     obtain ⟨_, e1, f1⟩ := hk 1 (by decide)
     clear hk
     go_simp
     exact k _ _ (Chg.refl _ _) f1
    refine Obs.cons (some (17, true)) (by kernel_rfl) ?_ ?_
    ·refine Ob.yes (fun _ _ h => h) fun a w hR hk K k => ?_
     obtain ⟨_, e21, rfl⟩ := hk 21 (by decide)
     clear hk
     have hq := rknames ao cp hs w (by omega) (HT.out.2.keep hR (fun _ _ => id))
     go_simp
     refine hq.mono ?_
     rintro e w2 ⟨a9, c9, rfl, hown, hc⟩
     obtain ⟨a8, c8, hv8, hst8⟩ := hown.strs HS.out.2
     cases hv8
     exact k _ _ hc ⟨_, _, rfl, hst8.mono (fun _ _ => trivial)⟩
    refine Obs.cons (some (17, true)) (by kernel_rfl) ?_ ?_
    ·refine Ob.yes (fun _ _ h => h) fun a w hR hk K k => ?_
     obtain ⟨_, e2, rfl⟩ := hk 2 (by decide)
     clear hk
     go_simp
     exact k _ _ (Chg.refl _ _) rfl
    refine Obs.cons (some (17, true)) (by kernel_rfl) ?_ ?_
    ·refine Ob.yes (fun _ _ h => h) fun a w hR hk K k => ?_
     obtain ⟨_, e23, rfl⟩ := hk 23 (by decide)
     clear hk
     go_simp
     exact k _ _ (Chg.refl _ _) rfl
    refine Obs.cons (some (17, true)) (by kernel_rfl) ?_ ?_
    ·refine Ob.yes (fun _ _ h => h) fun a w hR hk K k => ?_
     obtain ⟨_, e24, rfl⟩ := hk 24 (by decide)
     clear hk
     obtain ⟨⟨a0, a1, a2, a3, a4, a5, a6, a7, a8⟩, ⟨b0, b1, b2⟩⟩ := step_at_blk (blk_keep HT.out.1 hR id)
     simp only [Nat.zero_add] at a0 a1 a2 a3 a4 a5 a6 a7 a8 b0 b1 b2
     go_simp
     exact k _ _ (Chg.refl _ _) rfl
    refine Obs.cons (some (17, true)) (by kernel_rfl) ?_ ?_
    ·refine Ob.yes (fun _ _ h => h) fun a w hR hk K k => ?_
     obtain ⟨_, e18, rfl⟩ := hk 18 (by decide)
     obtain ⟨_, e20, rfl⟩ := hk 20 (by decide)
     obtain ⟨_, e22, f22⟩ := hk 22 (by decide)
     obtain ⟨_, e25, rfl⟩ := hk 25 (by decide)
     clear hk
     obtain ⟨an, cn, rfl, hst⟩ := f22
     have hq := rfstep ao an cp cn hs s.c (whosF hs) s.f.2 w (by omega) (by rw [whosF_len]; omega) (HT.out.2.keep hR (fun _ _ => id)) hst
     unfold credV credBox at hq
     go_simp
     refine hq.mono ?_
     rintro e w2 ⟨rfl, hc⟩
     exact k _ _ hc rfl
    refine Obs.cons none (by kernel_rfl) ?_ ?_
    ·refine Ob.plain fun a w hR hk K k => ?_
     obtain ⟨_, e17, rfl⟩ := hk 17 (by decide)
     obtain ⟨_, e26, rfl⟩ := hk 26 (by decide)
     clear hk
     go_simp
     exact k _ _ (Chg.refl _ _) rfl
    refine Obs.cons none (by kernel_rfl) ?_ ?_
    ·refine Ob.plain fun a w hR hk K k => ?_
     obtain ⟨_, e27, f27⟩ := hk 27 (by decide)
     clear hk
     go_simp
     exact k _ _ (Chg.refl _ _) f27
    exact Obs.nil
   case fin =>
    intro vals w9 hc9 hv
    have h4 : vals 4 = .bool (stepF hs s.c (whosF hs) s.f.2) := hv 4 (by decide)
    simp only [putAll, List.setIfInBounds_toArray, List.set_cons_zero, List.set_cons_succ, h4]
    clear hv h4
    go_wp2
    go_ret
    exact ⟨by rw [HRES.out]; rfl, HC0.out.trans hc9 (fun _ _ h => h)⟩
  ·have HEQ : Hid (decide (s.f.1 = s.c.head) = false) := hid (decide_eq_false he)
   have HRES : Hid (followsK s hs = false) := hid (by unfold followsK; rw [HEQ.out]; simp)
   clear hr he
   refine wp_region_specs ([.any, .eq (.slice ao hs.length cp), .eq (.pointer (some ⟨A, 0, none⟩)), .any, .eq (.bool false), .eq (.pointer (some ⟨A, 0, none⟩)), .eq (.agg #[.int .i64 s.c.kind, .string ⟨s.c.head.1.toArray⟩, .string ⟨s.c.head.2.toArray⟩, .string ⟨s.c.who.toArray⟩, .string ⟨s.c.b.1.toArray⟩, .string ⟨s.c.b.2.toArray⟩, .string ⟨s.c.c.1.toArray⟩, .string ⟨s.c.c.2.toArray⟩, .string ⟨s.c.w2.toArray⟩]), .eq (.bool true), .eq (.bool true), .eq (.pointer (some ⟨A, 9, none⟩)), .eq (.pointer (some ⟨A, 9, none⟩)), .eq (.agg #[.string ⟨s.f.1.1.toArray⟩, .string ⟨s.f.1.2.toArray⟩]), .eq (.pointer (some ⟨A, 0, none⟩)), .eq (.pointer (some ⟨A, 1, none⟩)), .eq (.agg #[.string ⟨s.c.head.1.toArray⟩, .string ⟨s.c.head.2.toArray⟩]), .eq (.bool false), .eq (.bool false), .eq (.bool false), .any, .any, .any, .any, .any, .any, .any, .any, .any, .eq (.bool false)] : List Spec) [5, 6, 7, 8, 9, 10, 11, 12, 13, 14, 15, 16, 17, 18, 19, 20, 21, 22, 23, 24, 25, 26, 27, 4] [1, 2] (by kernel_rfl) (by kernel_rfl) (by rfl) (by kernel_rfl) ?start ?obs ?fin
   case start =>
    simp only [List.forall_mem_cons]; exact ⟨⟨_, rfl, rfl⟩, ⟨_, rfl, rfl⟩, fun _ h => by cases h⟩
   case obs =>
    refine Obs.cons none (by kernel_rfl) ?_ ?_
    ·refine Ob.plain fun a w hR hk K k => ?_
     obtain ⟨_, e2, rfl⟩ := hk 2 (by decide)
     clear hk
     go_simp
     exact k _ _ (Chg.refl _ _) rfl
    refine Obs.cons none (by kernel_rfl) ?_ ?_
    ·refine Ob.plain fun a w hR hk K k => ?_
     obtain ⟨_, e5, rfl⟩ := hk 5 (by decide)
     clear hk
     obtain ⟨⟨a0, a1, a2, a3, a4, a5, a6, a7, a8⟩, ⟨b0, b1, b2⟩⟩ := step_at_blk (blk_keep HT.out.1 hR id)
     simp only [Nat.zero_add] at a0 a1 a2 a3 a4 a5 a6 a7 a8 b0 b1 b2
     go_simp
     exact k _ _ (Chg.refl _ _) rfl
    refine Obs.cons none (by kernel_rfl) ?_ ?_
    ·refine Ob.plain fun a w hR hk K k => ?_
     obtain ⟨_, e6, rfl⟩ := hk 6 (by decide)
     clear hk
     have hq := cright_ref s.c w HS.out.1
     unfold credV credBox at hq
     rw [HR.out] at hq
     go_simp
     refine hq.mono ?_
     rintro e w2 ⟨rfl, hc⟩
     exact k _ _ hc rfl
    refine Obs.cons none (by kernel_rfl) ?_ ?_
    ·refine Ob.plain fun a w hR hk K k => ?_
     obtain ⟨_, e7, f7⟩ := hk 7 (by decide)
     clear hk
     go_simp
     exact k _ _ (Chg.refl _ _) f7
    refine Obs.cons (some (8, true)) (by kernel_rfl) ?_ ?_
    ·refine Ob.yes (fun _ _ h => h) fun a w hR hk K k => ?_
     obtain ⟨_, e2, rfl⟩ := hk 2 (by decide)
     clear hk
     go_simp
     exact k _ _ (Chg.refl _ _) rfl
    refine Obs.cons (some (8, true)) (by kernel_rfl) ?_ ?_
    ·refine Ob.yes (fun _ _ h => h) fun a w hR hk K k => ?_
     obtain ⟨_, e9, rfl⟩ := hk 9 (by decide)
     clear hk
     go_simp
     exact k _ _ (Chg.refl _ _) rfl
    refine Obs.cons (some (8, true)) (by kernel_rfl) ?_ ?_
    ·refine Ob.yes (fun _ _ h => h) fun a w hR hk K k => ?_
     obtain ⟨_, e10, rfl⟩ := hk 10 (by decide)
     clear hk
     obtain ⟨⟨a0, a1, a2, a3, a4, a5, a6, a7, a8⟩, ⟨b0, b1, b2⟩⟩ := step_at_blk (blk_keep HT.out.1 hR id)
     simp only [Nat.zero_add] at a0 a1 a2 a3 a4 a5 a6 a7 a8 b0 b1 b2
     go_simp
     exact k _ _ (Chg.refl _ _) rfl
    refine Obs.cons (some (8, true)) (by kernel_rfl) ?_ ?_
    ·refine Ob.yes (fun _ _ h => h) fun a w hR hk K k => ?_
     obtain ⟨_, e2, rfl⟩ := hk 2 (by decide)
     clear hk
     go_simp
     exact k _ _ (Chg.refl _ _) rfl
    refine Obs.cons (some (8, true)) (by kernel_rfl) ?_ ?_
    ·refine Ob.yes (fun _ _ h => h) fun a w hR hk K k => ?_
     obtain ⟨_, e12, rfl⟩ := hk 12 (by decide)
     clear hk
     go_simp
     exact k _ _ (Chg.refl _ _) rfl
    refine Obs.cons (some (8, true)) (by kernel_rfl) ?_ ?_
    ·refine Ob.yes (fun _ _ h => h) fun a w hR hk K k => ?_
     obtain ⟨_, e13, rfl⟩ := hk 13 (by decide)
     clear hk
     obtain ⟨⟨a0, a1, a2, a3, a4, a5, a6, a7, a8⟩, ⟨b0, b1, b2⟩⟩ := step_at_blk (blk_keep HT.out.1 hR id)
     simp only [Nat.zero_add] at a0 a1 a2 a3 a4 a5 a6 a7 a8 b0 b1 b2
     go_simp
     exact k _ _ (Chg.refl _ _) rfl
    refine Obs.cons (some (8, true)) (by kernel_rfl) ?_ ?_
    ·refine Ob.yes (fun _ _ h => h) fun a w hR hk K k => ?_
     obtain ⟨_, e11, rfl⟩ := hk 11 (by decide)
     obtain ⟨_, e14, rfl⟩ := hk 14 (by decide)
     clear hk
     go_simp
     exact k _ _ (Chg.refl _ _) (by show Value.bool _ = Value.bool _; rw [HEQ.out])
    refine Obs.cons none (by kernel_rfl) ?_ ?_
    ·refine Ob.plain fun a w hR hk K k => ?_
     obtain ⟨_, e8, rfl⟩ := hk 8 (by decide)
     obtain ⟨_, e15, rfl⟩ := hk 15 (by decide)
     clear hk
     go_simp
     exact k _ _ (Chg.refl _ _) rfl
    refine Obs.cons none (by kernel_rfl) ?_ ?_
    ·refine Ob.plain fun a w hR hk K k => ?_
     obtain ⟨_, e16, f16⟩ := hk 16 (by decide)
     clear hk
     go_simp
     exact k _ _ (Chg.refl _ _) f16
    refine Obs.cons (some (17, true)) (by kernel_rfl) ?_ ?_
    ·exact Ob.no (fun _ _ h => h) (Chg.refl _) (fun _ _ => trivial)
    refine Obs.cons (some (17, true)) (by kernel_rfl) ?_ ?_
    ·exact Ob.no (fun _ _ h => h) (Chg.refl _) (fun _ _ => trivial)
    refine Obs.cons (some (17, true)) (by kernel_rfl) ?_ ?_
    ·exact Ob.no (fun _ _ h => h) (Chg.refl _) (fun _ _ => trivial)
    refine Obs.cons (some (17, true)) (by kernel_rfl) ?_ ?_
    ·exact Ob.no (fun _ _ h => h) (Chg.refl _) (fun _ _ => trivial)
    refine Obs.cons (some (17, true)) (by kernel_rfl) ?_ ?_
    ·exact Ob.no (fun _ _ h => h) (Chg.refl _) (fun _ _ => trivial)
    refine Obs.cons (some (17, true)) (by kernel_rfl) ?_ ?_
    ·exact Ob.no (fun _ _ h => h) (Chg.refl _) (fun _ _ => trivial)
    refine Obs.cons (some (17, true)) (by kernel_rfl) ?_ ?_
    ·exact Ob.no (fun _ _ h => h) (Chg.refl _) (fun _ _ => trivial)
    refine Obs.cons (some (17, true)) (by kernel_rfl) ?_ ?_
    ·exact Ob.no (fun _ _ h => h) (Chg.refl _) (fun _ _ => trivial)
    refine Obs.cons (some (17, true)) (by kernel_rfl) ?_ ?_
    ·exact Ob.no (fun _ _ h => h) (Chg.refl _) (fun _ _ => trivial)
    refine Obs.cons none (by kernel_rfl) ?_ ?_
    ·refine Ob.plain fun a w hR hk K k => ?_
     obtain ⟨_, e17, rfl⟩ := hk 17 (by decide)
     obtain ⟨_, e26, _⟩ := hk 26 (by decide)
     clear hk
     go_simp
     exact k _ _ (Chg.refl _ _) rfl
    refine Obs.cons none (by kernel_rfl) ?_ ?_
    ·refine Ob.plain fun a w hR hk K k => ?_
     obtain ⟨_, e27, f27⟩ := hk 27 (by decide)
     clear hk
     go_simp
     exact k _ _ (Chg.refl _ _) f27
    exact Obs.nil
   case fin =>
    intro vals w9 hc9 hv
    have h4 : vals 4 = .bool false := hv 4 (by decide)
    simp only [putAll, List.setIfInBounds_toArray, List.set_cons_zero, List.set_cons_succ, h4]
    clear hv h4
    go_wp2
    go_ret
    exact ⟨by rw [HRES.out]; rfl, HC0.out.trans hc9 (fun _ _ h => h)⟩
 ·have HR : Hid (isCred s.c = false) := hid (by simpa using hr)
  have HRES : Hid (followsK s hs = false) := hid (by unfold followsK; rw [HR.out]; simp)
  clear hr
  refine wp_region_specs ([.any, .eq (.slice ao hs.length cp), .eq (.pointer (some ⟨A, 0, none⟩)), .any, .eq (.bool false), .eq (.pointer (some ⟨A, 0, none⟩)), .eq (.agg #[.int .i64 s.c.kind, .string ⟨s.c.head.1.toArray⟩, .string ⟨s.c.head.2.toArray⟩, .string ⟨s.c.who.toArray⟩, .string ⟨s.c.b.1.toArray⟩, .string ⟨s.c.b.2.toArray⟩, .string ⟨s.c.c.1.toArray⟩, .string ⟨s.c.c.2.toArray⟩, .string ⟨s.c.w2.toArray⟩]), .eq (.bool false), .eq (.bool false), .any, .any, .any, .any, .any, .any, .any, .eq (.bool false), .eq (.bool false), .any, .any, .any, .any, .any, .any, .any, .any, .any, .eq (.bool false)] : List Spec) [5, 6, 7, 8, 9, 10, 11, 12, 13, 14, 15, 16, 17, 18, 19, 20, 21, 22, 23, 24, 25, 26, 27, 4] [1, 2] (by kernel_rfl) (by kernel_rfl) (by rfl) (by kernel_rfl) ?start ?obs ?fin
  case start =>
   simp only [List.forall_mem_cons]; exact ⟨⟨_, rfl, rfl⟩, ⟨_, rfl, rfl⟩, fun _ h => by cases h⟩
  case obs =>
   refine Obs.cons none (by kernel_rfl) ?_ ?_
   ·refine Ob.plain fun a w hR hk K k => ?_
    obtain ⟨_, e2, rfl⟩ := hk 2 (by decide)
    clear hk
    go_simp
    exact k _ _ (Chg.refl _ _) rfl
   refine Obs.cons none (by kernel_rfl) ?_ ?_
   ·refine Ob.plain fun a w hR hk K k => ?_
    obtain ⟨_, e5, rfl⟩ := hk 5 (by decide)
    clear hk
    obtain ⟨⟨a0, a1, a2, a3, a4, a5, a6, a7, a8⟩, ⟨b0, b1, b2⟩⟩ := step_at_blk (blk_keep HT.out.1 hR id)
    simp only [Nat.zero_add] at a0 a1 a2 a3 a4 a5 a6 a7 a8 b0 b1 b2
    go_simp
    exact k _ _ (Chg.refl _ _) rfl
   refine Obs.cons none (by kernel_rfl) ?_ ?_
   ·refine Ob.plain fun a w hR hk K k => ?_
    obtain ⟨_, e6, rfl⟩ := hk 6 (by decide)
    clear hk
    have hq := cright_ref s.c w HS.out.1
    unfold credV credBox at hq
    rw [HR.out] at hq
    go_simp
    refine hq.mono ?_
    rintro e w2 ⟨rfl, hc⟩
    exact k _ _ hc rfl
   refine Obs.cons none (by kernel_rfl) ?_ ?_
   ·refine Ob.plain fun a w hR hk K k => ?_
    obtain ⟨_, e7, f7⟩ := hk 7 (by decide)
    clear hk
    go_simp
    exact k _ _ (Chg.refl _ _) f7
   refine Obs.cons (some (8, true)) (by kernel_rfl) ?_ ?_
   ·exact Ob.no (fun _ _ h => h) (Chg.refl _) (fun _ _ => trivial)
   refine Obs.cons (some (8, true)) (by kernel_rfl) ?_ ?_
   ·exact Ob.no (fun _ _ h => h) (Chg.refl _) (fun _ _ => trivial)
   refine Obs.cons (some (8, true)) (by kernel_rfl) ?_ ?_
   ·exact Ob.no (fun _ _ h => h) (Chg.refl _) (fun _ _ => trivial)
   refine Obs.cons (some (8, true)) (by kernel_rfl) ?_ ?_
   ·exact Ob.no (fun _ _ h => h) (Chg.refl _) (fun _ _ => trivial)
   refine Obs.cons (some (8, true)) (by kernel_rfl) ?_ ?_
   ·exact Ob.no (fun _ _ h => h) (Chg.refl _) (fun _ _ => trivial)
   refine Obs.cons (some (8, true)) (by kernel_rfl) ?_ ?_
   ·exact Ob.no (fun _ _ h => h) (Chg.refl _) (fun _ _ => trivial)
   refine Obs.cons (some (8, true)) (by kernel_rfl) ?_ ?_
   ·exact Ob.no (fun _ _ h => h) (Chg.refl _) (fun _ _ => trivial)
   refine Obs.cons none (by kernel_rfl) ?_ ?_
   ·refine Ob.plain fun a w hR hk K k => ?_
    obtain ⟨_, e8, rfl⟩ := hk 8 (by decide)
    obtain ⟨_, e15, _⟩ := hk 15 (by decide)
    clear hk
    go_simp
    exact k _ _ (Chg.refl _ _) rfl
   refine Obs.cons none (by kernel_rfl) ?_ ?_
   ·refine Ob.plain fun a w hR hk K k => ?_
    obtain ⟨_, e16, f16⟩ := hk 16 (by decide)
    clear hk
    go_simp
    exact k _ _ (Chg.refl _ _) f16
   refine Obs.cons (some (17, true)) (by kernel_rfl) ?_ ?_
   ·exact Ob.no (fun _ _ h => h) (Chg.refl _) (fun _ _ => trivial)
   refine Obs.cons (some (17, true)) (by kernel_rfl) ?_ ?_
   ·exact Ob.no (fun _ _ h => h) (Chg.refl _) (fun _ _ => trivial)
   refine Obs.cons (some (17, true)) (by kernel_rfl) ?_ ?_
   ·exact Ob.no (fun _ _ h => h) (Chg.refl _) (fun _ _ => trivial)
   refine Obs.cons (some (17, true)) (by kernel_rfl) ?_ ?_
   ·exact Ob.no (fun _ _ h => h) (Chg.refl _) (fun _ _ => trivial)
   refine Obs.cons (some (17, true)) (by kernel_rfl) ?_ ?_
   ·exact Ob.no (fun _ _ h => h) (Chg.refl _) (fun _ _ => trivial)
   refine Obs.cons (some (17, true)) (by kernel_rfl) ?_ ?_
   ·exact Ob.no (fun _ _ h => h) (Chg.refl _) (fun _ _ => trivial)
   refine Obs.cons (some (17, true)) (by kernel_rfl) ?_ ?_
   ·exact Ob.no (fun _ _ h => h) (Chg.refl _) (fun _ _ => trivial)
   refine Obs.cons (some (17, true)) (by kernel_rfl) ?_ ?_
   ·exact Ob.no (fun _ _ h => h) (Chg.refl _) (fun _ _ => trivial)
   refine Obs.cons (some (17, true)) (by kernel_rfl) ?_ ?_
   ·exact Ob.no (fun _ _ h => h) (Chg.refl _) (fun _ _ => trivial)
   refine Obs.cons none (by kernel_rfl) ?_ ?_
   ·refine Ob.plain fun a w hR hk K k => ?_
    obtain ⟨_, e17, rfl⟩ := hk 17 (by decide)
    obtain ⟨_, e26, _⟩ := hk 26 (by decide)
    clear hk
    go_simp
    exact k _ _ (Chg.refl _ _) rfl
   refine Obs.cons none (by kernel_rfl) ?_ ?_
   ·refine Ob.plain fun a w hR hk K k => ?_
    obtain ⟨_, e27, f27⟩ := hk 27 (by decide)
    clear hk
    go_simp
    exact k _ _ (Chg.refl _ _) f27
   exact Obs.nil
  case fin =>
   intro vals w9 hc9 hv
   have h4 : vals 4 = .bool false := hv 4 (by decide)
   simp only [putAll, List.setIfInBounds_toArray, List.set_cons_zero, List.set_cons_succ, h4]
   clear hv h4
   go_wp2
   go_ret
   exact ⟨by rw [HRES.out]; rfl, HC0.out.trans hc9 (fun _ _ h => h)⟩
end Go.Proofs.Ytjaplnainlbldaa

/- The contract of the document's stands, of layer 9. -/
namespace Go.Proofs.Ytjaplnainlbldaa
open Go.RowKit

/-- Does each step follow those ahead? -/
def standsK (ls : List StepB) : Bool := decide (∀ i (h : i < ls.length), followsK ls[i] (factsK (ls.take i)) = true)

def Spec.factsK (xs : List FactB) : Spec := ⟨fun v w => ∃ ao cap, v = .slice ao xs.length cap ∧ FactsAt (fun _ => True) w ao xs, fun _ _ _ hc ⟨a, c, h1, h2⟩ => ⟨a, c, h1, h2.keep hc (fun _ _ => id)⟩⟩

theorem steps_short {D : Nat → Prop} {w : World} {ao : Option Addr} {ls : List StepB} (h : StepsAt D w ao ls) : ∀ s ∈ ls, stepShort s 9223372036854775807 := fun s hs => by
 obtain ⟨i, hi, rfl⟩ := List.getElem_of_mem hs
 obtain ⟨_, _, _, _, _, h4⟩ := h i hi
 exact h4

theorem facts_short {ls : List StepB} (h : ∀ s ∈ ls, stepShort s 9223372036854775807) (k : Nat) : ∀ f ∈ factsK (ls.take k), f.2.length ≤ 9223372036854775807 := fun f hf => by
 unfold factsK at hf
 obtain ⟨s, hs, rfl⟩ := List.mem_map.1 hf
 exact (h s (List.mem_of_mem_take hs)).2.2.2

set_option maxRecDepth 100000 in
set_option maxHeartbeats 4000000 in
theorem rkstands {D : Nat → Prop} (ao : Option Addr) (cp : Nat) (ls : List StepB) (w : World) (hn : ls.length ≤ 1048576) (hcp : ls.length ≤ cp) (hcp2 : cp ≤ 9223372036854775807) (h : StepsAt D w ao ls) :
  Calls Try.prog 48 #[.slice ao ls.length cp] w fun e w' => e = .returned (.bool (standsK ls)) ∧ Chg (fun _ => False) w w' := by
 have HX := hid h
 have HSH := hid (steps_short h)
 clear h
 go_enter Try.func48, Try.ntmps48
 go_wp2
 go_loopw [7] (fun i wr => ∃ k : Nat, k ≤ ls.length ∧ i = .int .i64 k ∧ Hid (∀ i (h : i < ls.length), i < k → followsK ls[i] (factsK (ls.take i)) = true) ∧ Hid (Chg (fun _ => False) w wr)) (fun i _ => ls.length - (intOf i).toNat)
 case atStart => exact ⟨0, Nat.zero_le _, rfl, hid (fun i _ h => absurd h (by omega)), hid (Chg.refl _ _)⟩
 case round =>
  obtain ⟨k, hk, rfl, hup, hc⟩ := hrel
  by_cases hlt : k < ls.length
  ·obtain ⟨b, off, hao, _, ⟨⟨a0, a1, a2, a3, a4, a5, a6, a7, a8⟩, ⟨b0, b1, b2⟩⟩, hss⟩ := (HX.out.keep hc.out (fun _ _ => id)) k hlt
   have HSTEP : Hid ((followsK ls[k] (factsK (ls.take k)) = true → ∀ i (h : i < ls.length), i < k + 1 → followsK ls[i] (factsK (ls.take i)) = true) ∧ (followsK ls[k] (factsK (ls.take k)) = false → standsK ls = false)) := hid ⟨fun hf i hi hik => by
    by_cases e : i = k
    ·subst e; exact hf
    ·exact hup.out i hi (by omega), fun hf => decide_eq_false (fun hall => by have := hall k hlt; rw [hf] at this; cases this)⟩
   have HKL : Hid (k < ls.length ∧ ls.length ≤ cp) := hid ⟨hlt, hcp⟩
   generalize ls[k] = s at *
   change wr.cell? ⟨b, off + k * 12 + 10, none⟩ = _ at b1
   change wr.cell? ⟨b, off + k * 12 + 11, none⟩ = _ at b2
   have hSb : (wr.alloc (.cells #[.int .i64 s.c.kind, .string ⟨s.c.head.1.toArray⟩, .string ⟨s.c.head.2.toArray⟩, .string ⟨s.c.who.toArray⟩, .string ⟨s.c.b.1.toArray⟩, .string ⟨s.c.b.2.toArray⟩, .string ⟨s.c.c.1.toArray⟩, .string ⟨s.c.c.2.toArray⟩, .string ⟨s.c.w2.toArray⟩, .string ⟨s.f.1.1.toArray⟩, .string ⟨s.f.1.2.toArray⟩, .string ⟨s.f.2.toArray⟩] 43)).heap[wr.heap.size]? = some (.cells (stepBox s) 43 (0, 0)) := heap_alloc_new wr _
   have hcA : Chg (fun _ => False) wr (wr.alloc (.cells #[.int .i64 s.c.kind, .string ⟨s.c.head.1.toArray⟩, .string ⟨s.c.head.2.toArray⟩, .string ⟨s.c.who.toArray⟩, .string ⟨s.c.b.1.toArray⟩, .string ⟨s.c.b.2.toArray⟩, .string ⟨s.c.c.1.toArray⟩, .string ⟨s.c.c.2.toArray⟩, .string ⟨s.c.w2.toArray⟩, .string ⟨s.f.1.1.toArray⟩, .string ⟨s.f.1.2.toArray⟩, .string ⟨s.f.2.toArray⟩] 43)) := (Chg.refl _ wr).alloc _
   have HT : Hid ((wr.alloc (.cells #[.int .i64 s.c.kind, .string ⟨s.c.head.1.toArray⟩, .string ⟨s.c.head.2.toArray⟩, .string ⟨s.c.who.toArray⟩, .string ⟨s.c.b.1.toArray⟩, .string ⟨s.c.b.2.toArray⟩, .string ⟨s.c.c.1.toArray⟩, .string ⟨s.c.c.2.toArray⟩, .string ⟨s.c.w2.toArray⟩, .string ⟨s.f.1.1.toArray⟩, .string ⟨s.f.1.2.toArray⟩, .string ⟨s.f.2.toArray⟩] 43)).heap[wr.heap.size]? = some (.cells (stepBox s) 43 (0, 0)) ∧ StepsAt D (wr.alloc (.cells #[.int .i64 s.c.kind, .string ⟨s.c.head.1.toArray⟩, .string ⟨s.c.head.2.toArray⟩, .string ⟨s.c.who.toArray⟩, .string ⟨s.c.b.1.toArray⟩, .string ⟨s.c.b.2.toArray⟩, .string ⟨s.c.c.1.toArray⟩, .string ⟨s.c.c.2.toArray⟩, .string ⟨s.c.w2.toArray⟩, .string ⟨s.f.1.1.toArray⟩, .string ⟨s.f.1.2.toArray⟩, .string ⟨s.f.2.toArray⟩] 43)) ao ls ∧ stepShort s 9223372036854775807) := hid ⟨hSb, HX.out.keep (hc.out.trans hcA (fun _ _ h => h)) (fun _ _ => id), hss⟩
   have HC2 := hid (hc.out.trans hcA (fun _ _ h => h))
   obtain ⟨fs, hfs⟩ : ∃ fs, fs = factsK (ls.take k) := ⟨_, rfl⟩
   have HFS : Hid (factsK (ls.take k) = fs ∧ fs.length ≤ 1048576 ∧ ∀ f ∈ fs, f.2.length ≤ 9223372036854775807) := hid ⟨hfs.symm, by rw [hfs, factsK_len, List.length_take]; omega, by rw [hfs]; exact facts_short HSH.out k⟩
   rw [← hfs] at HSTEP
   clear hSb hcA hc hss hup hfs
   subst hao
   go_wp2_with fail
   clear a0 a1 a2 a3 a4 a5 a6 a7 a8 b0 b1 b2
   generalize (wr.alloc (.cells #[.int .i64 s.c.kind, .string ⟨s.c.head.1.toArray⟩, .string ⟨s.c.head.2.toArray⟩, .string ⟨s.c.who.toArray⟩, .string ⟨s.c.b.1.toArray⟩, .string ⟨s.c.b.2.toArray⟩, .string ⟨s.c.c.1.toArray⟩, .string ⟨s.c.c.2.toArray⟩, .string ⟨s.c.w2.toArray⟩, .string ⟨s.f.1.1.toArray⟩, .string ⟨s.f.1.2.toArray⟩, .string ⟨s.f.2.toArray⟩] 43)) = w3 at *
   generalize wr.heap.size = X at *
   refine wp_region_specs ([.eq (.slice (some ⟨b, off, none⟩) ls.length cp), .any, .any, .eq (.int .i64 k), .eq (.pointer (some ⟨X, 0, none⟩)), .any, .any, .any, .any, .any, .any, .any, .eq (.agg #[.int .i64 s.c.kind, .string ⟨s.c.head.1.toArray⟩, .string ⟨s.c.head.2.toArray⟩, .string ⟨s.c.who.toArray⟩, .string ⟨s.c.b.1.toArray⟩, .string ⟨s.c.b.2.toArray⟩, .string ⟨s.c.c.1.toArray⟩, .string ⟨s.c.c.2.toArray⟩, .string ⟨s.c.w2.toArray⟩, .string ⟨s.f.1.1.toArray⟩, .string ⟨s.f.1.2.toArray⟩, .string ⟨s.f.2.toArray⟩]), .eq (.slice (some ⟨b, off, none⟩) ls.length cp), .eq (.int .i64 k), .eq (.slice (some ⟨b, off, none⟩) k cp), .factsK fs, .eq (.bool (followsK s fs)), .eq (.bool (!followsK s fs)), .any] : List Spec) [12, 13, 14, 15, 16, 17, 18] [0, 3, 4] (by kernel_rfl) (by kernel_rfl) (by rfl) (by kernel_rfl) ?start ?obs ?fin
   case start =>
    simp only [List.forall_mem_cons]; exact ⟨⟨_, rfl, rfl⟩, ⟨_, rfl, rfl⟩, ⟨_, rfl, rfl⟩, fun _ h => by cases h⟩
   case obs =>
    refine Obs.cons none (by kernel_rfl) ?_ ?_
    ·refine Ob.plain fun a w hR hk K k9 => ?_
     obtain ⟨_, e4, rfl⟩ := hk 4 (by decide)
     clear hk
     obtain ⟨⟨a0, a1, a2, a3, a4, a5, a6, a7, a8⟩, ⟨b0, b1, b2⟩⟩ := step_at_blk (blk_keep HT.out.1 hR id)
     simp only [Nat.zero_add] at a0 a1 a2 a3 a4 a5 a6 a7 a8 b0 b1 b2
     go_simp
     exact k9 _ _ (Chg.refl _ _) rfl
    refine Obs.cons none (by kernel_rfl) ?_ ?_
    ·refine Ob.plain fun a w hR hk K k9 => ?_
     obtain ⟨_, e0, f0⟩ := hk 0 (by decide)
     clear hk
     go_simp
     exact k9 _ _ (Chg.refl _ _) f0
    refine Obs.cons none (by kernel_rfl) ?_ ?_
    ·refine Ob.plain fun a w hR hk K k9 => ?_
     obtain ⟨_, e3, f3⟩ := hk 3 (by decide)
     clear hk
     go_simp
     exact k9 _ _ (Chg.refl _ _) f3
    refine Obs.cons none (by kernel_rfl) ?_ ?_
    ·refine Ob.plain fun a w hR hk K k9 => ?_
     obtain ⟨_, e13, rfl⟩ := hk 13 (by decide)
     obtain ⟨_, e14, rfl⟩ := hk 14 (by decide)
     clear hk
     have hk3 : k ≤ cp := Nat.le_trans (Nat.le_of_lt HKL.out.1) HKL.out.2
     go_simp
     exact k9 _ _ (Chg.refl _ _) rfl
    refine Obs.cons none (by kernel_rfl) ?_ ?_
    ·refine Ob.plain fun a w hR hk K k9 => ?_
     obtain ⟨_, e15, rfl⟩ := hk 15 (by decide)
     clear hk
     have hq := rkfacts (some ⟨b, off, none⟩) cp (ls.take k) w (by rw [List.length_take]; omega) ((HT.out.2.1.keep hR (fun _ _ => id)).take k)
     rw [List.length_take, Nat.min_eq_left (Nat.le_of_lt HKL.out.1), HFS.out.1] at hq
     go_simp
     refine hq.mono ?_
     rintro e w2 ⟨a9, c9, rfl, hown, hc⟩
     obtain ⟨a8, c8, hv8, hst8, _⟩ := hown.facts
     cases hv8
     exact k9 _ _ hc ⟨_, _, rfl, hst8.mono (fun _ _ => trivial)⟩
    refine Obs.cons none (by kernel_rfl) ?_ ?_
    ·refine Ob.plain fun a w hR hk K k9 => ?_
     obtain ⟨_, e12, rfl⟩ := hk 12 (by decide)
     obtain ⟨_, e16, f16⟩ := hk 16 (by decide)
     clear hk
     obtain ⟨af, cf, rfl, hfa⟩ := f16
     have hq := rkfollows af cf s fs w HFS.out.2.1 HT.out.2.2 HFS.out.2.2 hfa
     go_simp
     refine hq.mono ?_
     rintro e w2 ⟨rfl, hc⟩
     exact k9 _ _ hc rfl
    refine Obs.cons none (by kernel_rfl) ?_ ?_
    ·refine Ob.plain fun a w hR hk K k9 => ?_
     obtain ⟨_, e17, rfl⟩ := hk 17 (by decide)
     clear hk
     go_simp
     exact k9 _ _ (Chg.refl _ _) rfl
    exact Obs.nil
   case fin =>
    intro vals w9 hc9 hv
    have h18 : vals 18 = .bool (!followsK s fs) := hv 18 (by decide)
    have HC9 := hid (HC2.out.trans hc9 (fun _ _ h => h))
    simp only [putAll, List.setIfInBounds_toArray, List.set_cons_zero, List.set_cons_succ, h18]
    clear hv h18 hc9
    cases hf : followsK s fs with
    | true =>
     have HUP := hid (HSTEP.out.1 hf)
     clear hf
     go_wp2
     go_roundw
     case rel => exact ⟨k + 1, by have := HKL.out.1; omega, by go_num, HUP, HC9⟩
     case measure => have := HKL.out.1; simp [intOf]; omega
    | false =>
     have HRES := hid (HSTEP.out.2 hf)
     clear hf
     go_wp2
     go_ret
     exact ⟨by rw [HRES.out]; rfl, HC9.out⟩
  ·have hk2 : k = ls.length := by omega
   have HRES : Hid (standsK ls = true) := hid (decide_eq_true (fun i hi => hup.out i hi (by omega)))
   clear hup
   go_wp2
   go_ret
   exact ⟨by rw [HRES.out]; rfl, hc.out⟩
end Go.Proofs.Ytjaplnainlbldaa
