/- The contract of the document's Follows, of layer 9. -/
import Derived.Test.YtmmkopdcbiiedaaKb11
import Derived.Test.YtmmkopdcbiiedaaKb12
import Derived.Test.YtmmkopdcbiiedaaKb10
namespace Go.Proofs.Ytmmkopdcbiiedaa
open Go.RowKit
attribute [local go_sem ↓ high] run_eqg_role run_eql_role

/-- Does a step follow facts? -/
def followsK (s : StepB) (hs : List FactB) : Bool := isCred s.c && (decide (s.f.1 = s.c.head) && stepF hs s.c (whosF hs) s.f.2)

def Spec.strsK (xs : List (List UInt8)) : Spec := ⟨fun v w => ∃ ao cap, v = .slice ao xs.length cap ∧ StrsAt (fun _ => True) w ao xs, fun _ _ _ hc ⟨a, c, h1, h2⟩ => ⟨a, c, h1, h2.keep hc (fun _ _ => id)⟩⟩

set_option maxRecDepth 100000 in
set_option maxHeartbeats 4000000 in
theorem rkfollows {D : Nat → Prop} (ao : Option Addr) (cp : Nat) (s : StepB) (hs : List FactB) (w : World) (hn : hs.length ≤ 1048576) (hsh : stepShort s 9223372036854775807) (hfs : ∀ f ∈ hs, f.2.length ≤ 9223372036854775807) (h : FactsAt D w ao hs) :
    Calls Try.prog 12 #[.agg #[.int .i64 s.c.kind, .string ⟨s.c.head.1.toArray⟩, .string ⟨s.c.head.2.toArray⟩, .string ⟨s.c.who.toArray⟩, .string ⟨s.c.b.1.toArray⟩, .string ⟨s.c.b.2.toArray⟩, .string ⟨s.c.c.1.toArray⟩, .string ⟨s.c.c.2.toArray⟩, .string ⟨s.c.w2.toArray⟩, .string ⟨s.f.1.1.toArray⟩, .string ⟨s.f.1.2.toArray⟩, .string ⟨s.f.2.toArray⟩], .slice ao hs.length cp] w fun e w' => e = .returned (.bool (followsK s hs)) ∧ Chg (fun _ => False) w w' := by
  have hA := heap_alloc_new w (.cells #[.int .i64 s.c.kind, .string ⟨s.c.head.1.toArray⟩, .string ⟨s.c.head.2.toArray⟩, .string ⟨s.c.who.toArray⟩, .string ⟨s.c.b.1.toArray⟩, .string ⟨s.c.b.2.toArray⟩, .string ⟨s.c.c.1.toArray⟩, .string ⟨s.c.c.2.toArray⟩, .string ⟨s.c.w2.toArray⟩, .string ⟨s.f.1.1.toArray⟩, .string ⟨s.f.1.2.toArray⟩, .string ⟨s.f.2.toArray⟩] 34)
  have hc0 : Chg (fun _ => False) w (w.alloc (.cells #[.int .i64 s.c.kind, .string ⟨s.c.head.1.toArray⟩, .string ⟨s.c.head.2.toArray⟩, .string ⟨s.c.who.toArray⟩, .string ⟨s.c.b.1.toArray⟩, .string ⟨s.c.b.2.toArray⟩, .string ⟨s.c.c.1.toArray⟩, .string ⟨s.c.c.2.toArray⟩, .string ⟨s.c.w2.toArray⟩, .string ⟨s.f.1.1.toArray⟩, .string ⟨s.f.1.2.toArray⟩, .string ⟨s.f.2.toArray⟩] 34)) := (Chg.refl _ w).alloc _
  have HT : Hid ((w.alloc (.cells #[.int .i64 s.c.kind, .string ⟨s.c.head.1.toArray⟩, .string ⟨s.c.head.2.toArray⟩, .string ⟨s.c.who.toArray⟩, .string ⟨s.c.b.1.toArray⟩, .string ⟨s.c.b.2.toArray⟩, .string ⟨s.c.c.1.toArray⟩, .string ⟨s.c.c.2.toArray⟩, .string ⟨s.c.w2.toArray⟩, .string ⟨s.f.1.1.toArray⟩, .string ⟨s.f.1.2.toArray⟩, .string ⟨s.f.2.toArray⟩] 34)).heap[w.heap.size]? = some (.cells (stepBox s) 34 (0, 0)) ∧ FactsAt D (w.alloc (.cells #[.int .i64 s.c.kind, .string ⟨s.c.head.1.toArray⟩, .string ⟨s.c.head.2.toArray⟩, .string ⟨s.c.who.toArray⟩, .string ⟨s.c.b.1.toArray⟩, .string ⟨s.c.b.2.toArray⟩, .string ⟨s.c.c.1.toArray⟩, .string ⟨s.c.c.2.toArray⟩, .string ⟨s.c.w2.toArray⟩, .string ⟨s.f.1.1.toArray⟩, .string ⟨s.f.1.2.toArray⟩, .string ⟨s.f.2.toArray⟩] 34)) ao hs) := hid ⟨hA, h.keep hc0 (fun _ _ => id)⟩
  have HC0 := hid hc0
  have HS : Hid (credShort s.c 9223372036854775807 ∧ ∀ x ∈ whosF hs, x.length ≤ 9223372036854775807) := hid ⟨hsh.1, fun x hx => by unfold whosF at hx; obtain ⟨f, hf, rfl⟩ := List.mem_map.1 hx; exact hfs f hf⟩
  clear hA hc0 h hsh hfs
  go_enter Try.func12, Try.ntmps12
  go_wp2_with fail
  generalize (w.alloc (.cells #[.int .i64 s.c.kind, .string ⟨s.c.head.1.toArray⟩, .string ⟨s.c.head.2.toArray⟩, .string ⟨s.c.who.toArray⟩, .string ⟨s.c.b.1.toArray⟩, .string ⟨s.c.b.2.toArray⟩, .string ⟨s.c.c.1.toArray⟩, .string ⟨s.c.c.2.toArray⟩, .string ⟨s.c.w2.toArray⟩, .string ⟨s.f.1.1.toArray⟩, .string ⟨s.f.1.2.toArray⟩, .string ⟨s.f.2.toArray⟩] 34)) = w1 at *
  generalize w.heap.size = A at *
  by_cases hr : isCred s.c = true
  · have HR := hid hr
    by_cases he : s.f.1 = s.c.head
    · have HEQ : Hid (decide (s.f.1 = s.c.head) = true) := hid (decide_eq_true he)
      have HRES : Hid (followsK s hs = stepF hs s.c (whosF hs) s.f.2) := hid (by unfold followsK; rw [hr, HEQ.out]; simp)
      clear hr he
      refine wp_region_specs ([.any, .eq (.slice ao hs.length cp), .eq (.pointer (some ⟨A, 0, none⟩)), .any, .eq (.bool (stepF hs s.c (whosF hs) s.f.2)), .eq (.pointer (some ⟨A, 0, none⟩)), .eq (.agg #[.int .i64 s.c.kind, .string ⟨s.c.head.1.toArray⟩, .string ⟨s.c.head.2.toArray⟩, .string ⟨s.c.who.toArray⟩, .string ⟨s.c.b.1.toArray⟩, .string ⟨s.c.b.2.toArray⟩, .string ⟨s.c.c.1.toArray⟩, .string ⟨s.c.c.2.toArray⟩, .string ⟨s.c.w2.toArray⟩]), .eq (.bool true), .eq (.bool true), .eq (.pointer (some ⟨A, 9, none⟩)), .eq (.pointer (some ⟨A, 9, none⟩)), .eq (.agg #[.string ⟨s.f.1.1.toArray⟩, .string ⟨s.f.1.2.toArray⟩]), .eq (.pointer (some ⟨A, 0, none⟩)), .eq (.pointer (some ⟨A, 1, none⟩)), .eq (.agg #[.string ⟨s.c.head.1.toArray⟩, .string ⟨s.c.head.2.toArray⟩]), .eq (.bool true), .eq (.bool true), .eq (.bool true), .eq (.slice ao hs.length cp), .eq (.pointer (some ⟨A, 0, none⟩)), .eq (.agg #[.int .i64 s.c.kind, .string ⟨s.c.head.1.toArray⟩, .string ⟨s.c.head.2.toArray⟩, .string ⟨s.c.who.toArray⟩, .string ⟨s.c.b.1.toArray⟩, .string ⟨s.c.b.2.toArray⟩, .string ⟨s.c.c.1.toArray⟩, .string ⟨s.c.c.2.toArray⟩, .string ⟨s.c.w2.toArray⟩]), .eq (.slice ao hs.length cp), .strsK (whosF hs), .eq (.pointer (some ⟨A, 9, none⟩)), .eq (.pointer (some ⟨A, 11, none⟩)), .eq (.string ⟨s.f.2.toArray⟩), .eq (.bool (stepF hs s.c (whosF hs) s.f.2)), .eq (.bool (stepF hs s.c (whosF hs) s.f.2))] : List Spec) [5, 6, 7, 8, 9, 10, 11, 12, 13, 14, 15, 16, 17, 18, 19, 20, 21, 22, 23, 24, 25, 26, 27, 4] [1, 2] (by kernel_rfl) (by kernel_rfl) (by rfl) (by kernel_rfl) ?start ?obs ?fin
      case start =>
        simp only [List.forall_mem_cons]; exact ⟨⟨_, rfl, rfl⟩, ⟨_, rfl, rfl⟩, fun _ h => by cases h⟩
      case obs =>
        refine Obs.cons none (by kernel_rfl) ?_ ?_
        · refine Ob.plain fun a w hR hk K k => ?_
          obtain ⟨_, e2, rfl⟩ := hk 2 (by decide)
          clear hk
          go_simp
          exact k _ _ (Chg.refl _ _) rfl
        refine Obs.cons none (by kernel_rfl) ?_ ?_
        · refine Ob.plain fun a w hR hk K k => ?_
          obtain ⟨_, e5, rfl⟩ := hk 5 (by decide)
          clear hk
          obtain ⟨⟨a0, a1, a2, a3, a4, a5, a6, a7, a8⟩, ⟨b0, b1, b2⟩⟩ := step_at_blk (blk_keep HT.out.1 hR id)
          simp only [Nat.zero_add] at a0 a1 a2 a3 a4 a5 a6 a7 a8 b0 b1 b2
          go_simp
          exact k _ _ (Chg.refl _ _) rfl
        refine Obs.cons none (by kernel_rfl) ?_ ?_
        · refine Ob.plain fun a w hR hk K k => ?_
          obtain ⟨_, e6, rfl⟩ := hk 6 (by decide)
          clear hk
          have hq := cright_ref s.c w HS.out.1
          unfold credV credBox at hq
          rw [HR.out] at hq
          go_simp
          refine hq.mono ?_
          rintro e w2 ⟨rfl, hc⟩
          exact k _ _ hc rfl
        refine Obs.cons none (by kernel_rfl) ?_ ?_
        · refine Ob.plain fun a w hR hk K k => ?_
          obtain ⟨_, e7, f7⟩ := hk 7 (by decide)
          clear hk
          go_simp
          exact k _ _ (Chg.refl _ _) f7
        refine Obs.cons (some (8, true)) (by kernel_rfl) ?_ ?_
        · refine Ob.yes (fun _ _ h => h) fun a w hR hk K k => ?_
          obtain ⟨_, e2, rfl⟩ := hk 2 (by decide)
          clear hk
          go_simp
          exact k _ _ (Chg.refl _ _) rfl
        refine Obs.cons (some (8, true)) (by kernel_rfl) ?_ ?_
        · refine Ob.yes (fun _ _ h => h) fun a w hR hk K k => ?_
          obtain ⟨_, e9, rfl⟩ := hk 9 (by decide)
          clear hk
          go_simp
          exact k _ _ (Chg.refl _ _) rfl
        refine Obs.cons (some (8, true)) (by kernel_rfl) ?_ ?_
        · refine Ob.yes (fun _ _ h => h) fun a w hR hk K k => ?_
          obtain ⟨_, e10, rfl⟩ := hk 10 (by decide)
          clear hk
          obtain ⟨⟨a0, a1, a2, a3, a4, a5, a6, a7, a8⟩, ⟨b0, b1, b2⟩⟩ := step_at_blk (blk_keep HT.out.1 hR id)
          simp only [Nat.zero_add] at a0 a1 a2 a3 a4 a5 a6 a7 a8 b0 b1 b2
          go_simp
          exact k _ _ (Chg.refl _ _) rfl
        refine Obs.cons (some (8, true)) (by kernel_rfl) ?_ ?_
        · refine Ob.yes (fun _ _ h => h) fun a w hR hk K k => ?_
          obtain ⟨_, e2, rfl⟩ := hk 2 (by decide)
          clear hk
          go_simp
          exact k _ _ (Chg.refl _ _) rfl
        refine Obs.cons (some (8, true)) (by kernel_rfl) ?_ ?_
        · refine Ob.yes (fun _ _ h => h) fun a w hR hk K k => ?_
          obtain ⟨_, e12, rfl⟩ := hk 12 (by decide)
          clear hk
          go_simp
          exact k _ _ (Chg.refl _ _) rfl
        refine Obs.cons (some (8, true)) (by kernel_rfl) ?_ ?_
        · refine Ob.yes (fun _ _ h => h) fun a w hR hk K k => ?_
          obtain ⟨_, e13, rfl⟩ := hk 13 (by decide)
          clear hk
          obtain ⟨⟨a0, a1, a2, a3, a4, a5, a6, a7, a8⟩, ⟨b0, b1, b2⟩⟩ := step_at_blk (blk_keep HT.out.1 hR id)
          simp only [Nat.zero_add] at a0 a1 a2 a3 a4 a5 a6 a7 a8 b0 b1 b2
          go_simp
          exact k _ _ (Chg.refl _ _) rfl
        refine Obs.cons (some (8, true)) (by kernel_rfl) ?_ ?_
        · refine Ob.yes (fun _ _ h => h) fun a w hR hk K k => ?_
          obtain ⟨_, e11, rfl⟩ := hk 11 (by decide)
          obtain ⟨_, e14, rfl⟩ := hk 14 (by decide)
          clear hk
          go_simp
          exact k _ _ (Chg.refl _ _) (by show Value.bool _ = Value.bool _; rw [HEQ.out])
        refine Obs.cons none (by kernel_rfl) ?_ ?_
        · refine Ob.plain fun a w hR hk K k => ?_
          obtain ⟨_, e8, rfl⟩ := hk 8 (by decide)
          obtain ⟨_, e15, rfl⟩ := hk 15 (by decide)
          clear hk
          go_simp
          exact k _ _ (Chg.refl _ _) rfl
        refine Obs.cons none (by kernel_rfl) ?_ ?_
        · refine Ob.plain fun a w hR hk K k => ?_
          obtain ⟨_, e16, f16⟩ := hk 16 (by decide)
          clear hk
          go_simp
          exact k _ _ (Chg.refl _ _) f16
        refine Obs.cons (some (17, true)) (by kernel_rfl) ?_ ?_
        · refine Ob.yes (fun _ _ h => h) fun a w hR hk K k => ?_
          obtain ⟨_, e1, f1⟩ := hk 1 (by decide)
          clear hk
          go_simp
          exact k _ _ (Chg.refl _ _) f1
        refine Obs.cons (some (17, true)) (by kernel_rfl) ?_ ?_
        · refine Ob.yes (fun _ _ h => h) fun a w hR hk K k => ?_
          obtain ⟨_, e2, rfl⟩ := hk 2 (by decide)
          clear hk
          go_simp
          exact k _ _ (Chg.refl _ _) rfl
        refine Obs.cons (some (17, true)) (by kernel_rfl) ?_ ?_
        · refine Ob.yes (fun _ _ h => h) fun a w hR hk K k => ?_
          obtain ⟨_, e19, rfl⟩ := hk 19 (by decide)
          clear hk
          obtain ⟨⟨a0, a1, a2, a3, a4, a5, a6, a7, a8⟩, ⟨b0, b1, b2⟩⟩ := step_at_blk (blk_keep HT.out.1 hR id)
          simp only [Nat.zero_add] at a0 a1 a2 a3 a4 a5 a6 a7 a8 b0 b1 b2
          go_simp
          exact k _ _ (Chg.refl _ _) rfl
        refine Obs.cons (some (17, true)) (by kernel_rfl) ?_ ?_
        · refine Ob.yes (fun _ _ h => h) fun a w hR hk K k => ?_
          obtain ⟨_, e1, f1⟩ := hk 1 (by decide)
          clear hk
          go_simp
          exact k _ _ (Chg.refl _ _) f1
        refine Obs.cons (some (17, true)) (by kernel_rfl) ?_ ?_
        · refine Ob.yes (fun _ _ h => h) fun a w hR hk K k => ?_
          obtain ⟨_, e21, rfl⟩ := hk 21 (by decide)
          clear hk
          have hq := rknames ao cp hs w (by omega) (HT.out.2.keep hR (fun _ _ => id))
          go_simp
          refine hq.mono ?_
          rintro e w2 ⟨a9, c9, rfl, hown, hc⟩
          obtain ⟨a8, c8, hv8, hst8⟩ := hown.strs HS.out.2
          cases hv8
          exact k _ _ hc ⟨_, _, rfl, hst8.mono (fun _ _ => trivial)⟩
        refine Obs.cons (some (17, true)) (by kernel_rfl) ?_ ?_
        · refine Ob.yes (fun _ _ h => h) fun a w hR hk K k => ?_
          obtain ⟨_, e2, rfl⟩ := hk 2 (by decide)
          clear hk
          go_simp
          exact k _ _ (Chg.refl _ _) rfl
        refine Obs.cons (some (17, true)) (by kernel_rfl) ?_ ?_
        · refine Ob.yes (fun _ _ h => h) fun a w hR hk K k => ?_
          obtain ⟨_, e23, rfl⟩ := hk 23 (by decide)
          clear hk
          go_simp
          exact k _ _ (Chg.refl _ _) rfl
        refine Obs.cons (some (17, true)) (by kernel_rfl) ?_ ?_
        · refine Ob.yes (fun _ _ h => h) fun a w hR hk K k => ?_
          obtain ⟨_, e24, rfl⟩ := hk 24 (by decide)
          clear hk
          obtain ⟨⟨a0, a1, a2, a3, a4, a5, a6, a7, a8⟩, ⟨b0, b1, b2⟩⟩ := step_at_blk (blk_keep HT.out.1 hR id)
          simp only [Nat.zero_add] at a0 a1 a2 a3 a4 a5 a6 a7 a8 b0 b1 b2
          go_simp
          exact k _ _ (Chg.refl _ _) rfl
        refine Obs.cons (some (17, true)) (by kernel_rfl) ?_ ?_
        · refine Ob.yes (fun _ _ h => h) fun a w hR hk K k => ?_
          obtain ⟨_, e18, rfl⟩ := hk 18 (by decide)
          obtain ⟨_, e20, rfl⟩ := hk 20 (by decide)
          obtain ⟨_, e22, f22⟩ := hk 22 (by decide)
          obtain ⟨_, e25, rfl⟩ := hk 25 (by decide)
          clear hk
          obtain ⟨an, cn, rfl, hst⟩ := f22
          have hq := rfstep ao an cp cn hs s.c (whosF hs) s.f.2 w (by omega) (by rw [whosF_len]; omega) (HT.out.2.keep hR (fun _ _ => id)) hst
          unfold credV credBox at hq
          go_simp
          refine hq.mono ?_
          rintro e w2 ⟨rfl, hc⟩
          exact k _ _ hc rfl
        refine Obs.cons none (by kernel_rfl) ?_ ?_
        · refine Ob.plain fun a w hR hk K k => ?_
          obtain ⟨_, e17, rfl⟩ := hk 17 (by decide)
          obtain ⟨_, e26, rfl⟩ := hk 26 (by decide)
          clear hk
          go_simp
          exact k _ _ (Chg.refl _ _) rfl
        refine Obs.cons none (by kernel_rfl) ?_ ?_
        · refine Ob.plain fun a w hR hk K k => ?_
          obtain ⟨_, e27, f27⟩ := hk 27 (by decide)
          clear hk
          go_simp
          exact k _ _ (Chg.refl _ _) f27
        exact Obs.nil
      case fin =>
        intro vals w9 hc9 hv
        have h4 : vals 4 = .bool (stepF hs s.c (whosF hs) s.f.2) := hv 4 (by decide)
        simp only [putAll, List.setIfInBounds_toArray, List.set_cons_zero, List.set_cons_succ, h4]
        clear hv h4
        go_wp2
        go_ret
        exact ⟨by rw [HRES.out]; rfl, HC0.out.trans hc9 (fun _ _ h => h)⟩
    · have HEQ : Hid (decide (s.f.1 = s.c.head) = false) := hid (decide_eq_false he)
      have HRES : Hid (followsK s hs = false) := hid (by unfold followsK; rw [HEQ.out]; simp)
      clear hr he
      refine wp_region_specs ([.any, .eq (.slice ao hs.length cp), .eq (.pointer (some ⟨A, 0, none⟩)), .any, .eq (.bool false), .eq (.pointer (some ⟨A, 0, none⟩)), .eq (.agg #[.int .i64 s.c.kind, .string ⟨s.c.head.1.toArray⟩, .string ⟨s.c.head.2.toArray⟩, .string ⟨s.c.who.toArray⟩, .string ⟨s.c.b.1.toArray⟩, .string ⟨s.c.b.2.toArray⟩, .string ⟨s.c.c.1.toArray⟩, .string ⟨s.c.c.2.toArray⟩, .string ⟨s.c.w2.toArray⟩]), .eq (.bool true), .eq (.bool true), .eq (.pointer (some ⟨A, 9, none⟩)), .eq (.pointer (some ⟨A, 9, none⟩)), .eq (.agg #[.string ⟨s.f.1.1.toArray⟩, .string ⟨s.f.1.2.toArray⟩]), .eq (.pointer (some ⟨A, 0, none⟩)), .eq (.pointer (some ⟨A, 1, none⟩)), .eq (.agg #[.string ⟨s.c.head.1.toArray⟩, .string ⟨s.c.head.2.toArray⟩]), .eq (.bool false), .eq (.bool false), .eq (.bool false), .any, .any, .any, .any, .any, .any, .any, .any, .any, .eq (.bool false)] : List Spec) [5, 6, 7, 8, 9, 10, 11, 12, 13, 14, 15, 16, 17, 18, 19, 20, 21, 22, 23, 24, 25, 26, 27, 4] [1, 2] (by kernel_rfl) (by kernel_rfl) (by rfl) (by kernel_rfl) ?start ?obs ?fin
      case start =>
        simp only [List.forall_mem_cons]; exact ⟨⟨_, rfl, rfl⟩, ⟨_, rfl, rfl⟩, fun _ h => by cases h⟩
      case obs =>
        refine Obs.cons none (by kernel_rfl) ?_ ?_
        · refine Ob.plain fun a w hR hk K k => ?_
          obtain ⟨_, e2, rfl⟩ := hk 2 (by decide)
          clear hk
          go_simp
          exact k _ _ (Chg.refl _ _) rfl
        refine Obs.cons none (by kernel_rfl) ?_ ?_
        · refine Ob.plain fun a w hR hk K k => ?_
          obtain ⟨_, e5, rfl⟩ := hk 5 (by decide)
          clear hk
          obtain ⟨⟨a0, a1, a2, a3, a4, a5, a6, a7, a8⟩, ⟨b0, b1, b2⟩⟩ := step_at_blk (blk_keep HT.out.1 hR id)
          simp only [Nat.zero_add] at a0 a1 a2 a3 a4 a5 a6 a7 a8 b0 b1 b2
          go_simp
          exact k _ _ (Chg.refl _ _) rfl
        refine Obs.cons none (by kernel_rfl) ?_ ?_
        · refine Ob.plain fun a w hR hk K k => ?_
          obtain ⟨_, e6, rfl⟩ := hk 6 (by decide)
          clear hk
          have hq := cright_ref s.c w HS.out.1
          unfold credV credBox at hq
          rw [HR.out] at hq
          go_simp
          refine hq.mono ?_
          rintro e w2 ⟨rfl, hc⟩
          exact k _ _ hc rfl
        refine Obs.cons none (by kernel_rfl) ?_ ?_
        · refine Ob.plain fun a w hR hk K k => ?_
          obtain ⟨_, e7, f7⟩ := hk 7 (by decide)
          clear hk
          go_simp
          exact k _ _ (Chg.refl _ _) f7
        refine Obs.cons (some (8, true)) (by kernel_rfl) ?_ ?_
        · refine Ob.yes (fun _ _ h => h) fun a w hR hk K k => ?_
          obtain ⟨_, e2, rfl⟩ := hk 2 (by decide)
          clear hk
          go_simp
          exact k _ _ (Chg.refl _ _) rfl
        refine Obs.cons (some (8, true)) (by kernel_rfl) ?_ ?_
        · refine Ob.yes (fun _ _ h => h) fun a w hR hk K k => ?_
          obtain ⟨_, e9, rfl⟩ := hk 9 (by decide)
          clear hk
          go_simp
          exact k _ _ (Chg.refl _ _) rfl
        refine Obs.cons (some (8, true)) (by kernel_rfl) ?_ ?_
        · refine Ob.yes (fun _ _ h => h) fun a w hR hk K k => ?_
          obtain ⟨_, e10, rfl⟩ := hk 10 (by decide)
          clear hk
          obtain ⟨⟨a0, a1, a2, a3, a4, a5, a6, a7, a8⟩, ⟨b0, b1, b2⟩⟩ := step_at_blk (blk_keep HT.out.1 hR id)
          simp only [Nat.zero_add] at a0 a1 a2 a3 a4 a5 a6 a7 a8 b0 b1 b2
          go_simp
          exact k _ _ (Chg.refl _ _) rfl
        refine Obs.cons (some (8, true)) (by kernel_rfl) ?_ ?_
        · refine Ob.yes (fun _ _ h => h) fun a w hR hk K k => ?_
          obtain ⟨_, e2, rfl⟩ := hk 2 (by decide)
          clear hk
          go_simp
          exact k _ _ (Chg.refl _ _) rfl
        refine Obs.cons (some (8, true)) (by kernel_rfl) ?_ ?_
        · refine Ob.yes (fun _ _ h => h) fun a w hR hk K k => ?_
          obtain ⟨_, e12, rfl⟩ := hk 12 (by decide)
          clear hk
          go_simp
          exact k _ _ (Chg.refl _ _) rfl
        refine Obs.cons (some (8, true)) (by kernel_rfl) ?_ ?_
        · refine Ob.yes (fun _ _ h => h) fun a w hR hk K k => ?_
          obtain ⟨_, e13, rfl⟩ := hk 13 (by decide)
          clear hk
          obtain ⟨⟨a0, a1, a2, a3, a4, a5, a6, a7, a8⟩, ⟨b0, b1, b2⟩⟩ := step_at_blk (blk_keep HT.out.1 hR id)
          simp only [Nat.zero_add] at a0 a1 a2 a3 a4 a5 a6 a7 a8 b0 b1 b2
          go_simp
          exact k _ _ (Chg.refl _ _) rfl
        refine Obs.cons (some (8, true)) (by kernel_rfl) ?_ ?_
        · refine Ob.yes (fun _ _ h => h) fun a w hR hk K k => ?_
          obtain ⟨_, e11, rfl⟩ := hk 11 (by decide)
          obtain ⟨_, e14, rfl⟩ := hk 14 (by decide)
          clear hk
          go_simp
          exact k _ _ (Chg.refl _ _) (by show Value.bool _ = Value.bool _; rw [HEQ.out])
        refine Obs.cons none (by kernel_rfl) ?_ ?_
        · refine Ob.plain fun a w hR hk K k => ?_
          obtain ⟨_, e8, rfl⟩ := hk 8 (by decide)
          obtain ⟨_, e15, rfl⟩ := hk 15 (by decide)
          clear hk
          go_simp
          exact k _ _ (Chg.refl _ _) rfl
        refine Obs.cons none (by kernel_rfl) ?_ ?_
        · refine Ob.plain fun a w hR hk K k => ?_
          obtain ⟨_, e16, f16⟩ := hk 16 (by decide)
          clear hk
          go_simp
          exact k _ _ (Chg.refl _ _) f16
        refine Obs.cons (some (17, true)) (by kernel_rfl) ?_ ?_
        · exact Ob.no (fun _ _ h => h) (Chg.refl _) (fun _ _ => trivial)
        refine Obs.cons (some (17, true)) (by kernel_rfl) ?_ ?_
        · exact Ob.no (fun _ _ h => h) (Chg.refl _) (fun _ _ => trivial)
        refine Obs.cons (some (17, true)) (by kernel_rfl) ?_ ?_
        · exact Ob.no (fun _ _ h => h) (Chg.refl _) (fun _ _ => trivial)
        refine Obs.cons (some (17, true)) (by kernel_rfl) ?_ ?_
        · exact Ob.no (fun _ _ h => h) (Chg.refl _) (fun _ _ => trivial)
        refine Obs.cons (some (17, true)) (by kernel_rfl) ?_ ?_
        · exact Ob.no (fun _ _ h => h) (Chg.refl _) (fun _ _ => trivial)
        refine Obs.cons (some (17, true)) (by kernel_rfl) ?_ ?_
        · exact Ob.no (fun _ _ h => h) (Chg.refl _) (fun _ _ => trivial)
        refine Obs.cons (some (17, true)) (by kernel_rfl) ?_ ?_
        · exact Ob.no (fun _ _ h => h) (Chg.refl _) (fun _ _ => trivial)
        refine Obs.cons (some (17, true)) (by kernel_rfl) ?_ ?_
        · exact Ob.no (fun _ _ h => h) (Chg.refl _) (fun _ _ => trivial)
        refine Obs.cons (some (17, true)) (by kernel_rfl) ?_ ?_
        · exact Ob.no (fun _ _ h => h) (Chg.refl _) (fun _ _ => trivial)
        refine Obs.cons none (by kernel_rfl) ?_ ?_
        · refine Ob.plain fun a w hR hk K k => ?_
          obtain ⟨_, e17, rfl⟩ := hk 17 (by decide)
          obtain ⟨_, e26, _⟩ := hk 26 (by decide)
          clear hk
          go_simp
          exact k _ _ (Chg.refl _ _) rfl
        refine Obs.cons none (by kernel_rfl) ?_ ?_
        · refine Ob.plain fun a w hR hk K k => ?_
          obtain ⟨_, e27, f27⟩ := hk 27 (by decide)
          clear hk
          go_simp
          exact k _ _ (Chg.refl _ _) f27
        exact Obs.nil
      case fin =>
        intro vals w9 hc9 hv
        have h4 : vals 4 = .bool false := hv 4 (by decide)
        simp only [putAll, List.setIfInBounds_toArray, List.set_cons_zero, List.set_cons_succ, h4]
        clear hv h4
        go_wp2
        go_ret
        exact ⟨by rw [HRES.out]; rfl, HC0.out.trans hc9 (fun _ _ h => h)⟩
  · have HR : Hid (isCred s.c = false) := hid (by simpa using hr)
    have HRES : Hid (followsK s hs = false) := hid (by unfold followsK; rw [HR.out]; simp)
    clear hr
    refine wp_region_specs ([.any, .eq (.slice ao hs.length cp), .eq (.pointer (some ⟨A, 0, none⟩)), .any, .eq (.bool false), .eq (.pointer (some ⟨A, 0, none⟩)), .eq (.agg #[.int .i64 s.c.kind, .string ⟨s.c.head.1.toArray⟩, .string ⟨s.c.head.2.toArray⟩, .string ⟨s.c.who.toArray⟩, .string ⟨s.c.b.1.toArray⟩, .string ⟨s.c.b.2.toArray⟩, .string ⟨s.c.c.1.toArray⟩, .string ⟨s.c.c.2.toArray⟩, .string ⟨s.c.w2.toArray⟩]), .eq (.bool false), .eq (.bool false), .any, .any, .any, .any, .any, .any, .any, .eq (.bool false), .eq (.bool false), .any, .any, .any, .any, .any, .any, .any, .any, .any, .eq (.bool false)] : List Spec) [5, 6, 7, 8, 9, 10, 11, 12, 13, 14, 15, 16, 17, 18, 19, 20, 21, 22, 23, 24, 25, 26, 27, 4] [1, 2] (by kernel_rfl) (by kernel_rfl) (by rfl) (by kernel_rfl) ?start ?obs ?fin
    case start =>
      simp only [List.forall_mem_cons]; exact ⟨⟨_, rfl, rfl⟩, ⟨_, rfl, rfl⟩, fun _ h => by cases h⟩
    case obs =>
      refine Obs.cons none (by kernel_rfl) ?_ ?_
      · refine Ob.plain fun a w hR hk K k => ?_
        obtain ⟨_, e2, rfl⟩ := hk 2 (by decide)
        clear hk
        go_simp
        exact k _ _ (Chg.refl _ _) rfl
      refine Obs.cons none (by kernel_rfl) ?_ ?_
      · refine Ob.plain fun a w hR hk K k => ?_
        obtain ⟨_, e5, rfl⟩ := hk 5 (by decide)
        clear hk
        obtain ⟨⟨a0, a1, a2, a3, a4, a5, a6, a7, a8⟩, ⟨b0, b1, b2⟩⟩ := step_at_blk (blk_keep HT.out.1 hR id)
        simp only [Nat.zero_add] at a0 a1 a2 a3 a4 a5 a6 a7 a8 b0 b1 b2
        go_simp
        exact k _ _ (Chg.refl _ _) rfl
      refine Obs.cons none (by kernel_rfl) ?_ ?_
      · refine Ob.plain fun a w hR hk K k => ?_
        obtain ⟨_, e6, rfl⟩ := hk 6 (by decide)
        clear hk
        have hq := cright_ref s.c w HS.out.1
        unfold credV credBox at hq
        rw [HR.out] at hq
        go_simp
        refine hq.mono ?_
        rintro e w2 ⟨rfl, hc⟩
        exact k _ _ hc rfl
      refine Obs.cons none (by kernel_rfl) ?_ ?_
      · refine Ob.plain fun a w hR hk K k => ?_
        obtain ⟨_, e7, f7⟩ := hk 7 (by decide)
        clear hk
        go_simp
        exact k _ _ (Chg.refl _ _) f7
      refine Obs.cons (some (8, true)) (by kernel_rfl) ?_ ?_
      · exact Ob.no (fun _ _ h => h) (Chg.refl _) (fun _ _ => trivial)
      refine Obs.cons (some (8, true)) (by kernel_rfl) ?_ ?_
      · exact Ob.no (fun _ _ h => h) (Chg.refl _) (fun _ _ => trivial)
      refine Obs.cons (some (8, true)) (by kernel_rfl) ?_ ?_
      · exact Ob.no (fun _ _ h => h) (Chg.refl _) (fun _ _ => trivial)
      refine Obs.cons (some (8, true)) (by kernel_rfl) ?_ ?_
      · exact Ob.no (fun _ _ h => h) (Chg.refl _) (fun _ _ => trivial)
      refine Obs.cons (some (8, true)) (by kernel_rfl) ?_ ?_
      · exact Ob.no (fun _ _ h => h) (Chg.refl _) (fun _ _ => trivial)
      refine Obs.cons (some (8, true)) (by kernel_rfl) ?_ ?_
      · exact Ob.no (fun _ _ h => h) (Chg.refl _) (fun _ _ => trivial)
      refine Obs.cons (some (8, true)) (by kernel_rfl) ?_ ?_
      · exact Ob.no (fun _ _ h => h) (Chg.refl _) (fun _ _ => trivial)
      refine Obs.cons none (by kernel_rfl) ?_ ?_
      · refine Ob.plain fun a w hR hk K k => ?_
        obtain ⟨_, e8, rfl⟩ := hk 8 (by decide)
        obtain ⟨_, e15, _⟩ := hk 15 (by decide)
        clear hk
        go_simp
        exact k _ _ (Chg.refl _ _) rfl
      refine Obs.cons none (by kernel_rfl) ?_ ?_
      · refine Ob.plain fun a w hR hk K k => ?_
        obtain ⟨_, e16, f16⟩ := hk 16 (by decide)
        clear hk
        go_simp
        exact k _ _ (Chg.refl _ _) f16
      refine Obs.cons (some (17, true)) (by kernel_rfl) ?_ ?_
      · exact Ob.no (fun _ _ h => h) (Chg.refl _) (fun _ _ => trivial)
      refine Obs.cons (some (17, true)) (by kernel_rfl) ?_ ?_
      · exact Ob.no (fun _ _ h => h) (Chg.refl _) (fun _ _ => trivial)
      refine Obs.cons (some (17, true)) (by kernel_rfl) ?_ ?_
      · exact Ob.no (fun _ _ h => h) (Chg.refl _) (fun _ _ => trivial)
      refine Obs.cons (some (17, true)) (by kernel_rfl) ?_ ?_
      · exact Ob.no (fun _ _ h => h) (Chg.refl _) (fun _ _ => trivial)
      refine Obs.cons (some (17, true)) (by kernel_rfl) ?_ ?_
      · exact Ob.no (fun _ _ h => h) (Chg.refl _) (fun _ _ => trivial)
      refine Obs.cons (some (17, true)) (by kernel_rfl) ?_ ?_
      · exact Ob.no (fun _ _ h => h) (Chg.refl _) (fun _ _ => trivial)
      refine Obs.cons (some (17, true)) (by kernel_rfl) ?_ ?_
      · exact Ob.no (fun _ _ h => h) (Chg.refl _) (fun _ _ => trivial)
      refine Obs.cons (some (17, true)) (by kernel_rfl) ?_ ?_
      · exact Ob.no (fun _ _ h => h) (Chg.refl _) (fun _ _ => trivial)
      refine Obs.cons (some (17, true)) (by kernel_rfl) ?_ ?_
      · exact Ob.no (fun _ _ h => h) (Chg.refl _) (fun _ _ => trivial)
      refine Obs.cons none (by kernel_rfl) ?_ ?_
      · refine Ob.plain fun a w hR hk K k => ?_
        obtain ⟨_, e17, rfl⟩ := hk 17 (by decide)
        obtain ⟨_, e26, _⟩ := hk 26 (by decide)
        clear hk
        go_simp
        exact k _ _ (Chg.refl _ _) rfl
      refine Obs.cons none (by kernel_rfl) ?_ ?_
      · refine Ob.plain fun a w hR hk K k => ?_
        obtain ⟨_, e27, f27⟩ := hk 27 (by decide)
        clear hk
        go_simp
        exact k _ _ (Chg.refl _ _) f27
      exact Obs.nil
    case fin =>
      intro vals w9 hc9 hv
      have h4 : vals 4 = .bool false := hv 4 (by decide)
      simp only [putAll, List.setIfInBounds_toArray, List.set_cons_zero, List.set_cons_succ, h4]
      clear hv h4
      go_wp2
      go_ret
      exact ⟨by rw [HRES.out]; rfl, HC0.out.trans hc9 (fun _ _ h => h)⟩
end Go.Proofs.Ytmmkopdcbiiedaa
