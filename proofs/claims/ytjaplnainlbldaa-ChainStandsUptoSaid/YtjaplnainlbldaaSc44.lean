/- Facts that are known: none yet; is one among them? -/
import Derived.Test.YtjaplnainlbldaaSc12
namespace Go.Proofs.Ytjaplnainlbldaa
open Go.RowKit Go.Maps

/-- What a new one is. -/
def NewK (w : World) (e : Ending) (w' : World) : Prop := ∃ T, e = .returned (.pointer (some ⟨w.heap.size + 2, 0, none⟩)) ∧ KS T w' (w.heap.size + 2) [] ∧ Chg (fun _ => False) w w' ∧ ∀ b, T b ≠ none → w.heap.size ≤ b

set_option maxRecDepth 100000 in
set_option maxHeartbeats 1000000 in
theorem kw_new (w : World) : Calls Try.prog 50 #[] w (NewK w) := by
  have hk := kparts_made w
  have hc : Chg (fun _ => False) w (((w.alloc (.map #[] 0)).alloc (.map #[] 0)).alloc (.cells #[.slice none 0 0, .map (some w.heap.size), .map (some (w.heap.size + 1))] 152)) := (((Chg.refl _ _).alloc _).alloc _).alloc _
  have HH := hid (show NewK w (.returned (.pointer (some ⟨w.heap.size + 2, 0, none⟩))) _ from ⟨_, rfl, hk, hc, fun b hb => by
    by_cases e2 : b = w.heap.size + 2
    · omega
    · rw [putT_ne e2] at hb
      by_cases e1 : b = w.heap.size + 1
      · omega
      · rw [putT_ne e1] at hb
        by_cases e0 : b = w.heap.size
        · omega
        · rw [putT_ne e0] at hb
          exact absurd rfl hb⟩)
  clear hk hc
  have hmm := @run_makeMap Try.prog
  go_enter Try.func50, Try.ntmps50
  go_wp2
  go_ret
  exact HH.out

def khSpecs (g A m : Nat) (f : FactB) (x : Value) (b : Bool) : List Spec := [.eq (.pointer (some ⟨g, 0, none⟩)), .any, .any, .eq (.pointer (some ⟨A, 0, none⟩)), .any, .eq (x), .eq (.bool b), .eq (.tuple #[x, .bool b]), .eq (.pointer (some ⟨g, 0, none⟩)), .eq (.pointer (some ⟨g, 0, none⟩)), .eq (.pointer (some ⟨g, 1, none⟩)), .eq (.map (some m)), .eq (.agg #[.string ⟨f.1.1.toArray⟩, .string ⟨f.1.2.toArray⟩, .string ⟨f.2.toArray⟩]), .eq (.tuple #[x, .bool b]), .eq (x), .eq (.bool b), .any]

set_option maxRecDepth 100000 in
set_option maxHeartbeats 1000000 in
theorem kw_has {T : Nat → Option KTag} (g : Nat) (F : List FactB) (f : FactB) (w : World) (h : KS T w g F) (hf : factShort f 9223372036854775807) :
    Calls Try.prog 53 #[.pointer (some ⟨g, 0, none⟩), .agg #[.string ⟨f.1.1.toArray⟩, .string ⟨f.1.2.toArray⟩, .string ⟨f.2.toArray⟩]] w fun e w' => e = .returned (.bool (decide (f ∈ F))) ∧ Chg (fun _ => False) w w' := by
  have hc1 : Chg (fun _ => False) w (w.alloc (.cells #[.string ⟨f.1.1.toArray⟩, .string ⟨f.1.2.toArray⟩, .string ⟨f.2.toArray⟩] 26)) := (Chg.refl _ w).alloc _
  have hb1 : (w.alloc (.cells #[.string ⟨f.1.1.toArray⟩, .string ⟨f.1.2.toArray⟩, .string ⟨f.2.toArray⟩] 26)).heap[w.heap.size]? = some (.cells #[.string ⟨f.1.1.toArray⟩, .string ⟨f.1.2.toArray⟩, .string ⟨f.2.toArray⟩] 26 (0, 0)) := heap_alloc_new w _
  obtain ⟨⟨v, m, m2, Sl, hp⟩, _⟩ := h
  have hp1 := hp.keep hc1 (fun _ _ => id)
  have hl : ∀ w', Chg (fun _ => False) (w.alloc (.cells #[.string ⟨f.1.1.toArray⟩, .string ⟨f.1.2.toArray⟩, .string ⟨f.2.toArray⟩] 26)) w' → (Instr.lookup 82 (.map (some m)) (.agg #[.string ⟨f.1.1.toArray⟩, .string ⟨f.1.2.toArray⟩, .string ⟨f.2.toArray⟩]) true).run Try.prog w' = .ok (.tuple #[(atF F f).getD (.int .i64 0), .bool (decide (f ∈ F))]) w' := fun w' hc => by
    have := (hp1.kat.keep hc id).look_ok (t := 82) (e := 3) Try.underlying82 (mZeroAt w') (a := f) hf
    rw [atF_some] at this
    exact this
  have x0 := cell_blk hp1.blk 1
  have x1 := cell_blk hb1 0
  have x2 := cell_blk hb1 1
  have x3 := cell_blk hb1 2
  simp only [List.getElem?_toArray, List.getElem?_cons_zero, List.getElem?_cons_succ] at x0 x1 x2 x3
  have HX := hid (And.intro x0 (And.intro x1 (And.intro x2 x3)))
  have HL := hid hl
  have HC := hid hc1
  clear hp hp1 hb1 hl x0 x1 x2 x3 hc1
  generalize (atF F f).getD (.int .i64 0) = x at *
  generalize decide (f ∈ F) = b at *
  go_enter Try.func53, Try.ntmps53
  go_wp2_with fail
  generalize (w.alloc (.cells #[.string ⟨f.1.1.toArray⟩, .string ⟨f.1.2.toArray⟩, .string ⟨f.2.toArray⟩] 26)) = w1 at *
  obtain ⟨A, hAe⟩ : ∃ A, w.heap.size = A := ⟨_, rfl⟩
  simp only [hAe] at HX ⊢
  clear hAe
  refine wp_region_specs (khSpecs g A m f x b) [8, 9, 10, 11, 12, 13, 7, 14, 15, 5, 6] [0, 3] (by kernel_rfl) (by kernel_rfl) (by rfl) (by kernel_rfl) ?start ?obs ?fin
  case start =>
    simp only [List.forall_mem_cons]; exact ⟨⟨_, rfl, rfl⟩, ⟨_, rfl, rfl⟩, fun _ h => by cases h⟩
  case obs =>
    clear HC
    refine Obs.cons none (by kernel_rfl) ?_ ?_
    · refine Ob.plain fun a w hR hk K k => ?_
      obtain ⟨_, e0, f0⟩ := hk 0 (by decide)
      clear hk
      go_simp
      exact k _ _ (Chg.refl _ _) f0
    refine Obs.cons none (by kernel_rfl) ?_ ?_
    · refine Ob.plain fun a w hR hk K k => ?_
      obtain ⟨_, e8, rfl⟩ := hk 8 (by decide)
      clear hk
      go_simp
      exact k _ _ (Chg.refl _ _) rfl
    refine Obs.cons none (by kernel_rfl) ?_ ?_
    · refine Ob.plain fun a w hR hk K k => ?_
      obtain ⟨_, e9, rfl⟩ := hk 9 (by decide)
      clear hk
      go_simp
      exact k _ _ (Chg.refl _ _) rfl
    refine Obs.cons none (by kernel_rfl) ?_ ?_
    · refine Ob.plain fun a w hR hk K k => ?_
      obtain ⟨_, e10, rfl⟩ := hk 10 (by decide)
      clear hk
      have zz := hR.cell HX.out.1 id
      go_simp
      exact k _ _ (Chg.refl _ _) rfl
    refine Obs.cons none (by kernel_rfl) ?_ ?_
    · refine Ob.plain fun a w hR hk K k => ?_
      obtain ⟨_, e3, rfl⟩ := hk 3 (by decide)
      clear hk
      have z0 := hR.cell HX.out.2.1 id
      have z1 := hR.cell HX.out.2.2.1 id
      have z2 := hR.cell HX.out.2.2.2 id
      go_simp
      exact k _ _ (Chg.refl _ _) rfl
    refine Obs.cons none (by kernel_rfl) ?_ ?_
    · refine Ob.plain fun a w hR hk K k => ?_
      obtain ⟨_, e11, rfl⟩ := hk 11 (by decide)
      obtain ⟨_, e12, rfl⟩ := hk 12 (by decide)
      clear hk
      have q := HL.out w hR
      go_simp
      exact k _ _ (Chg.refl _ _) rfl
    refine Obs.cons none (by kernel_rfl) ?_ ?_
    · refine Ob.plain fun a w hR hk K k => ?_
      obtain ⟨_, e13, f13⟩ := hk 13 (by decide)
      clear hk
      go_simp
      exact k _ _ (Chg.refl _ _) f13
    refine Obs.cons none (by kernel_rfl) ?_ ?_
    · refine Ob.plain fun a w hR hk K k => ?_
      obtain ⟨_, e7, rfl⟩ := hk 7 (by decide)
      clear hk
      go_simp
      exact k _ _ (Chg.refl _ _) rfl
    refine Obs.cons none (by kernel_rfl) ?_ ?_
    · refine Ob.plain fun a w hR hk K k => ?_
      obtain ⟨_, e7, rfl⟩ := hk 7 (by decide)
      clear hk
      go_simp
      exact k _ _ (Chg.refl _ _) rfl
    refine Obs.cons none (by kernel_rfl) ?_ ?_
    · refine Ob.plain fun a w hR hk K k => ?_
      obtain ⟨_, e14, f14⟩ := hk 14 (by decide)
      clear hk
      go_simp
      exact k _ _ (Chg.refl _ _) f14
    refine Obs.cons none (by kernel_rfl) ?_ ?_
    · refine Ob.plain fun a w hR hk K k => ?_
      obtain ⟨_, e15, f15⟩ := hk 15 (by decide)
      clear hk
      go_simp
      exact k _ _ (Chg.refl _ _) f15
    exact Obs.nil
  case fin =>
    intro vals w9 hc9 hv
    have h6 : vals 6 = .bool b := hv 6 (by decide)
    simp only [putAll, List.setIfInBounds_toArray, List.set_cons_zero, List.set_cons_succ, h6]
    have HC9 := hid (HC.out.trans hc9 (fun _ _ h => h))
    clear hc9 hv h6 HC HX HL
    go_wp2
    go_ret
    exact ⟨rfl, HC9.out⟩
end Go.Proofs.Ytjaplnainlbldaa
