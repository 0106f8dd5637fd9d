/- Texts that the proof leans on, in one: ChFirst, ChFew, ChStandM. -/
import Derived.Test.YtjaplnainlbldaaSc42
import Derived.Test.YtjaplnainlbldaaSc10
import Derived.Test.YtjaplnainlbldaaSc40
import Derived.Test.YtjaplnainlbldaaSc14
import Derived.Test.YtjaplnainlbldaaSc41
import Derived.Test.YtjaplnainlbldaaSc8
/- Law 10's first. -/
namespace Go.Proofs.Ytjaplnainlbldaa
open Go.RowKit Go.Maps
def Spec.sl10 (n : Nat) : Spec := ⟨fun v _ => ∃ ao cap, v = .slice ao n cap, fun _ _ _ _ h => h⟩
def Spec.rows10 : Spec := ⟨fun v w => ∃ b, v = .slice (some ⟨b, 0, none⟩) 2 2 ∧ RowsAt (fun _ => True) w (some ⟨b, 0, none⟩) [[stX], [stX]], fun _ _ _ hc ⟨b, h1, h2⟩ => ⟨b, h1, h2.keep hc (fun _ _ => id)⟩⟩
theorem rows_two10 {w : World} {b lb lo cap : Nat} {ty : TypeId} {z : Nat × Nat} (hb : w.heap[b]? = some (.cells #[.slice (some ⟨lb, lo, none⟩) 1 cap, .slice (some ⟨lb, lo, none⟩) 1 cap] ty z)) (h : StepsAt (fun _ => True) w (some ⟨lb, lo, none⟩) [stX]) : RowsAt (fun _ => True) w (some ⟨b, 0, none⟩) [[stX], [stX]] := fun j hj => by
  rcases j with _ | _ | j
  · exact ⟨b, 0, _, cap, rfl, trivial, cell_blk hb 0, h, fun e => by cases e⟩
  · exact ⟨b, 0, _, cap, rfl, trivial, cell_blk hb 1, h, fun e => by cases e⟩
  · simp at hj; omega
theorem fB9_sh : factShort fB9 9223372036854775807 := by
  unfold factShort
  refine ⟨?_, ?_, ?_⟩ <;> decide
def w4 (w : World) : World := (((w.alloc (.cells #[.int .i64 1, .string ⟨#[98]⟩, .string ⟨#[115]⟩, .string ⟨#[100]⟩, .string ⟨#[]⟩, .string ⟨#[]⟩, .string ⟨#[]⟩, .string ⟨#[]⟩, .string ⟨#[]⟩] 36)).alloc (.cells #[.string ⟨#[98]⟩, .string ⟨#[115]⟩, .string ⟨#[100]⟩] 26)).alloc (.cells #[.int .i64 1, .string ⟨#[98]⟩, .string ⟨#[115]⟩, .string ⟨#[100]⟩, .string ⟨#[]⟩, .string ⟨#[]⟩, .string ⟨#[]⟩, .string ⟨#[]⟩, .string ⟨#[]⟩] 36))
theorem w4_chg (w : World) : Chg (fun _ => False) w (w4 w) := (((Chg.refl _ w).alloc _).alloc _).alloc _
theorem w4_size (w : World) : (w4 w).heap.size = w.heap.size + 3 := by unfold w4; simp
theorem w4_d (w : World) : (w4 w).heap[w.heap.size]? = some (.cells (credBox cM9) 36 (0, 0)) :=
  blk_keep (heap_alloc_new w _) (((Chg.refl (fun _ => False) _).alloc _).alloc _) id
theorem w4_f (w : World) : (w4 w).heap[w.heap.size + 1]? = some (.cells (factBox fB9) 26 (0, 0)) := by
  have h := heap_alloc_new (w.alloc (.cells #[.int .i64 1, .string ⟨#[98]⟩, .string ⟨#[115]⟩, .string ⟨#[100]⟩, .string ⟨#[]⟩, .string ⟨#[]⟩, .string ⟨#[]⟩, .string ⟨#[]⟩, .string ⟨#[]⟩] 36)) (.cells #[.string ⟨#[98]⟩, .string ⟨#[115]⟩, .string ⟨#[100]⟩] 26)
  rw [World.size_alloc] at h
  exact blk_keep h ((Chg.refl (fun _ => False) _).alloc _) id
theorem w4_c (w : World) : CredsAt (fun k => k = w.heap.size + 2) (w4 w) (some ⟨w.heap.size + 2, 0, none⟩) [cM9] := by
  have h := heap_alloc_new ((w.alloc (.cells #[.int .i64 1, .string ⟨#[98]⟩, .string ⟨#[115]⟩, .string ⟨#[100]⟩, .string ⟨#[]⟩, .string ⟨#[]⟩, .string ⟨#[]⟩, .string ⟨#[]⟩, .string ⟨#[]⟩] 36)).alloc (.cells #[.string ⟨#[98]⟩, .string ⟨#[115]⟩, .string ⟨#[100]⟩] 26)) (.cells #[.int .i64 1, .string ⟨#[98]⟩, .string ⟨#[115]⟩, .string ⟨#[100]⟩, .string ⟨#[]⟩, .string ⟨#[]⟩, .string ⟨#[]⟩, .string ⟨#[]⟩, .string ⟨#[]⟩] 36)
  rw [World.size_alloc, World.size_alloc] at h
  intro i hi
  have h0 : i = 0 := by simpa using hi
  subst h0
  exact ⟨w.heap.size + 2, 0, rfl, rfl, by rw [Nat.zero_mul, Nat.zero_add]; exact cred_at_blk (c := cM9) h, (short_M9).mono (by decide)⟩
set_option maxRecDepth 100000 in
set_option maxHeartbeats 2000000 in
theorem ch_first (w : World) :
    Calls Try.prog 7 #[] w (fun e w' => e = .returned (.bool true) ∧ Chg (fun _ => False) w w') := by
  have hf : Calls Try.prog 9 #[.slice (some ⟨w.heap.size + 1 + 1, 0, none⟩) 1 1, .agg #[.string ⟨#[98]⟩, .string ⟨#[115]⟩, .string ⟨#[100]⟩]] (w4 w) (FindPost [cM9] fB9 (w4 w)) :=
    ch_find (some ⟨w.heap.size + 1 + 1, 0, none⟩) 1 [cM9] fB9 (w4 w) (by decide) (w4_c w) (fun i hi => by rw [hi, w4_size]; omega) (fun h => by cases h) fB9_sh
  have HF := hid hf
  have HC := hid (And.intro (w4_chg w) (And.intro (w4_d w) (w4_f w)))
  have hsz := w4_size w
  clear hf
  unfold w4 at hsz HF HC
  go_enter Try.func7, Try.ntmps7
  go_wp2_with fail
  refine HF.out.mono ?_
  rintro e w5 ⟨v, R, b, rfl, h1, h2, h3⟩
  obtain ⟨rfl, rfl⟩ := h1.one fst_find
  have HC5 := hid (HC.out.1.trans h3 (fun _ _ h => h))
  have HB5 := hid (And.intro (blk_keep HC.out.2.1 h3 id) (blk_keep HC.out.2.2 h3 id))
  have f0 : w5.cell? ⟨w.heap.size + 1, 0, none⟩ = some (.string ⟨#[98]⟩) := cell_blk HB5.out.2 0
  have f1 : w5.cell? ⟨w.heap.size + 1, 1, none⟩ = some (.string ⟨#[115]⟩) := cell_blk HB5.out.2 1
  have f2 : w5.cell? ⟨w.heap.size + 1, 2, none⟩ = some (.string ⟨#[100]⟩) := cell_blk HB5.out.2 2
  have hN : Calls Try.prog 9 #[.slice none 0 0, .agg #[.string ⟨#[98]⟩, .string ⟨#[115]⟩, .string ⟨#[100]⟩]] w5 (FindPost [] fB9 w5) :=
    ch_find (D := fun _ => False) none 0 [] fB9 w5 (by decide) (fun i hi => absurd hi (Nat.not_lt_zero i)) (fun i hi => hi.elim) (fun _ => rfl) fB9_sh
  have HN := hid hN
  obtain ⟨ao, cap, rfl, hst, _⟩ := h2.steps (fun x hx => by
    rw [List.mem_singleton] at hx
    subst hx
    exact ⟨short_M9.mono (by decide), fB9_sh⟩)
  have HST := hid hst
  clear HF HC h1 h2 h3 hsz hst hN
  go_wp2_with fail
  refine HN.out.mono ?_
  rintro e w6 ⟨v6, R6, b6, rfl, h1, _, h3⟩
  obtain ⟨rfl, rfl⟩ := h1.one fst_none
  have HC6 := hid (HC5.out.trans h3 (fun _ _ h => h))
  have HB6 := hid (And.intro (blk_keep HB5.out.1 h3 id) (blk_keep HB5.out.2 h3 id))
  have hST6 := HST.out.keep h3 (fun _ _ => id)
  obtain ⟨lb, lo, rfl, _, _, _⟩ := hST6 0 (by decide)
  have HST6 := hid hST6
  clear HC5 HB5 HST HN h1 h3 f0 f1 f2 hST6
  go_wp2
  obtain ⟨HW10, hHW⟩ : ∃ HW10, HW10 = w.heap.size := ⟨_, rfl⟩
  rw [← hHW] at HB6 ⊢
  clear hHW
  refine wp_region_specs [.eq (.bool true), .eq (.pointer (some ⟨HW10, 0, none⟩)), .eq (.pointer (some ⟨HW10 + 1, 0, none⟩)), .eq (.slice (some ⟨lb, lo, none⟩) 1 cap), .eq (.bool true), .any, .eq (.bool false), .any, .any, .any, .any, .any, .any, .any, .any, .any, .any, .any, .any, .any, .any, .any, .any, .any, .eq (.bool true), .eq (.bool true), .eq (.bool false), .eq (.bool true), .eq (.bool true), .eq (.bool true), .eq (.slice (some ⟨lb, lo, none⟩) 1 cap), .eq (.int .i64 1), .eq (.bool true), .eq (.bool true), .eq (.bool true), .eq (.slice (some ⟨lb, lo, none⟩) 1 cap), .eq (.pointer (some ⟨lb, lo, none⟩)), .eq (.agg #[.int .i64 1, .string ⟨#[98]⟩, .string ⟨#[115]⟩, .string ⟨#[100]⟩, .string ⟨#[]⟩, .string ⟨#[]⟩, .string ⟨#[]⟩, .string ⟨#[]⟩, .string ⟨#[]⟩, .string ⟨#[98]⟩, .string ⟨#[115]⟩, .string ⟨#[100]⟩]), .eq (.agg #[.int .i64 1, .string ⟨#[98]⟩, .string ⟨#[115]⟩, .string ⟨#[100]⟩, .string ⟨#[]⟩, .string ⟨#[]⟩, .string ⟨#[]⟩, .string ⟨#[]⟩, .string ⟨#[]⟩]), .eq (.agg #[.string ⟨#[98]⟩, .string ⟨#[115]⟩, .string ⟨#[100]⟩]), .eq (.agg #[.int .i64 1, .string ⟨#[98]⟩, .string ⟨#[115]⟩, .string ⟨#[100]⟩, .string ⟨#[]⟩, .string ⟨#[]⟩, .string ⟨#[]⟩, .string ⟨#[]⟩, .string ⟨#[]⟩, .string ⟨#[98]⟩, .string ⟨#[115]⟩, .string ⟨#[100]⟩]), .eq (.bool true), .eq (.bool true), .eq (.bool true), .eq (.slice (some ⟨lb, lo, none⟩) 1 cap), .sl10 1, .eq (.int .i64 1), .eq (.bool true), .eq (.bool true), .eq (.bool true), .eq (.slice (some ⟨lb, lo, none⟩) 1 cap), .eq (.slice (some ⟨lb, lo, none⟩) 1 cap), .rows10, .sl10 1, .eq (.int .i64 1), .eq (.bool true), .eq (.bool true)] [24, 25, 26, 27, 28, 29, 30, 31, 32, 33, 34, 35, 36, 37, 38, 39, 40, 41, 42, 43, 44, 45, 46, 47, 48, 49, 50, 51, 52, 53, 54, 55, 56, 0] [1, 2, 3, 4, 6] (by kernel_rfl) (by kernel_rfl) (by rfl) (by kernel_rfl) ?start ?obs ?fin
  case start =>
    simp only [List.forall_mem_cons]; exact ⟨⟨_, rfl, rfl⟩, ⟨_, rfl, rfl⟩, ⟨_, rfl, rfl⟩, ⟨_, rfl, rfl⟩, ⟨_, rfl, rfl⟩, fun _ h => by cases h⟩
  case obs =>
    refine Obs.cons none (by kernel_rfl) ?_ ?_
    · refine Ob.plain fun a w hR hk K k => ?_
      obtain ⟨_, e4, f4⟩ := hk 4 (by decide)
      clear hk
      go_simp
      exact k _ _ (Chg.refl _ _) f4
    refine Obs.cons none (by kernel_rfl) ?_ ?_
    · refine Ob.plain fun a w hR hk K k => ?_
      obtain ⟨_, e24, f24⟩ := hk 24 (by decide)
      clear hk
      go_simp
      exact k _ _ (Chg.refl _ _) f24
    refine Obs.cons (some (25, true)) (by kernel_rfl) ?_ ?_
    · refine Ob.yes (fun _ _ h => h) fun a w hR hk K k => ?_
      obtain ⟨_, e6, f6⟩ := hk 6 (by decide)
      clear hk
      go_simp
      exact k _ _ (Chg.refl _ _) f6
    refine Obs.cons (some (25, true)) (by kernel_rfl) ?_ ?_
    · refine Ob.yes (fun _ _ h => h) fun a w hR hk K k => ?_
      obtain ⟨_, e26, rfl⟩ := hk 26 (by decide)
      clear hk
      go_simp
      exact k _ _ (Chg.refl _ _) rfl
    refine Obs.cons none (by kernel_rfl) ?_ ?_
    · refine Ob.plain fun a w hR hk K k => ?_
      obtain ⟨_, e25, rfl⟩ := hk 25 (by decide)
      obtain ⟨_, e27, rfl⟩ := hk 27 (by decide)
      clear hk
      go_simp
      exact k _ _ (Chg.refl _ _) rfl
    refine Obs.cons none (by kernel_rfl) ?_ ?_
    · refine Ob.plain fun a w hR hk K k => ?_
      obtain ⟨_, e28, f28⟩ := hk 28 (by decide)
      clear hk
      go_simp
      exact k _ _ (Chg.refl _ _) f28
    refine Obs.cons (some (29, true)) (by kernel_rfl) ?_ ?_
    · refine Ob.yes (fun _ _ h => h) fun a w hR hk K k => ?_
      obtain ⟨_, e3, f3⟩ := hk 3 (by decide)
      clear hk
      go_simp
      exact k _ _ (Chg.refl _ _) f3
    refine Obs.cons (some (29, true)) (by kernel_rfl) ?_ ?_
    · refine Ob.yes (fun _ _ h => h) fun a w hR hk K k => ?_
      obtain ⟨_, e30, rfl⟩ := hk 30 (by decide)
      clear hk
      go_simp
      exact k _ _ (Chg.refl _ _) rfl
    refine Obs.cons (some (29, true)) (by kernel_rfl) ?_ ?_
    · refine Ob.yes (fun _ _ h => h) fun a w hR hk K k => ?_
      obtain ⟨_, e31, rfl⟩ := hk 31 (by decide)
      clear hk
      go_simp
      exact k _ _ (Chg.refl _ _) rfl
    refine Obs.cons none (by kernel_rfl) ?_ ?_
    · refine Ob.plain fun a w hR hk K k => ?_
      obtain ⟨_, e29, rfl⟩ := hk 29 (by decide)
      obtain ⟨_, e32, rfl⟩ := hk 32 (by decide)
      clear hk
      go_simp
      exact k _ _ (Chg.refl _ _) rfl
    refine Obs.cons none (by kernel_rfl) ?_ ?_
    · refine Ob.plain fun a w hR hk K k => ?_
      obtain ⟨_, e33, f33⟩ := hk 33 (by decide)
      clear hk
      go_simp
      exact k _ _ (Chg.refl _ _) f33
    refine Obs.cons (some (34, true)) (by kernel_rfl) ?_ ?_
    · refine Ob.yes (fun _ _ h => h) fun a w hR hk K k => ?_
      obtain ⟨_, e3, f3⟩ := hk 3 (by decide)
      clear hk
      go_simp
      exact k _ _ (Chg.refl _ _) f3
    refine Obs.cons (some (34, true)) (by kernel_rfl) ?_ ?_
    · refine Ob.yes (fun _ _ h => h) fun a w hR hk K k => ?_
      obtain ⟨_, e35, rfl⟩ := hk 35 (by decide)
      clear hk
      go_simp
      exact k _ _ (Chg.refl _ _) rfl
    refine Obs.cons (some (34, true)) (by kernel_rfl) ?_ ?_
    · refine Ob.yes (fun _ _ h => h) fun a w hR hk K k => ?_
      obtain ⟨_, e36, rfl⟩ := hk 36 (by decide)
      clear hk
      obtain ⟨lb2, lo2, hlo, _, ⟨⟨a0, a1, a2, a3, a4, a5, a6, a7, a8⟩, ⟨b0, b1, b2⟩⟩, _⟩ := (HST6.out.keep hR (fun _ _ => id)) 0 (by decide)
      injection hlo with hlo
      injection hlo with e1 e2 _
      subst e1
      subst e2
      simp only [Nat.zero_mul, Nat.add_zero] at a0 a1 a2 a3 a4 a5 a6 a7 a8 b0 b1 b2
      change _ = some (Value.string ⟨#[98]⟩) at a1
      change _ = some (Value.string ⟨#[115]⟩) at a2
      change _ = some (Value.string ⟨#[100]⟩) at a3
      change _ = some (Value.string ⟨#[]⟩) at a4
      change _ = some (Value.string ⟨#[]⟩) at a5
      change _ = some (Value.string ⟨#[]⟩) at a6
      change _ = some (Value.string ⟨#[]⟩) at a7
      change _ = some (Value.string ⟨#[]⟩) at a8
      change _ = some (Value.string ⟨#[98]⟩) at b0
      change w.cell? ⟨lb, lo + 10, none⟩ = some (Value.string ⟨#[115]⟩) at b1
      change w.cell? ⟨lb, lo + 11, none⟩ = some (Value.string ⟨#[100]⟩) at b2
      change _ = some (Value.int .i64 1) at a0
      go_simp
      exact k _ _ (Chg.refl _ _) rfl
    refine Obs.cons (some (34, true)) (by kernel_rfl) ?_ ?_
    · refine Ob.yes (fun _ _ h => h) fun a w hR hk K k => ?_
      obtain ⟨_, e1, rfl⟩ := hk 1 (by decide)
      clear hk
      obtain ⟨a0, a1, a2, a3, a4, a5, a6, a7, a8⟩ := cred_at_blk (blk_keep HB6.out.1 hR id)
      simp only [Nat.zero_add] at a0 a1 a2 a3 a4 a5 a6 a7 a8
      change _ = some (Value.string ⟨#[98]⟩) at a1
      change _ = some (Value.string ⟨#[115]⟩) at a2
      change _ = some (Value.string ⟨#[100]⟩) at a3
      change _ = some (Value.string ⟨#[]⟩) at a4
      change _ = some (Value.string ⟨#[]⟩) at a5
      change _ = some (Value.string ⟨#[]⟩) at a6
      change _ = some (Value.string ⟨#[]⟩) at a7
      change _ = some (Value.string ⟨#[]⟩) at a8
      change _ = some (Value.int .i64 1) at a0
      go_simp
      exact k _ _ (Chg.refl _ _) rfl
    refine Obs.cons (some (34, true)) (by kernel_rfl) ?_ ?_
    · refine Ob.yes (fun _ _ h => h) fun a w hR hk K k => ?_
      obtain ⟨_, e2, rfl⟩ := hk 2 (by decide)
      clear hk
      have hb := blk_keep HB6.out.2 hR id
      have f0 : w.cell? ⟨HW10 + 1, 0, none⟩ = some (.string ⟨#[98]⟩) := cell_blk hb 0
      have f1 : w.cell? ⟨HW10 + 1, 1, none⟩ = some (.string ⟨#[115]⟩) := cell_blk hb 1
      have f2 : w.cell? ⟨HW10 + 1, 2, none⟩ = some (.string ⟨#[100]⟩) := cell_blk hb 2
      go_simp
      exact k _ _ (Chg.refl _ _) rfl
    refine Obs.cons (some (34, true)) (by kernel_rfl) ?_ ?_
    · refine Ob.yes (fun _ _ h => h) fun a w hR hk K k => ?_
      obtain ⟨_, e38, rfl⟩ := hk 38 (by decide)
      obtain ⟨_, e39, rfl⟩ := hk 39 (by decide)
      clear hk
      go_simp
      exact k _ _ (Chg.refl _ _) rfl
    refine Obs.cons (some (34, true)) (by kernel_rfl) ?_ ?_
    · refine Ob.yes (fun _ _ h => h) fun a w hR hk K k => ?_
      obtain ⟨_, e37, rfl⟩ := hk 37 (by decide)
      obtain ⟨_, e40, rfl⟩ := hk 40 (by decide)
      clear hk
      go_simp
      exact k _ _ (Chg.refl _ _) rfl
    refine Obs.cons none (by kernel_rfl) ?_ ?_
    · refine Ob.plain fun a w hR hk K k => ?_
      obtain ⟨_, e34, rfl⟩ := hk 34 (by decide)
      obtain ⟨_, e41, rfl⟩ := hk 41 (by decide)
      clear hk
      go_simp
      exact k _ _ (Chg.refl _ _) rfl
    refine Obs.cons none (by kernel_rfl) ?_ ?_
    · refine Ob.plain fun a w hR hk K k => ?_
      obtain ⟨_, e42, f42⟩ := hk 42 (by decide)
      clear hk
      go_simp
      exact k _ _ (Chg.refl _ _) f42
    refine Obs.cons (some (43, true)) (by kernel_rfl) ?_ ?_
    · refine Ob.yes (fun _ _ h => h) fun a w hR hk K k => ?_
      obtain ⟨_, e3, f3⟩ := hk 3 (by decide)
      clear hk
      go_simp
      exact k _ _ (Chg.refl _ _) f3
    refine Obs.cons (some (43, true)) (by kernel_rfl) ?_ ?_
    · refine Ob.yes (fun _ _ h => h) fun a w hR hk K k => ?_
      obtain ⟨_, e44, rfl⟩ := hk 44 (by decide)
      clear hk
      have hq := ch_used (some ⟨lb, lo, none⟩) cap [stX] w (by decide) (HST6.out.keep hR (fun _ _ => id))
      simp only [List.length_cons, List.length_nil, Nat.zero_add] at hq
      go_simp
      refine hq.mono ?_
      rintro e w9 ⟨out, ao9, cap9, rfl, hs, _, hc, _⟩
      have ho : out = [cM9] := hs.one fst_set
      subst ho
      exact k _ _ hc ⟨_, _, rfl⟩
    refine Obs.cons (some (43, true)) (by kernel_rfl) ?_ ?_
    · refine Ob.yes (fun _ _ h => h) fun a w hR hk K k => ?_
      obtain ⟨_, e45, f45⟩ := hk 45 (by decide)
      clear hk
      obtain ⟨ao9, cap9, rfl⟩ := f45
      go_simp
      exact k _ _ (Chg.refl _ _) rfl
    refine Obs.cons (some (43, true)) (by kernel_rfl) ?_ ?_
    · refine Ob.yes (fun _ _ h => h) fun a w hR hk K k => ?_
      obtain ⟨_, e46, rfl⟩ := hk 46 (by decide)
      clear hk
      go_simp
      exact k _ _ (Chg.refl _ _) rfl
    refine Obs.cons none (by kernel_rfl) ?_ ?_
    · refine Ob.plain fun a w hR hk K k => ?_
      obtain ⟨_, e43, rfl⟩ := hk 43 (by decide)
      obtain ⟨_, e47, rfl⟩ := hk 47 (by decide)
      clear hk
      go_simp
      exact k _ _ (Chg.refl _ _) rfl
    refine Obs.cons none (by kernel_rfl) ?_ ?_
    · refine Ob.plain fun a w hR hk K k => ?_
      obtain ⟨_, e48, f48⟩ := hk 48 (by decide)
      clear hk
      go_simp
      exact k _ _ (Chg.refl _ _) f48
    refine Obs.cons (some (49, true)) (by kernel_rfl) ?_ ?_
    · refine Ob.yes (fun _ _ h => h) fun a w hR hk K k => ?_
      obtain ⟨_, e3, f3⟩ := hk 3 (by decide)
      clear hk
      go_simp
      exact k _ _ (Chg.refl _ _) f3
    refine Obs.cons (some (49, true)) (by kernel_rfl) ?_ ?_
    · refine Ob.yes (fun _ _ h => h) fun a w hR hk K k => ?_
      obtain ⟨_, e3, f3⟩ := hk 3 (by decide)
      clear hk
      go_simp
      exact k _ _ (Chg.refl _ _) f3
    refine Obs.cons (some (49, true)) (by kernel_rfl) ?_ ?_
    · refine Ob.yes (fun _ _ h => h) fun a w hR hk K k => ?_
      obtain ⟨_, e50, rfl⟩ := hk 50 (by decide)
      obtain ⟨_, e51, rfl⟩ := hk 51 (by decide)
      clear hk
      have hb := heap_alloc_new w (.cells #[.slice (some ⟨lb, lo, none⟩) 1 cap, .slice (some ⟨lb, lo, none⟩) 1 cap] 29)
      have hro : RowsAt (fun _ => True) (w.alloc (.cells #[.slice (some ⟨lb, lo, none⟩) 1 cap, .slice (some ⟨lb, lo, none⟩) 1 cap] 29)) (some ⟨w.heap.size, 0, none⟩) [[stX], [stX]] := rows_two10 hb (((HST6.out.keep hR (fun _ _ => id)).keep ((Chg.refl (fun _ => False) w).alloc _) (fun _ _ => id)).mono (fun _ _ => trivial))
      go_simp
      exact k _ _ ((Chg.refl _ _).alloc _) ⟨_, rfl, hro⟩
    refine Obs.cons (some (49, true)) (by kernel_rfl) ?_ ?_
    · refine Ob.yes (fun _ _ h => h) fun a w hR hk K k => ?_
      obtain ⟨_, e52, f52⟩ := hk 52 (by decide)
      clear hk
      obtain ⟨b9, rfl, hro⟩ := f52
      have hq := ch_merge (some ⟨b9, 0, none⟩) 2 [[stX], [stX]] w (by decide) (by decide) hro
      simp only [List.length_cons, List.length_nil, Nat.zero_add, Nat.reduceAdd] at hq
      go_simp
      refine hq.mono ?_
      rintro e w9 ⟨v9, rfl, ho, hc⟩
      rw [fst_merge] at ho
      obtain ⟨ao9, cap9, rfl⟩ := ho.shape
      exact k _ _ hc ⟨_, _, rfl⟩
    refine Obs.cons (some (49, true)) (by kernel_rfl) ?_ ?_
    · refine Ob.yes (fun _ _ h => h) fun a w hR hk K k => ?_
      obtain ⟨_, e53, f53⟩ := hk 53 (by decide)
      clear hk
      obtain ⟨ao9, cap9, rfl⟩ := f53
      go_simp
      exact k _ _ (Chg.refl _ _) rfl
    refine Obs.cons (some (49, true)) (by kernel_rfl) ?_ ?_
    · refine Ob.yes (fun _ _ h => h) fun a w hR hk K k => ?_
      obtain ⟨_, e54, rfl⟩ := hk 54 (by decide)
      clear hk
      go_simp
      exact k _ _ (Chg.refl _ _) rfl
    refine Obs.cons none (by kernel_rfl) ?_ ?_
    · refine Ob.plain fun a w hR hk K k => ?_
      obtain ⟨_, e49, rfl⟩ := hk 49 (by decide)
      obtain ⟨_, e55, rfl⟩ := hk 55 (by decide)
      clear hk
      go_simp
      exact k _ _ (Chg.refl _ _) rfl
    refine Obs.cons none (by kernel_rfl) ?_ ?_
    · refine Ob.plain fun a w hR hk K k => ?_
      obtain ⟨_, e56, f56⟩ := hk 56 (by decide)
      clear hk
      go_simp
      exact k _ _ (Chg.refl _ _) f56
    exact Obs.nil
  case fin =>
    intro vals w9 hc9 hv
    have h0 : vals 0 = .bool true := hv 0 (by decide)
    have HC := hid (HC6.out.trans hc9 (fun _ _ h => h))
    simp only [putAll, List.setIfInBounds_toArray, List.set_cons_zero, List.set_cons_succ, h0]
    clear hv h0 hc9
    go_wp2
    go_ret
    exact ⟨rfl, HC.out⟩
end Go.Proofs.Ytjaplnainlbldaa

/- What the laws ask of Find beyond its contract: how long a chain may be, what its steps are; a list appended to a row in its own place; Find of a list that tells the same. -/
namespace Go.Proofs.Ytjaplnainlbldaa
open Go.RowKit

theorem tightG_len {ls : List CredB} {S : List StepB} (hg : Good ls S) {last : Nat} (hl : last < S.length) : (tightG S last).length ≤ S.length := by
  have hk := kept_of hg hl
  have hn : (tightI S last (last + 1)).2.reverse.Nodup := hk.inc.imp (fun h => Nat.ne_of_lt h)
  have h1 := nodup_lengthG _ (List.range S.length) hn (fun i hi => List.mem_range.2 (Nat.lt_of_le_of_lt (hk.le i hi) hl))
  rw [List.length_range, List.length_reverse] at h1
  unfold tightG stepsOf
  rw [List.length_reverse, List.length_map]
  exact h1

theorem FindIs.few {ls : List CredB} {want : FactB} {R : List StepB} {b : Bool} (h : FindIs ls want R b) (hl : ls.length ≤ 50) : R.length ≤ 2500 := by
  obtain ⟨cs, S, h1, h2, h3⟩ := h
  have hall : ∀ c ∈ cs, isCred c = true := fun c hc => ((h1.2 c).1 hc).2
  obtain ⟨hgood, _⟩ := h2.iff hall
  rcases h3 with ⟨q1, rfl, rfl⟩ | ⟨_, rfl, rfl⟩
  · have hi : (factsK S).idxOf want < S.length := by rw [← factsK_len]; exact List.idxOf_lt_length_of_mem q1
    refine Nat.le_trans (tightG_len hgood hi) ?_
    have hc := setC_few h1 hl
    have h4 := facts_le (rs := cs.map (·.head)) (ns := cs.map (·.who)) hgood.nd (fun f hf => by
      have hd := hgood.der f hf
      refine ⟨?_, ?_⟩
      · obtain ⟨c, hc, _, e⟩ := hd.head
        exact List.mem_map.2 ⟨c, hc, e⟩
      · obtain ⟨c, hc, hr, hk, e⟩ := hd.who
        exact List.mem_map.2 ⟨c, hc, e⟩)
    rw [List.length_map, List.length_map, factsK_len] at h4
    have h5 : cs.length * cs.length ≤ 50 * 50 := Nat.mul_le_mul hc hc
    omega
  · simp

theorem FindIs.der {ls : List CredB} {want : FactB} {R : List StepB} {b : Bool} (h : FindIs ls want R b) : ∀ s ∈ R, Der ls s.f := by
  obtain ⟨cs, S, h1, h2, h3⟩ := h
  have hall : ∀ c ∈ cs, isCred c = true := fun c hc => ((h1.2 c).1 hc).2
  obtain ⟨hgood, _⟩ := h2.iff hall
  intro s hs
  rcases h3 with ⟨q1, rfl, rfl⟩ | ⟨_, rfl, rfl⟩
  · have hi : (factsK S).idxOf want < S.length := by rw [← factsK_len]; exact List.idxOf_lt_length_of_mem q1
    have hk := kept_of hgood hi
    unfold tightG stepsOf at hs
    rw [List.mem_reverse] at hs
    obtain ⟨i, hi2, rfl⟩ := List.mem_map.1 hs
    have hil : i < S.length := Nat.lt_of_le_of_lt (hk.le i (List.mem_reverse.2 hi2)) hi
    rw [getD_lt hil]
    exact (der_set h1 (f := S[i].f)).1 (hgood.der _ (List.mem_map.2 ⟨_, List.getElem_mem hil, rfl⟩))
  · cases hs

theorem der_short9 {ls : List CredB} {f : FactB} (hd : Der ls f) : factShort f 9223372036854775807 := factShort.mono (n := 16) (der_short hd) (by decide)
theorem FindIs.short {ls : List CredB} {want : FactB} {R : List StepB} {b : Bool} (h : FindIs ls want R b) : ∀ s ∈ R, stepShort s 9223372036854775807 := by
  intro s hs
  have hd := h.der s hs
  have hb : b = true := by
    cases b with
    | true => rfl
    | false => rw [(h.spec).2.1 rfl] at hs; cases hs
  have hc := ((h.spec).2.2 hb).2.2.2 s hs
  refine ⟨(isCred_short hc.2).mono' (by decide), ?_⟩
  exact der_short9 hd

theorem checks_of {R : List StepB} {cs : List CredB} {want : FactB} (h1 : ∀ i (h : i < R.length), FolK R[i] (· ∈ factsK (R.take i))) (h4 : ∀ s ∈ R, s.c ∈ cs) (hw : want ∈ factsK R) : CheckIs R cs want R.length 0 := by
  refine .inr ⟨rfl, fun i _ hi => ⟨?_, folK_iff.2 (h1 i hi)⟩, ?_⟩
  · unfold hasC
    rw [List.contains_iff_mem]
    exact h4 _ (List.getElem_mem hi)
  · rw [if_pos (inF_iff.2 hw)]
theorem OwnSt.caps {B : Nat} {w : World} {R : List StepB} {av : Option Addr} {n cv : Nat} (h : OwnSt B w (.slice av n cv) R) : R.length ≤ cv ∧ cv ≤ 9223372036854775807 := by
  rcases h.2 with ⟨e, h0⟩ | ⟨g, cap, cur, e, _, _, h1, h2, _⟩
  · injection e with _ _ e
    omega
  · injection e with _ _ e
    unfold maxLen at h2
    omega
end Go.Proofs.Ytjaplnainlbldaa

/- What is merged of chains that stand stands. -/
namespace Go.Proofs.Ytjaplnainlbldaa

def StK (ls : List StepB) : Prop := ∀ i (h : i < ls.length), FolK ls[i] (· ∈ factsK (ls.take i))
theorem stK_iff {ls : List StepB} : standsK ls = true ↔ StK ls := by
  unfold standsK StK
  rw [decide_eq_true_iff]
  exact ⟨fun h i hi => folK_iff.1 (h i hi), fun h i hi => folK_iff.2 (h i hi)⟩

theorem StK.snoc {out : List StepB} {s : StepB} (h : StK out) (hs : FolK s (· ∈ factsK out)) : StK (out ++ [s]) := fun i hi => by
  rw [List.length_append, List.length_singleton] at hi
  by_cases e : i < out.length
  · rw [List.getElem_append_left e, List.take_append_of_le_length (by omega)]
    exact h i e
  · have e2 : i = out.length := by omega
    subst e2
    rw [List.getElem_append_right (Nat.le_refl _), List.take_left]
    simpa using hs

theorem addSt_has (out : List StepB) (s : StepB) : (∀ f ∈ factsK out, f ∈ factsK (addSt out s)) ∧ s.f ∈ factsK (addSt out s) := by
  unfold addSt
  split
  · next h => exact ⟨fun f hf => hf, h⟩
  · rw [factsK_snoc]
    exact ⟨fun f hf => List.mem_append_left _ hf, List.mem_append_right _ (List.mem_singleton_self _)⟩
theorem addSt_stands {out : List StepB} {s : StepB} (h : StK out) (hs : FolK s (· ∈ factsK out)) : StK (addSt out s) := by
  unfold addSt
  split
  · exact h
  · exact h.snoc hs

theorem addsSt_stands : ∀ (l pre out : List StepB), StK out → (∀ f ∈ factsK pre, f ∈ factsK out) → (∀ i (h : i < l.length), FolK l[i] (· ∈ factsK (pre ++ l.take i))) → StK (addsSt out l) ∧ (∀ f ∈ factsK (pre ++ l), f ∈ factsK (addsSt out l)) ∧ ∀ f ∈ factsK out, f ∈ factsK (addsSt out l)
  | [], pre, out, h, hp, _ => ⟨h, fun f hf => hp f (by rwa [List.append_nil] at hf), fun f hf => hf⟩
  | s :: l, pre, out, h, hp, hl => by
    have h0 := hl 0 (by simp)
    rw [List.getElem_cons_zero, List.take_zero, List.append_nil] at h0
    have h1 := addSt_has out s
    have e : ∀ m, pre ++ (s :: m) = (pre ++ [s]) ++ m := fun m => by simp
    obtain ⟨a, b, c⟩ := addsSt_stands l (pre ++ [s]) (addSt out s) (addSt_stands h (h0.mono hp)) (fun f hf => by
      rw [factsK_snoc] at hf
      rcases List.mem_append.1 hf with hf | hf
      · exact h1.1 f (hp f hf)
      · rw [List.mem_singleton.1 hf]; exact h1.2) (fun i hi => by
      have h2 := hl (i + 1) (by rw [List.length_cons]; omega)
      rw [List.getElem_cons_succ, List.take_succ_cons, e] at h2
      exact h2)
    exact ⟨a, fun f hf => b f (by rwa [e] at hf), fun f hf => c f (h1.1 f hf)⟩

/-- One chain more. -/
theorem merge_two {out l : List StepB} (h : StK out) (k : StK l) : StK (addsSt out l) :=
  (addsSt_stands l [] out h (fun f hf => by cases hf) (fun i hi => k i hi)).1
theorem mergeL_two (out l : List StepB) (hn : (factsK out).Nodup) : mergeL [out, l] = addsSt out l := by
  have key : ∀ (m acc : List StepB), (factsK (acc ++ m)).Nodup → addsSt acc m = acc ++ m := by
    intro m
    induction m with
    | nil => intro acc _; simp [addsSt]
    | cons s m ih =>
      intro acc ha
      have e : acc ++ (s :: m) = (acc ++ [s]) ++ m := by simp
      have hs : s.f ∉ factsK acc := fun h => by
        have h2 : (factsK acc ++ (s.f :: factsK m)).Nodup := by have := ha; simpa [factsK] using this
        exact (List.nodup_append.1 h2).2.2 _ h _ List.mem_cons_self rfl
      have h3 : addsSt acc (s :: m) = addsSt (addSt acc s) m := rfl
      rw [h3, show addSt acc s = acc ++ [s] from if_neg hs, ih (acc ++ [s]) (by rw [← e]; exact ha), e]
  have h1 : addsSt [] out = out := by
    have := key out [] (by simpa using hn)
    simpa using this
  show addsSt (addsSt [] out) l = _
  rw [h1]
theorem addsSt_nodup : ∀ (l out : List StepB), (factsK out).Nodup → (factsK (addsSt out l)).Nodup
  | [], _, h => h
  | s :: l, out, h => addsSt_nodup l (addSt out s) (by
    unfold addSt
    split
    · exact h
    · next hs =>
      rw [factsK_snoc]
      exact List.nodup_append.2 ⟨h, by simp, fun a ha b hb e => hs (by rw [List.mem_singleton.1 hb] at e; rw [← e]; exact ha)⟩)
end Go.Proofs.Ytjaplnainlbldaa
