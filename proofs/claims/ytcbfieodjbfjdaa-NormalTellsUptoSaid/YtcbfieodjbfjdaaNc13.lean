/- Texts that the proof leans on, in one: FmCmp, Grown, RoleSort0, ShelfQ. -/
import Derived.Test.YtcbfieodjbfjdaaNc12
import Derived.Test.YtcbfieodjbfjdaaNc7
import Derived.Test.YtcbfieodjbfjdaaNc3
import Derived.Sort.Grow
import Derived.Test.YtcbfieodjbfjdaaNc1
import Derived.Shelf.SlSortCmp.WholeK
import Derived.Shelf.SlSortCmp.NoneTotal
import Derived.Ground.SlsfProg
import Derived.Test.YtcbfieodjbfjdaaProg
/- Compare of two formulas. -/
namespace Go.Proofs.Ytcbfieodjbfjdaa
open Go.RowKit

def wrF (f : FmB) : List UInt8 := if isF f then encF f else []
theorem wrF_len (f : FmB) : (wrF f).length ≤ 2560 := by
  unfold wrF
  split
  · rename_i h
    have h1 := isF_right h
    have := encF_len f h1.2.2
    omega
  · simp
set_option maxRecDepth 100000 in
set_option maxHeartbeats 4000000 in
theorem fm_written {D : Nat → Prop} (n : Nat) (f : FmB) (ao : Option Addr) (cp : Nat) (w : World) (h : FmsAt D w n ao f.kids) (hD : ∀ i, D i → i < w.heap.size) (hok : FmOk f) (hN : nodesF f ≤ 4096) :
    Calls Try.prog 100 #[.agg #[.int .i64 f.op, .int .i64 f.k, .string ⟨f.r.1.toArray⟩, .string ⟨f.r.2.toArray⟩, .slice ao f.kids.length cp]] w fun e w' => ∃ (a : Option Addr) (c : Nat), e = .returned (.slice a (wrF f).length c) ∧ BytesAt (fun k => w.heap.size ≤ k) w' (.slice a (wrF f).length c) (wrF f) ∧ Chg (fun _ => False) w w' := by
  have hc1 : Chg (fun _ => False) w (w.alloc (.cells #[.int .i64 f.op, .int .i64 f.k, .string ⟨f.r.1.toArray⟩, .string ⟨f.r.2.toArray⟩, .slice ao f.kids.length cp] 26)) := (Chg.refl _ w).alloc _
  have hc2 : Chg (fun _ => False) w ((w.alloc (.cells #[.int .i64 f.op, .int .i64 f.k, .string ⟨f.r.1.toArray⟩, .string ⟨f.r.2.toArray⟩, .slice ao f.kids.length cp] 26)).alloc (.cells #[.slice none 0 0] 137)) := hc1.alloc _
  have hsz : (w.alloc (.cells #[.int .i64 f.op, .int .i64 f.k, .string ⟨f.r.1.toArray⟩, .string ⟨f.r.2.toArray⟩, .slice ao f.kids.length cp] 26)).heap.size = w.heap.size + 1 := by simp
  have hsz2 : ((w.alloc (.cells #[.int .i64 f.op, .int .i64 f.k, .string ⟨f.r.1.toArray⟩, .string ⟨f.r.2.toArray⟩, .slice ao f.kids.length cp] 26)).alloc (.cells #[.slice none 0 0] 137)).heap.size = w.heap.size + 2 := by simp
  have hpn : PenAt (w.heap.size + 2) ((w.alloc (.cells #[.int .i64 f.op, .int .i64 f.k, .string ⟨f.r.1.toArray⟩, .string ⟨f.r.2.toArray⟩, .slice ao f.kids.length cp] 26)).alloc (.cells #[.slice none 0 0] 137)) (w.heap.size + 1) none 0 [] := by
    have := pen_new (w.alloc (.cells #[.int .i64 f.op, .int .i64 f.k, .string ⟨f.r.1.toArray⟩, .string ⟨f.r.2.toArray⟩, .slice ao f.kids.length cp] 26)) (w.heap.size + 2)
    rw [hsz] at this
    exact this
  have hb := blk_keep (heap_alloc_new w (.cells #[.int .i64 f.op, .int .i64 f.k, .string ⟨f.r.1.toArray⟩, .string ⟨f.r.2.toArray⟩, .slice ao f.kids.length cp] 26)) ((Chg.refl (fun _ => False) (w.alloc (.cells #[.int .i64 f.op, .int .i64 f.k, .string ⟨f.r.1.toArray⟩, .string ⟨f.r.2.toArray⟩, .slice ao f.kids.length cp] 26))).alloc (.cells #[.slice none 0 0] 137)) id
  have s0 := cell_blk hb 0
  have s1 := cell_blk hb 1
  have s2 := cell_blk hb 2
  have s3 := cell_blk hb 3
  have s4 := cell_blk hb 4
  simp only [List.getElem?_toArray, List.getElem?_cons_zero, List.getElem?_cons_succ] at s0 s1 s2 s3 s4
  cases hf : isF f with
  | false =>
    have HP := hid (fm_putno (.pointer (some ⟨w.heap.size + 1, 0, none⟩)) n f ao cp ((w.alloc (.cells #[.int .i64 f.op, .int .i64 f.k, .string ⟨f.r.1.toArray⟩, .string ⟨f.r.2.toArray⟩, .slice ao f.kids.length cp] 26)).alloc (.cells #[.slice none 0 0] 137)) (h.keep hc2 (fun _ _ => id)) (fun i hi => Nat.lt_of_lt_of_le (hD i hi) hc2.size) hok hN hf)
    have HWF : Hid (wrF f = []) := hid (by unfold wrF; rw [hf]; rfl)
    have HPN := hid hpn
    have HC2 := hid hc2
    clear hc1 hc2 hsz hsz2 hpn hb h hD hok hN hf
    go_enter Try.func100, Try.ntmps100
    go_wp2_with fail
    refine HP.out.mono ?_
    rintro e w3 ⟨rfl, hc3⟩
    have HB := hid (bytes_any (w.heap.size + 2) (w.heap.size + 1) 0 none [] w3 (HPN.out.keep hc3 id (fun _ _ => id)) (by simp))
    have HC3 := hid (HC2.out.trans hc3 (fun _ _ h => h))
    clear HP hc3 s0 s1 s2 s3 s4
    go_wp2_with fail
    refine HB.out.mono ?_
    rintro e w4 ⟨a, c, rfl, hb4, hc4⟩
    have HE := hid (And.intro hb4 (HC3.out.trans hc4 (fun _ _ h => h)))
    have hs := HC3.out.size
    clear HB hb4 hc4
    go_wp2
    go_ret
    rw [HWF.out]
    exact ⟨a, c, rfl, HE.out.1.mono (fun i hi => Nat.le_trans hs hi.1), HE.out.2⟩
  | true =>
    have HP := hid (fm_putyes n f ao cp (w.heap.size + 2) (w.heap.size + 1) 0 none [] ((w.alloc (.cells #[.int .i64 f.op, .int .i64 f.k, .string ⟨f.r.1.toArray⟩, .string ⟨f.r.2.toArray⟩, .slice ao f.kids.length cp] 26)).alloc (.cells #[.slice none 0 0] 137)) (h.keep hc2 (fun _ _ => id)) hok hf (by simp) hpn (by omega) (by omega) (fun i hi => by have := hD i hi; omega))
    have HWF : Hid (wrF f = encF f) := hid (by unfold wrF; rw [hf]; rfl)
    have HL := hid (wrF_len f)
    have HC2 := hid hc2
    have HPN := hid hpn
    clear hc1 hc2 hsz hsz2 hpn hb h hD hok hN hf
    go_enter Try.func100, Try.ntmps100
    go_wp2_with fail
    refine HP.out.mono ?_
    rintro e w3 ⟨rfl, hps⟩
    rw [List.nil_append, ← HWF.out] at hps
    obtain ⟨a3, c3, hp3, hch3⟩ := hps
    have HB := hid (bytes_any (w.heap.size + 2) (w.heap.size + 1) c3 a3 (wrF f) w3 hp3 (by have := HL.out; omega))
    have HC3 := hid (pchg_new HC2.out HPN.out (by omega) (by omega) hch3)
    clear HP hp3 hch3 s0 s1 s2 s3 s4
    go_wp2_with fail
    refine HB.out.mono ?_
    rintro e w4 ⟨a, c, rfl, hb4, hc4⟩
    have HE := hid (And.intro hb4 (HC3.out.trans hc4 (fun _ _ h => h)))
    have hs := HC3.out.size
    clear HB hb4 hc4
    go_wp2
    go_ret
    exact ⟨a, c, rfl, HE.out.1.mono (fun i hi => Nat.le_trans hs hi.1), HE.out.2⟩

/-- What is written of a formula. -/
def Spec.wr (f : FmB) : Spec := ⟨fun v w => ∃ a c, v = .slice a (wrF f).length c ∧ BytesAt (fun _ => True) w (.slice a (wrF f).length c) (wrF f), fun _ _ _ hc ⟨a, c, h1, h2⟩ => ⟨a, c, h1, h2.keep hc (fun _ _ => id)⟩⟩
set_option maxRecDepth 100000 in
set_option maxHeartbeats 4000000 in
theorem fm_compare {D E : Nat → Prop} (n : Nat) (f : FmB) (ao : Option Addr) (cp : Nat) (w : World) (h : FmsAt D w n ao f.kids) (hD : ∀ i, D i → i < w.heap.size) (hok : FmOk f) (hN : nodesF f ≤ 4096) (n2 : Nat) (g : FmB) (bo : Option Addr) (bp : Nat) (h2 : FmsAt E w n2 bo g.kids) (hD2 : ∀ i, E i → i < w.heap.size) (hok2 : FmOk g) (hN2 : nodesF g ≤ 4096) :
    Calls Try.prog 77 #[.agg #[.int .i64 f.op, .int .i64 f.k, .string ⟨f.r.1.toArray⟩, .string ⟨f.r.2.toArray⟩, .slice ao f.kids.length cp], .agg #[.int .i64 g.op, .int .i64 g.k, .string ⟨g.r.1.toArray⟩, .string ⟨g.r.2.toArray⟩, .slice bo g.kids.length bp]] w fun e w' => e = .returned (.int .i64 (Lib.compareBytes (wrF f) (wrF g))) ∧ Chg (fun _ => False) w w' := by
  have hc1 : Chg (fun _ => False) w (w.alloc (.cells #[.int .i64 f.op, .int .i64 f.k, .string ⟨f.r.1.toArray⟩, .string ⟨f.r.2.toArray⟩, .slice ao f.kids.length cp] 26)) := (Chg.refl _ w).alloc _
  have hc2 : Chg (fun _ => False) w ((w.alloc (.cells #[.int .i64 f.op, .int .i64 f.k, .string ⟨f.r.1.toArray⟩, .string ⟨f.r.2.toArray⟩, .slice ao f.kids.length cp] 26)).alloc (.cells #[.int .i64 g.op, .int .i64 g.k, .string ⟨g.r.1.toArray⟩, .string ⟨g.r.2.toArray⟩, .slice bo g.kids.length bp] 26)) := hc1.alloc _
  have hsz : (w.alloc (.cells #[.int .i64 f.op, .int .i64 f.k, .string ⟨f.r.1.toArray⟩, .string ⟨f.r.2.toArray⟩, .slice ao f.kids.length cp] 26)).heap.size = w.heap.size + 1 := by simp
  have hbf := blk_keep (heap_alloc_new w (.cells #[.int .i64 f.op, .int .i64 f.k, .string ⟨f.r.1.toArray⟩, .string ⟨f.r.2.toArray⟩, .slice ao f.kids.length cp] 26)) ((Chg.refl (fun _ => False) (w.alloc (.cells #[.int .i64 f.op, .int .i64 f.k, .string ⟨f.r.1.toArray⟩, .string ⟨f.r.2.toArray⟩, .slice ao f.kids.length cp] 26))).alloc (.cells #[.int .i64 g.op, .int .i64 g.k, .string ⟨g.r.1.toArray⟩, .string ⟨g.r.2.toArray⟩, .slice bo g.kids.length bp] 26)) id
  have hbg := heap_alloc_new (w.alloc (.cells #[.int .i64 f.op, .int .i64 f.k, .string ⟨f.r.1.toArray⟩, .string ⟨f.r.2.toArray⟩, .slice ao f.kids.length cp] 26)) (.cells #[.int .i64 g.op, .int .i64 g.k, .string ⟨g.r.1.toArray⟩, .string ⟨g.r.2.toArray⟩, .slice bo g.kids.length bp] 26)
  rw [hsz] at hbg
  have HBB := hid (And.intro hbf hbg)
  have HC2 := hid hc2
  have HWF := hid (fun w' (hc : Chg (fun _ => False) ((w.alloc (.cells #[.int .i64 f.op, .int .i64 f.k, .string ⟨f.r.1.toArray⟩, .string ⟨f.r.2.toArray⟩, .slice ao f.kids.length cp] 26)).alloc (.cells #[.int .i64 g.op, .int .i64 g.k, .string ⟨g.r.1.toArray⟩, .string ⟨g.r.2.toArray⟩, .slice bo g.kids.length bp] 26)) w') => fm_written n f ao cp w' ((h.keep hc2 (fun _ _ => id)).keep hc (fun _ _ => id)) (fun i hi => by have := hD i hi; have := hc2.size; have := hc.size; omega) hok hN)
  have HWG := hid (fun w' (hc : Chg (fun _ => False) ((w.alloc (.cells #[.int .i64 f.op, .int .i64 f.k, .string ⟨f.r.1.toArray⟩, .string ⟨f.r.2.toArray⟩, .slice ao f.kids.length cp] 26)).alloc (.cells #[.int .i64 g.op, .int .i64 g.k, .string ⟨g.r.1.toArray⟩, .string ⟨g.r.2.toArray⟩, .slice bo g.kids.length bp] 26)) w') => fm_written n2 g bo bp w' ((h2.keep hc2 (fun _ _ => id)).keep hc (fun _ _ => id)) (fun i hi => by have := hD2 i hi; have := hc2.size; have := hc.size; omega) hok2 hN2)
  clear hc1 hc2 hsz hbf hbg h h2 hD hD2 hok hok2 hN hN2
  go_enter Try.func77, Try.ntmps77
  go_wp2
  generalize ((w.alloc (.cells #[.int .i64 f.op, .int .i64 f.k, .string ⟨f.r.1.toArray⟩, .string ⟨f.r.2.toArray⟩, .slice ao f.kids.length cp] 26)).alloc (.cells #[.int .i64 g.op, .int .i64 g.k, .string ⟨g.r.1.toArray⟩, .string ⟨g.r.2.toArray⟩, .slice bo g.kids.length bp] 26)) = w2 at *
  generalize w.heap.size = X at *
  refine wp_region_specs [.any, .any, .eq (.pointer (some ⟨X, 0, none⟩)), .eq (.pointer (some ⟨X + 1, 0, none⟩)), .eq (.int .i64 (Lib.compareBytes (wrF f) (wrF g))), .eq (.agg #[.int .i64 f.op, .int .i64 f.k, .string ⟨f.r.1.toArray⟩, .string ⟨f.r.2.toArray⟩, .slice ao f.kids.length cp]), .wr f, .eq (.agg #[.int .i64 g.op, .int .i64 g.k, .string ⟨g.r.1.toArray⟩, .string ⟨g.r.2.toArray⟩, .slice bo g.kids.length bp]), .wr g, .eq (.int .i64 (Lib.compareBytes (wrF f) (wrF g)))] [5, 6, 7, 8, 9, 4] [2, 3] (by kernel_rfl) (by kernel_rfl) (by rfl) (by kernel_rfl) ?start ?obs ?fin
  case start =>
    simp only [List.forall_mem_cons]; exact ⟨⟨_, rfl, rfl⟩, ⟨_, rfl, rfl⟩, fun _ h => by cases h⟩
  case obs =>
    refine Obs.cons none (by kernel_rfl) ?_ ?_
    · refine Ob.plain fun a w hR hk K k => ?_
      obtain ⟨_, e2, rfl⟩ := hk 2 (by decide)
      clear hk
      have hb := blk_keep HBB.out.1 hR id
      have s0 := cell_blk hb 0
      have s1 := cell_blk hb 1
      have s2 := cell_blk hb 2
      have s3 := cell_blk hb 3
      have s4 := cell_blk hb 4
      simp only [List.getElem?_toArray, List.getElem?_cons_zero, List.getElem?_cons_succ] at s0 s1 s2 s3 s4
      clear hb hR
      go_simp
      exact k _ _ (Chg.refl _ _) rfl
    refine Obs.cons none (by kernel_rfl) ?_ ?_
    · refine Ob.plain fun a w hR hk K k => ?_
      obtain ⟨_, e5, rfl⟩ := hk 5 (by decide)
      clear hk
      have hq := HWF.out w hR
      clear hR
      go_simp
      refine hq.mono ?_
      rintro e w5 ⟨a1, c1, rfl, h1, h2⟩
      exact k _ _ h2 ⟨a1, c1, rfl, h1.mono (fun _ _ => trivial)⟩
    refine Obs.cons none (by kernel_rfl) ?_ ?_
    · refine Ob.plain fun a w hR hk K k => ?_
      obtain ⟨_, e3, rfl⟩ := hk 3 (by decide)
      clear hk
      have hb := blk_keep HBB.out.2 hR id
      have s0 := cell_blk hb 0
      have s1 := cell_blk hb 1
      have s2 := cell_blk hb 2
      have s3 := cell_blk hb 3
      have s4 := cell_blk hb 4
      simp only [List.getElem?_toArray, List.getElem?_cons_zero, List.getElem?_cons_succ] at s0 s1 s2 s3 s4
      clear hb hR
      go_simp
      exact k _ _ (Chg.refl _ _) rfl
    refine Obs.cons none (by kernel_rfl) ?_ ?_
    · refine Ob.plain fun a w hR hk K k => ?_
      obtain ⟨_, e7, rfl⟩ := hk 7 (by decide)
      clear hk
      have hq := HWG.out w hR
      clear hR
      go_simp
      refine hq.mono ?_
      rintro e w5 ⟨a1, c1, rfl, h1, h2⟩
      exact k _ _ h2 ⟨a1, c1, rfl, h1.mono (fun _ _ => trivial)⟩
    refine Obs.cons none (by kernel_rfl) ?_ ?_
    · refine Ob.plain fun a w hR hk K k => ?_
      obtain ⟨_, e6, f6⟩ := hk 6 (by decide)
      obtain ⟨_, e8, f8⟩ := hk 8 (by decide)
      clear hk
      obtain ⟨a1, c1, rfl, h1⟩ := f6
      obtain ⟨a2, c2, rfl, h2⟩ := f8
      obtain ⟨l1, hl1⟩ : ∃ l1, l1 = (wrF f).length := ⟨_, rfl⟩
      obtain ⟨l2, hl2⟩ : ∃ l2, l2 = (wrF g).length := ⟨_, rfl⟩
      rw [← hl1] at h1
      rw [← hl2] at h2
      simp only [← hl1, ← hl2] at *
      have hq := bytes_compare w h1 h2
      have HQ := hid hq
      clear hl1 hl2 h1 h2 hq hR
      have hq := HQ.out
      go_simp
      refine hq.mono ?_
      rintro e w5 ⟨rfl, rfl⟩
      exact k _ _ (Chg.refl _ _) rfl
    refine Obs.cons none (by kernel_rfl) ?_ ?_
    · refine Ob.plain fun a w hR hk K k => ?_
      obtain ⟨_, e9, f9⟩ := hk 9 (by decide)
      clear hk
      go_simp
      exact k _ _ (Chg.refl _ _) f9
    exact Obs.nil
  case fin =>
    intro vals w9 hc9 hv
    have h4 : vals 4 = .int .i64 (Lib.compareBytes (wrF f) (wrF g)) := hv 4 (by decide)
    have HC9 := hid (HC2.out.trans hc9 (fun _ _ h => h))
    simp only [putAll, List.setIfInBounds_toArray, List.set_cons_zero, List.set_cons_succ, h4]
    clear hv h4 hc9
    go_wp2
    go_ret
    exact ⟨rfl, HC9.out⟩
end Go.Proofs.Ytcbfieodjbfjdaa

/- Worlds that have grown by draws and new blocks alone; a region that draws its order and grows so. -/
namespace Go.Proofs.Ytcbfieodjbfjdaa
open Go.RowKit Go.Sort

/-- Draws, and blocks behind the heap: nothing else. -/
def Gr (w w' : World) : Prop := ∃ (q : Nat) (os : Array Obj), w' = grow (w.drewN q) os

/-- What has changed nothing has but grown. -/
theorem Chg.gr {w w' : World} (h : Chg (fun _ => False) w w') : Gr w w' := by
  refine ⟨w'.drawn - w.drawn, w'.heap.extract w.heap.size w'.heap.size, ?_⟩
  have h1 := h.drawn
  have h2 := h.size
  have h3 : w.heap ++ w'.heap.extract w.heap.size w'.heap.size = w'.heap := by
    apply Array.ext_getElem?
    intro i
    by_cases hi : i < w.heap.size
    · rw [Array.getElem?_append_left hi]
      exact (h.block i hi id).symm
    · rw [Array.getElem?_append_right (by omega), Array.getElem?_extract]
      by_cases hj : i < w'.heap.size
      · rw [if_pos (by omega)]
        congr 1
        omega
      · rw [if_neg (by omega), Array.getElem?_eq_none (by omega)]
  obtain ⟨hp, tp, dr, os, out⟩ := w
  obtain ⟨hp', tp', dr', os', out'⟩ := w'
  have e1 := h.os
  have e2 := h.tape
  have e3 := h.output
  simp only at e1 e2 e3 h1 h3
  subst e1 e2 e3
  simp only [grow, World.drewN, World.mk.injEq, h3, true_and, and_true]
  omega

end Go.Proofs.Ytcbfieodjbfjdaa

/- A row that a sort has put in order: what its block holds, and that nothing else has turned. -/
namespace Go.Proofs.Ytcbfieodjbfjdaa
open Go.RowKit Go.Sort Go.Lib
theorem heap_putRow {w : World} {g n : Nat} {os : Array Obj} {cur : Array Value} {e : TypeId} {fr : Nat × Nat} (F : Array Value) (hb : w.heap[g]? = some (.cells cur e fr)) :
    (grow (putRow id (Sort.ahead w n) g 0 F) os).heap[g]? = some (.cells (putCells id 0 F cur) e fr) := by
  have hg : g < w.heap.size := (Array.getElem?_eq_some_iff.1 hb).1
  rw [heap_grow_old _ _ (by simpa using hg)]
  simp [putRow, mapBlock, Sort.ahead, Array.getElem?_modify, hb, onCells]

theorem chg_putRow {w : World} {g n : Nat} {os : Array Obj} (F : Array Value) (S : Nat → Prop) (hS : S g) : Chg S w (grow (putRow id (Sort.ahead w n) g 0 F) os) := by
  refine ⟨rfl, rfl, rfl, by simp, Nat.le_add_right _ _, fun k hk hs => ?_⟩
  rw [heap_grow_old _ _ (by simpa using hk)]
  have : g ≠ k := fun e => hs (e ▸ hS)
  simp [putRow, mapBlock, Sort.ahead, Array.getElem?_modify, this]

end Go.Proofs.Ytcbfieodjbfjdaa

/-
  DERIVED: THE SHELF's CONTRACTS AT THIS DUMP, IN PLAIN WORDS (tools/lay-plain.mjs out of 'TryShelfQ.lean', which tools/lay-shelf.mjs wrote): THE SAME DECLARATIONS UNDER THE SAME NAMES: 'import', 'namespace', 'open', 'def', 'theorem' AND NOTHING ELSE: no command of the shelf's: FOR A HAND-IN. Each laying: the table of numbers ('.._ren') and one theorem, a field a fact of the dump's own or the kernel's comparison; each contract: ONE APPLICATION.
-/
namespace Go.Proofs
open Go.Shelf
def Try.sortF_ren : Go.Shelf.Ren := ⟨fun | 6 => 76 | 15 => 67 | 14 => 98 | 28 => 94 | 29 => 95 | 20 => 111 | 21 => 112 | 22 => 113 | 23 => 114 | 24 => 115 | 25 => 116 | 26 => 117 | 27 => 118 | 46 => 136 | 47 => 106 | 48 => 107 | 49 => 137 | 50 => 138 | 57 => 145 | n => n, fun | 22 => 24 | 24 => 26 | 25 => 100 | 3 => 3 | 39 => 91 | 0 => 0 | 53 => 114 | 55 => 87 | 4 => 4 | 46 => 107 | 45 => 106 | 50 => 111 | 5 => 5 | 9 => 9 | 66 => 125 | 70 => 129 | 76 => 149 | 77 => 72 | n => n, fun | n => n⟩
theorem Try.sortF : Go.Proofs.SlLaysF0.n6 Try.prog Try.sortF_ren := {
  mixed := by kernel_rfl
  f6 := ⟨Try.f76.name, by decide, Try.func76.trans (congrArg some (by kernel_rfl))⟩
  f14 := ⟨Try.f98.name, by decide, Try.func98.trans (congrArg some (by kernel_rfl))⟩
  f15 := Try.func67.trans (congrArg some (by kernel_rfl))
  f20 := ⟨Try.f111.name, by decide, Try.func111.trans (congrArg some (by kernel_rfl))⟩
  f21 := ⟨Try.f112.name, by decide, Try.func112.trans (congrArg some (by kernel_rfl))⟩
  f22 := ⟨Try.f113.name, by decide, Try.func113.trans (congrArg some (by kernel_rfl))⟩
  f23 := ⟨Try.f114.name, by decide, Try.func114.trans (congrArg some (by kernel_rfl))⟩
  f24 := ⟨Try.f115.name, by decide, Try.func115.trans (congrArg some (by kernel_rfl))⟩
  f25 := ⟨Try.f116.name, by decide, Try.func116.trans (congrArg some (by kernel_rfl))⟩
  f26 := ⟨Try.f117.name, by decide, Try.func117.trans (congrArg some (by kernel_rfl))⟩
  f27 := ⟨Try.f118.name, by decide, Try.func118.trans (congrArg some (by kernel_rfl))⟩
  f28 := Try.func94.trans (congrArg some (by kernel_rfl))
  f29 := Try.func95.trans (congrArg some (by kernel_rfl))
  f46 := ⟨Try.f136.name, by decide, Try.func136.trans (congrArg some (by kernel_rfl))⟩
  f47 := Try.func106.trans (congrArg some (by kernel_rfl))
  f48 := Try.func107.trans (congrArg some (by kernel_rfl))
  f49 := ⟨Try.f137.name, by decide, Try.func137.trans (congrArg some (by kernel_rfl))⟩
  f50 := ⟨Try.f138.name, by decide, Try.func138.trans (congrArg some (by kernel_rfl))⟩
  f57 := ⟨Try.f145.name, by decide, Try.func145.trans (congrArg some (by kernel_rfl))⟩
  t0 := Try.underlying0
  a0 := Try.isAgg0
  z0 := Try.sizeOf0
  v0 := Try.zeroValue0
  t3 := Try.underlying3
  a3 := Try.isAgg3
  z3 := Try.sizeOf3
  v3 := Try.zeroValue3
  t4 := Try.underlying4
  a4 := Try.isAgg4
  z4 := Try.sizeOf4
  v4 := Try.zeroValue4
  t5 := Try.underlying5
  a5 := Try.isAgg5
  z5 := Try.sizeOf5
  v5 := Try.zeroValue5
  t9 := Try.underlying9
  a9 := Try.isAgg9
  z9 := Try.sizeOf9
  v9 := Try.zeroValue9
  t22 := Try.underlying24
  a22 := Try.isAgg24
  z22 := Try.sizeOf24
  v22 := Try.zeroValue24
  t25 := Try.underlying100
  a25 := Try.isAgg100
  z25 := Try.sizeOf100
  v25 := Try.zeroValue100
  t39 := Try.underlying91
  a39 := Try.isAgg91
  z39 := Try.sizeOf91
  v39 := Try.zeroValue91
  t45 := Try.underlying106
  a45 := Try.isAgg106
  z45 := Try.sizeOf106
  v45 := Try.zeroValue106
  t46 := Try.underlying107
  a46 := Try.isAgg107
  z46 := Try.sizeOf107
  v46 := Try.zeroValue107
  t50 := Try.underlying111
  a50 := Try.isAgg111
  z50 := Try.sizeOf111
  v50 := Try.zeroValue111
  t53 := Try.underlying114
  a53 := Try.isAgg114
  z53 := Try.sizeOf114
  v53 := Try.zeroValue114
  t55 := Try.underlying87
  a55 := Try.isAgg87
  z55 := Try.sizeOf87
  v55 := Try.zeroValue87
  t66 := Try.underlying125
  a66 := Try.isAgg125
  z66 := Try.sizeOf125
  v66 := Try.zeroValue125
  t70 := Try.underlying129
  a70 := Try.isAgg129
  z70 := Try.sizeOf129
  v70 := Try.zeroValue129
  t76 := Try.underlying149
  a76 := Try.isAgg149
  z76 := Try.sizeOf149
  v76 := Try.zeroValue149
  t77 := Try.underlying72
  a77 := Try.isAgg72
  z77 := Try.sizeOf72
  v77 := Try.zeroValue72 }
end Go.Proofs
