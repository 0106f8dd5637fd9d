/- Texts that the proof leans on, in one: RefKSame, End, Defer, Read, GetNe, CheckG, FirstS, ChFst, ChFirst, RefFNames. -/
import Derived.Test.YtjaplnainlbldaaFc36
import Derived.Test.YtjaplnainlbldaaFc4
import Derived.Test.YtjaplnainlbldaaFc3
import Derived.Test.YtjaplnainlbldaaFc2
import Derived.Defers
import Derived.Recover
import Derived.LaidEqlPtr
import Derived.Test.YtjaplnainlbldaaFc5
import Derived.Test.YtjaplnainlbldaaFc13
import Derived.Test.YtjaplnainlbldaaFc12
import Derived.Test.YtjaplnainlbldaaFc25
import Derived.Test.YtjaplnainlbldaaFc35
import Derived.Test.YtjaplnainlbldaaFc11
import Derived.Test.YtjaplnainlbldaaFc6
import Derived.Test.YtjaplnainlbldaaFc7
/- The contract of the document's Same, of layer 9. -/
namespace Go.Proofs.Ytjaplnainlbldaa
open Go.RowKit
attribute [local go_sem ↓ high] run_neqgK run_neqK

/-- Are two chains the same? -/
def sameK (a b : List StepB) : Bool := decide (a = b)

set_option maxRecDepth 100000 in
set_option maxHeartbeats 4000000 in
theorem rksame {D1 D2 : Nat → Prop} (a1 a2 : Option Addr) (c1 c2 : Nat) (l1 l2 : List StepB) (w : World) (hn : l1.length ≤ 4611686018427387904) (hm : l2.length ≤ 4611686018427387904) (h1 : StepsAt D1 w a1 l1) (h2 : StepsAt D2 w a2 l2) :
  Calls Try.prog 12 #[.slice a1 l1.length c1, .slice a2 l2.length c2] w fun e w' => e = .returned (.bool (sameK l1 l2)) ∧ Chg (fun _ => False) w w' := by
 have HX := hid (And.intro h1 h2)
 clear h1 h2
 by_cases hl : l1.length = l2.length
 ·have z1 : ((l1.length : Int) != (l2.length : Int)) = false := by simp; omega
  have HL := hid hl
  have hl1 : l1.length ≤ l2.length := by omega
  have hl2 : l2.length ≤ l1.length := by omega
  clear hl
  go_enter Try.func12, Try.ntmps12
  go_wp2
  go_loopw [13] (fun i wr => ∃ k : Nat, k ≤ l1.length ∧ i = .int .i64 k ∧ Hid (l1.take k = l2.take k) ∧ Hid (Chg (fun _ => False) w wr)) (fun i _ => l1.length - (intOf i).toNat)
  case atStart => exact ⟨0, Nat.zero_le _, rfl, hid (by simp), hid (Chg.refl _ _)⟩
  case round =>
   obtain ⟨k, hk, rfl, htk, hc⟩ := hrel
   by_cases hlt : k < l1.length
   ·obtain ⟨p1, o1, hp1, _, hx, _⟩ := (HX.out.1.keep hc.out (fun _ _ => id)) k hlt
    obtain ⟨p2, o2, hp2, _, hy, _⟩ := (HX.out.2.keep hc.out (fun _ _ => id)) k (by omega)
    have HKL : Hid (k < l1.length ∧ k < l2.length) := hid ⟨hlt, by omega⟩
    have HNX : Hid ((l1[k] = l2[k]'(by omega) → l1.take (k + 1) = l2.take (k + 1)) ∧ (l1[k] ≠ l2[k]'(by omega) → sameK l1 l2 = false)) := hid ⟨fun he => by rw [List.take_succ_eq_append_getElem hlt, List.take_succ_eq_append_getElem (HL.out ▸ hlt), htk.out, he], fun he => decide_eq_false (fun h => by subst h; exact he rfl)⟩
    generalize l1[k] = x at *
    generalize l2[k]'(by omega) = y at *
    have HXY := hid (And.intro hx hy)
    clear hx hy htk
    subst hp1
    subst hp2
    go_wp2_with fail
    refine wp_region_specs ([.eq (.slice (some ⟨p1, o1, none⟩) l1.length c1), .eq (.slice (some ⟨p2, o2, none⟩) l2.length c2), .any, .any, .any, .eq (.int .i64 k), .any, .any, .any, .any, .any, .any, .any, .any, .any, .any, .eq (.slice (some ⟨p1, o1, none⟩) l1.length c1), .eq (.int .i64 k), .eq (.pointer (some ⟨p1, o1 + k * 12, none⟩)), .eq (.agg #[.int .i64 x.c.kind, .string ⟨x.c.head.1.toArray⟩, .string ⟨x.c.head.2.toArray⟩, .string ⟨x.c.who.toArray⟩, .string ⟨x.c.b.1.toArray⟩, .string ⟨x.c.b.2.toArray⟩, .string ⟨x.c.c.1.toArray⟩, .string ⟨x.c.c.2.toArray⟩, .string ⟨x.c.w2.toArray⟩, .string ⟨x.f.1.1.toArray⟩, .string ⟨x.f.1.2.toArray⟩, .string ⟨x.f.2.toArray⟩]), .eq (.slice (some ⟨p2, o2, none⟩) l2.length c2), .eq (.int .i64 k), .eq (.pointer (some ⟨p2, o2 + k * 12, none⟩)), .eq (.agg #[.int .i64 y.c.kind, .string ⟨y.c.head.1.toArray⟩, .string ⟨y.c.head.2.toArray⟩, .string ⟨y.c.who.toArray⟩, .string ⟨y.c.b.1.toArray⟩, .string ⟨y.c.b.2.toArray⟩, .string ⟨y.c.c.1.toArray⟩, .string ⟨y.c.c.2.toArray⟩, .string ⟨y.c.w2.toArray⟩, .string ⟨y.f.1.1.toArray⟩, .string ⟨y.f.1.2.toArray⟩, .string ⟨y.f.2.toArray⟩]), .eq (.bool (!eqK x y)), .any] : List Spec) [16, 17, 18, 19, 20, 21, 22, 23, 24] [0, 1, 5] (by kernel_rfl) (by kernel_rfl) (by rfl) (by kernel_rfl) ?start ?obs ?fin
    case start =>
     simp only [List.forall_mem_cons]; exact ⟨⟨_, rfl, rfl⟩, ⟨_, rfl, rfl⟩, ⟨_, rfl, rfl⟩, fun _ h => by cases h⟩
    case obs =>
     refine Obs.cons none (by kernel_rfl) ?_ ?_
     ·refine Ob.plain fun a w hR hk K k9 => ?_
      obtain ⟨_, e0, f0⟩ := hk 0 (by decide)
      clear hk
      go_simp
      exact k9 _ _ (Chg.refl _ _) f0
     refine Obs.cons none (by kernel_rfl) ?_ ?_
     ·refine Ob.plain fun a w hR hk K k9 => ?_
      obtain ⟨_, e5, f5⟩ := hk 5 (by decide)
      clear hk
      go_simp
      exact k9 _ _ (Chg.refl _ _) f5
     refine Obs.cons none (by kernel_rfl) ?_ ?_
     ·refine Ob.plain fun a w hR hk K k9 => ?_
      obtain ⟨_, e16, rfl⟩ := hk 16 (by decide)
      obtain ⟨_, e17, rfl⟩ := hk 17 (by decide)
      clear hk
      have hk3 : k < l1.length := HKL.out.1
      go_simp
      exact k9 _ _ (Chg.refl _ _) rfl
     refine Obs.cons none (by kernel_rfl) ?_ ?_
     ·refine Ob.plain fun a w hR hk K k9 => ?_
      obtain ⟨_, e18, rfl⟩ := hk 18 (by decide)
      clear hk
      obtain ⟨⟨a0, a1, a2, a3, a4, a5, a6, a7, a8⟩, ⟨b0, b1, b2⟩⟩ := (HXY.out.1).keep hR id
      change w.cell? ⟨p1, o1 + k * 12 + 10, none⟩ = _ at b1
      change w.cell? ⟨p1, o1 + k * 12 + 11, none⟩ = _ at b2
      go_simp
      exact k9 _ _ (Chg.refl _ _) rfl
     refine Obs.cons none (by kernel_rfl) ?_ ?_
     ·refine Ob.plain fun a w hR hk K k9 => ?_
      obtain ⟨_, e1, f1⟩ := hk 1 (by decide)
      clear hk
      go_simp
      exact k9 _ _ (Chg.refl _ _) f1
     refine Obs.cons none (by kernel_rfl) ?_ ?_
     ·refine Ob.plain fun a w hR hk K k9 => ?_
      obtain ⟨_, e5, f5⟩ := hk 5 (by decide)
      clear hk
      go_simp
      exact k9 _ _ (Chg.refl _ _) f5
     refine Obs.cons none (by kernel_rfl) ?_ ?_
     ·refine Ob.plain fun a w hR hk K k9 => ?_
      obtain ⟨_, e20, rfl⟩ := hk 20 (by decide)
      obtain ⟨_, e21, rfl⟩ := hk 21 (by decide)
      clear hk
      have hk3 : k < l2.length := HKL.out.2
      go_simp
      exact k9 _ _ (Chg.refl _ _) rfl
     refine Obs.cons none (by kernel_rfl) ?_ ?_
     ·refine Ob.plain fun a w hR hk K k9 => ?_
      obtain ⟨_, e22, rfl⟩ := hk 22 (by decide)
      clear hk
      obtain ⟨⟨a0, a1, a2, a3, a4, a5, a6, a7, a8⟩, ⟨b0, b1, b2⟩⟩ := (HXY.out.2).keep hR id
      change w.cell? ⟨p2, o2 + k * 12 + 10, none⟩ = _ at b1
      change w.cell? ⟨p2, o2 + k * 12 + 11, none⟩ = _ at b2
      go_simp
      exact k9 _ _ (Chg.refl _ _) rfl
     refine Obs.cons none (by kernel_rfl) ?_ ?_
     ·refine Ob.plain fun a w hR hk K k9 => ?_
      obtain ⟨_, e19, rfl⟩ := hk 19 (by decide)
      obtain ⟨_, e23, rfl⟩ := hk 23 (by decide)
      clear hk
      go_simp
      exact k9 _ _ (Chg.refl _ _) rfl
     exact Obs.nil
    case fin =>
     intro vals w9 hc9 hv
     have h24 : vals 24 = .bool (!eqK x y) := hv 24 (by decide)
     have HC9 := hid (hc.out.trans hc9 (fun _ _ h => h))
     have HQ : Hid ((eqK x y = true → l1.take (k + 1) = l2.take (k + 1)) ∧ (eqK x y = false → sameK l1 l2 = false)) := hid ⟨fun h => HNX.out.1 (of_decide_eq_true h), fun h => HNX.out.2 (of_decide_eq_false h)⟩
     simp only [putAll, List.setIfInBounds_toArray, List.set_cons_zero, List.set_cons_succ, h24]
     clear hv h24 hc9 hc HNX
     cases he : eqK x y with
     | true =>
      have HUP := hid (HQ.out.1 he)
      clear he
      go_wp2
      go_roundw
      case rel => exact ⟨k + 1, by have := HKL.out.1; omega, by go_num, HUP, HC9⟩
      case measure => have := HKL.out.1; simp [intOf]; omega
     | false =>
      have HRES := hid (HQ.out.2 he)
      clear he
      go_wp2
      go_ret
      exact ⟨by rw [HRES.out]; rfl, HC9.out⟩
   ·have HRES : Hid (sameK l1 l2 = true) := hid (decide_eq_true (by have := htk.out; rwa [List.take_of_length_le (by omega), List.take_of_length_le (by omega)] at this))
    clear htk
    go_wp2
    go_ret
    exact ⟨by rw [HRES.out]; rfl, hc.out⟩
 ·have z1 : ((l1.length : Int) != (l2.length : Int)) = true := by simp; omega
  have HRES : Hid (sameK l1 l2 = false) := hid (decide_eq_false (fun h => hl (by rw [h])))
  clear hl
  go_enter Try.func12, Try.ntmps12
  go_wp2
  go_ret
  exact ⟨by rw [HRES.out]; rfl, Chg.refl _ _⟩
end Go.Proofs.Ytjaplnainlbldaa

/- The contract of a reader's end. -/
namespace Go.Proofs.Ytjaplnainlbldaa
open Go.RowKit

end Go.Proofs.Ytjaplnainlbldaa

/- The three contracts of the function that Read defers. -/
namespace Go.Proofs.Ytjaplnainlbldaa
open Go.RowKit

end Go.Proofs.Ytjaplnainlbldaa

/- The four contracts of Read, by how f ends. -/
namespace Go.Proofs.Ytjaplnainlbldaa
open Go.RowKit

end Go.Proofs.Ytjaplnainlbldaa

/- What a failed Get of a credential tells is no zero. (As in SignRead, under names of its own, without the program's keys.) -/
namespace Go.Proofs.Ytjaplnainlbldaa
open Go.RowKit

end Go.Proofs.Ytjaplnainlbldaa

/- What the law CheckGets asks of the program's check beside CK, and Read with the law's function over it. -/
namespace Go.Proofs.Ytjaplnainlbldaa
open Go.RowKit

end Go.Proofs.Ytjaplnainlbldaa

/- Words for law 9's first. -/
namespace Go.Proofs.Ytjaplnainlbldaa
open Go.RowKit

def cM9 : CredB := ⟨1, ([98], [115]), [100], noneR, noneR, []⟩
def fB9 : FactB := (([98], [115]), [100])

theorem cM9_ok : isCred cM9 = true := by decide +kernel
theorem short_M9 : credShort cM9 16 := isCred_short cM9_ok

def stX : StepB := ⟨cM9, fB9⟩
end Go.Proofs.Ytjaplnainlbldaa

/- Words for law 10's first. -/
namespace Go.Proofs.Ytjaplnainlbldaa
open Go.RowKit

theorem fst_set : SetC [cM9] [cM9] := by
 refine ⟨?_, fun c => ?_⟩
 ·exact ⟨fun y hy => by simp at hy, trivial⟩
 ·constructor
  ·intro h
   rw [List.mem_singleton] at h
   subst h
   exact ⟨by simp, by decide +kernel⟩
  ·exact fun h => h.1
theorem fst_set0 : SetC [] [] := ⟨trivial, fun c => by simp⟩
theorem fst_find : FindIs [cM9] fB9 [stX] true :=
 ⟨[cM9], [stX], fst_set, ⟨0, by decide +kernel, .inr (by decide +kernel), fun j hj => absurd hj (Nat.not_lt_zero j)⟩, .inl ⟨by decide +kernel, rfl, by decide +kernel⟩⟩
theorem fst_none : FindIs [] fB9 [] false :=
 ⟨[], [], fst_set0, ⟨0, by decide +kernel, .inl (Nat.le_refl 0), fun j hj => absurd hj (Nat.not_lt_zero j)⟩, .inr ⟨by decide +kernel, rfl, rfl⟩⟩
theorem fst_merge : mergeL [[stX], [stX]] = [stX] := by decide +kernel
end Go.Proofs.Ytjaplnainlbldaa

/- Law 10's first. -/
namespace Go.Proofs.Ytjaplnainlbldaa
open Go.RowKit Go.Maps
def Spec.sl10 (n : Nat) : Spec := ⟨fun v _ => ∃ ao cap, v = .slice ao n cap, fun _ _ _ _ h => h⟩
def Spec.rows10 : Spec := ⟨fun v w => ∃ b, v = .slice (some ⟨b, 0, none⟩) 2 2 ∧ RowsAt (fun _ => True) w (some ⟨b, 0, none⟩) [[stX], [stX]], fun _ _ _ hc ⟨b, h1, h2⟩ => ⟨b, h1, h2.keep hc (fun _ _ => id)⟩⟩
theorem rows_two10 {w : World} {b lb lo cap : Nat} {ty : TypeId} {z : Nat × Nat} (hb : w.heap[b]? = some (.cells #[.slice (some ⟨lb, lo, none⟩) 1 cap, .slice (some ⟨lb, lo, none⟩) 1 cap] ty z)) (h : StepsAt (fun _ => True) w (some ⟨lb, lo, none⟩) [stX]) : RowsAt (fun _ => True) w (some ⟨b, 0, none⟩) [[stX], [stX]] := fun j hj => by
 rcases j with _ | _ | j
 ·exact ⟨b, 0, _, cap, rfl, trivial, cell_blk hb 0, h, fun e => by cases e⟩
 ·exact ⟨b, 0, _, cap, rfl, trivial, cell_blk hb 1, h, fun e => by cases e⟩
 ·simp at hj; omega
theorem fB9_sh : factShort fB9 9223372036854775807 := by
 unfold factShort
 refine ⟨?_, ?_, ?_⟩ <;> decide
def w4 (w : World) : World := (((w.alloc (.cells #[.int .i64 1, .string ⟨#[98]⟩, .string ⟨#[115]⟩, .string ⟨#[100]⟩, .string ⟨#[]⟩, .string ⟨#[]⟩, .string ⟨#[]⟩, .string ⟨#[]⟩, .string ⟨#[]⟩] 36)).alloc (.cells #[.string ⟨#[98]⟩, .string ⟨#[115]⟩, .string ⟨#[100]⟩] 26)).alloc (.cells #[.int .i64 1, .string ⟨#[98]⟩, .string ⟨#[115]⟩, .string ⟨#[100]⟩, .string ⟨#[]⟩, .string ⟨#[]⟩, .string ⟨#[]⟩, .string ⟨#[]⟩, .string ⟨#[]⟩] 36))
theorem w4_chg (w : World) : Chg (fun _ => False) w (w4 w) := (((Chg.refl _ w).alloc _).alloc _).alloc _
theorem w4_size (w : World) : (w4 w).heap.size = w.heap.size + 3 := by unfold w4; simp
theorem w4_d (w : World) : (w4 w).heap[w.heap.size]? = some (.cells (credBox cM9) 36 (0, 0)) :=
 blk_keep (heap_alloc_new w _) (((Chg.refl (fun _ => False) _).alloc _).alloc _) id
theorem w4_f (w : World) : (w4 w).heap[w.heap.size + 1]? = some (.cells (factBox fB9) 26 (0, 0)) := by
 have h := heap_alloc_new (w.alloc (.cells #[.int .i64 1, .string ⟨#[98]⟩, .string ⟨#[115]⟩, .string ⟨#[100]⟩, .string ⟨#[]⟩, .string ⟨#[]⟩, .string ⟨#[]⟩, .string ⟨#[]⟩, .string ⟨#[]⟩] 36)) (.cells #[.string ⟨#[98]⟩, .string ⟨#[115]⟩, .string ⟨#[100]⟩] 26)
 rw [World.size_alloc] at h
 exact blk_keep h ((Chg.refl (fun _ => False) _).alloc _) id
theorem w4_c (w : World) : CredsAt (fun k => k = w.heap.size + 2) (w4 w) (some ⟨w.heap.size + 2, 0, none⟩) [cM9] := by
 have h := heap_alloc_new ((w.alloc (.cells #[.int .i64 1, .string ⟨#[98]⟩, .string ⟨#[115]⟩, .string ⟨#[100]⟩, .string ⟨#[]⟩, .string ⟨#[]⟩, .string ⟨#[]⟩, .string ⟨#[]⟩, .string ⟨#[]⟩] 36)).alloc (.cells #[.string ⟨#[98]⟩, .string ⟨#[115]⟩, .string ⟨#[100]⟩] 26)) (.cells #[.int .i64 1, .string ⟨#[98]⟩, .string ⟨#[115]⟩, .string ⟨#[100]⟩, .string ⟨#[]⟩, .string ⟨#[]⟩, .string ⟨#[]⟩, .string ⟨#[]⟩, .string ⟨#[]⟩] 36)
 rw [World.size_alloc, World.size_alloc] at h
 intro i hi
 have h0 : i = 0 := by simpa using hi
 subst h0
 exact ⟨w.heap.size + 2, 0, rfl, rfl, by rw [Nat.zero_mul, Nat.zero_add]; exact cred_at_blk (c := cM9) h, (short_M9).mono (by decide)⟩
set_option maxRecDepth 100000 in
set_option maxHeartbeats 2000000 in
theorem ch_first (w : World) :
  Calls Try.prog 7 #[] w (fun e w' => e = .returned (.bool true) ∧ Chg (fun _ => False) w w') := by
 have hf : Calls Try.prog 9 #[.slice (some ⟨w.heap.size + 1 + 1, 0, none⟩) 1 1, .agg #[.string ⟨#[98]⟩, .string ⟨#[115]⟩, .string ⟨#[100]⟩]] (w4 w) (FindPost [cM9] fB9 (w4 w)) :=
  ch_find (some ⟨w.heap.size + 1 + 1, 0, none⟩) 1 [cM9] fB9 (w4 w) (by decide) (w4_c w) (fun i hi => by rw [hi, w4_size]; omega) (fun h => by cases h) fB9_sh
 have HF := hid hf
 have HC := hid (And.intro (w4_chg w) (And.intro (w4_d w) (w4_f w)))
 have hsz := w4_size w
 clear hf
 unfold w4 at hsz HF HC
 go_enter Try.func7, Try.ntmps7
 go_wp2_with fail
 refine HF.out.mono ?_
 rintro e w5 ⟨v, R, b, rfl, h1, h2, h3⟩
 obtain ⟨rfl, rfl⟩ := h1.one fst_find
 have HC5 := hid (HC.out.1.trans h3 (fun _ _ h => h))
 have HB5 := hid (And.intro (blk_keep HC.out.2.1 h3 id) (blk_keep HC.out.2.2 h3 id))
 have f0 : w5.cell? ⟨w.heap.size + 1, 0, none⟩ = some (.string ⟨#[98]⟩) := cell_blk HB5.out.2 0
 have f1 : w5.cell? ⟨w.heap.size + 1, 1, none⟩ = some (.string ⟨#[115]⟩) := cell_blk HB5.out.2 1
 have f2 : w5.cell? ⟨w.heap.size + 1, 2, none⟩ = some (.string ⟨#[100]⟩) := cell_blk HB5.out.2 2
 have hN : Calls Try.prog 9 #[.slice none 0 0, .agg #[.string ⟨#[98]⟩, .string ⟨#[115]⟩, .string ⟨#[100]⟩]] w5 (FindPost [] fB9 w5) :=
  ch_find (D := fun _ => False) none 0 [] fB9 w5 (by decide) (fun i hi => absurd hi (Nat.not_lt_zero i)) (fun i hi => hi.elim) (fun _ => rfl) fB9_sh
 have HN := hid hN
 obtain ⟨ao, cap, rfl, hst, _⟩ := h2.steps (fun x hx => by
  rw [List.mem_singleton] at hx
  subst hx
  exact ⟨short_M9.mono (by decide), fB9_sh⟩)
 have HST := hid hst
 clear HF HC h1 h2 h3 hsz hst hN
 go_wp2_with fail
 refine HN.out.mono ?_
 rintro e w6 ⟨v6, R6, b6, rfl, h1, _, h3⟩
 obtain ⟨rfl, rfl⟩ := h1.one fst_none
 have HC6 := hid (HC5.out.trans h3 (fun _ _ h => h))
 have HB6 := hid (And.intro (blk_keep HB5.out.1 h3 id) (blk_keep HB5.out.2 h3 id))
 have hST6 := HST.out.keep h3 (fun _ _ => id)
 obtain ⟨lb, lo, rfl, _, _, _⟩ := hST6 0 (by decide)
 have HST6 := hid hST6
 clear HC5 HB5 HST HN h1 h3 f0 f1 f2 hST6
 go_wp2
 obtain ⟨HW10, hHW⟩ : ∃ HW10, HW10 = w.heap.size := ⟨_, rfl⟩
 rw [← hHW] at HB6 ⊢
 clear hHW
 refine wp_region_specs [.eq (.bool true), .eq (.pointer (some ⟨HW10, 0, none⟩)), .eq (.pointer (some ⟨HW10 + 1, 0, none⟩)), .eq (.slice (some ⟨lb, lo, none⟩) 1 cap), .eq (.bool true), .any, .eq (.bool false), .any, .any, .any, .any, .any, .any, .any, .any, .any, .any, .any, .any, .any, .any, .any, .any, .any, .eq (.bool true), .eq (.bool true), .eq (.bool false), .eq (.bool true), .eq (.bool true), .eq (.bool true), .eq (.slice (some ⟨lb, lo, none⟩) 1 cap), .eq (.int .i64 1), .eq (.bool true), .eq (.bool true), .eq (.bool true), .eq (.slice (some ⟨lb, lo, none⟩) 1 cap), .eq (.pointer (some ⟨lb, lo, none⟩)), .eq (.agg #[.int .i64 1, .string ⟨#[98]⟩, .string ⟨#[115]⟩, .string ⟨#[100]⟩, .string ⟨#[]⟩, .string ⟨#[]⟩, .string ⟨#[]⟩, .string ⟨#[]⟩, .string ⟨#[]⟩, .string ⟨#[98]⟩, .string ⟨#[115]⟩, .string ⟨#[100]⟩]), .eq (.agg #[.int .i64 1, .string ⟨#[98]⟩, .string ⟨#[115]⟩, .string ⟨#[100]⟩, .string ⟨#[]⟩, .string ⟨#[]⟩, .string ⟨#[]⟩, .string ⟨#[]⟩, .string ⟨#[]⟩]), .eq (.agg #[.string ⟨#[98]⟩, .string ⟨#[115]⟩, .string ⟨#[100]⟩]), .eq (.agg #[.int .i64 1, .string ⟨#[98]⟩, .string ⟨#[115]⟩, .string ⟨#[100]⟩, .string ⟨#[]⟩, .string ⟨#[]⟩, .string ⟨#[]⟩, .string ⟨#[]⟩, .string ⟨#[]⟩, .string ⟨#[98]⟩, .string ⟨#[115]⟩, .string ⟨#[100]⟩]), .eq (.bool true), .eq (.bool true), .eq (.bool true), .eq (.slice (some ⟨lb, lo, none⟩) 1 cap), .sl10 1, .eq (.int .i64 1), .eq (.bool true), .eq (.bool true), .eq (.bool true), .eq (.slice (some ⟨lb, lo, none⟩) 1 cap), .eq (.slice (some ⟨lb, lo, none⟩) 1 cap), .rows10, .sl10 1, .eq (.int .i64 1), .eq (.bool true), .eq (.bool true)] [24, 25, 26, 27, 28, 29, 30, 31, 32, 33, 34, 35, 36, 37, 38, 39, 40, 41, 42, 43, 44, 45, 46, 47, 48, 49, 50, 51, 52, 53, 54, 55, 56, 0] [1, 2, 3, 4, 6] (by kernel_rfl) (by kernel_rfl) (by rfl) (by kernel_rfl) ?start ?obs ?fin
 case start =>
  simp only [List.forall_mem_cons]; exact ⟨⟨_, rfl, rfl⟩, ⟨_, rfl, rfl⟩, ⟨_, rfl, rfl⟩, ⟨_, rfl, rfl⟩, ⟨_, rfl, rfl⟩, fun _ h => by cases h⟩
 case obs =>
  refine Obs.cons none (by kernel_rfl) ?_ ?_
  ·refine Ob.plain fun a w hR hk K k => ?_
   obtain ⟨_, e4, f4⟩ := hk 4 (by decide)
   clear hk
   go_simp
   exact k _ _ (Chg.refl _ _) f4
  refine Obs.cons none (by kernel_rfl) ?_ ?_
  ·refine Ob.plain fun a w hR hk K k => ?_
   obtain ⟨_, e24, f24⟩ := hk 24 (by decide)
   clear hk
   go_simp
   exact k _ _ (Chg.refl _ _) f24
  refine Obs.cons (some (25, true)) (by kernel_rfl) ?_ ?_
  ·refine Ob.yes (fun _ _ h => h) fun a w hR hk K k => ?_
   obtain ⟨_, e6, f6⟩ := hk 6 (by decide)
   clear hk
   go_simp
   exact k _ _ (Chg.refl _ _) f6
  refine Obs.cons (some (25, true)) (by kernel_rfl) ?_ ?_
  ·refine Ob.yes (fun _ _ h => h) fun a w hR hk K k => ?_
   obtain ⟨_, e26, rfl⟩ := hk 26 (by decide)
   clear hk
   go_simp
   exact k _ _ (Chg.refl _ _) rfl
  refine Obs.cons none (by kernel_rfl) ?_ ?_
  ·refine Ob.plain fun a w hR hk K k => ?_
   obtain ⟨_, e25, rfl⟩ := hk 25 (by decide)
   obtain ⟨_, e27, rfl⟩ := hk 27 (by decide)
   clear hk
   go_simp
   exact k _ _ (Chg.refl _ _) rfl
  refine Obs.cons none (by kernel_rfl) ?_ ?_
  ·refine Ob.plain fun a w hR hk K k => ?_
   obtain ⟨_, e28, f28⟩ := hk 28 (by decide)
   clear hk
   go_simp
   exact k _ _ (Chg.refl _ _) f28
  refine Obs.cons (some (29, true)) (by kernel_rfl) ?_ ?_
  ·refine Ob.yes (fun _ _ h => h) fun a w hR hk K k => ?_
   obtain ⟨_, e3, f3⟩ := hk 3 (by decide)
   clear hk
   go_simp
   exact k _ _ (Chg.refl _ _) f3
  refine Obs.cons (some (29, true)) (by kernel_rfl) ?_ ?_
  ·refine Ob.yes (fun _ _ h => h) fun a w hR hk K k => ?_
   obtain ⟨_, e30, rfl⟩ := hk 30 (by decide)
   clear hk
   go_simp
   exact k _ _ (Chg.refl _ _) rfl
  refine Obs.cons (some (29, true)) (by kernel_rfl) ?_ ?_
  ·refine Ob.yes (fun _ _ h => h) fun a w hR hk K k => ?_
   obtain ⟨_, e31, rfl⟩ := hk 31 (by decide)
   clear hk
   go_simp
   exact k _ _ (Chg.refl _ _) rfl
  refine Obs.cons none (by kernel_rfl) ?_ ?_
  ·refine Ob.plain fun a w hR hk K k => ?_
   obtain ⟨_, e29, rfl⟩ := hk 29 (by decide)
   obtain ⟨_, e32, rfl⟩ := hk 32 (by decide)
   clear hk
   go_simp
   exact k _ _ (Chg.refl _ _) rfl
  refine Obs.cons none (by kernel_rfl) ?_ ?_
  ·refine Ob.plain fun a w hR hk K k => ?_
   obtain ⟨_, e33, f33⟩ := hk 33 (by decide)
   clear hk
   go_simp
   exact k _ _ (Chg.refl _ _) f33
  refine Obs.cons (some (34, true)) (by kernel_rfl) ?_ ?_
  ·refine Ob.yes (fun _ _ h => h) fun a w hR hk K k => ?_
   obtain ⟨_, e3, f3⟩ := hk 3 (by decide)
   clear hk
   go_simp
   exact k _ _ (Chg.refl _ _) f3
  refine Obs.cons (some (34, true)) (by kernel_rfl) ?_ ?_
  ·refine Ob.yes (fun _ _ h => h) fun a w hR hk K k => ?_
   obtain ⟨_, e35, rfl⟩ := hk 35 (by decide)
   clear hk
   go_simp
   exact k _ _ (Chg.refl _ _) rfl
  refine Obs.cons (some (34, true)) (by kernel_rfl) ?_ ?_
  ·refine Ob.yes (fun _ _ h => h) fun a w hR hk K k => ?_
   obtain ⟨_, e36, rfl⟩ := hk 36 (by decide)
   clear hk
   obtain ⟨lb2, lo2, hlo, _, ⟨⟨a0, a1, a2, a3, a4, a5, a6, a7, a8⟩, ⟨b0, b1, b2⟩⟩, _⟩ := (HST6.out.keep hR (fun _ _ => id)) 0 (by decide)
   injection hlo with hlo
   injection hlo with e1 e2 _
   subst e1
   subst e2
   simp only [Nat.zero_mul, Nat.add_zero] at a0 a1 a2 a3 a4 a5 a6 a7 a8 b0 b1 b2
   change _ = some (Value.string ⟨#[98]⟩) at a1
   change _ = some (Value.string ⟨#[115]⟩) at a2
   change _ = some (Value.string ⟨#[100]⟩) at a3
   change _ = some (Value.string ⟨#[]⟩) at a4
   change _ = some (Value.string ⟨#[]⟩) at a5
   change _ = some (Value.string ⟨#[]⟩) at a6
   change _ = some (Value.string ⟨#[]⟩) at a7
   change _ = some (Value.string ⟨#[]⟩) at a8
   change _ = some (Value.string ⟨#[98]⟩) at b0
   change w.cell? ⟨lb, lo + 10, none⟩ = some (Value.string ⟨#[115]⟩) at b1
   change w.cell? ⟨lb, lo + 11, none⟩ = some (Value.string ⟨#[100]⟩) at b2
   change _ = some (Value.int .i64 1) at a0
   go_simp
   exact k _ _ (Chg.refl _ _) rfl
  refine Obs.cons (some (34, true)) (by kernel_rfl) ?_ ?_
  ·refine Ob.yes (fun _ _ h => h) fun a w hR hk K k => ?_
   obtain ⟨_, e1, rfl⟩ := hk 1 (by decide)
   clear hk
   obtain ⟨a0, a1, a2, a3, a4, a5, a6, a7, a8⟩ := cred_at_blk (blk_keep HB6.out.1 hR id)
   simp only [Nat.zero_add] at a0 a1 a2 a3 a4 a5 a6 a7 a8
   change _ = some (Value.string ⟨#[98]⟩) at a1
   change _ = some (Value.string ⟨#[115]⟩) at a2
   change _ = some (Value.string ⟨#[100]⟩) at a3
   change _ = some (Value.string ⟨#[]⟩) at a4
   change _ = some (Value.string ⟨#[]⟩) at a5
   change _ = some (Value.string ⟨#[]⟩) at a6
   change _ = some (Value.string ⟨#[]⟩) at a7
   change _ = some (Value.string ⟨#[]⟩) at a8
   change _ = some (Value.int .i64 1) at a0
   go_simp
   exact k _ _ (Chg.refl _ _) rfl
  refine Obs.cons (some (34, true)) (by kernel_rfl) ?_ ?_
  ·refine Ob.yes (fun _ _ h => h) fun a w hR hk K k => ?_
   obtain ⟨_, e2, rfl⟩ := hk 2 (by decide)
   clear hk
   have hb := blk_keep HB6.out.2 hR id
   have f0 : w.cell? ⟨HW10 + 1, 0, none⟩ = some (.string ⟨#[98]⟩) := cell_blk hb 0
   have f1 : w.cell? ⟨HW10 + 1, 1, none⟩ = some (.string ⟨#[115]⟩) := cell_blk hb 1
   have f2 : w.cell? ⟨HW10 + 1, 2, none⟩ = some (.string ⟨#[100]⟩) := cell_blk hb 2
   go_simp
   exact k _ _ (Chg.refl _ _) rfl
  refine Obs.cons (some (34, true)) (by kernel_rfl) ?_ ?_
  ·refine Ob.yes (fun _ _ h => h) fun a w hR hk K k => ?_
   obtain ⟨_, e38, rfl⟩ := hk 38 (by decide)
   obtain ⟨_, e39, rfl⟩ := hk 39 (by decide)
   clear hk
   go_simp
   exact k _ _ (Chg.refl _ _) rfl
  refine Obs.cons (some (34, true)) (by kernel_rfl) ?_ ?_
  ·refine Ob.yes (fun _ _ h => h) fun a w hR hk K k => ?_
   obtain ⟨_, e37, rfl⟩ := hk 37 (by decide)
   obtain ⟨_, e40, rfl⟩ := hk 40 (by decide)
   clear hk
   go_simp
   exact k _ _ (Chg.refl _ _) rfl
  refine Obs.cons none (by kernel_rfl) ?_ ?_
  ·refine Ob.plain fun a w hR hk K k => ?_
   obtain ⟨_, e34, rfl⟩ := hk 34 (by decide)
   obtain ⟨_, e41, rfl⟩ := hk 41 (by decide)
   clear hk
   go_simp
   exact k _ _ (Chg.refl _ _) rfl
  refine Obs.cons none (by kernel_rfl) ?_ ?_
  ·refine Ob.plain fun a w hR hk K k => ?_
   obtain ⟨_, e42, f42⟩ := hk 42 (by decide)
   clear hk
   go_simp
   exact k _ _ (Chg.refl _ _) f42
  refine Obs.cons (some (43, true)) (by kernel_rfl) ?_ ?_
  ·refine Ob.yes (fun _ _ h => h) fun a w hR hk K k => ?_
   obtain ⟨_, e3, f3⟩ := hk 3 (by decide)
   clear hk
   go_simp
   exact k _ _ (Chg.refl _ _) f3
  refine Obs.cons (some (43, true)) (by kernel_rfl) ?_ ?_
  ·refine Ob.yes (fun _ _ h => h) fun a w hR hk K k => ?_
   obtain ⟨_, e44, rfl⟩ := hk 44 (by decide)
   clear hk
   have hq := ch_used (some ⟨lb, lo, none⟩) cap [stX] w (by decide) (HST6.out.keep hR (fun _ _ => id))
   simp only [List.length_cons, List.length_nil, Nat.zero_add] at hq
   go_simp
   refine hq.mono ?_
   rintro e w9 ⟨out, ao9, cap9, rfl, hs, _, hc, _⟩
   have ho : out = [cM9] := hs.one fst_set
   subst ho
   exact k _ _ hc ⟨_, _, rfl⟩
  refine Obs.cons (some (43, true)) (by kernel_rfl) ?_ ?_
  ·refine Ob.yes (fun _ _ h => h) fun a w hR hk K k => ?_
   obtain ⟨_, e45, f45⟩ := hk 45 (by decide)
   clear hk
   obtain ⟨ao9, cap9, rfl⟩ := f45
   go_simp
   exact k _ _ (Chg.refl _ _) rfl
  refine Obs.cons (some (43, true)) (by kernel_rfl) ?_ ?_
  ·refine Ob.yes (fun _ _ h => h) fun a w hR hk K k => ?_
   obtain ⟨_, e46, rfl⟩ := hk 46 (by decide)
   clear hk
   go_simp
   exact k _ _ (Chg.refl _ _) rfl
  refine Obs.cons none (by kernel_rfl) ?_ ?_
  ·refine Ob.plain fun a w hR hk K k => ?_
   obtain ⟨_, e43, rfl⟩ := hk 43 (by decide)
   obtain ⟨_, e47, rfl⟩ := hk 47 (by decide)
   clear hk
   go_simp
   exact k _ _ (Chg.refl _ _) rfl
  refine Obs.cons none (by kernel_rfl) ?_ ?_
  ·refine Ob.plain fun a w hR hk K k => ?_
   obtain ⟨_, e48, f48⟩ := hk 48 (by decide)
   clear hk
   go_simp
   exact k _ _ (Chg.refl _ _) f48
  refine Obs.cons (some (49, true)) (by kernel_rfl) ?_ ?_
  ·refine Ob.yes (fun _ _ h => h) fun a w hR hk K k => ?_
   obtain ⟨_, e3, f3⟩ := hk 3 (by decide)
   clear hk
   go_simp
   exact k _ _ (Chg.refl _ _) f3
  refine Obs.cons (some (49, true)) (by kernel_rfl) ?_ ?_
  ·refine Ob.yes (fun _ _ h => h) fun a w hR hk K k => ?_
   obtain ⟨_, e3, f3⟩ := hk 3 (by decide)
   clear hk
   go_simp
   exact k _ _ (Chg.refl _ _) f3
  refine Obs.cons (some (49, true)) (by kernel_rfl) ?_ ?_
  ·refine Ob.yes (fun _ _ h => h) fun a w hR hk K k => ?_
   obtain ⟨_, e50, rfl⟩ := hk 50 (by decide)
   obtain ⟨_, e51, rfl⟩ := hk 51 (by decide)
   clear hk
   have hb := heap_alloc_new w (.cells #[.slice (some ⟨lb, lo, none⟩) 1 cap, .slice (some ⟨lb, lo, none⟩) 1 cap] 29)
   have hro : RowsAt (fun _ => True) (w.alloc (.cells #[.slice (some ⟨lb, lo, none⟩) 1 cap, .slice (some ⟨lb, lo, none⟩) 1 cap] 29)) (some ⟨w.heap.size, 0, none⟩) [[stX], [stX]] := rows_two10 hb (((HST6.out.keep hR (fun _ _ => id)).keep ((Chg.refl (fun _ => False) w).alloc _) (fun _ _ => id)).mono (fun _ _ => trivial))
   go_simp
   exact k _ _ ((Chg.refl _ _).alloc _) ⟨_, rfl, hro⟩
  refine Obs.cons (some (49, true)) (by kernel_rfl) ?_ ?_
  ·refine Ob.yes (fun _ _ h => h) fun a w hR hk K k => ?_
   obtain ⟨_, e52, f52⟩ := hk 52 (by decide)
   clear hk
   obtain ⟨b9, rfl, hro⟩ := f52
   have hq := ch_merge (some ⟨b9, 0, none⟩) 2 [[stX], [stX]] w (by decide) (by decide) hro
   simp only [List.length_cons, List.length_nil, Nat.zero_add, Nat.reduceAdd] at hq
   go_simp
   refine hq.mono ?_
   rintro e w9 ⟨v9, rfl, ho, hc⟩
   rw [fst_merge] at ho
   obtain ⟨ao9, cap9, rfl⟩ := ho.shape
   exact k _ _ hc ⟨_, _, rfl⟩
  refine Obs.cons (some (49, true)) (by kernel_rfl) ?_ ?_
  ·refine Ob.yes (fun _ _ h => h) fun a w hR hk K k => ?_
   obtain ⟨_, e53, f53⟩ := hk 53 (by decide)
   clear hk
   obtain ⟨ao9, cap9, rfl⟩ := f53
   go_simp
   exact k _ _ (Chg.refl _ _) rfl
  refine Obs.cons (some (49, true)) (by kernel_rfl) ?_ ?_
  ·refine Ob.yes (fun _ _ h => h) fun a w hR hk K k => ?_
   obtain ⟨_, e54, rfl⟩ := hk 54 (by decide)
   clear hk
   go_simp
   exact k _ _ (Chg.refl _ _) rfl
  refine Obs.cons none (by kernel_rfl) ?_ ?_
  ·refine Ob.plain fun a w hR hk K k => ?_
   obtain ⟨_, e49, rfl⟩ := hk 49 (by decide)
   obtain ⟨_, e55, rfl⟩ := hk 55 (by decide)
   clear hk
   go_simp
   exact k _ _ (Chg.refl _ _) rfl
  refine Obs.cons none (by kernel_rfl) ?_ ?_
  ·refine Ob.plain fun a w hR hk K k => ?_
   obtain ⟨_, e56, f56⟩ := hk 56 (by decide)
   clear hk
   go_simp
   exact k _ _ (Chg.refl _ _) f56
  exact Obs.nil
 case fin =>
  intro vals w9 hc9 hv
  have h0 : vals 0 = .bool true := hv 0 (by decide)
  have HC := hid (HC6.out.trans hc9 (fun _ _ h => h))
  simp only [putAll, List.setIfInBounds_toArray, List.set_cons_zero, List.set_cons_succ, h0]
  clear hv h0 hc9
  go_wp2
  go_ret
  exact ⟨rfl, HC.out⟩
end Go.Proofs.Ytjaplnainlbldaa

/- The contract of the document's Names, of layer 8. -/
namespace Go.Proofs.Ytjaplnainlbldaa
open Go.RowKit

/-- A credential's four texts that name somebody, or an owner. -/
def whoCells (c : CredB) : List Value := [.string ⟨c.who.toArray⟩, .string ⟨c.head.1.toArray⟩, .string ⟨c.b.1.toArray⟩, .string ⟨c.c.1.toArray⟩]

theorem whosOf_short {ls : List CredB} (h : ∀ c ∈ ls, credShort c 9223372036854775807) : ∀ x ∈ whosOf ls, x.length ≤ 9223372036854775807 := by
 intro x hx
 unfold whosOf at hx
 rw [List.mem_flatMap] at hx
 obtain ⟨c, hc, hx⟩ := hx
 obtain ⟨h1, h2, h3, h4, h5, h6, h7, h8⟩ := h c hc
 simp only [List.mem_cons, List.not_mem_nil, or_false] at hx
 rcases hx with rfl | rfl | rfl | rfl <;> assumption

set_option maxRecDepth 100000 in
set_option maxHeartbeats 2000000 in
theorem rfnames {D : Nat → Prop} (ao : Option Addr) (cp : Nat) (ls : List CredB) (w : World) (hn : ls.length ≤ 1048576) (h : CredsAt D w ao ls) :
  Calls Try.prog 40 #[.slice ao ls.length cp] w fun e w' => SetPost (whosOf ls) w e w' := by
 obtain ⟨i0, hi, hz0, hz1, hz2⟩ := info_parts Try.info9
 have HI := hid (And.intro hi (And.intro hz0 (And.intro hz1 hz2)))
 have hsh : ∀ c ∈ ls, credShort c 9223372036854775807 := fun c hc => by
  obtain ⟨i, hi, rfl⟩ := List.getElem_of_mem hc
  obtain ⟨_, _, _, _, _, hs⟩ := h i hi
  exact hs
 have HSH := hid hsh
 have HCR := hid h
 clear hi hz0 hz1 hz2 hsh h
 go_enter Try.func40, Try.ntmps40
 go_wp2
 go_loopw [3, 8] (fun v i wr => ∃ (k : Nat) (out : List (List UInt8)) (ao' : Option Addr) (cap' : Nat), k ≤ ls.length ∧ i = .int .i64 k ∧ v = .slice ao' out.length cap' ∧ Hid (out = whosOf (ls.take k)) ∧ out.length ≤ 4 * k ∧ OwnS w.heap.size wr (.slice ao' out.length cap') out ∧ Chg (fun _ => False) w wr) (fun _ i _ => ls.length - (intOf i).toNat)
 case atStart => exact ⟨0, [], none, 0, Nat.zero_le _, rfl, rfl, hid rfl, Nat.zero_le _, World.ownsRow_nil _ _ _ _, Chg.refl _ _⟩
 case round =>
  obtain ⟨k, out, ao', cap', hk, rfl, rfl, hout, hol, ho, hc⟩ := hrel
  by_cases hlt : k < ls.length
  ·obtain ⟨b, off, hao, _, ⟨c0, c1, c2, c3, c4, c5, c6, c7, c8⟩, _⟩ := (HCR.out.keep hc (fun _ _ => id)) k hlt
   obtain ⟨c, hcc⟩ : ∃ c, c = ls[k] := ⟨_, rfl⟩
   rw [← hcc] at c0 c1 c2 c3 c4 c5 c6 c7 c8
   have HN2 : Hid (out ++ [c.who, c.head.1, c.b.1, c.c.1] = whosOf (ls.take (k + 1))) := hid (by rw [List.take_succ_eq_append_getElem hlt, whosOf_snoc, ← hout.out, hcc])
   have hS : (wr.alloc (.cells #[.int .i64 c.kind, .string ⟨c.head.1.toArray⟩, .string ⟨c.head.2.toArray⟩, .string ⟨c.who.toArray⟩, .string ⟨c.b.1.toArray⟩, .string ⟨c.b.2.toArray⟩, .string ⟨c.c.1.toArray⟩, .string ⟨c.c.2.toArray⟩, .string ⟨c.w2.toArray⟩] 36)).heap[wr.heap.size]? = some (.cells (credBox c) 36 (0, 0)) := heap_alloc_new wr _
   have hal : Chg (fun _ => False) wr (wr.alloc (.cells #[.int .i64 c.kind, .string ⟨c.head.1.toArray⟩, .string ⟨c.head.2.toArray⟩, .string ⟨c.who.toArray⟩, .string ⟨c.b.1.toArray⟩, .string ⟨c.b.2.toArray⟩, .string ⟨c.c.1.toArray⟩, .string ⟨c.c.2.toArray⟩, .string ⟨c.w2.toArray⟩] 36)) := (Chg.refl _ wr).alloc _
   obtain ⟨s0, s1, s2, s3, s4, s5, s6, s7, s8⟩ := cred_at_blk hS
   simp only [Nat.zero_add] at s0 s1 s2 s3 s4 s5 s6 s7 s8
   have HX := hid (And.intro (ho.alloc (.cells #[.int .i64 c.kind, .string ⟨c.head.1.toArray⟩, .string ⟨c.head.2.toArray⟩, .string ⟨c.who.toArray⟩, .string ⟨c.b.1.toArray⟩, .string ⟨c.b.2.toArray⟩, .string ⟨c.c.1.toArray⟩, .string ⟨c.c.2.toArray⟩, .string ⟨c.w2.toArray⟩] 36)) (And.intro (hc.trans hal (fun _ _ h => h)) (hc.size)))
   subst hao
   clear hcc hS hal ho hc hout
   go_wp2_with (at_builtin; refine wpList_append_own_at _ rfl (.tmp 12) (.tmp 24) 89 rfl w.heap.size 9 i0 (.string ⟨#[]⟩) 1 16 Try.underlying89 HI.out.1 HI.out.2.1 HI.out.2.2.1 HI.out.2.2.2 rfl (by decide) _ _ _ rfl (World.ownsRow.alloc HX.out.1 _) ⟨wr.heap.size + 1, 0, none⟩ 4 4 (whoCells c) rfl rfl ?c1 ?c2 ?c3 ?c4 ?c5 ?_)
   case c1 =>
    intro j u hj
    have hq := heap_alloc_new (wr.alloc (.cells #[.int .i64 c.kind, .string ⟨c.head.1.toArray⟩, .string ⟨c.head.2.toArray⟩, .string ⟨c.who.toArray⟩, .string ⟨c.b.1.toArray⟩, .string ⟨c.b.2.toArray⟩, .string ⟨c.c.1.toArray⟩, .string ⟨c.c.2.toArray⟩, .string ⟨c.w2.toArray⟩] 36)) (.cells #[.string ⟨c.who.toArray⟩, .string ⟨c.head.1.toArray⟩, .string ⟨c.b.1.toArray⟩, .string ⟨c.c.1.toArray⟩] 9)
    rw [World.size_alloc] at hq
    rw [add_off, cell_blk hq, Nat.zero_add]
    show (whoCells c).toArray[j]? = some u
    rw [List.getElem?_toArray]
    exact hj
   case c2 => intro u hu; simp only [whoCells, List.mem_cons, List.not_mem_nil, or_false] at hu; rcases hu with rfl | rfl | rfl | rfl <;> rfl
   case c3 => unfold maxLen; omega
   case c4 => omega
   case c5 => have := HX.out.2.2; simp; omega
   intro v' w3 hown hgrow _ _
   have ho2 : OwnS w.heap.size w3 v' (out ++ [c.who, c.head.1, c.b.1, c.c.1]) := by
    unfold OwnS
    rw [List.map_append, List.length_append]
    exact hown
   have hc7 : Chg (fun _ => False) w w3 := (HX.out.2.1.alloc _).grown hgrow (fun k e hk => by have := (ownsRow_lt HX.out.1 k e).1; omega)
   have hl : (out ++ [c.who, c.head.1, c.b.1, c.c.1]).length = out.length + 4 := by simp
   obtain ⟨ao5, cap5, hv5⟩ : ∃ ao5 cap5, v' = .slice ao5 (out.length + 4) cap5 := by
    rcases ho2.2 with ⟨_, h0⟩ | ⟨g, cap, cur, hv, _⟩
    ·rw [hl] at h0; omega
    ·exact ⟨_, _, by rw [hv, hl]⟩
   subst hv5
   have HY := hid (And.intro ho2 hc7)
   clear hown hgrow ho2 hc7 HX hl
   go_wp2
   go_roundw
   case rel => exact ⟨k + 1, _, ao5, cap5, by omega, by go_num, by simp, HN2, by simp; omega, by simpa using HY.out.1, HY.out.2⟩
   case measure => simp [intOf]; omega
  ·have hk2 : k = ls.length := by omega
   have hout2 : out = whosOf ls := by have := hout.out; rw [hk2, List.take_length] at this; exact this
   obtain ⟨ao2, cap2, he, hst⟩ := ho.strs (fun x hx => whosOf_short HSH.out x (by rw [← hout2]; exact hx))
   have hset := refset_any ao2 cap2 out wr (by omega) hst (fun i hi => hi.2)
   rw [hout2] at hset
   have HS : Hid (Calls Try.prog 83 #[.slice ao' out.length cap'] wr (SetPost (whosOf ls) wr)) := hid (by rw [he, hout2]; exact hset)
   have HC := hid hc
   clear hk2 hout2 he hst hset ho hout hc
   go_wp2_with fail
   refine HS.out.mono ?_
   rintro e w2 ⟨o2, ao3, cap3, rfl, hso, hst, hc2⟩
   have HF := hid (And.intro hso (And.intro hst (And.intro hc2 HC.out.size)))
   clear hso hst hc2
   go_wp2
   go_ret
   exact ⟨o2, ao3, cap3, rfl, HF.out.1, HF.out.2.1.mono (fun i hi => ⟨Nat.le_trans HF.out.2.2.2 hi.1, hi.2⟩), HC.out.trans HF.out.2.2.1 (fun _ _ h => h)⟩
end Go.Proofs.Ytjaplnainlbldaa
