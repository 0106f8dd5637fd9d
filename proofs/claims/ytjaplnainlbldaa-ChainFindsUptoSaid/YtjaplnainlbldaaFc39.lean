/- The contract of the document's Sorted, of layer 8. -/
import Derived.Test.YtjaplnainlbldaaFc38
import Derived.Test.YtjaplnainlbldaaFc33
namespace Go.Proofs.Ytjaplnainlbldaa
open Go.RowKit

/-- A pointer to a fact. -/
def Spec.factP (r : FactB) : Spec :=
 ⟨fun v w => ∃ b off, v = .pointer (some ⟨b, off, none⟩) ∧ FactAt w b off r, fun _ _ _ hc ⟨b, off, h1, h2⟩ => ⟨b, off, h1, h2.keep hc id⟩⟩
def bestI : Option Nat → Int | none => -1 | some j => j

theorem sorted_full {ls out : List FactB} (h : SetPartG ltF (fun _ => true) ls out) (hl : ls.length ≤ out.length) : SetG ltF (fun _ => true) ls out := by
 refine ⟨h.1, fun x => ⟨h.2.1 x, fun hx => ?_⟩⟩
 by_cases hm : x ∈ out
 ·exact hm
 ·have hnd : (x :: out).Nodup := List.nodup_cons.2 ⟨hm, h.1.nodup ltF_ord⟩
  have := nodup_lengthG (x :: out) ls hnd (fun y hy => by
   rcases List.mem_cons.1 hy with rfl | hy
   ·exact hx.1
   ·exact (h.2.1 y hy).1)
  rw [List.length_cons] at this
  omega

theorem sorted_more {ls out : List FactB} {b : FactB} (h : SetPartG ltF (fun _ => true) ls (out ++ [b])) (hs : SetG ltF (fun _ => true) ls out) : False := by
 have hb := (hs.2 b).2 (h.2.1 b (by simp))
 have hnd := h.1.nodup ltF_ord
 rw [List.nodup_append] at hnd
 exact hnd.2.2 b hb b (by simp) rfl

def fsortSpecsB (ao3 : Option Addr) (m cap3 _ : Nat) (ao : Option Addr) (n cp : Nat) (bi : Int) (Sb : Nat) (_ _ _ : FactB) : List Spec := [.eq (.slice ao n cp), .any, .any, .eq (.slice ao3 m cap3), .eq (.int .i64 bi), .any, .eq (.pointer (some ⟨Sb, 0, none⟩)), .any, .any, .any, .any, .any, .any, .any, .any, .any, .any, .any, .eq (.slice ao3 m cap3), .eq (.int .i64 m), .eq (.bool true), .eq (.bool true), .any, .any, .any, .any, .any, .any, .any, .any, .eq (.bool true), .eq (.bool true), .eq (.int .i64 bi), .eq (.bool true), .eq (.bool true), .any, .any, .any, .any, .any, .any, .eq (.bool true), .eq (.bool true), .any, .any, .any, .any, .any, .any, .any, .any, .any, .any, .any, .any, .any]
def fsortSpecsC (ao3 : Option Addr) (m cap3 _ : Nat) (ao : Option Addr) (n cp : Nat) (bi : Int) (Sb : Nat) (s _ b : FactB) : List Spec := [.eq (.slice ao n cp), .any, .any, .eq (.slice ao3 m cap3), .eq (.int .i64 bi), .any, .eq (.pointer (some ⟨Sb, 0, none⟩)), .any, .any, .any, .any, .any, .any, .any, .any, .any, .any, .any, .eq (.slice ao3 m cap3), .eq (.int .i64 m), .eq (.bool true), .eq (.bool true), .any, .any, .any, .any, .any, .any, .any, .any, .eq (.bool true), .eq (.bool true), .eq (.int .i64 bi), .eq (.bool false), .eq (.bool false), .eq (factV s), .eq (.slice ao n cp), .eq (.int .i64 bi), .factP b, .eq (factV b), .eq (.bool (ltF s b)), .eq (.bool (ltF s b)), .eq (.bool (ltF s b)), .any, .any, .any, .any, .any, .any, .any, .any, .any, .any, .any, .any, .any]
def fsortSpecsD (_ : Option Addr) (m cap3 g : Nat) (ao : Option Addr) (n cp : Nat) (bi : Int) (Sb : Nat) (s l _ : FactB) : List Spec := [.eq (.slice ao n cp), .any, .any, .eq (.slice (some ⟨g, 0, none⟩) m cap3), .eq (.int .i64 bi), .any, .eq (.pointer (some ⟨Sb, 0, none⟩)), .any, .any, .any, .any, .any, .any, .any, .any, .any, .any, .any, .eq (.slice (some ⟨g, 0, none⟩) m cap3), .eq (.int .i64 m), .eq (.bool false), .eq (.bool false), .eq (.slice (some ⟨g, 0, none⟩) m cap3), .eq (.slice (some ⟨g, 0, none⟩) m cap3), .eq (.int .i64 m), .eq (.int .i64 ((m : Int) - 1)), .factP l, .eq (factV l), .eq (factV s), .eq (.bool false), .eq (.bool false), .eq (.bool false), .any, .any, .eq undef, .any, .any, .any, .any, .any, .any, .any, .eq (.bool false), .any, .any, .any, .any, .any, .any, .any, .any, .any, .any, .any, .any, .any]
def fsortSpecsE (_ : Option Addr) (m cap3 g : Nat) (ao : Option Addr) (n cp : Nat) (bi : Int) (Sb : Nat) (s l _ : FactB) : List Spec := [.eq (.slice ao n cp), .any, .any, .eq (.slice (some ⟨g, 0, none⟩) m cap3), .eq (.int .i64 bi), .any, .eq (.pointer (some ⟨Sb, 0, none⟩)), .any, .any, .any, .any, .any, .any, .any, .any, .any, .any, .any, .eq (.slice (some ⟨g, 0, none⟩) m cap3), .eq (.int .i64 m), .eq (.bool false), .eq (.bool false), .eq (.slice (some ⟨g, 0, none⟩) m cap3), .eq (.slice (some ⟨g, 0, none⟩) m cap3), .eq (.int .i64 m), .eq (.int .i64 ((m : Int) - 1)), .factP l, .eq (factV l), .eq (factV s), .eq (.bool true), .eq (.bool true), .eq (.bool true), .eq (.int .i64 bi), .eq (.bool true), .eq (.bool true), .any, .any, .any, .any, .any, .any, .eq (.bool true), .eq (.bool true), .any, .any, .any, .any, .any, .any, .any, .any, .any, .any, .any, .any, .any]
def fsortSpecsF (_ : Option Addr) (m cap3 g : Nat) (ao : Option Addr) (n cp : Nat) (bi : Int) (Sb : Nat) (s l b : FactB) : List Spec := [.eq (.slice ao n cp), .any, .any, .eq (.slice (some ⟨g, 0, none⟩) m cap3), .eq (.int .i64 bi), .any, .eq (.pointer (some ⟨Sb, 0, none⟩)), .any, .any, .any, .any, .any, .any, .any, .any, .any, .any, .any, .eq (.slice (some ⟨g, 0, none⟩) m cap3), .eq (.int .i64 m), .eq (.bool false), .eq (.bool false), .eq (.slice (some ⟨g, 0, none⟩) m cap3), .eq (.slice (some ⟨g, 0, none⟩) m cap3), .eq (.int .i64 m), .eq (.int .i64 ((m : Int) - 1)), .factP l, .eq (factV l), .eq (factV s), .eq (.bool true), .eq (.bool true), .eq (.bool true), .eq (.int .i64 bi), .eq (.bool false), .eq (.bool false), .eq (factV s), .eq (.slice ao n cp), .eq (.int .i64 bi), .factP b, .eq (factV b), .eq (.bool (ltF s b)), .eq (.bool (ltF s b)), .eq (.bool (ltF s b)), .any, .any, .any, .any, .any, .any, .any, .any, .any, .any, .any, .any, .any]

set_option maxRecDepth 100000 in
set_option maxHeartbeats 8000000 in
theorem rfsorted {D : Nat → Prop} (ao : Option Addr) (cp : Nat) (ls : List FactB) (w : World) (hn : ls.length ≤ 4194304) (h : FactsAt D w ao ls) :
  Calls Try.prog 42 #[.slice ao ls.length cp] w fun e w' => ∃ out ao' cap', e = .returned (.slice ao' out.length cap') ∧ SetG ltF (fun _ => true) ls out ∧ OwnF w.heap.size w' (.slice ao' out.length cap') out ∧ Chg (fun _ => False) w w' := by
 obtain ⟨i0, hi, hz0, hz1, hz2⟩ := info_parts Try.info26
 have HI := hid (And.intro hi (And.intro hz0 (And.intro hz1 hz2)))
 clear hi hz0 hz1 hz2
 go_enter Try.func42, Try.ntmps42
 go_wp2
 go_loopw [3, 9] (fun v i wr => ∃ (r : Nat) (out : List FactB) (ao' : Option Addr) (cap : Nat), v = .slice ao' out.length cap ∧ i = .int .i64 r ∧ r ≤ ls.length ∧ Hid (SetPartG ltF (fun _ => true) ls out) ∧ Hid (r ≤ out.length ∨ SetG ltF (fun _ => true) ls out) ∧ OwnF w.heap.size wr (.slice ao' out.length cap) out ∧ Chg (fun _ => False) w wr) (fun _ i _ => ls.length - (intOf i).toNat)
 case atStart => exact ⟨0, [], none, 0, rfl, rfl, Nat.zero_le _, hid (SetPartG.nil ls), hid (.inl (Nat.zero_le _)), World.ownsRow_nil _ _ _ _, Chg.refl _ _⟩
 case round =>
  obtain ⟨r, out, ao3, cap3, rfl, rfl, hr, hp, hp2, ho, hc⟩ := hrel
  have hol := SetPartG.len ltF_ord hp.out
  by_cases hrl : r < ls.length
  ·have HR := hid hrl
   go_wp2
   go_loopw [4, 13] (fun bv i wr => ∃ (k : Nat) (bo : Option Nat), i = .int .i64 k ∧ k ≤ ls.length ∧ bv = .int .i64 (bestI bo) ∧ Hid (∀ j, bo = some j → j < ls.length) ∧ Hid (BestG ltF (fun _ => true) out (ls.take k) (bo.bind (ls[·]?))) ∧ OwnF w.heap.size wr (.slice ao3 out.length cap3) out ∧ Chg (fun _ => False) w wr) (fun _ i _ => ls.length - (intOf i).toNat)
   case atStart => exact ⟨0, none, rfl, Nat.zero_le _, rfl, hid (fun _ h => by cases h), hid (fun s hs => by simp at hs), ho, hc⟩
   case round =>
    obtain ⟨k, bo, rfl, hk, rfl, HJ, hb, hoq, hcq⟩ := hrel
    clear ho hc hrl
    by_cases hlt : k < ls.length
    ·obtain ⟨jb, joff, hao, _, hcat⟩ := (h.keep hcq (fun _ _ => id)) k hlt
     have HTK : Hid (ls.take (k + 1) = ls.take k ++ [ls[k]]) := hid (List.take_succ_eq_append_getElem hlt)
     have HKK : Hid (ls[k]? = some ls[k]) := hid (List.getElem?_eq_getElem hlt)
     have HKL := hid hlt
     have HFK0 := hid (h.keep hcq (fun _ _ => id))
     generalize ls[k] = s at *
     obtain ⟨c0, c1, c2⟩ := hcat
     subst hao
     have hS : (wr.alloc (.cells #[.string ⟨s.1.1.toArray⟩, .string ⟨s.1.2.toArray⟩, .string ⟨s.2.toArray⟩] 26)).heap[wr.heap.size]? = some (.cells (factBox s) 26 (0, 0)) := heap_alloc_new wr _
     have hcS : Chg (fun _ => False) wr (wr.alloc (.cells #[.string ⟨s.1.1.toArray⟩, .string ⟨s.1.2.toArray⟩, .string ⟨s.2.toArray⟩] 26)) := (Chg.refl _ wr).alloc _
     have ho4 := World.ownsRow.alloc hoq (.cells #[.string ⟨s.1.1.toArray⟩, .string ⟨s.1.2.toArray⟩, .string ⟨s.2.toArray⟩] 26)
     have hc4 := hcq.trans hcS (fun _ _ h => h)
     have HFS := hid (HFK0.out.keep hcS (fun _ _ => id))
     clear hoq hcq hcS HFK0
     go_wp2_with fail
     clear c0 c1 c2
     generalize wr.alloc (.cells #[.string ⟨s.1.1.toArray⟩, .string ⟨s.1.2.toArray⟩, .string ⟨s.2.toArray⟩] 26) = w4 at *
     generalize wr.heap.size = Sb at *
     obtain ⟨s0, s1, s2⟩ := fact_at_blk hS
     simp only [Nat.zero_add] at s0 s1 s2
     have ho4 : OwnF w.heap.size w4 (.slice ao3 out.length cap3) out := ho4
     have HFK := hid hS
     clear hS
     by_cases h0 : out = []
     ·have z1 : ((out.length : Int) == 0) = true := by subst h0; rfl
      have HCL : Hid (candG ltF (fun _ => true) out s = true) := hid (by rw [h0]; rfl)
      have HCL2 := HCL
      clear h0
      have g : Nat := 0
      have l : FactB := s
      cases bo with
      | none =>
       have b : FactB := s
       have hneg : decide ((-1 : Int) < 0) = true := rfl
       refine wp_region_specs (fsortSpecsB ao3 out.length cap3 g (some ⟨jb, joff, none⟩) ls.length cp (-1) Sb s l b) [18, 19, 20, 21, 22, 23, 24, 25, 26, 27, 28, 29, 30, 31, 32, 33, 34, 35, 36, 37, 38, 39, 40, 41, 42] [0, 3, 4, 6] (by kernel_rfl) (by kernel_rfl) (by rfl) (by kernel_rfl) ?start ?obs ?fin
       case start =>
        simp only [List.forall_mem_cons]
        exact ⟨⟨_, rfl, rfl⟩, ⟨_, rfl, rfl⟩, ⟨_, rfl, rfl⟩, ⟨_, rfl, rfl⟩, fun _ h => by cases h⟩
       case obs =>
        refine Obs.cons none (by kernel_rfl) ?_ ?_
        ·refine Ob.plain fun a w hR hk K k => ?_
         obtain ⟨_, e3, f3⟩ := hk 3 (by decide)
         clear hk
         go_simp
         exact k _ _ (Chg.refl _ _) f3
        refine Obs.cons none (by kernel_rfl) ?_ ?_
        ·refine Ob.plain fun a w hR hk K k => ?_
         obtain ⟨_, e18, rfl⟩ := hk 18 (by decide)
         clear hk
         go_simp
         exact k _ _ (Chg.refl _ _) rfl
        refine Obs.cons none (by kernel_rfl) ?_ ?_
        ·refine Ob.plain fun a w hR hk K k => ?_
         obtain ⟨_, e19, rfl⟩ := hk 19 (by decide)
         clear hk
         go_simp
         exact k _ _ (Chg.refl _ _) rfl
        refine Obs.cons none (by kernel_rfl) ?_ ?_
        ·refine Ob.plain fun a w hR hk K k => ?_
         obtain ⟨_, e20, f20⟩ := hk 20 (by decide)
         clear hk
         go_simp
         exact k _ _ (Chg.refl _ _) f20
        refine Obs.cons (some (21, false)) (by kernel_rfl) ?_ ?_
        ·exact Ob.no (fun _ _ h => h) (Chg.refl _) (fun _ _ => trivial)
        refine Obs.cons (some (21, false)) (by kernel_rfl) ?_ ?_
        ·exact Ob.no (fun _ _ h => h) (Chg.refl _) (fun _ _ => trivial)
        refine Obs.cons (some (21, false)) (by kernel_rfl) ?_ ?_
        ·exact Ob.no (fun _ _ h => h) (Chg.refl _) (fun _ _ => trivial)
        refine Obs.cons (some (21, false)) (by kernel_rfl) ?_ ?_
        ·exact Ob.no (fun _ _ h => h) (Chg.refl _) (fun _ _ => trivial)
        refine Obs.cons (some (21, false)) (by kernel_rfl) ?_ ?_
        ·exact Ob.no (fun _ _ h => h) (Chg.refl _) (fun _ _ => trivial)
        refine Obs.cons (some (21, false)) (by kernel_rfl) ?_ ?_
        ·exact Ob.no (fun _ _ h => h) (Chg.refl _) (fun _ _ => trivial)
        refine Obs.cons (some (21, false)) (by kernel_rfl) ?_ ?_
        ·exact Ob.no (fun _ _ h => h) (Chg.refl _) (fun _ _ => trivial)
        refine Obs.cons (some (21, false)) (by kernel_rfl) ?_ ?_
        ·exact Ob.no (fun _ _ h => h) (Chg.refl _) (fun _ _ => trivial)
        refine Obs.cons none (by kernel_rfl) ?_ ?_
        ·refine Ob.plain fun a w hR hk K k => ?_
         obtain ⟨_, e21, rfl⟩ := hk 21 (by decide)
         obtain ⟨_, e29, _⟩ := hk 29 (by decide)
         clear hk
         go_simp
         exact k _ _ (Chg.refl _ _) rfl
        refine Obs.cons none (by kernel_rfl) ?_ ?_
        ·refine Ob.plain fun a w hR hk K k => ?_
         obtain ⟨_, e30, f30⟩ := hk 30 (by decide)
         clear hk
         go_simp
         exact k _ _ (Chg.refl _ _) f30
        refine Obs.cons (some (31, true)) (by kernel_rfl) ?_ ?_
        ·refine Ob.yes (fun _ _ h => h) fun a w hR hk K k => ?_
         obtain ⟨_, e4, f4⟩ := hk 4 (by decide)
         clear hk
         go_simp
         exact k _ _ (Chg.refl _ _) f4
        refine Obs.cons (some (31, true)) (by kernel_rfl) ?_ ?_
        ·refine Ob.yes (fun _ _ h => h) fun a w hR hk K k => ?_
         obtain ⟨_, e32, rfl⟩ := hk 32 (by decide)
         clear hk
         have hz : decide ((-1 : Int) < 0) = true := hneg
         go_simp
         exact k _ _ (Chg.refl _ _) (by simp only []; rfl)
        refine Obs.cons (some (31, true)) (by kernel_rfl) ?_ ?_
        ·refine Ob.yes (fun _ _ h => h) fun a w hR hk K k => ?_
         obtain ⟨_, e33, f33⟩ := hk 33 (by decide)
         clear hk
         go_simp
         exact k _ _ (Chg.refl _ _) f33
        refine Obs.cons (some (34, false)) (by kernel_rfl) ?_ ?_
        ·exact Ob.no (fun _ _ h => h) (Chg.refl _) (fun _ _ => trivial)
        refine Obs.cons (some (34, false)) (by kernel_rfl) ?_ ?_
        ·exact Ob.no (fun _ _ h => h) (Chg.refl _) (fun _ _ => trivial)
        refine Obs.cons (some (34, false)) (by kernel_rfl) ?_ ?_
        ·exact Ob.no (fun _ _ h => h) (Chg.refl _) (fun _ _ => trivial)
        refine Obs.cons (some (34, false)) (by kernel_rfl) ?_ ?_
        ·exact Ob.no (fun _ _ h => h) (Chg.refl _) (fun _ _ => trivial)
        refine Obs.cons (some (34, false)) (by kernel_rfl) ?_ ?_
        ·exact Ob.no (fun _ _ h => h) (Chg.refl _) (fun _ _ => trivial)
        refine Obs.cons (some (34, false)) (by kernel_rfl) ?_ ?_
        ·exact Ob.no (fun _ _ h => h) (Chg.refl _) (fun _ _ => trivial)
        refine Obs.cons (some (31, true)) (by kernel_rfl) ?_ ?_
        ·refine Ob.yes (fun _ _ h => h) fun a w hR hk K k => ?_
         obtain ⟨_, e34, rfl⟩ := hk 34 (by decide)
         obtain ⟨_, e40, _⟩ := hk 40 (by decide)
         clear hk
         go_simp
         exact k _ _ (Chg.refl _ _) rfl
        refine Obs.cons none (by kernel_rfl) ?_ ?_
        ·refine Ob.plain fun a w hR hk K k => ?_
         obtain ⟨_, e31, rfl⟩ := hk 31 (by decide)
         obtain ⟨_, e41, rfl⟩ := hk 41 (by decide)
         clear hk
         go_simp
         exact k _ _ (Chg.refl _ _) rfl
        exact Obs.nil
       case fin =>
        intro vals w9 hc9 hv
        have h42 : vals 42 = .bool true := hv 42 (by decide)
        simp only [putAll, List.setIfInBounds_toArray, List.set_cons_zero, List.set_cons_succ, h42]
        clear hv h42
        have HX := hid (And.intro (ho4.keep hc9 (fun _ _ => id)) (hc4.trans hc9 (fun _ _ h => h)))
        clear HFK HCL
        have hn2 : Hid (BestG ltF (fun _ => true) out (ls.take (k + 1)) ((some k).bind (ls[·]?))) := hid (by rw [HTK.out, Option.bind_some, HKK.out]; exact hb.out.take ltF_ord HCL2.out (fun c h => by cases h))
        clear hb
        go_wp2
        go_roundw
        case rel => exact ⟨k + 1, some k, by go_num, by omega, rfl, hid (fun j hj => by cases hj; exact HKL.out), hn2, HX.out.1, HX.out.2⟩
        case measure => simp [intOf]; omega

      | some j =>
       have hjl := HJ.out j rfl
       obtain ⟨jb2, joff2, hj2, _, hjr⟩ := HFS.out j hjl
       cases hj2
       have HBJ : Hid ((some j).bind (ls[·]?) = some (ls[j]'hjl)) := hid (by rw [Option.bind_some, List.getElem?_eq_getElem hjl])
       generalize ls[j]'hjl = b at *
       have j0 : (0 : Int) ≤ (j : Int) := by omega
       have j1 : (j : Int) < (ls.length : Int) := by omega
       have j2 : ((j : Int)).toNat = j := rfl
       have hneg : decide ((j : Int) < 0) = false := by simp

       refine wp_region_specs (fsortSpecsC ao3 out.length cap3 g (some ⟨jb, joff, none⟩) ls.length cp (j) Sb s l b) [18, 19, 20, 21, 22, 23, 24, 25, 26, 27, 28, 29, 30, 31, 32, 33, 34, 35, 36, 37, 38, 39, 40, 41, 42] [0, 3, 4, 6] (by kernel_rfl) (by kernel_rfl) (by rfl) (by kernel_rfl) ?start ?obs ?fin
       case start =>
        simp only [List.forall_mem_cons]
        exact ⟨⟨_, rfl, rfl⟩, ⟨_, rfl, rfl⟩, ⟨_, rfl, rfl⟩, ⟨_, rfl, rfl⟩, fun _ h => by cases h⟩
       case obs =>
        refine Obs.cons none (by kernel_rfl) ?_ ?_
        ·refine Ob.plain fun a w hR hk K k => ?_
         obtain ⟨_, e3, f3⟩ := hk 3 (by decide)
         clear hk
         go_simp
         exact k _ _ (Chg.refl _ _) f3
        refine Obs.cons none (by kernel_rfl) ?_ ?_
        ·refine Ob.plain fun a w hR hk K k => ?_
         obtain ⟨_, e18, rfl⟩ := hk 18 (by decide)
         clear hk
         go_simp
         exact k _ _ (Chg.refl _ _) rfl
        refine Obs.cons none (by kernel_rfl) ?_ ?_
        ·refine Ob.plain fun a w hR hk K k => ?_
         obtain ⟨_, e19, rfl⟩ := hk 19 (by decide)
         clear hk
         go_simp
         exact k _ _ (Chg.refl _ _) rfl
        refine Obs.cons none (by kernel_rfl) ?_ ?_
        ·refine Ob.plain fun a w hR hk K k => ?_
         obtain ⟨_, e20, f20⟩ := hk 20 (by decide)
         clear hk
         go_simp
         exact k _ _ (Chg.refl _ _) f20
        refine Obs.cons (some (21, false)) (by kernel_rfl) ?_ ?_
        ·exact Ob.no (fun _ _ h => h) (Chg.refl _) (fun _ _ => trivial)
        refine Obs.cons (some (21, false)) (by kernel_rfl) ?_ ?_
        ·exact Ob.no (fun _ _ h => h) (Chg.refl _) (fun _ _ => trivial)
        refine Obs.cons (some (21, false)) (by kernel_rfl) ?_ ?_
        ·exact Ob.no (fun _ _ h => h) (Chg.refl _) (fun _ _ => trivial)
        refine Obs.cons (some (21, false)) (by kernel_rfl) ?_ ?_
        ·exact Ob.no (fun _ _ h => h) (Chg.refl _) (fun _ _ => trivial)
        refine Obs.cons (some (21, false)) (by kernel_rfl) ?_ ?_
        ·exact Ob.no (fun _ _ h => h) (Chg.refl _) (fun _ _ => trivial)
        refine Obs.cons (some (21, false)) (by kernel_rfl) ?_ ?_
        ·exact Ob.no (fun _ _ h => h) (Chg.refl _) (fun _ _ => trivial)
        refine Obs.cons (some (21, false)) (by kernel_rfl) ?_ ?_
        ·exact Ob.no (fun _ _ h => h) (Chg.refl _) (fun _ _ => trivial)
        refine Obs.cons (some (21, false)) (by kernel_rfl) ?_ ?_
        ·exact Ob.no (fun _ _ h => h) (Chg.refl _) (fun _ _ => trivial)
        refine Obs.cons none (by kernel_rfl) ?_ ?_
        ·refine Ob.plain fun a w hR hk K k => ?_
         obtain ⟨_, e21, rfl⟩ := hk 21 (by decide)
         obtain ⟨_, e29, _⟩ := hk 29 (by decide)
         clear hk
         go_simp
         exact k _ _ (Chg.refl _ _) rfl
        refine Obs.cons none (by kernel_rfl) ?_ ?_
        ·refine Ob.plain fun a w hR hk K k => ?_
         obtain ⟨_, e30, f30⟩ := hk 30 (by decide)
         clear hk
         go_simp
         exact k _ _ (Chg.refl _ _) f30
        refine Obs.cons (some (31, true)) (by kernel_rfl) ?_ ?_
        ·refine Ob.yes (fun _ _ h => h) fun a w hR hk K k => ?_
         obtain ⟨_, e4, f4⟩ := hk 4 (by decide)
         clear hk
         go_simp
         exact k _ _ (Chg.refl _ _) f4
        refine Obs.cons (some (31, true)) (by kernel_rfl) ?_ ?_
        ·refine Ob.yes (fun _ _ h => h) fun a w hR hk K k => ?_
         obtain ⟨_, e32, rfl⟩ := hk 32 (by decide)
         clear hk
         have hz : decide ((j : Int) < 0) = false := hneg
         go_simp
         exact k _ _ (Chg.refl _ _) (by simp only []; rfl)
        refine Obs.cons (some (31, true)) (by kernel_rfl) ?_ ?_
        ·refine Ob.yes (fun _ _ h => h) fun a w hR hk K k => ?_
         obtain ⟨_, e33, f33⟩ := hk 33 (by decide)
         clear hk
         go_simp
         exact k _ _ (Chg.refl _ _) f33
        refine Obs.cons (some (34, false)) (by kernel_rfl) ?_ ?_
        ·refine Ob.yes (fun _ _ h => h) fun a w hR hk K k => ?_
         obtain ⟨_, e6, rfl⟩ := hk 6 (by decide)
         clear hk
         have q0 := hR.cell s0 id
         have q1 := hR.cell s1 id
         have q2 := hR.cell s2 id
         go_simp
         exact k _ _ (Chg.refl _ _) rfl
        refine Obs.cons (some (34, false)) (by kernel_rfl) ?_ ?_
        ·refine Ob.yes (fun _ _ h => h) fun a w hR hk K k => ?_
         obtain ⟨_, e0, f0⟩ := hk 0 (by decide)
         clear hk
         go_simp
         exact k _ _ (Chg.refl _ _) f0
        refine Obs.cons (some (34, false)) (by kernel_rfl) ?_ ?_
        ·refine Ob.yes (fun _ _ h => h) fun a w hR hk K k => ?_
         obtain ⟨_, e4, f4⟩ := hk 4 (by decide)
         clear hk
         go_simp
         exact k _ _ (Chg.refl _ _) f4
        refine Obs.cons (some (34, false)) (by kernel_rfl) ?_ ?_
        ·refine Ob.yes (fun _ _ h => h) fun a w hR hk K k => ?_
         obtain ⟨_, e36, rfl⟩ := hk 36 (by decide)
         obtain ⟨_, e37, rfl⟩ := hk 37 (by decide)
         clear hk
         obtain ⟨c0, c1, c2⟩ := hjr.keep hR id
         go_simp
         exact k _ _ (Chg.refl _ _) ⟨_, _, rfl, hjr.keep hR id⟩
        refine Obs.cons (some (34, false)) (by kernel_rfl) ?_ ?_
        ·refine Ob.yes (fun _ _ h => h) fun a w hR hk K k => ?_
         obtain ⟨_, e38, f38⟩ := hk 38 (by decide)
         clear hk
         obtain ⟨b1, o1, rfl, c0, c1, c2⟩ := f38
         go_simp
         exact k _ _ (Chg.refl _ _) rfl
        refine Obs.cons (some (34, false)) (by kernel_rfl) ?_ ?_
        ·refine Ob.yes (fun _ _ h => h) fun a w hR hk K k => ?_
         obtain ⟨_, e35, rfl⟩ := hk 35 (by decide)
         obtain ⟨_, e39, rfl⟩ := hk 39 (by decide)
         clear hk
         go_simp
         refine (rfless s b _).mono ?_
         rintro e w2 ⟨rfl, hc⟩
         exact k _ _ hc rfl
        refine Obs.cons (some (31, true)) (by kernel_rfl) ?_ ?_
        ·refine Ob.yes (fun _ _ h => h) fun a w hR hk K k => ?_
         obtain ⟨_, e34, rfl⟩ := hk 34 (by decide)
         obtain ⟨_, e40, rfl⟩ := hk 40 (by decide)
         clear hk
         go_simp
         exact k _ _ (Chg.refl _ _) rfl
        refine Obs.cons none (by kernel_rfl) ?_ ?_
        ·refine Ob.plain fun a w hR hk K k => ?_
         obtain ⟨_, e31, rfl⟩ := hk 31 (by decide)
         obtain ⟨_, e41, rfl⟩ := hk 41 (by decide)
         clear hk
         go_simp
         exact k _ _ (Chg.refl _ _) rfl
        exact Obs.nil
       case fin =>
        intro vals w9 hc9 hv
        have h42 : vals 42 = .bool (ltF s b) := hv 42 (by decide)
        simp only [putAll, List.setIfInBounds_toArray, List.set_cons_zero, List.set_cons_succ, h42]
        clear hv h42
        have HX := hid (And.intro (ho4.keep hc9 (fun _ _ => id)) (hc4.trans hc9 (fun _ _ h => h)))
        clear HFK HCL
        cases hlb : ltF s b with
        | true =>
         have hn2 : Hid (BestG ltF (fun _ => true) out (ls.take (k + 1)) ((some k).bind (ls[·]?))) := hid (by rw [HTK.out, Option.bind_some, HKK.out]; exact hb.out.take ltF_ord HCL2.out (fun c h => by rw [HBJ.out] at h; cases h; exact hlb))
         clear hb
         go_wp2
         go_roundw
         case rel => exact ⟨k + 1, some k, by go_num, by omega, rfl, hid (fun j hj => by cases hj; exact HKL.out), hn2, HX.out.1, HX.out.2⟩
         case measure => simp [intOf]; omega

        | false =>
         have hn2 : Hid (BestG ltF (fun _ => true) out (ls.take (k + 1)) ((some j).bind (ls[·]?))) := hid (by rw [HTK.out]; have hb2 := hb.out; rw [HBJ.out] at hb2 ⊢; exact hb2.keep hlb)
         clear hb
         go_wp2
         go_roundw
         case rel => exact ⟨k + 1, (some j), by go_num, by omega, rfl, HJ, hn2, HX.out.1, HX.out.2⟩
         case measure => simp [intOf]; omega

     ·obtain ⟨l, hl⟩ : ∃ l, out.getLast? = some l := by cases hx : out.getLast? with | none => exact absurd (List.getLast?_eq_none_iff.1 hx) h0 | some l => exact ⟨l, rfl⟩
      have hpos : 0 < out.length := List.length_pos_iff.2 h0
      have z1 : ((out.length : Int) == 0) = false := by rw [beq_eq_false_iff_ne]; omega
      obtain ⟨ao6, cap6, hv6, hst6, _⟩ := ho4.facts
      cases hv6
      obtain ⟨g, goff, hg, hgB, hlr⟩ := hst6 (out.length - 1) (by omega)
      have hgo : goff = 0 := by
       rcases ho4.2 with ⟨e, _⟩ | ⟨g', cap', cur, e, _⟩
       ·rw [hg] at e; cases e
       ·rw [hg] at e; cases e; rfl
      subst hgo
      subst hg
      rw [show out[out.length - 1]'(by omega) = l by
       have := List.getLast?_eq_getElem? (l := out)
       rw [hl, List.getElem?_eq_getElem (by omega)] at this
       exact (Option.some.inj this).symm, Nat.zero_add] at hlr
      have e0 : (0 : Int) ≤ (out.length : Int) - 1 := by omega
      have e1 : (out.length : Int) - 1 < (out.length : Int) := by omega
      have e4 : (1 : Int) ≤ (out.length : Int) := by omega
      have e2 : ((out.length : Int) - 1).toNat = out.length - 1 := by omega
      have e3 : IntKind.i64.wrap ((out.length : Int) - 1) = (out.length : Int) - 1 := by rw [IntKind.wrap_i64]; omega
      have HCL : Hid (candG ltF (fun _ => true) out s = ltF l s) := hid (by simp [candG, hl])
      have HCL2 := HCL
      clear hl hpos h0 hst6 hgB
      cases hll : ltF l s with
      | false =>
       have b : FactB := s
       have HBO := hid hb.out
       have bi : Int := 0
       refine wp_region_specs (fsortSpecsD none out.length cap3 g (some ⟨jb, joff, none⟩) ls.length cp (bestI bo) Sb s l b) [18, 19, 20, 21, 22, 23, 24, 25, 26, 27, 28, 29, 30, 31, 32, 33, 34, 35, 36, 37, 38, 39, 40, 41, 42] [0, 3, 4, 6] (by kernel_rfl) (by kernel_rfl) (by rfl) (by kernel_rfl) ?start ?obs ?fin
       case start =>
        simp only [List.forall_mem_cons]
        exact ⟨⟨_, rfl, rfl⟩, ⟨_, rfl, rfl⟩, ⟨_, rfl, rfl⟩, ⟨_, rfl, rfl⟩, fun _ h => by cases h⟩
       case obs =>
        refine Obs.cons none (by kernel_rfl) ?_ ?_
        ·refine Ob.plain fun a w hR hk K k => ?_
         obtain ⟨_, e3, f3⟩ := hk 3 (by decide)
         clear hk
         go_simp
         exact k _ _ (Chg.refl _ _) f3
        refine Obs.cons none (by kernel_rfl) ?_ ?_
        ·refine Ob.plain fun a w hR hk K k => ?_
         obtain ⟨_, e18, rfl⟩ := hk 18 (by decide)
         clear hk
         go_simp
         exact k _ _ (Chg.refl _ _) rfl
        refine Obs.cons none (by kernel_rfl) ?_ ?_
        ·refine Ob.plain fun a w hR hk K k => ?_
         obtain ⟨_, e19, rfl⟩ := hk 19 (by decide)
         clear hk
         go_simp
         exact k _ _ (Chg.refl _ _) rfl
        refine Obs.cons none (by kernel_rfl) ?_ ?_
        ·refine Ob.plain fun a w hR hk K k => ?_
         obtain ⟨_, e20, f20⟩ := hk 20 (by decide)
         clear hk
         go_simp
         exact k _ _ (Chg.refl _ _) f20
        refine Obs.cons (some (21, false)) (by kernel_rfl) ?_ ?_
        ·refine Ob.yes (fun _ _ h => h) fun a w hR hk K k => ?_
         obtain ⟨_, e3, f3⟩ := hk 3 (by decide)
         clear hk
         go_simp
         exact k _ _ (Chg.refl _ _) f3
        refine Obs.cons (some (21, false)) (by kernel_rfl) ?_ ?_
        ·refine Ob.yes (fun _ _ h => h) fun a w hR hk K k => ?_
         obtain ⟨_, e3, f3⟩ := hk 3 (by decide)
         clear hk
         go_simp
         exact k _ _ (Chg.refl _ _) f3
        refine Obs.cons (some (21, false)) (by kernel_rfl) ?_ ?_
        ·refine Ob.yes (fun _ _ h => h) fun a w hR hk K k => ?_
         obtain ⟨_, e23, rfl⟩ := hk 23 (by decide)
         clear hk
         go_simp
         exact k _ _ (Chg.refl _ _) rfl
        refine Obs.cons (some (21, false)) (by kernel_rfl) ?_ ?_
        ·refine Ob.yes (fun _ _ h => h) fun a w hR hk K k => ?_
         obtain ⟨_, e24, rfl⟩ := hk 24 (by decide)
         clear hk
         go_simp
         exact k _ _ (Chg.refl _ _) rfl
        refine Obs.cons (some (21, false)) (by kernel_rfl) ?_ ?_
        ·refine Ob.yes (fun _ _ h => h) fun a w hR hk K k => ?_
         obtain ⟨_, e22, rfl⟩ := hk 22 (by decide)
         obtain ⟨_, e25, rfl⟩ := hk 25 (by decide)
         clear hk
         obtain ⟨c0, c1, c2⟩ := hlr.keep hR id
         go_simp
         exact k _ _ (Chg.refl _ _) ⟨_, _, rfl, hlr.keep hR id⟩
        refine Obs.cons (some (21, false)) (by kernel_rfl) ?_ ?_
        ·refine Ob.yes (fun _ _ h => h) fun a w hR hk K k => ?_
         obtain ⟨_, e26, f26⟩ := hk 26 (by decide)
         clear hk
         obtain ⟨b1, o1, rfl, c0, c1, c2⟩ := f26
         go_simp
         exact k _ _ (Chg.refl _ _) rfl
        refine Obs.cons (some (21, false)) (by kernel_rfl) ?_ ?_
        ·refine Ob.yes (fun _ _ h => h) fun a w hR hk K k => ?_
         obtain ⟨_, e6, rfl⟩ := hk 6 (by decide)
         clear hk
         have q0 := hR.cell s0 id
         have q1 := hR.cell s1 id
         have q2 := hR.cell s2 id
         go_simp
         exact k _ _ (Chg.refl _ _) rfl
        refine Obs.cons (some (21, false)) (by kernel_rfl) ?_ ?_
        ·refine Ob.yes (fun _ _ h => h) fun a w hR hk K k => ?_
         obtain ⟨_, e27, rfl⟩ := hk 27 (by decide)
         obtain ⟨_, e28, rfl⟩ := hk 28 (by decide)
         clear hk
         go_simp
         refine (rfless l s _).mono ?_
         rintro e w2 ⟨rfl, hc⟩
         exact k _ _ hc (congrArg Value.bool hll)
        refine Obs.cons none (by kernel_rfl) ?_ ?_
        ·refine Ob.plain fun a w hR hk K k => ?_
         obtain ⟨_, e21, rfl⟩ := hk 21 (by decide)
         obtain ⟨_, e29, rfl⟩ := hk 29 (by decide)
         clear hk
         go_simp
         exact k _ _ (Chg.refl _ _) rfl
        refine Obs.cons none (by kernel_rfl) ?_ ?_
        ·refine Ob.plain fun a w hR hk K k => ?_
         obtain ⟨_, e30, f30⟩ := hk 30 (by decide)
         clear hk
         go_simp
         exact k _ _ (Chg.refl _ _) f30
        refine Obs.cons (some (31, true)) (by kernel_rfl) ?_ ?_
        ·exact Ob.no (fun _ _ h => h) (Chg.refl _) (fun _ _ => trivial)
        refine Obs.cons (some (31, true)) (by kernel_rfl) ?_ ?_
        ·exact Ob.no (fun _ _ h => h) (Chg.refl _) (fun _ _ => trivial)
        refine Obs.cons (some (31, true)) (by kernel_rfl) ?_ ?_
        ·exact Ob.no (fun _ _ h => h) (Chg.refl _) (fun _ _ => rfl)
        refine Obs.cons (some (34, false)) (by kernel_rfl) ?_ ?_
        ·exact Ob.und (fun _ _ h => h) (Chg.refl _) (fun _ _ => trivial)
        refine Obs.cons (some (34, false)) (by kernel_rfl) ?_ ?_
        ·exact Ob.und (fun _ _ h => h) (Chg.refl _) (fun _ _ => trivial)
        refine Obs.cons (some (34, false)) (by kernel_rfl) ?_ ?_
        ·exact Ob.und (fun _ _ h => h) (Chg.refl _) (fun _ _ => trivial)
        refine Obs.cons (some (34, false)) (by kernel_rfl) ?_ ?_
        ·exact Ob.und (fun _ _ h => h) (Chg.refl _) (fun _ _ => trivial)
        refine Obs.cons (some (34, false)) (by kernel_rfl) ?_ ?_
        ·exact Ob.und (fun _ _ h => h) (Chg.refl _) (fun _ _ => trivial)
        refine Obs.cons (some (34, false)) (by kernel_rfl) ?_ ?_
        ·exact Ob.und (fun _ _ h => h) (Chg.refl _) (fun _ _ => trivial)
        refine Obs.cons (some (31, true)) (by kernel_rfl) ?_ ?_
        ·exact Ob.no (fun _ _ h => h) (Chg.refl _) (fun _ _ => trivial)
        refine Obs.cons none (by kernel_rfl) ?_ ?_
        ·refine Ob.plain fun a w hR hk K k => ?_
         obtain ⟨_, e31, rfl⟩ := hk 31 (by decide)
         obtain ⟨_, e41, _⟩ := hk 41 (by decide)
         clear hk
         go_simp
         exact k _ _ (Chg.refl _ _) rfl
        exact Obs.nil
       case fin =>
        intro vals w9 hc9 hv
        have h42 : vals 42 = .bool false := hv 42 (by decide)
        simp only [putAll, List.setIfInBounds_toArray, List.set_cons_zero, List.set_cons_succ, h42]
        clear hv h42
        have HX := hid (And.intro (ho4.keep hc9 (fun _ _ => id)) (hc4.trans hc9 (fun _ _ h => h)))
        clear HFK HCL
        have hn2 : Hid (BestG ltF (fun _ => true) out (ls.take (k + 1)) (bo.bind (ls[·]?))) := hid (by rw [HTK.out]; exact hb.out.skip (HCL2.out.trans hll))
        clear hb
        go_wp2
        go_roundw
        case rel => exact ⟨k + 1, bo, by go_num, by omega, rfl, HJ, hn2, HX.out.1, HX.out.2⟩
        case measure => simp [intOf]; omega

      | true =>
       cases bo with
       | none =>
        have b : FactB := s
        have hneg : decide ((-1 : Int) < 0) = true := rfl
        refine wp_region_specs (fsortSpecsE none out.length cap3 g (some ⟨jb, joff, none⟩) ls.length cp (-1) Sb s l b) [18, 19, 20, 21, 22, 23, 24, 25, 26, 27, 28, 29, 30, 31, 32, 33, 34, 35, 36, 37, 38, 39, 40, 41, 42] [0, 3, 4, 6] (by kernel_rfl) (by kernel_rfl) (by rfl) (by kernel_rfl) ?start ?obs ?fin
        case start =>
         simp only [List.forall_mem_cons]
         exact ⟨⟨_, rfl, rfl⟩, ⟨_, rfl, rfl⟩, ⟨_, rfl, rfl⟩, ⟨_, rfl, rfl⟩, fun _ h => by cases h⟩
        case obs =>
         refine Obs.cons none (by kernel_rfl) ?_ ?_
         ·refine Ob.plain fun a w hR hk K k => ?_
          obtain ⟨_, e3, f3⟩ := hk 3 (by decide)
          clear hk
          go_simp
          exact k _ _ (Chg.refl _ _) f3
         refine Obs.cons none (by kernel_rfl) ?_ ?_
         ·refine Ob.plain fun a w hR hk K k => ?_
          obtain ⟨_, e18, rfl⟩ := hk 18 (by decide)
          clear hk
          go_simp
          exact k _ _ (Chg.refl _ _) rfl
         refine Obs.cons none (by kernel_rfl) ?_ ?_
         ·refine Ob.plain fun a w hR hk K k => ?_
          obtain ⟨_, e19, rfl⟩ := hk 19 (by decide)
          clear hk
          go_simp
          exact k _ _ (Chg.refl _ _) rfl
         refine Obs.cons none (by kernel_rfl) ?_ ?_
         ·refine Ob.plain fun a w hR hk K k => ?_
          obtain ⟨_, e20, f20⟩ := hk 20 (by decide)
          clear hk
          go_simp
          exact k _ _ (Chg.refl _ _) f20
         refine Obs.cons (some (21, false)) (by kernel_rfl) ?_ ?_
         ·refine Ob.yes (fun _ _ h => h) fun a w hR hk K k => ?_
          obtain ⟨_, e3, f3⟩ := hk 3 (by decide)
          clear hk
          go_simp
          exact k _ _ (Chg.refl _ _) f3
         refine Obs.cons (some (21, false)) (by kernel_rfl) ?_ ?_
         ·refine Ob.yes (fun _ _ h => h) fun a w hR hk K k => ?_
          obtain ⟨_, e3, f3⟩ := hk 3 (by decide)
          clear hk
          go_simp
          exact k _ _ (Chg.refl _ _) f3
         refine Obs.cons (some (21, false)) (by kernel_rfl) ?_ ?_
         ·refine Ob.yes (fun _ _ h => h) fun a w hR hk K k => ?_
          obtain ⟨_, e23, rfl⟩ := hk 23 (by decide)
          clear hk
          go_simp
          exact k _ _ (Chg.refl _ _) rfl
         refine Obs.cons (some (21, false)) (by kernel_rfl) ?_ ?_
         ·refine Ob.yes (fun _ _ h => h) fun a w hR hk K k => ?_
          obtain ⟨_, e24, rfl⟩ := hk 24 (by decide)
          clear hk
          go_simp
          exact k _ _ (Chg.refl _ _) rfl
         refine Obs.cons (some (21, false)) (by kernel_rfl) ?_ ?_
         ·refine Ob.yes (fun _ _ h => h) fun a w hR hk K k => ?_
          obtain ⟨_, e22, rfl⟩ := hk 22 (by decide)
          obtain ⟨_, e25, rfl⟩ := hk 25 (by decide)
          clear hk
          obtain ⟨c0, c1, c2⟩ := hlr.keep hR id
          go_simp
          exact k _ _ (Chg.refl _ _) ⟨_, _, rfl, hlr.keep hR id⟩
         refine Obs.cons (some (21, false)) (by kernel_rfl) ?_ ?_
         ·refine Ob.yes (fun _ _ h => h) fun a w hR hk K k => ?_
          obtain ⟨_, e26, f26⟩ := hk 26 (by decide)
          clear hk
          obtain ⟨b1, o1, rfl, c0, c1, c2⟩ := f26
          go_simp
          exact k _ _ (Chg.refl _ _) rfl
         refine Obs.cons (some (21, false)) (by kernel_rfl) ?_ ?_
         ·refine Ob.yes (fun _ _ h => h) fun a w hR hk K k => ?_
          obtain ⟨_, e6, rfl⟩ := hk 6 (by decide)
          clear hk
          have q0 := hR.cell s0 id
          have q1 := hR.cell s1 id
          have q2 := hR.cell s2 id
          go_simp
          exact k _ _ (Chg.refl _ _) rfl
         refine Obs.cons (some (21, false)) (by kernel_rfl) ?_ ?_
         ·refine Ob.yes (fun _ _ h => h) fun a w hR hk K k => ?_
          obtain ⟨_, e27, rfl⟩ := hk 27 (by decide)
          obtain ⟨_, e28, rfl⟩ := hk 28 (by decide)
          clear hk
          go_simp
          refine (rfless l s _).mono ?_
          rintro e w2 ⟨rfl, hc⟩
          exact k _ _ hc (congrArg Value.bool hll)
         refine Obs.cons none (by kernel_rfl) ?_ ?_
         ·refine Ob.plain fun a w hR hk K k => ?_
          obtain ⟨_, e21, rfl⟩ := hk 21 (by decide)
          obtain ⟨_, e29, rfl⟩ := hk 29 (by decide)
          clear hk
          go_simp
          exact k _ _ (Chg.refl _ _) rfl
         refine Obs.cons none (by kernel_rfl) ?_ ?_
         ·refine Ob.plain fun a w hR hk K k => ?_
          obtain ⟨_, e30, f30⟩ := hk 30 (by decide)
          clear hk
          go_simp
          exact k _ _ (Chg.refl _ _) f30
         refine Obs.cons (some (31, true)) (by kernel_rfl) ?_ ?_
         ·refine Ob.yes (fun _ _ h => h) fun a w hR hk K k => ?_
          obtain ⟨_, e4, f4⟩ := hk 4 (by decide)
          clear hk
          go_simp
          exact k _ _ (Chg.refl _ _) f4
         refine Obs.cons (some (31, true)) (by kernel_rfl) ?_ ?_
         ·refine Ob.yes (fun _ _ h => h) fun a w hR hk K k => ?_
          obtain ⟨_, e32, rfl⟩ := hk 32 (by decide)
          clear hk
          have hz : decide ((-1 : Int) < 0) = true := hneg
          go_simp
          exact k _ _ (Chg.refl _ _) (by simp only []; rfl)
         refine Obs.cons (some (31, true)) (by kernel_rfl) ?_ ?_
         ·refine Ob.yes (fun _ _ h => h) fun a w hR hk K k => ?_
          obtain ⟨_, e33, f33⟩ := hk 33 (by decide)
          clear hk
          go_simp
          exact k _ _ (Chg.refl _ _) f33
         refine Obs.cons (some (34, false)) (by kernel_rfl) ?_ ?_
         ·exact Ob.no (fun _ _ h => h) (Chg.refl _) (fun _ _ => trivial)
         refine Obs.cons (some (34, false)) (by kernel_rfl) ?_ ?_
         ·exact Ob.no (fun _ _ h => h) (Chg.refl _) (fun _ _ => trivial)
         refine Obs.cons (some (34, false)) (by kernel_rfl) ?_ ?_
         ·exact Ob.no (fun _ _ h => h) (Chg.refl _) (fun _ _ => trivial)
         refine Obs.cons (some (34, false)) (by kernel_rfl) ?_ ?_
         ·exact Ob.no (fun _ _ h => h) (Chg.refl _) (fun _ _ => trivial)
         refine Obs.cons (some (34, false)) (by kernel_rfl) ?_ ?_
         ·exact Ob.no (fun _ _ h => h) (Chg.refl _) (fun _ _ => trivial)
         refine Obs.cons (some (34, false)) (by kernel_rfl) ?_ ?_
         ·exact Ob.no (fun _ _ h => h) (Chg.refl _) (fun _ _ => trivial)
         refine Obs.cons (some (31, true)) (by kernel_rfl) ?_ ?_
         ·refine Ob.yes (fun _ _ h => h) fun a w hR hk K k => ?_
          obtain ⟨_, e34, rfl⟩ := hk 34 (by decide)
          obtain ⟨_, e40, _⟩ := hk 40 (by decide)
          clear hk
          go_simp
          exact k _ _ (Chg.refl _ _) rfl
         refine Obs.cons none (by kernel_rfl) ?_ ?_
         ·refine Ob.plain fun a w hR hk K k => ?_
          obtain ⟨_, e31, rfl⟩ := hk 31 (by decide)
          obtain ⟨_, e41, rfl⟩ := hk 41 (by decide)
          clear hk
          go_simp
          exact k _ _ (Chg.refl _ _) rfl
         exact Obs.nil
        case fin =>
         intro vals w9 hc9 hv
         have h42 : vals 42 = .bool true := hv 42 (by decide)
         simp only [putAll, List.setIfInBounds_toArray, List.set_cons_zero, List.set_cons_succ, h42]
         clear hv h42
         have HX := hid (And.intro (ho4.keep hc9 (fun _ _ => id)) (hc4.trans hc9 (fun _ _ h => h)))
         clear HFK HCL
         have hn2 : Hid (BestG ltF (fun _ => true) out (ls.take (k + 1)) ((some k).bind (ls[·]?))) := hid (by rw [HTK.out, Option.bind_some, HKK.out]; exact hb.out.take ltF_ord (HCL2.out.trans hll) (fun c h => by cases h))
         clear hb
         go_wp2
         go_roundw
         case rel => exact ⟨k + 1, some k, by go_num, by omega, rfl, hid (fun j hj => by cases hj; exact HKL.out), hn2, HX.out.1, HX.out.2⟩
         case measure => simp [intOf]; omega

       | some j =>
        have hjl := HJ.out j rfl
        obtain ⟨jb2, joff2, hj2, _, hjr⟩ := HFS.out j hjl
        cases hj2
        have HBJ : Hid ((some j).bind (ls[·]?) = some (ls[j]'hjl)) := hid (by rw [Option.bind_some, List.getElem?_eq_getElem hjl])
        generalize ls[j]'hjl = b at *
        have j0 : (0 : Int) ≤ (j : Int) := by omega
        have j1 : (j : Int) < (ls.length : Int) := by omega
        have j2 : ((j : Int)).toNat = j := rfl
        have hneg : decide ((j : Int) < 0) = false := by simp

        refine wp_region_specs (fsortSpecsF none out.length cap3 g (some ⟨jb, joff, none⟩) ls.length cp (j) Sb s l b) [18, 19, 20, 21, 22, 23, 24, 25, 26, 27, 28, 29, 30, 31, 32, 33, 34, 35, 36, 37, 38, 39, 40, 41, 42] [0, 3, 4, 6] (by kernel_rfl) (by kernel_rfl) (by rfl) (by kernel_rfl) ?start ?obs ?fin
        case start =>
         simp only [List.forall_mem_cons]
         exact ⟨⟨_, rfl, rfl⟩, ⟨_, rfl, rfl⟩, ⟨_, rfl, rfl⟩, ⟨_, rfl, rfl⟩, fun _ h => by cases h⟩
        case obs =>
         refine Obs.cons none (by kernel_rfl) ?_ ?_
         ·refine Ob.plain fun a w hR hk K k => ?_
          obtain ⟨_, e3, f3⟩ := hk 3 (by decide)
          clear hk
          go_simp
          exact k _ _ (Chg.refl _ _) f3
         refine Obs.cons none (by kernel_rfl) ?_ ?_
         ·refine Ob.plain fun a w hR hk K k => ?_
          obtain ⟨_, e18, rfl⟩ := hk 18 (by decide)
          clear hk
          go_simp
          exact k _ _ (Chg.refl _ _) rfl
         refine Obs.cons none (by kernel_rfl) ?_ ?_
         ·refine Ob.plain fun a w hR hk K k => ?_
          obtain ⟨_, e19, rfl⟩ := hk 19 (by decide)
          clear hk
          go_simp
          exact k _ _ (Chg.refl _ _) rfl
         refine Obs.cons none (by kernel_rfl) ?_ ?_
         ·refine Ob.plain fun a w hR hk K k => ?_
          obtain ⟨_, e20, f20⟩ := hk 20 (by decide)
          clear hk
          go_simp
          exact k _ _ (Chg.refl _ _) f20
         refine Obs.cons (some (21, false)) (by kernel_rfl) ?_ ?_
         ·refine Ob.yes (fun _ _ h => h) fun a w hR hk K k => ?_
          obtain ⟨_, e3, f3⟩ := hk 3 (by decide)
          clear hk
          go_simp
          exact k _ _ (Chg.refl _ _) f3
         refine Obs.cons (some (21, false)) (by kernel_rfl) ?_ ?_
         ·refine Ob.yes (fun _ _ h => h) fun a w hR hk K k => ?_
          obtain ⟨_, e3, f3⟩ := hk 3 (by decide)
          clear hk
          go_simp
          exact k _ _ (Chg.refl _ _) f3
         refine Obs.cons (some (21, false)) (by kernel_rfl) ?_ ?_
         ·refine Ob.yes (fun _ _ h => h) fun a w hR hk K k => ?_
          obtain ⟨_, e23, rfl⟩ := hk 23 (by decide)
          clear hk
          go_simp
          exact k _ _ (Chg.refl _ _) rfl
         refine Obs.cons (some (21, false)) (by kernel_rfl) ?_ ?_
         ·refine Ob.yes (fun _ _ h => h) fun a w hR hk K k => ?_
          obtain ⟨_, e24, rfl⟩ := hk 24 (by decide)
          clear hk
          go_simp
          exact k _ _ (Chg.refl _ _) rfl
         refine Obs.cons (some (21, false)) (by kernel_rfl) ?_ ?_
         ·refine Ob.yes (fun _ _ h => h) fun a w hR hk K k => ?_
          obtain ⟨_, e22, rfl⟩ := hk 22 (by decide)
          obtain ⟨_, e25, rfl⟩ := hk 25 (by decide)
          clear hk
          obtain ⟨c0, c1, c2⟩ := hlr.keep hR id
          go_simp
          exact k _ _ (Chg.refl _ _) ⟨_, _, rfl, hlr.keep hR id⟩
         refine Obs.cons (some (21, false)) (by kernel_rfl) ?_ ?_
         ·refine Ob.yes (fun _ _ h => h) fun a w hR hk K k => ?_
          obtain ⟨_, e26, f26⟩ := hk 26 (by decide)
          clear hk
          obtain ⟨b1, o1, rfl, c0, c1, c2⟩ := f26
          go_simp
          exact k _ _ (Chg.refl _ _) rfl
         refine Obs.cons (some (21, false)) (by kernel_rfl) ?_ ?_
         ·refine Ob.yes (fun _ _ h => h) fun a w hR hk K k => ?_
          obtain ⟨_, e6, rfl⟩ := hk 6 (by decide)
          clear hk
          have q0 := hR.cell s0 id
          have q1 := hR.cell s1 id
          have q2 := hR.cell s2 id
          go_simp
          exact k _ _ (Chg.refl _ _) rfl
         refine Obs.cons (some (21, false)) (by kernel_rfl) ?_ ?_
         ·refine Ob.yes (fun _ _ h => h) fun a w hR hk K k => ?_
          obtain ⟨_, e27, rfl⟩ := hk 27 (by decide)
          obtain ⟨_, e28, rfl⟩ := hk 28 (by decide)
          clear hk
          go_simp
          refine (rfless l s _).mono ?_
          rintro e w2 ⟨rfl, hc⟩
          exact k _ _ hc (congrArg Value.bool hll)
         refine Obs.cons none (by kernel_rfl) ?_ ?_
         ·refine Ob.plain fun a w hR hk K k => ?_
          obtain ⟨_, e21, rfl⟩ := hk 21 (by decide)
          obtain ⟨_, e29, rfl⟩ := hk 29 (by decide)
          clear hk
          go_simp
          exact k _ _ (Chg.refl _ _) rfl
         refine Obs.cons none (by kernel_rfl) ?_ ?_
         ·refine Ob.plain fun a w hR hk K k => ?_
          obtain ⟨_, e30, f30⟩ := hk 30 (by decide)
          clear hk
          go_simp
          exact k _ _ (Chg.refl _ _) f30
         refine Obs.cons (some (31, true)) (by kernel_rfl) ?_ ?_
         ·refine Ob.yes (fun _ _ h => h) fun a w hR hk K k => ?_
          obtain ⟨_, e4, f4⟩ := hk 4 (by decide)
          clear hk
          go_simp
          exact k _ _ (Chg.refl _ _) f4
         refine Obs.cons (some (31, true)) (by kernel_rfl) ?_ ?_
         ·refine Ob.yes (fun _ _ h => h) fun a w hR hk K k => ?_
          obtain ⟨_, e32, rfl⟩ := hk 32 (by decide)
          clear hk
          have hz : decide ((j : Int) < 0) = false := hneg
          go_simp
          exact k _ _ (Chg.refl _ _) (by simp only []; rfl)
         refine Obs.cons (some (31, true)) (by kernel_rfl) ?_ ?_
         ·refine Ob.yes (fun _ _ h => h) fun a w hR hk K k => ?_
          obtain ⟨_, e33, f33⟩ := hk 33 (by decide)
          clear hk
          go_simp
          exact k _ _ (Chg.refl _ _) f33
         refine Obs.cons (some (34, false)) (by kernel_rfl) ?_ ?_
         ·refine Ob.yes (fun _ _ h => h) fun a w hR hk K k => ?_
          obtain ⟨_, e6, rfl⟩ := hk 6 (by decide)
          clear hk
          have q0 := hR.cell s0 id
          have q1 := hR.cell s1 id
          have q2 := hR.cell s2 id
          go_simp
          exact k _ _ (Chg.refl _ _) rfl
         refine Obs.cons (some (34, false)) (by kernel_rfl) ?_ ?_
         ·refine Ob.yes (fun _ _ h => h) fun a w hR hk K k => ?_
          obtain ⟨_, e0, f0⟩ := hk 0 (by decide)
          clear hk
          go_simp
          exact k _ _ (Chg.refl _ _) f0
         refine Obs.cons (some (34, false)) (by kernel_rfl) ?_ ?_
         ·refine Ob.yes (fun _ _ h => h) fun a w hR hk K k => ?_
          obtain ⟨_, e4, f4⟩ := hk 4 (by decide)
          clear hk
          go_simp
          exact k _ _ (Chg.refl _ _) f4
         refine Obs.cons (some (34, false)) (by kernel_rfl) ?_ ?_
         ·refine Ob.yes (fun _ _ h => h) fun a w hR hk K k => ?_
          obtain ⟨_, e36, rfl⟩ := hk 36 (by decide)
          obtain ⟨_, e37, rfl⟩ := hk 37 (by decide)
          clear hk
          obtain ⟨c0, c1, c2⟩ := hjr.keep hR id
          go_simp
          exact k _ _ (Chg.refl _ _) ⟨_, _, rfl, hjr.keep hR id⟩
         refine Obs.cons (some (34, false)) (by kernel_rfl) ?_ ?_
         ·refine Ob.yes (fun _ _ h => h) fun a w hR hk K k => ?_
          obtain ⟨_, e38, f38⟩ := hk 38 (by decide)
          clear hk
          obtain ⟨b1, o1, rfl, c0, c1, c2⟩ := f38
          go_simp
          exact k _ _ (Chg.refl _ _) rfl
         refine Obs.cons (some (34, false)) (by kernel_rfl) ?_ ?_
         ·refine Ob.yes (fun _ _ h => h) fun a w hR hk K k => ?_
          obtain ⟨_, e35, rfl⟩ := hk 35 (by decide)
          obtain ⟨_, e39, rfl⟩ := hk 39 (by decide)
          clear hk
          go_simp
          refine (rfless s b _).mono ?_
          rintro e w2 ⟨rfl, hc⟩
          exact k _ _ hc rfl
         refine Obs.cons (some (31, true)) (by kernel_rfl) ?_ ?_
         ·refine Ob.yes (fun _ _ h => h) fun a w hR hk K k => ?_
          obtain ⟨_, e34, rfl⟩ := hk 34 (by decide)
          obtain ⟨_, e40, rfl⟩ := hk 40 (by decide)
          clear hk
          go_simp
          exact k _ _ (Chg.refl _ _) rfl
         refine Obs.cons none (by kernel_rfl) ?_ ?_
         ·refine Ob.plain fun a w hR hk K k => ?_
          obtain ⟨_, e31, rfl⟩ := hk 31 (by decide)
          obtain ⟨_, e41, rfl⟩ := hk 41 (by decide)
          clear hk
          go_simp
          exact k _ _ (Chg.refl _ _) rfl
         exact Obs.nil
        case fin =>
         intro vals w9 hc9 hv
         have h42 : vals 42 = .bool (ltF s b) := hv 42 (by decide)
         simp only [putAll, List.setIfInBounds_toArray, List.set_cons_zero, List.set_cons_succ, h42]
         clear hv h42
         have HX := hid (And.intro (ho4.keep hc9 (fun _ _ => id)) (hc4.trans hc9 (fun _ _ h => h)))
         clear HFK HCL
         cases hlb : ltF s b with
         | true =>
          have hn2 : Hid (BestG ltF (fun _ => true) out (ls.take (k + 1)) ((some k).bind (ls[·]?))) := hid (by rw [HTK.out, Option.bind_some, HKK.out]; exact hb.out.take ltF_ord (HCL2.out.trans hll) (fun c h => by rw [HBJ.out] at h; cases h; exact hlb))
          clear hb
          go_wp2
          go_roundw
          case rel => exact ⟨k + 1, some k, by go_num, by omega, rfl, hid (fun j hj => by cases hj; exact HKL.out), hn2, HX.out.1, HX.out.2⟩
          case measure => simp [intOf]; omega

         | false =>
          have hn2 : Hid (BestG ltF (fun _ => true) out (ls.take (k + 1)) ((some j).bind (ls[·]?))) := hid (by rw [HTK.out]; have hb2 := hb.out; rw [HBJ.out] at hb2 ⊢; exact hb2.keep hlb)
          clear hb
          go_wp2
          go_roundw
          case rel => exact ⟨k + 1, (some j), by go_num, by omega, rfl, HJ, hn2, HX.out.1, HX.out.2⟩
          case measure => simp [intOf]; omega
    ·have hk2 : k = ls.length := by omega
     have hb2 : Hid (BestG ltF (fun _ => true) out ls (bo.bind (ls[·]?))) := hid (by have := hb.out; rwa [List.take_of_length_le (by omega)] at this)
     clear hb hk2
     cases bo with
     | none =>
      have hso := hid (hp.out.done hb2.out)
      have HQ := hid (And.intro hoq hcq)
      clear hb2 hoq hcq
      have hneg : decide ((-1 : Int) ≥ 0) = false := rfl
      go_wp2
      go_roundw
      case rel => exact ⟨r + 1, out, ao3, cap3, rfl, by go_num, by have := HR.out; omega, hp, hid (.inr hso.out), HQ.out.1, HQ.out.2⟩
      case measure => have := HR.out; simp [intOf]; omega
     | some j =>
      have hjl := HJ.out j rfl
      obtain ⟨jb, joff, hao, _, hjr⟩ := (h.keep hcq (fun _ _ => id)) j hjl
      have hps := hid (hp.out.step ltF_ord (show BestG ltF (fun _ => true) out ls (some (ls[j]'hjl)) by have := hb2.out; rwa [Option.bind_some, List.getElem?_eq_getElem hjl] at this))
      generalize ls[j]'hjl = b at *
      have hpl := SetPartG.len ltF_ord hps.out
      rw [List.length_append, List.length_singleton] at hpl
      obtain ⟨p0, p1, p2⟩ := hjr
      have j0 : (0 : Int) ≤ (j : Int) := by omega
      have j1 : (j : Int) < (ls.length : Int) := by omega
      have hneg : decide ((j : Int) ≥ 0) = true := by simp
      have HQ := hid (And.intro hoq hcq)
      subst hao
      clear hb2 hoq hcq h
      rw [show bestI (some j) = (j : Int) from rfl]
      go_wp2_with (at_builtin; refine wpList_append_own_at _ rfl (.tmp 47) (.tmp 52) 33 rfl w.heap.size 26 i0 (.agg #[.string ⟨#[]⟩, .string ⟨#[]⟩, .string ⟨#[]⟩]) 3 48 Try.underlying33 HI.out.1 HI.out.2.1 HI.out.2.2.1 HI.out.2.2.2 rfl (by decide) _ _ _ rfl (World.ownsRow.alloc HQ.out.1 _) ⟨wr.heap.size, 0, none⟩ 1 1 (factCells b) rfl rfl ?c1 ?c2 ?c3 ?c4 ?c5 ?_)
      case c1 => exact fun j u hj => fact_cells_new wr b j u hj
      case c2 => exact fact_one b
      case c3 => unfold maxLen; omega
      case c4 => omega
      case c5 => have := HQ.out.2.size; simp; omega
      intro v' w2 hown hgrow _ _
      have hl : (out ++ [b]).length = out.length + 1 := by simp
      have ho2 : OwnF w.heap.size w2 v' (out ++ [b]) := by
       unfold OwnF
       rw [hl, factRow_snoc]
       exact hown
      have hc2 : Chg (fun _ => False) w w2 := (HQ.out.2.alloc _).grown hgrow (fun k e hk => by have := (ownsRow_lt HQ.out.1 k e).1; omega)
      obtain ⟨ao5, cap5, hv5⟩ := ho2.shape
      subst hv5
      have HY := hid (And.intro ho2 hc2)
      have HL := hid hl
      clear hown hgrow HQ ho2 hc2
      rw [hl]
      clear hl
      go_wp2
      go_roundw
      case rel => exact ⟨r + 1, out ++ [b], ao5, cap5, by rw [HL.out], by go_num, by have := HR.out; omega, hps, hid (by
       rcases hp2.out with h1 | h1
       ·left; rw [HL.out]; omega
       ·exact (sorted_more hps.out h1).elim), HY.out.1, HY.out.2⟩
      case measure => have := HR.out; simp [intOf]; omega
  ·have hr2 : r = ls.length := by omega
   have hso : Hid (SetG ltF (fun _ => true) ls out) := hid (by
    rcases hp2.out with h1 | h1
    ·exact sorted_full hp.out (by omega)
    ·exact h1)
   have HQ := hid (And.intro ho hc)
   clear ho hc hr2 h
   go_wp2
   go_ret
   exact ⟨out, ao3, cap3, rfl, hso.out, HQ.out.1, HQ.out.2⟩
end Go.Proofs.Ytjaplnainlbldaa
