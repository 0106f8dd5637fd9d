/- Texts that the proof leans on, in one: ShelfStr, RoleCmp, RoleOr, Grown, RoleCompare. -/
import Derived.Shelf.Small.Strs
import Derived.Shelf.Strings.Search1
import Derived.Shelf.Strings.Search2
import Derived.Test.YtjohiggfjpfbeaaProg
import Derived.Test.YtjohiggfjpfbeaaCm5
import Derived.Test.YtjohiggfjpfbeaaCm4
import Derived.Sort.Grow
/-
  DERIVED: THE SHELF's CONTRACTS AT THIS DUMP, IN PLAIN WORDS (tools/lay-plain.mjs out of 'TryShelfStr.lean', which tools/lay-shelf.mjs wrote): THE SAME DECLARATIONS UNDER THE SAME NAMES: 'import', 'namespace', 'open', 'def', 'theorem' AND NOTHING ELSE: no command of the shelf's: FOR A HAND-IN. Each laying: the table of numbers ('.._ren') and one theorem, a field a fact of the dump's own or the kernel's comparison; each contract: ONE APPLICATION.
-/
namespace Go.Proofs
open Go.Shelf
def Try.lays213_ren : Go.Shelf.Ren := ⟨fun | 213 => 93 | 265 => 110 | n => n, fun | 9 => 9 | 3 => 3 | n => n, fun | n => n⟩
theorem Try.lays213 : Go.Proofs.Lays.n213 Try.prog Try.lays213_ren := {
  mixed := by kernel_rfl
  f213 := Try.func93.trans (congrArg some (by kernel_rfl))
  f265 := Try.func110.trans (congrArg some (by kernel_rfl))
  t3 := Try.underlying3
  a3 := Try.isAgg3
  z3 := Try.sizeOf3
  v3 := Try.zeroValue3
  t9 := Try.underlying9
  a9 := Try.isAgg9
  z9 := Try.sizeOf9
  v9 := Try.zeroValue9 }
open Go.RowKit in
/-- internal/bytealg.CompareString (what strings.Compare calls): IT RETURNS 'Lib.compareBytes a b'; the world is as it was. (LAID: no walk: one application.) -/
theorem Try.bytealg_CompareString (a b : ByteArray) (w : World) :
    Calls Try.prog 93 #[.string a, .string b] w fun e w' => e = .returned (.int .i64 (Lib.compareBytes a.data.toList b.data.toList)) ∧ w' = w := Any.bytealg_CompareString Try.lays213 a b w
def Try.lays106_ren : Go.Shelf.Ren := ⟨fun | 106 => 76 | 213 => 93 | 265 => 110 | n => n, fun | 9 => 9 | 3 => 3 | n => n, fun | n => n⟩
theorem Try.lays106 : Go.Proofs.Lays.n106 Try.prog Try.lays106_ren := {
  mixed := by kernel_rfl
  f106 := Try.func76.trans (congrArg some (by kernel_rfl))
  f213 := Try.func93.trans (congrArg some (by kernel_rfl))
  f265 := Try.func110.trans (congrArg some (by kernel_rfl))
  t3 := Try.underlying3
  a3 := Try.isAgg3
  z3 := Try.sizeOf3
  v3 := Try.zeroValue3
  t9 := Try.underlying9
  a9 := Try.isAgg9
  z9 := Try.sizeOf9
  v9 := Try.zeroValue9 }
open Go.RowKit in
/-- strings.Compare: "Compare returns an integer comparing two strings lexicographically. The result will be 0 if a == b, -1 if a < b, and +1 if a > b.": IT RETURNS 'Lib.compareBytes a b'; the world is as it was. (LAID: no walk: one application.) -/
theorem Try.strings_Compare (a b : ByteArray) (w : World) :
    Calls Try.prog 76 #[.string a, .string b] w fun e w' => e = .returned (.int .i64 (Lib.compareBytes a.data.toList b.data.toList)) ∧ w' = w := Any.strings_Compare Try.lays106 a b w
def Try.lays219_ren : Go.Shelf.Ren := ⟨fun | 219 => 87 | 217 => 105 | 225 => 106 | 224 => 107 | 267 => 108 | 266 => 116 | 314 => 117 | n => n, fun | 9 => 9 | 3 => 3 | 4 => 4 | 5 => 5 | 46 => 99 | 146 => 122 | 51 => 119 | n => n, fun | 1 => 0 | n => n⟩
theorem Try.lays219 : Go.Proofs.Lays.n219 Try.prog Try.lays219_ren := {
  mixed := by kernel_rfl
  f217 := Try.func105.trans (congrArg some (by kernel_rfl))
  f219 := Try.func87.trans (congrArg some (by kernel_rfl))
  f224 := Try.func107.trans (congrArg some (by kernel_rfl))
  f225 := Try.func106.trans (congrArg some (by kernel_rfl))
  f266 := Try.func116.trans (congrArg some (by kernel_rfl))
  f267 := Try.func108.trans (congrArg some (by kernel_rfl))
  f314 := Try.func117.trans (congrArg some (by kernel_rfl))
  t3 := Try.underlying3
  a3 := Try.isAgg3
  z3 := Try.sizeOf3
  v3 := Try.zeroValue3
  t4 := Try.underlying4
  a4 := Try.isAgg4
  z4 := Try.sizeOf4
  v4 := Try.zeroValue4
  t5 := Try.underlying5
  a5 := Try.isAgg5
  z5 := Try.sizeOf5
  v5 := Try.zeroValue5
  t9 := Try.underlying9
  a9 := Try.isAgg9
  z9 := Try.sizeOf9
  v9 := Try.zeroValue9
  t46 := Try.underlying99
  a46 := Try.isAgg99
  z46 := Try.sizeOf99
  v46 := Try.zeroValue99
  t51 := Try.underlying119
  a51 := Try.isAgg119
  z51 := Try.sizeOf119
  v51 := Try.zeroValue119
  t146 := Try.underlying122
  a146 := Try.isAgg122
  z146 := Try.sizeOf122
  v146 := Try.zeroValue122
  g1 := by kernel_rfl }
open Go.RowKit Go.Lib in
/-- internal/stringslite.Index (what strings.Index calls) AT A substr OF ONE BYTE c: IT RETURNS 'Lib.indexByte s c'; the world is as it was. (LAID: no walk: one application.) -/
theorem Try.stringslite_Index_one (s : ByteArray) (c : UInt8) (w : World) :
    Calls Try.prog 87 #[.string s, .string ⟨#[c]⟩] w fun e w' => e = .returned (.int .i64 (Lib.indexByte s.data.toList c)) ∧ w' = w := Any.stringslite_Index_one Try.lays219 s c w
end Go.Proofs

/- The order of two roles, as a program tells it by strings.Compare. -/
namespace Go.Proofs.Ytjohiggfjpfbeaa
open Go.RowKit

theorem cmpB_eq : ∀ (a b : List UInt8), Lib.compareBytes a b = if ltS a b then -1 else if ltS b a then 1 else 0
  | [], [] => rfl
  | [], _ :: _ => rfl
  | _ :: _, [] => by simp [Lib.compareBytes, ltS_nil, ltS_nil_cons]
  | x :: a, y :: b => by
    rw [Lib.compareBytes, ltS_cons, ltS_cons, cmpB_eq a b]
    by_cases h1 : x < y
    · simp [h1]
    · by_cases h2 : y < x
      · have hne : x ≠ y := fun e => by subst e; exact h1 h2
        simp [h1, h2, hne]
      · have e : x = y := by
          have h1' : ¬ x.toNat < y.toNat := h1
          have h2' : ¬ y.toNat < x.toNat := h2
          exact UInt8.toNat_inj.1 (by omega)
        subst e
        simp [h1]

theorem cmpB_zero (a b : List UInt8) : Lib.compareBytes a b = 0 ↔ a = b := by
  rw [cmpB_eq]
  constructor
  · intro h
    rcases ltS_tri a b with k | k | k
    · rw [if_pos k] at h; cases h
    · exact k
    · by_cases hb : ltS a b = true
      · rw [if_pos hb] at h; cases h
      · rw [if_neg hb, if_pos k] at h; cases h
  · rintro rfl
    rw [ltS_irrefl]
    rfl

theorem cmpR_eq (a b : RoleB) : cmpR a b = if Lib.compareBytes a.1 b.1 = 0 then Lib.compareBytes a.2 b.2 else Lib.compareBytes a.1 b.1 := by
  obtain ⟨o, x⟩ := a
  obtain ⟨p, y⟩ := b
  rw [cmpR, ltR_def, ltR_def]
  dsimp only
  by_cases h : o = p
  · subst h
    rw [if_pos ((cmpB_zero o o).2 rfl), cmpB_eq x y, ltS_irrefl]
    simp
  · have h2 : p ≠ o := fun e => h e.symm
    rw [if_neg (fun e => h ((cmpB_zero o p).1 e)), cmpB_eq o p]
    simp [h, h2]

theorem cmpB_wrap (a b : List UInt8) : -1 ≤ Lib.compareBytes a b ∧ Lib.compareBytes a b ≤ 1 := by
  rw [cmpB_eq]
  by_cases h : ltS a b = true
  · rw [if_pos h]; decide
  · rw [if_neg h]
    by_cases h2 : ltS b a = true
    · rw [if_pos h2]; decide
    · rw [if_neg h2]; decide
end Go.Proofs.Ytjohiggfjpfbeaa

/- cmp.Or at two ints: the first that isn't zero, else zero. -/
namespace Go.Proofs.Ytjohiggfjpfbeaa
open Go.RowKit

/-- A slice of two ints. -/
def Spec.two (x y : Int) : Spec :=
  ⟨fun v w => ∃ g ty f, v = .slice (some ⟨g, 0, none⟩) 2 2 ∧ w.heap[g]? = some (.cells #[.int .i64 x, .int .i64 y] ty f), fun _ _ _ hc ⟨g, ty, f, h1, h2⟩ => ⟨g, ty, f, h1, blk_keep h2 hc id⟩⟩

set_option maxRecDepth 100000 in
theorem por_two (g : Nat) (f : Nat × Nat) (ty : Nat) (x y : Int) (w : World) (h : w.heap[g]? = some (.cells #[.int .i64 x, .int .i64 y] ty f)) :
    Calls Try.prog 75 #[.slice (some ⟨g, 0, none⟩) 2 2] w fun e w' => e = .returned (.int .i64 (if x = 0 then y else x)) ∧ w' = w := by
  have c0 := cell_blk h 0
  have c1 := cell_blk h 1
  simp only [List.getElem?_toArray, List.getElem?_cons_zero, List.getElem?_cons_succ] at c0 c1
  clear h
  by_cases hx : x = 0
  · subst hx
    rw [if_pos rfl]
    by_cases hy : y = 0
    · subst hy
      go_enter Try.func75, Try.ntmps75
      go_wp2
      refine wp_loop_rounds 3 ?_
      rw [rounds_succ]
      go_wp2
      rw [rounds_succ]
      go_wp2
      rw [rounds_succ]
      go_wp2
      go_ret
      exact ⟨rfl, rfl⟩
    · have z : (y == 0) = false := beq_eq_false_iff_ne.2 hy
      clear hy
      go_enter Try.func75, Try.ntmps75
      go_wp2
      refine wp_loop_rounds 2 ?_
      rw [rounds_succ]
      go_wp2
      rw [rounds_succ]
      go_wp2
      go_ret
      exact ⟨rfl, rfl⟩
  · rw [if_neg hx]
    have z : (x == 0) = false := beq_eq_false_iff_ne.2 hx
    clear hx
    go_enter Try.func75, Try.ntmps75
    go_wp2
    refine wp_loop_rounds 1 ?_
    rw [rounds_succ]
    go_wp2
    go_ret
    exact ⟨rfl, rfl⟩
end Go.Proofs.Ytjohiggfjpfbeaa

/- Worlds that have grown by draws and new blocks alone; a region that draws its order and grows so. -/
namespace Go.Proofs.Ytjohiggfjpfbeaa
open Go.RowKit Go.Sort

/-- Draws, and blocks behind the heap: nothing else. -/
def Gr (w w' : World) : Prop := ∃ (q : Nat) (os : Array Obj), w' = grow (w.drewN q) os

theorem Gr.refl (w : World) : Gr w w := ⟨0, #[], by rw [grow_empty]; rfl⟩

theorem Gr.trans {a b c : World} (h : Gr a b) (k : Gr b c) : Gr a c := by
  obtain ⟨n, os, rfl⟩ := h
  obtain ⟨q, os', rfl⟩ := k
  exact ⟨n + q, os ++ os', by show grow (grow ((a.drewN n).drewN q) os) os' = _; rw [grow_grow, World.drewN_drewN]⟩

theorem Gr.alloc {a b : World} (h : Gr a b) (o : Obj) : Gr a (b.alloc o) :=
  h.trans ⟨0, #[o], by rw [alloc_eq_grow]; rfl⟩

theorem Gr.drew {a b : World} (h : Gr a b) : Gr a b.drew := h.trans ⟨1, #[], by rw [grow_empty]; rfl⟩

theorem Gr.chg {a b : World} (h : Gr a b) (S : Nat → Prop) : Chg S a b := by
  obtain ⟨n, os, rfl⟩ := h
  refine ⟨rfl, rfl, rfl, ?_, fun k hk _ => ?_⟩
  · rw [size_grow]; exact Nat.le_add_right _ _
  · exact heap_grow_old _ _ hk

/-- wp_region_specs, for a region whose calls and operations only grow the world. -/
theorem wp_region_grown {P : Program} {Q : Exit → Act → World → Prop} {w0 : World} {a0 : Act} {id : Nat} {l : List Oper} (specs : List Spec) (ds outs : List Tmp) (hm : P.follows .mixedOrders = true) (hok : regOk l.toArray ds = true)
    (hsize : (ds.all fun t => decide (t < a0.tmps.size)) = true) (houts : ((outsOf l.toArray ds).all fun t => outs.contains t) = true)
    (hstart : ∀ t ∈ outs, Knows (specAt specs) a0 w0 t)
    (hobs : Obs P Q Gr (specAt specs) w0 l.toArray l)
    (hfin : ∀ (vals : Tmp → Value) (w : World), Gr w0 w → (∀ t ∈ ds, specAt specs t (vals t) w) → Q .normal ⟨putAll vals ds a0.tmps, a0.defers⟩ w) :
    (Code.region id l.toArray true).wp P Q a0 w0 :=
  wp_region_known (R := Gr) (G := specAt specs) (ds := ds) hm hok (fun _ _ _ h k => h.trans k) (Gr.refl _).drew (fun t v w w' hc h => specAt_st specs t v w w' (hc.chg _) h) hsize _ rfl
    (fun w hc t ht => by
      have h1 := List.all_eq_true.1 houts t ht
      obtain ⟨v, hv, hg⟩ := hstart t (by simpa using h1)
      exact ⟨v, hv, specAt_st specs t v w0 w (hc.chg _) hg⟩)
    hobs hfin
end Go.Proofs.Ytjohiggfjpfbeaa

/- The program's Compare of roles: cmp.Or of both strings.Compare. -/
namespace Go.Proofs.Ytjohiggfjpfbeaa
open Go.RowKit

/-- What each slot of Compare's line holds. -/
def cmpSpecs (A : Nat) (o x p y : List UInt8) (res : Int) : List Spec :=
  [.any, .any, .eq (.pointer (some ⟨A, 0, none⟩)), .eq (.pointer (some ⟨A + 1, 0, none⟩)), .eq (.int .i64 res),
   .eq (.pointer (some ⟨A, 0, none⟩)), .eq (.string ⟨o.toArray⟩), .eq (.pointer (some ⟨A + 1, 0, none⟩)), .eq (.string ⟨p.toArray⟩), .eq (.int .i64 (Lib.compareBytes o p)),
   .eq (.pointer (some ⟨A, 1, none⟩)), .eq (.string ⟨x.toArray⟩), .eq (.pointer (some ⟨A + 1, 1, none⟩)), .eq (.string ⟨y.toArray⟩), .eq (.int .i64 (Lib.compareBytes x y)),
   .two (Lib.compareBytes o p) (Lib.compareBytes x y), .eq (.int .i64 res)]

set_option maxRecDepth 100000 in
set_option maxHeartbeats 1000000 in
theorem pcompare_grows (a b : RoleB) (w : World) : Calls Try.prog 48 #[roleV a, roleV b] w fun e w' => e = .returned (.int .i64 (cmpR a b)) ∧ Gr w w' := by
  rw [cmpR_eq]
  obtain ⟨o, x⟩ := a
  obtain ⟨p, y⟩ := b
  dsimp only
  generalize hres : (if Lib.compareBytes o p = 0 then Lib.compareBytes x y else Lib.compareBytes o p) = res
  have HR := hid hres
  clear hres
  have hc : Gr w ((w.alloc (.cells #[.string ⟨o.toArray⟩, .string ⟨x.toArray⟩] 23)).alloc (.cells #[.string ⟨p.toArray⟩, .string ⟨y.toArray⟩] 23)) := ((Gr.refl w).alloc _).alloc _
  have hA := blk_keep (heap_alloc_new w (.cells #[.string ⟨o.toArray⟩, .string ⟨x.toArray⟩] 23)) ((Chg.refl (fun _ => False) _).alloc (.cells #[.string ⟨p.toArray⟩, .string ⟨y.toArray⟩] 23)) id
  have hB := heap_alloc_new (w.alloc (.cells #[.string ⟨o.toArray⟩, .string ⟨x.toArray⟩] 23)) (.cells #[.string ⟨p.toArray⟩, .string ⟨y.toArray⟩] 23)
  rw [show (w.alloc (.cells #[.string ⟨o.toArray⟩, .string ⟨x.toArray⟩] 23)).heap.size = w.heap.size + 1 by simp] at hB
  show Calls Try.prog 48 #[.agg #[.string ⟨o.toArray⟩, .string ⟨x.toArray⟩], .agg #[.string ⟨p.toArray⟩, .string ⟨y.toArray⟩]] w _
  go_enter Try.func48, Try.ntmps48
  go_wp2_with fail
  generalize (w.alloc (.cells #[.string ⟨o.toArray⟩, .string ⟨x.toArray⟩] 23)).alloc (.cells #[.string ⟨p.toArray⟩, .string ⟨y.toArray⟩] 23) = w1 at *
  generalize w.heap.size = A at *
  refine wp_region_grown (cmpSpecs A o x p y res) [5, 6, 7, 8, 9, 10, 11, 12, 13, 14, 15, 16, 4] [2, 3] (by kernel_rfl) (by kernel_rfl) (by rfl) (by kernel_rfl) ?start ?obs ?fin
  case start =>
    simp only [List.forall_mem_cons]
    exact ⟨⟨_, rfl, rfl⟩, ⟨_, rfl, rfl⟩, fun _ h => by cases h⟩
  case obs =>
    have a0 := cell_blk hA 0
    have a1 := cell_blk hA 1
    have b0 := cell_blk hB 0
    have b1 := cell_blk hB 1
    simp only [List.getElem?_toArray, List.getElem?_cons_zero, List.getElem?_cons_succ] at a0 a1 b0 b1
    clear hA hB hc
    refine Obs.cons none (by kernel_rfl) ?_ ?_
    · refine Ob.plain fun a w hR hk K k => ?_
      obtain ⟨_, e2, rfl⟩ := hk 2 (by decide)
      clear hk
      go_simp
      exact k _ _ (Gr.refl _) rfl
    refine Obs.cons none (by kernel_rfl) ?_ ?_
    · refine Ob.plain fun a w hR hk K k => ?_
      obtain ⟨_, e5, rfl⟩ := hk 5 (by decide)
      clear hk
      have c := (hR.chg (fun _ => False)).cell a0 id
      go_simp
      exact k _ _ (Gr.refl _) rfl
    refine Obs.cons none (by kernel_rfl) ?_ ?_
    · refine Ob.plain fun a w hR hk K k => ?_
      obtain ⟨_, e3, rfl⟩ := hk 3 (by decide)
      clear hk
      go_simp
      exact k _ _ (Gr.refl _) rfl
    refine Obs.cons none (by kernel_rfl) ?_ ?_
    · refine Ob.plain fun a w hR hk K k => ?_
      obtain ⟨_, e7, rfl⟩ := hk 7 (by decide)
      clear hk
      have c := (hR.chg (fun _ => False)).cell b0 id
      go_simp
      exact k _ _ (Gr.refl _) rfl
    refine Obs.cons none (by kernel_rfl) ?_ ?_
    · refine Ob.plain fun a w hR hk K k => ?_
      obtain ⟨_, e6, rfl⟩ := hk 6 (by decide)
      obtain ⟨_, e8, rfl⟩ := hk 8 (by decide)
      clear hk
      go_simp
      refine (Try.strings_Compare ⟨o.toArray⟩ ⟨p.toArray⟩ _).mono ?_
      rintro e w' ⟨rfl, rfl⟩
      exact k _ _ (Gr.refl _) rfl
    refine Obs.cons none (by kernel_rfl) ?_ ?_
    · refine Ob.plain fun a w hR hk K k => ?_
      obtain ⟨_, e2, rfl⟩ := hk 2 (by decide)
      clear hk
      go_simp
      exact k _ _ (Gr.refl _) rfl
    refine Obs.cons none (by kernel_rfl) ?_ ?_
    · refine Ob.plain fun a w hR hk K k => ?_
      obtain ⟨_, e10, rfl⟩ := hk 10 (by decide)
      clear hk
      have c := (hR.chg (fun _ => False)).cell a1 id
      go_simp
      exact k _ _ (Gr.refl _) rfl
    refine Obs.cons none (by kernel_rfl) ?_ ?_
    · refine Ob.plain fun a w hR hk K k => ?_
      obtain ⟨_, e3, rfl⟩ := hk 3 (by decide)
      clear hk
      go_simp
      exact k _ _ (Gr.refl _) rfl
    refine Obs.cons none (by kernel_rfl) ?_ ?_
    · refine Ob.plain fun a w hR hk K k => ?_
      obtain ⟨_, e12, rfl⟩ := hk 12 (by decide)
      clear hk
      have c := (hR.chg (fun _ => False)).cell b1 id
      go_simp
      exact k _ _ (Gr.refl _) rfl
    refine Obs.cons none (by kernel_rfl) ?_ ?_
    · refine Ob.plain fun a w hR hk K k => ?_
      obtain ⟨_, e11, rfl⟩ := hk 11 (by decide)
      obtain ⟨_, e13, rfl⟩ := hk 13 (by decide)
      clear hk
      go_simp
      refine (Try.strings_Compare ⟨x.toArray⟩ ⟨y.toArray⟩ _).mono ?_
      rintro e w' ⟨rfl, rfl⟩
      exact k _ _ (Gr.refl _) rfl
    refine Obs.cons none (by kernel_rfl) ?_ ?_
    · refine Ob.plain fun a w hR hk K k => ?_
      obtain ⟨_, e9, rfl⟩ := hk 9 (by decide)
      obtain ⟨_, e14, rfl⟩ := hk 14 (by decide)
      clear hk
      go_simp
      exact k _ _ ((Gr.refl _).alloc _) ⟨_, _, _, rfl, heap_alloc_new _ _⟩
    refine Obs.cons none (by kernel_rfl) ?_ ?_
    · refine Ob.plain fun a w hR hk K k => ?_
      obtain ⟨_, e15, g, ty, f, rfl, hg⟩ := hk 15 (by decide)
      clear hk
      go_simp
      refine (por_two g f ty _ _ _ hg).mono ?_
      rintro e w' ⟨rfl, rfl⟩
      rw [HR.out]
      exact k _ _ (Gr.refl _) rfl
    refine Obs.cons none (by kernel_rfl) ?_ Obs.nil
    · refine Ob.plain fun a w hR hk K k => ?_
      obtain ⟨_, e16, rfl⟩ := hk 16 (by decide)
      clear hk
      go_simp
      exact k _ _ (Gr.refl _) rfl
  case fin =>
    intro vals w2 hc2 hv
    have h4 : vals 4 = .int .i64 res := hv 4 (by decide)
    have HC := hid (hc.trans hc2)
    clear hA hB hc hc2 hv
    simp only [putAll, List.setIfInBounds_toArray, List.set_cons_zero, List.set_cons_succ, h4]
    go_wp2
    go_ret
    exact ⟨rfl, HC.out⟩

theorem pcompare (a b : RoleB) (w : World) : Calls Try.prog 48 #[roleV a, roleV b] w fun e w' => e = .returned (.int .i64 (cmpR a b)) ∧ Chg (fun _ => False) w w' :=
  (pcompare_grows a b w).mono fun _ _ ⟨he, hg⟩ => ⟨he, hg.chg _⟩
end Go.Proofs.Ytjohiggfjpfbeaa
