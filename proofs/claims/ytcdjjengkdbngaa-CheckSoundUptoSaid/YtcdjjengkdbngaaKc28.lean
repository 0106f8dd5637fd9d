/- Texts that the proof leans on, in one: RoleProg, ShelfStr, RoleCmp, RoleOr, Grown, RoleCompare. -/
import Derived.Test.YtcdjjengkdbngaaKc7
import Derived.Shelf.Small.Strs
import Derived.Shelf.Strings.Search1
import Derived.Shelf.Strings.Search2
import Derived.Test.YtcdjjengkdbngaaProg
import Derived.Test.YtcdjjengkdbngaaKc2
import Derived.Sort.Grow
/- The contracts of the program's Right, Text, Put, Get of layer 4. -/
namespace Go.Proofs.Ytcdjjengkdbngaa
open Go.RowKit

theorem role_len {r : RoleB} (h : isRole r = true) : r.1.length ≤ 16 ∧ r.2.length ≤ 16 := by
  simp only [isRole, Bool.and_eq_true] at h
  exact ⟨(isName_len h.1).2, (isName_len h.2).2⟩

theorem pright (r : RoleB) (w : World) (h1 : r.1.length ≤ 9223372036854775807) (h2 : r.2.length ≤ 9223372036854775807) :
    Calls Try.prog 97 #[roleV r] w fun e w' => e = .returned (.bool (isRole r)) ∧ Chg (fun _ => False) w w' := by
  obtain ⟨o, x⟩ := r
  have hc : Chg (fun _ => False) w (w.alloc (.cells #[.string ⟨o.toArray⟩, .string ⟨x.toArray⟩] 30)) := (Chg.refl _ w).alloc _
  have HC := hid hc
  clear hc
  show Calls Try.prog 97 #[.agg #[.string ⟨o.toArray⟩, .string ⟨x.toArray⟩]] w _
  cases ho : isName o with
  | false =>
    have hh : Hid (isRole (o, x) = false) := hid (by simp [isRole, ho])
    go_enter Try.func97, Try.ntmps97
    go_wp2_with fail
    refine (right_any o _ h1).mono ?_
    rintro e w' ⟨rfl, rfl⟩
    rw [ho]
    go_wp2
    go_ret
    exact ⟨by rw [hh.out]; rfl, HC.out⟩
  | true =>
    have hh : Hid (isRole (o, x) = isName x) := hid (by simp [isRole, ho])
    go_enter Try.func97, Try.ntmps97
    go_wp2_with fail
    refine (right_any o _ h1).mono ?_
    rintro e w' ⟨rfl, rfl⟩
    rw [ho]
    go_wp2_with fail
    refine (right_any x _ h2).mono ?_
    rintro e w' ⟨rfl, rfl⟩
    go_wp2
    go_ret
    exact ⟨by rw [hh.out]; rfl, HC.out⟩

set_option maxRecDepth 100000 in
theorem pput_yes (B P cap : Nat) (ao : Option Addr) (zs : List UInt8) (r : RoleB) (w : World) (hp : PenAt B w P ao cap zs) (hB : B ≤ w.heap.size) (hPB : P < B) (hx : zs.length ≤ 999000) (hn : isRole r = true) :
    Calls Try.prog 87 #[.pointer (some ⟨P, 0, none⟩), roleV r] w fun e w' => e = .returned (.bool true) ∧ PenPost B P ao (zs ++ roleEnc r) w w' := by
  obtain ⟨o, x⟩ := r
  have hl := role_len hn
  have hn2 : isName o = true ∧ isName x = true := by simpa [isRole] using hn
  dsimp only at hl
  have hc : Chg (fun _ => False) w (w.alloc (.cells #[.string ⟨o.toArray⟩, .string ⟨x.toArray⟩] 30)) := (Chg.refl _ w).alloc _
  have hA := heap_alloc_new w (.cells #[.string ⟨o.toArray⟩, .string ⟨x.toArray⟩] 30)
  have hPl := lt_blk hp.cell
  have hrow0 : ∀ k, rowOf ao = some k → B ≤ k ∧ k < w.heap.size := fun k hk => hp.row.lt k ((rowOf_block _ _ _).trans hk)
  have hp1 := hp.keep hc id (fun _ _ => id)
  show Calls Try.prog 87 #[.pointer (some ⟨P, 0, none⟩), .agg #[.string ⟨o.toArray⟩, .string ⟨x.toArray⟩]] w _
  go_enter Try.func87, Try.ntmps87
  go_wp2_with fail
  refine (pright (o, x) _ (by show o.length ≤ _; omega) (by show x.length ≤ _; omega)).mono ?_
  rintro e w1 ⟨rfl, hc1⟩
  rw [hn]
  have hA1 := blk_keep hA hc1 id
  have hp2 := hp1.keep hc1 id (fun _ _ => id)
  have hcw := hc.trans hc1 (fun _ _ h => h)
  have a0 := cell_blk hA1 0
  simp only [List.getElem?_toArray, List.getElem?_cons_zero] at a0
  clear hc hc1 hA hp1
  have hs1 := hcw.size
  go_wp2_with fail
  refine (put_yes B P cap ao zs o w1 hp2 (by omega) hPB (by omega) hn2.1).mono ?_
  rintro e w2 ⟨rfl, ao2, cap2, hp3, hch⟩
  have hA2 := blk_keep hA1 hch.chg (fun h => h.elim (fun h => by omega) (fun h => by have := (hrow0 _ h).2; omega))
  have hs2 := hch.chg.size
  have a1 := cell_blk hA2 1
  simp only [List.getElem?_toArray, List.getElem?_cons_zero, List.getElem?_cons_succ] at a1
  have hel : (enc o.length ++ o).length ≤ 32 := by rw [enc_small (by omega)]; simp; omega
  clear a0 hA1 hp2 hA2
  go_wp2_with fail
  refine (put_yes B P cap2 ao2 (zs ++ (enc o.length ++ o)) x w2 hp3 (by omega) hPB (by rw [List.length_append]; omega) hn2.2).mono ?_
  rintro e w3 ⟨rfl, ao3, cap3, hp4, hch2⟩
  have HH := hid (And.intro hp4 (And.intro hch2 (And.intro hch hcw)))
  clear hp3 hp4 hch hch2 hcw a1
  go_wp2
  go_ret
  obtain ⟨h4, h5, h6, h7⟩ := HH.out
  refine ⟨rfl, ao3, cap3, by rw [List.append_assoc] at h4; exact h4, ?_⟩
  have h8 := h6.trans h5
  refine ⟨(h7.mono (fun _ _ h => h.elim)).trans h8.chg (fun i _ h => h), ?_⟩
  rcases h8.row with h | ⟨g, k1, k2⟩
  · exact .inl h
  · have := h7.size
    exact .inr ⟨g, k1, by omega⟩
/-- Get of a role, of an open reader. -/
def GetOkR (D : Nat → Prop) (R : Nat) (l : List UInt8) (w : World) (e : Ending) (w' : World) : Prop :=
  e = .returned (roleV (roleOf l)) ∧ ∃ v', BytesAt D w' v' (roleRest l) ∧ ReaderAt w' R true v' 0 ∧ Chg (· = R) w w'

set_option maxRecDepth 100000 in
theorem pget_reads {D : Nat → Prop} {R : Nat} {v : Value} {l : List UInt8} {w : World} (hl : l.length ≤ 140737488355328) (hv : BytesAt D w v l) (hDR : ¬ D R) (hDl : ∀ i, D i → i < w.heap.size) (hR : ReaderAt w R true v 0) (hok : roleOk l = true) :
    Calls Try.prog 92 #[.pointer (some ⟨R, 0, none⟩)] w (GetOkR D R l w) := by
  have hok' : nameOk l = true ∧ nameOk (nameRest l) = true := by simpa [roleOk] using hok
  have hl1 := nameRest_len l
  clear hok
  have hc0 : Chg (fun _ => False) w (w.alloc (.cells #[.string ⟨#[]⟩, .string ⟨#[]⟩] 30)) := (Chg.refl _ w).alloc _
  have hC := heap_alloc_new w (.cells #[.string ⟨#[]⟩, .string ⟨#[]⟩] 30)
  have hR0 : ReaderAt _ R true v 0 := blk_keep hR hc0 id
  have hRC : R < w.heap.size := lt_blk hR
  have hv0 := hv.keep hc0 (fun _ _ => id)
  go_enter Try.func92, Try.ntmps92
  go_wp2_with fail
  generalize w.alloc (.cells #[.string ⟨#[]⟩, .string ⟨#[]⟩] 30) = w1 at *
  generalize hCC : w.heap.size = C at *
  refine (get_reads hl hv0 hDR hR0 hok'.1).mono ?_
  rintro e w2 ⟨rfl, v2, hv2, hR2, hc2⟩
  have hC2 := blk_keep hC hc2 (by omega)
  go_wp2_with fail
  refine (get_reads (by omega) hv2 hDR hR2 hok'.2).mono ?_
  rintro e w3 ⟨rfl, v3, hv3, hR3, hc3⟩
  have hC3 := blk_keep hC2 hc3 (by omega)
  have q0 := cell_blk hC3 0
  have q1 := cell_blk hC3 1
  have f0 := froz_blk hC3 0
  have f1 := froz_blk hC3 1
  simp only [List.getElem?_toArray, List.getElem?_cons_zero, List.getElem?_cons_succ] at q0 q1
  have hcw : Chg (· = R) w w3 := ((hc0.mono (fun _ _ h => h.elim)).trans hc2 (fun _ _ h => h)).trans hc3 (fun _ _ h => h)
  have HR : Hid (roleOf l = (nameOf l, nameOf (nameRest l))) := rfl
  have HRR : Hid (roleRest l = nameRest (nameRest l)) := rfl
  clear hv hR hR0 hv0 hc0 hC hv2 hR2 hc2 hC2 hc3 hok'
  generalize nameOf l = o at *
  generalize nameOf (nameRest l) = x at *
  generalize nameRest (nameRest l) = rest at *
  have hs1 := setCell_chg w3 C 0 (.string ⟨o.toArray⟩)
  have hs2 := setCell_chg (w3.setCell ⟨C, 0, none⟩ (.string ⟨o.toArray⟩)) C 1 (.string ⟨x.toArray⟩)
  have hsR : ReaderAt ((w3.setCell ⟨C, 0, none⟩ (.string ⟨o.toArray⟩)).setCell ⟨C, 1, none⟩ (.string ⟨x.toArray⟩)) R true v3 0 := blk_keep (blk_keep hR3 hs1 (by omega)) hs2 (by omega)
  have hsv := (hv3.keep hs1 (fun i hi h => by have := hDl i hi; omega)).keep hs2 (fun i hi h => by have := hDl i hi; omega)
  have hch : Chg (· = R) w ((w3.setCell ⟨C, 0, none⟩ (.string ⟨o.toArray⟩)).setCell ⟨C, 1, none⟩ (.string ⟨x.toArray⟩)) := (hcw.trans hs1 (fun i hi h => by omega)).trans hs2 (fun i hi h => by omega)
  have hD : ((w3.setCell ⟨C, 0, none⟩ (.string ⟨o.toArray⟩)).setCell ⟨C, 1, none⟩ (.string ⟨x.toArray⟩)).heap[C]? = some (.cells #[.string ⟨o.toArray⟩, .string ⟨x.toArray⟩] 30 (0, 0)) := set_blk (set_blk hC3 0 (.string ⟨o.toArray⟩)) 1 (.string ⟨x.toArray⟩)
  have HH := hid (And.intro hD (And.intro hsv (And.intro hsR hch)))
  clear hs1 hs2 hsR hch hcw hR3 hv3 hC3 hD hsv
  go_wp2
  refine bodyPost_ret (results_cell_row (P := Try.prog) rfl _ _ C 30 _ (0, 0) _ rfl HH.out.1 Try.underlying30 rfl (by kernel_rfl)) rfl ?_
  exact ⟨by rw [HR.out]; rfl, v3, by rw [HRR.out]; exact HH.out.2.1, HH.out.2.2⟩

set_option maxRecDepth 100000 in
theorem pget_stops {D : Nat → Prop} {R : Nat} {v : Value} {l : List UInt8} {w : World} (hl : l.length ≤ 140737488355328) (hv : BytesAt D w v l) (hDR : ¬ D R) (hR : ReaderAt w R true v 0) (hok : roleOk l = false) :
    Calls Try.prog 92 #[.pointer (some ⟨R, 0, none⟩)] w (Stops R (roleBad l) w) := by
  have hl1 := nameRest_len l
  have hc0 : Chg (fun _ => False) w (w.alloc (.cells #[.string ⟨#[]⟩, .string ⟨#[]⟩] 30)) := (Chg.refl _ w).alloc _
  have hR0 : ReaderAt _ R true v 0 := blk_keep hR hc0 id
  have hv0 := hv.keep hc0 (fun _ _ => id)
  have hc0' : Chg (· = R) w (w.alloc (.cells #[.string ⟨#[]⟩, .string ⟨#[]⟩] 30)) := hc0.mono (fun _ _ h => h.elim)
  cases h1 : nameOk l with
  | false =>
    have hb : roleBad l = nameBad l := by rw [roleBad, if_neg (by rw [h1]; decide)]
    rw [hb]
    have hst := get_stops hl hv0 hDR hR0 h1
    generalize nameBad l = bad at *
    clear hb h1 hok
    go_enter Try.func92, Try.ntmps92
    go_wp2_with fail
    refine hst.mono ?_
    rintro e w2 ⟨rfl, ao, m, cp, hr, hc⟩
    exact ⟨rfl, rfl, ao, m, cp, hr, hc0'.trans hc (fun _ _ h => h)⟩
  | true =>
    have h2 : nameOk (nameRest l) = false := by simpa [roleOk, h1] using hok
    have hb : roleBad l = nameBad (nameRest l) := by rw [roleBad, if_pos h1]
    rw [hb]
    have hrd := get_reads hl hv0 hDR hR0 h1
    go_enter Try.func92, Try.ntmps92
    go_wp2_with fail
    refine hrd.mono ?_
    rintro e w2 ⟨rfl, v2, hv2, hR2, hc2⟩
    have hst := get_stops (by omega) hv2 hDR hR2 h2
    have hcw := hc0'.trans hc2 (fun _ _ h => h)
    clear hb h1 h2 hok hrd hc0 hc0' hR0 hv0 hc2 hv hR hv2 hR2
    generalize nameBad (nameRest l) = bad at *
    generalize nameOf l = o at *
    go_wp2_with fail
    refine hst.mono ?_
    rintro e w3 ⟨rfl, ao, m, cp, hr, hc⟩
    exact ⟨rfl, rfl, ao, m, cp, hr, hcw.trans hc (fun _ _ h => h)⟩
end Go.Proofs.Ytcdjjengkdbngaa

/-
  DERIVED: THE SHELF's CONTRACTS AT THIS DUMP, IN PLAIN WORDS (tools/lay-plain.mjs out of 'TryShelfStr.lean', which tools/lay-shelf.mjs wrote): THE SAME DECLARATIONS UNDER THE SAME NAMES: 'import', 'namespace', 'open', 'def', 'theorem' AND NOTHING ELSE: no command of the shelf's: FOR A HAND-IN. Each laying: the table of numbers ('.._ren') and one theorem, a field a fact of the dump's own or the kernel's comparison; each contract: ONE APPLICATION.
-/
namespace Go.Proofs
open Go.Shelf
def Try.lays106_ren : Go.Shelf.Ren := ⟨fun | 106 => 124 | 213 => 142 | 265 => 151 | n => n, fun | 9 => 9 | 3 => 3 | n => n, fun | n => n⟩
theorem Try.lays106 : Go.Proofs.Lays.n106 Try.prog Try.lays106_ren := {
  mixed := by kernel_rfl
  f106 := Try.func124.trans (congrArg some (by kernel_rfl))
  f213 := Try.func142.trans (congrArg some (by kernel_rfl))
  f265 := Try.func151.trans (congrArg some (by kernel_rfl))
  t3 := Try.underlying3
  a3 := Try.isAgg3
  z3 := Try.sizeOf3
  v3 := Try.zeroValue3
  t9 := Try.underlying9
  a9 := Try.isAgg9
  z9 := Try.sizeOf9
  v9 := Try.zeroValue9 }
open Go.RowKit in
/-- strings.Compare: "Compare returns an integer comparing two strings lexicographically. The result will be 0 if a == b, -1 if a < b, and +1 if a > b.": IT RETURNS 'Lib.compareBytes a b'; the world is as it was. (LAID: no walk: one application.) -/
theorem Try.strings_Compare (a b : ByteArray) (w : World) :
    Calls Try.prog 124 #[.string a, .string b] w fun e w' => e = .returned (.int .i64 (Lib.compareBytes a.data.toList b.data.toList)) ∧ w' = w := Any.strings_Compare Try.lays106 a b w
end Go.Proofs

/- The order of two roles, as a program tells it by strings.Compare. -/
namespace Go.Proofs.Ytcdjjengkdbngaa
open Go.RowKit

theorem cmpB_eq : ∀ (a b : List UInt8), Lib.compareBytes a b = if ltS a b then -1 else if ltS b a then 1 else 0
  | [], [] => rfl
  | [], _ :: _ => rfl
  | _ :: _, [] => by simp [Lib.compareBytes, ltS_nil, ltS_nil_cons]
  | x :: a, y :: b => by
    rw [Lib.compareBytes, ltS_cons, ltS_cons, cmpB_eq a b]
    by_cases h1 : x < y
    · simp [h1]
    · by_cases h2 : y < x
      · have hne : x ≠ y := fun e => by subst e; exact h1 h2
        simp [h1, h2, hne]
      · have e : x = y := by
          have h1' : ¬ x.toNat < y.toNat := h1
          have h2' : ¬ y.toNat < x.toNat := h2
          exact UInt8.toNat_inj.1 (by omega)
        subst e
        simp [h1]

theorem cmpB_zero (a b : List UInt8) : Lib.compareBytes a b = 0 ↔ a = b := by
  rw [cmpB_eq]
  constructor
  · intro h
    rcases ltS_tri a b with k | k | k
    · rw [if_pos k] at h; cases h
    · exact k
    · by_cases hb : ltS a b = true
      · rw [if_pos hb] at h; cases h
      · rw [if_neg hb, if_pos k] at h; cases h
  · rintro rfl
    rw [ltS_irrefl]
    rfl

theorem cmpR_eq (a b : RoleB) : cmpR a b = if Lib.compareBytes a.1 b.1 = 0 then Lib.compareBytes a.2 b.2 else Lib.compareBytes a.1 b.1 := by
  obtain ⟨o, x⟩ := a
  obtain ⟨p, y⟩ := b
  rw [cmpR, ltR_def, ltR_def]
  dsimp only
  by_cases h : o = p
  · subst h
    rw [if_pos ((cmpB_zero o o).2 rfl), cmpB_eq x y, ltS_irrefl]
    simp
  · have h2 : p ≠ o := fun e => h e.symm
    rw [if_neg (fun e => h ((cmpB_zero o p).1 e)), cmpB_eq o p]
    simp [h, h2]

end Go.Proofs.Ytcdjjengkdbngaa

/- cmp.Or at two ints: the first that isn't zero, else zero. -/
namespace Go.Proofs.Ytcdjjengkdbngaa
open Go.RowKit

/-- A slice of two ints. -/
def Spec.two (x y : Int) : Spec :=
  ⟨fun v w => ∃ g ty f, v = .slice (some ⟨g, 0, none⟩) 2 2 ∧ w.heap[g]? = some (.cells #[.int .i64 x, .int .i64 y] ty f), fun _ _ _ hc ⟨g, ty, f, h1, h2⟩ => ⟨g, ty, f, h1, blk_keep h2 hc id⟩⟩

set_option maxRecDepth 100000 in
theorem por_two (g : Nat) (f : Nat × Nat) (ty : Nat) (x y : Int) (w : World) (h : w.heap[g]? = some (.cells #[.int .i64 x, .int .i64 y] ty f)) :
    Calls Try.prog 123 #[.slice (some ⟨g, 0, none⟩) 2 2] w fun e w' => e = .returned (.int .i64 (if x = 0 then y else x)) ∧ w' = w := by
  have c0 := cell_blk h 0
  have c1 := cell_blk h 1
  simp only [List.getElem?_toArray, List.getElem?_cons_zero, List.getElem?_cons_succ] at c0 c1
  clear h
  by_cases hx : x = 0
  · subst hx
    rw [if_pos rfl]
    by_cases hy : y = 0
    · subst hy
      go_enter Try.func123, Try.ntmps123
      go_wp2
      refine wp_loop_rounds 3 ?_
      rw [rounds_succ]
      go_wp2
      rw [rounds_succ]
      go_wp2
      rw [rounds_succ]
      go_wp2
      go_ret
      exact ⟨rfl, rfl⟩
    · have z : (y == 0) = false := beq_eq_false_iff_ne.2 hy
      clear hy
      go_enter Try.func123, Try.ntmps123
      go_wp2
      refine wp_loop_rounds 2 ?_
      rw [rounds_succ]
      go_wp2
      rw [rounds_succ]
      go_wp2
      go_ret
      exact ⟨rfl, rfl⟩
  · rw [if_neg hx]
    have z : (x == 0) = false := beq_eq_false_iff_ne.2 hx
    clear hx
    go_enter Try.func123, Try.ntmps123
    go_wp2
    refine wp_loop_rounds 1 ?_
    rw [rounds_succ]
    go_wp2
    go_ret
    exact ⟨rfl, rfl⟩
end Go.Proofs.Ytcdjjengkdbngaa

/- Worlds that have grown by draws and new blocks alone; a region that draws its order and grows so. -/
namespace Go.Proofs.Ytcdjjengkdbngaa
open Go.RowKit Go.Sort

/-- Draws, and blocks behind the heap: nothing else. -/
def Gr (w w' : World) : Prop := ∃ (q : Nat) (os : Array Obj), w' = grow (w.drewN q) os

theorem Gr.refl (w : World) : Gr w w := ⟨0, #[], by rw [grow_empty]; rfl⟩

theorem Gr.trans {a b c : World} (h : Gr a b) (k : Gr b c) : Gr a c := by
  obtain ⟨n, os, rfl⟩ := h
  obtain ⟨q, os', rfl⟩ := k
  exact ⟨n + q, os ++ os', by show grow (grow ((a.drewN n).drewN q) os) os' = _; rw [grow_grow, World.drewN_drewN]⟩

theorem Gr.alloc {a b : World} (h : Gr a b) (o : Obj) : Gr a (b.alloc o) :=
  h.trans ⟨0, #[o], by rw [alloc_eq_grow]; rfl⟩

theorem Gr.drew {a b : World} (h : Gr a b) : Gr a b.drew := h.trans ⟨1, #[], by rw [grow_empty]; rfl⟩

theorem Gr.chg {a b : World} (h : Gr a b) (S : Nat → Prop) : Chg S a b := by
  obtain ⟨n, os, rfl⟩ := h
  refine ⟨rfl, rfl, rfl, ?_, fun k hk _ => ?_⟩
  · rw [size_grow]; exact Nat.le_add_right _ _
  · exact heap_grow_old _ _ hk

/-- wp_region_specs, for a region whose calls and operations only grow the world. -/
theorem wp_region_grown {P : Program} {Q : Exit → Act → World → Prop} {w0 : World} {a0 : Act} {id : Nat} {l : List Oper} (specs : List Spec) (ds outs : List Tmp) (hm : P.follows .mixedOrders = true) (hok : regOk l.toArray ds = true)
    (hsize : (ds.all fun t => decide (t < a0.tmps.size)) = true) (houts : ((outsOf l.toArray ds).all fun t => outs.contains t) = true)
    (hstart : ∀ t ∈ outs, Knows (specAt specs) a0 w0 t)
    (hobs : Obs P Q Gr (specAt specs) w0 l.toArray l)
    (hfin : ∀ (vals : Tmp → Value) (w : World), Gr w0 w → (∀ t ∈ ds, specAt specs t (vals t) w) → Q .normal ⟨putAll vals ds a0.tmps, a0.defers⟩ w) :
    (Code.region id l.toArray true).wp P Q a0 w0 :=
  wp_region_known (R := Gr) (G := specAt specs) (ds := ds) hm hok (fun _ _ _ h k => h.trans k) (Gr.refl _).drew (fun t v w w' hc h => specAt_st specs t v w w' (hc.chg _) h) hsize _ rfl
    (fun w hc t ht => by
      have h1 := List.all_eq_true.1 houts t ht
      obtain ⟨v, hv, hg⟩ := hstart t (by simpa using h1)
      exact ⟨v, hv, specAt_st specs t v w0 w (hc.chg _) hg⟩)
    hobs hfin
end Go.Proofs.Ytcdjjengkdbngaa

/- The program's Compare of roles: cmp.Or of both strings.Compare. -/
namespace Go.Proofs.Ytcdjjengkdbngaa
open Go.RowKit

/-- What each slot of Compare's line holds. -/
def cmpSpecs (A : Nat) (o x p y : List UInt8) (res : Int) : List Spec :=
  [.any, .any, .eq (.pointer (some ⟨A, 0, none⟩)), .eq (.pointer (some ⟨A + 1, 0, none⟩)), .eq (.int .i64 res),
   .eq (.pointer (some ⟨A, 0, none⟩)), .eq (.string ⟨o.toArray⟩), .eq (.pointer (some ⟨A + 1, 0, none⟩)), .eq (.string ⟨p.toArray⟩), .eq (.int .i64 (Lib.compareBytes o p)),
   .eq (.pointer (some ⟨A, 1, none⟩)), .eq (.string ⟨x.toArray⟩), .eq (.pointer (some ⟨A + 1, 1, none⟩)), .eq (.string ⟨y.toArray⟩), .eq (.int .i64 (Lib.compareBytes x y)),
   .two (Lib.compareBytes o p) (Lib.compareBytes x y), .eq (.int .i64 res)]

set_option maxRecDepth 100000 in
set_option maxHeartbeats 1000000 in
theorem pcompare_grows (a b : RoleB) (w : World) : Calls Try.prog 98 #[roleV a, roleV b] w fun e w' => e = .returned (.int .i64 (cmpR a b)) ∧ Gr w w' := by
  rw [cmpR_eq]
  obtain ⟨o, x⟩ := a
  obtain ⟨p, y⟩ := b
  dsimp only
  generalize hres : (if Lib.compareBytes o p = 0 then Lib.compareBytes x y else Lib.compareBytes o p) = res
  have HR := hid hres
  clear hres
  have hc : Gr w ((w.alloc (.cells #[.string ⟨o.toArray⟩, .string ⟨x.toArray⟩] 30)).alloc (.cells #[.string ⟨p.toArray⟩, .string ⟨y.toArray⟩] 30)) := ((Gr.refl w).alloc _).alloc _
  have hA := blk_keep (heap_alloc_new w (.cells #[.string ⟨o.toArray⟩, .string ⟨x.toArray⟩] 30)) ((Chg.refl (fun _ => False) _).alloc (.cells #[.string ⟨p.toArray⟩, .string ⟨y.toArray⟩] 30)) id
  have hB := heap_alloc_new (w.alloc (.cells #[.string ⟨o.toArray⟩, .string ⟨x.toArray⟩] 30)) (.cells #[.string ⟨p.toArray⟩, .string ⟨y.toArray⟩] 30)
  rw [show (w.alloc (.cells #[.string ⟨o.toArray⟩, .string ⟨x.toArray⟩] 30)).heap.size = w.heap.size + 1 by simp] at hB
  show Calls Try.prog 98 #[.agg #[.string ⟨o.toArray⟩, .string ⟨x.toArray⟩], .agg #[.string ⟨p.toArray⟩, .string ⟨y.toArray⟩]] w _
  go_enter Try.func98, Try.ntmps98
  go_wp2_with fail
  generalize (w.alloc (.cells #[.string ⟨o.toArray⟩, .string ⟨x.toArray⟩] 30)).alloc (.cells #[.string ⟨p.toArray⟩, .string ⟨y.toArray⟩] 30) = w1 at *
  generalize w.heap.size = A at *
  refine wp_region_grown (cmpSpecs A o x p y res) [5, 6, 7, 8, 9, 10, 11, 12, 13, 14, 15, 16, 4] [2, 3] (by kernel_rfl) (by kernel_rfl) (by rfl) (by kernel_rfl) ?start ?obs ?fin
  case start =>
    simp only [List.forall_mem_cons]
    exact ⟨⟨_, rfl, rfl⟩, ⟨_, rfl, rfl⟩, fun _ h => by cases h⟩
  case obs =>
    have a0 := cell_blk hA 0
    have a1 := cell_blk hA 1
    have b0 := cell_blk hB 0
    have b1 := cell_blk hB 1
    simp only [List.getElem?_toArray, List.getElem?_cons_zero, List.getElem?_cons_succ] at a0 a1 b0 b1
    clear hA hB hc
    refine Obs.cons none (by kernel_rfl) ?_ ?_
    · refine Ob.plain fun a w hR hk K k => ?_
      obtain ⟨_, e2, rfl⟩ := hk 2 (by decide)
      clear hk
      go_simp
      exact k _ _ (Gr.refl _) rfl
    refine Obs.cons none (by kernel_rfl) ?_ ?_
    · refine Ob.plain fun a w hR hk K k => ?_
      obtain ⟨_, e5, rfl⟩ := hk 5 (by decide)
      clear hk
      have c := (hR.chg (fun _ => False)).cell a0 id
      go_simp
      exact k _ _ (Gr.refl _) rfl
    refine Obs.cons none (by kernel_rfl) ?_ ?_
    · refine Ob.plain fun a w hR hk K k => ?_
      obtain ⟨_, e3, rfl⟩ := hk 3 (by decide)
      clear hk
      go_simp
      exact k _ _ (Gr.refl _) rfl
    refine Obs.cons none (by kernel_rfl) ?_ ?_
    · refine Ob.plain fun a w hR hk K k => ?_
      obtain ⟨_, e7, rfl⟩ := hk 7 (by decide)
      clear hk
      have c := (hR.chg (fun _ => False)).cell b0 id
      go_simp
      exact k _ _ (Gr.refl _) rfl
    refine Obs.cons none (by kernel_rfl) ?_ ?_
    · refine Ob.plain fun a w hR hk K k => ?_
      obtain ⟨_, e6, rfl⟩ := hk 6 (by decide)
      obtain ⟨_, e8, rfl⟩ := hk 8 (by decide)
      clear hk
      go_simp
      refine (Try.strings_Compare ⟨o.toArray⟩ ⟨p.toArray⟩ _).mono ?_
      rintro e w' ⟨rfl, rfl⟩
      exact k _ _ (Gr.refl _) rfl
    refine Obs.cons none (by kernel_rfl) ?_ ?_
    · refine Ob.plain fun a w hR hk K k => ?_
      obtain ⟨_, e2, rfl⟩ := hk 2 (by decide)
      clear hk
      go_simp
      exact k _ _ (Gr.refl _) rfl
    refine Obs.cons none (by kernel_rfl) ?_ ?_
    · refine Ob.plain fun a w hR hk K k => ?_
      obtain ⟨_, e10, rfl⟩ := hk 10 (by decide)
      clear hk
      have c := (hR.chg (fun _ => False)).cell a1 id
      go_simp
      exact k _ _ (Gr.refl _) rfl
    refine Obs.cons none (by kernel_rfl) ?_ ?_
    · refine Ob.plain fun a w hR hk K k => ?_
      obtain ⟨_, e3, rfl⟩ := hk 3 (by decide)
      clear hk
      go_simp
      exact k _ _ (Gr.refl _) rfl
    refine Obs.cons none (by kernel_rfl) ?_ ?_
    · refine Ob.plain fun a w hR hk K k => ?_
      obtain ⟨_, e12, rfl⟩ := hk 12 (by decide)
      clear hk
      have c := (hR.chg (fun _ => False)).cell b1 id
      go_simp
      exact k _ _ (Gr.refl _) rfl
    refine Obs.cons none (by kernel_rfl) ?_ ?_
    · refine Ob.plain fun a w hR hk K k => ?_
      obtain ⟨_, e11, rfl⟩ := hk 11 (by decide)
      obtain ⟨_, e13, rfl⟩ := hk 13 (by decide)
      clear hk
      go_simp
      refine (Try.strings_Compare ⟨x.toArray⟩ ⟨y.toArray⟩ _).mono ?_
      rintro e w' ⟨rfl, rfl⟩
      exact k _ _ (Gr.refl _) rfl
    refine Obs.cons none (by kernel_rfl) ?_ ?_
    · refine Ob.plain fun a w hR hk K k => ?_
      obtain ⟨_, e9, rfl⟩ := hk 9 (by decide)
      obtain ⟨_, e14, rfl⟩ := hk 14 (by decide)
      clear hk
      go_simp
      exact k _ _ ((Gr.refl _).alloc _) ⟨_, _, _, rfl, heap_alloc_new _ _⟩
    refine Obs.cons none (by kernel_rfl) ?_ ?_
    · refine Ob.plain fun a w hR hk K k => ?_
      obtain ⟨_, e15, g, ty, f, rfl, hg⟩ := hk 15 (by decide)
      clear hk
      go_simp
      refine (por_two g f ty _ _ _ hg).mono ?_
      rintro e w' ⟨rfl, rfl⟩
      rw [HR.out]
      exact k _ _ (Gr.refl _) rfl
    refine Obs.cons none (by kernel_rfl) ?_ Obs.nil
    · refine Ob.plain fun a w hR hk K k => ?_
      obtain ⟨_, e16, rfl⟩ := hk 16 (by decide)
      clear hk
      go_simp
      exact k _ _ (Gr.refl _) rfl
  case fin =>
    intro vals w2 hc2 hv
    have h4 : vals 4 = .int .i64 res := hv 4 (by decide)
    have HC := hid (hc.trans hc2)
    clear hA hB hc hc2 hv
    simp only [putAll, List.setIfInBounds_toArray, List.set_cons_zero, List.set_cons_succ, h4]
    go_wp2
    go_ret
    exact ⟨rfl, HC.out⟩

theorem pcompare (a b : RoleB) (w : World) : Calls Try.prog 98 #[roleV a, roleV b] w fun e w' => e = .returned (.int .i64 (cmpR a b)) ∧ Chg (fun _ => False) w w' :=
  (pcompare_grows a b w).mono fun _ _ ⟨he, hg⟩ => ⟨he, hg.chg _⟩
end Go.Proofs.Ytcdjjengkdbngaa
