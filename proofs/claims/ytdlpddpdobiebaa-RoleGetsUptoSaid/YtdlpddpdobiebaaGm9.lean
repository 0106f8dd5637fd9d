/- Texts that the proof leans on, in one: RoleCut, RoleCmp, RoleOr, Grown, RoleCompare, RoleIn, RoleHasP, RoleSpec, RoleClear. -/
import Derived.Test.YtdlpddpdobiebaaGm8
import Derived.Lib.IndexLaws
import Derived.OwnWalk
import Derived.Test.YtdlpddpdobiebaaGm6
import Derived.Test.YtdlpddpdobiebaaGm7
import Derived.Test.YtdlpddpdobiebaaProg
import Derived.Sort.Grow
import Derived.Lib.SliceRun
/- What strings.Cut answers at a full stop; which role a text is, by it. -/
namespace Go.Proofs.Ytdlpddpdobiebaa
open Go.RowKit

theorem dot_iff (c : UInt8) : c.toNat = 46 ↔ c = 46 := by
  rw [← UInt8.toNat_inj]
  rfl

/-- The text ahead of the first full stop (all of it, without one), and the one behind. -/
def cutL (s : List UInt8) : List UInt8 × List UInt8 := (cutDot s).getD (s, [])

theorem cut_cases (s : List UInt8) : (Lib.indexByte s 46 = -1 ∧ cutDot s = none) ∨ ∃ k : Nat, k < s.length ∧ Lib.indexByte s 46 = k ∧ cutDot s = some (s.take k, s.drop (k + 1)) := by
  have hg := Lib.indexByte_ge s 46
  by_cases h : Lib.indexByte s 46 = -1
  · refine .inl ⟨h, cutDot_none s fun c hc e => ?_⟩
    obtain ⟨k, hk, hkc⟩ := List.getElem_of_mem hc
    exact Lib.indexByte_none h k (by rw [List.getElem?_eq_getElem hk, hkc, (dot_iff c).1 e])
  · obtain ⟨k, hk⟩ : ∃ k : Nat, Lib.indexByte s 46 = k := ⟨(Lib.indexByte s 46).toNat, by omega⟩
    obtain ⟨h1, h2⟩ := Lib.indexByte_some hk
    obtain ⟨hlt, he⟩ := List.getElem?_eq_some_iff.1 h1
    refine .inr ⟨k, hlt, hk, cutDot_at s k hlt (fun c hc e => ?_) (by rw [he]; rfl)⟩
    obtain ⟨j, hj, hjc⟩ := List.getElem_of_mem hc
    rw [List.length_take] at hj
    rw [List.getElem_take] at hjc
    exact h2 j (by omega) (by rw [List.getElem?_eq_getElem (by omega), hjc, (dot_iff c).1 e])

set_option maxRecDepth 100000 in
theorem litecut_dot (s : List UInt8) (w : World) (hs : s.length ≤ 9223372036854775806) :
    Calls Try.prog 46 #[.string ⟨s.toArray⟩, .string ⟨#[46]⟩] w fun e w' => e = .returned (.tuple #[.string ⟨(cutL s).1.toArray⟩, .string ⟨(cutL s).2.toArray⟩, .bool (cutDot s).isSome]) ∧ Chg (fun _ => False) w w' := by
  have e1 := Try.stringslite_Index_one ⟨s.toArray⟩ 46
  dsimp only at e1
  rcases cut_cases s with ⟨h, hc⟩ | ⟨k, hk, h, hc⟩
  · rw [cutL, hc]
    rw [h] at e1
    clear h hc
    go_enter Try.func46, Try.ntmps46
    go_wp2_with fail
    refine (e1 _).mono ?_
    rintro e w' ⟨rfl, rfl⟩
    go_wp2
    go_ret3
    exact ⟨rfl, Chg.refl _ _⟩
  · rw [cutL, hc]
    rw [h] at e1
    have st := str_take s k
    have sd := str_drop s (k + 1)
    have hlt2 : ((k : Int) + 1) ≤ (s.length : Int) := by omega
    have hle : ((k : Int)) ≤ (s.length : Int) := by omega
    clear h hc
    go_enter Try.func46, Try.ntmps46
    go_wp2_with fail
    refine (e1 _).mono ?_
    rintro e w' ⟨rfl, rfl⟩
    clear e1
    go_wp2
    go_region
    go_wp2
    go_ret3
    exact ⟨rfl, Chg.drew (Chg.refl _ _)⟩

theorem cut_dot (s : List UInt8) (w : World) (hs : s.length ≤ 9223372036854775806) :
    Calls Try.prog 30 #[.string ⟨s.toArray⟩, .string ⟨#[46]⟩] w fun e w' => e = .returned (.tuple #[.string ⟨(cutL s).1.toArray⟩, .string ⟨(cutL s).2.toArray⟩, .bool (cutDot s).isSome]) ∧ Chg (fun _ => False) w w' := by
  have e1 := litecut_dot s
  go_enter Try.func30, Try.ntmps30
  go_wp2_with fail
  refine (e1 _ hs).mono ?_
  rintro e w' ⟨rfl, hc⟩
  go_wp2
  go_ret3
  exact ⟨rfl, hc⟩

theorem cutL_len (s : List UInt8) : (cutL s).1.length ≤ s.length ∧ (cutL s).2.length ≤ s.length := by
  rcases cut_cases s with ⟨_, hc⟩ | ⟨k, hk, _, hc⟩
  · rw [cutL, hc]; exact ⟨Nat.le_refl _, Nat.zero_le _⟩
  · rw [cutL, hc]; simp; omega

set_option maxRecDepth 100000 in
set_option maxHeartbeats 1000000 in
theorem pparse (s : List UInt8) (w : World) (hs : s.length ≤ 1048576) : Calls Try.prog 8 #[.string ⟨s.toArray⟩] w (ParsePost s w) := by
  have hl := cutL_len s
  have hpar : Hid (parseR s = if isRole (cutL s) = true then some (cutL s) else none) := hid (by
    rw [parseR, cutL]
    cases h : cutDot s with
    | none =>
      have : isRole (s, []) = false := by simp [isRole, isName]
      simp [this]
    | some p => simp)
  have hc0 : Chg (fun _ => False) w (w.alloc (.cells #[.string ⟨#[]⟩, .string ⟨#[]⟩] 24)) := (Chg.refl _ w).alloc _
  have hC := heap_alloc_new w (.cells #[.string ⟨#[]⟩, .string ⟨#[]⟩] 24)
  have hcut := cut_dot s (w.alloc (.cells #[.string ⟨#[]⟩, .string ⟨#[]⟩] 24)) (by omega)
  have HH := hid (And.intro hcut (And.intro hc0 hC))
  clear hcut hc0 hC
  go_enter Try.func8, Try.ntmps8
  go_wp2_with fail
  obtain ⟨hcut, hc0, hC⟩ := HH.out
  clear HH
  generalize w.alloc (.cells #[.string ⟨#[]⟩, .string ⟨#[]⟩] 24) = w1 at *
  generalize hCC : w.heap.size = C at *
  refine hcut.mono ?_
  rintro e w2 ⟨rfl, hc12⟩
  have hC2 := blk_keep hC hc12 id
  have hcw2 := hc0.trans hc12 (fun _ _ h => h)
  clear hcut hC hc0 hc12
  generalize (cutDot s).isSome = ok at *
  generalize cutL s = p at *
  obtain ⟨o, x⟩ := p
  dsimp only at hl ⊢
  have q0 := cell_blk hC2 0
  have q1 := cell_blk hC2 1
  have f0 := froz_blk hC2 0
  have f1 := froz_blk hC2 1
  simp only [List.getElem?_toArray, List.getElem?_cons_zero, List.getElem?_cons_succ] at q0 q1
  have hB := heap_alloc_new w2 (.cells #[.string ⟨o.toArray⟩, .string ⟨x.toArray⟩] 24)
  have hc23 : Chg (fun _ => False) w2 (w2.alloc (.cells #[.string ⟨o.toArray⟩, .string ⟨x.toArray⟩] 24)) := (Chg.refl _ w2).alloc _
  have hC3 := blk_keep hC2 hc23 id
  have hcw3 := hcw2.trans hc23 (fun _ _ h => h)
  have hCB : C < w2.heap.size := lt_blk hC2
  clear hc23
  have hr3 := pright (o, x) (w2.alloc (.cells #[.string ⟨o.toArray⟩, .string ⟨x.toArray⟩] 24)) (show o.length ≤ _ by omega) (show x.length ≤ _ by omega)
  clear hC2 hcw2
  have HH := hid (And.intro hr3 (And.intro hB (And.intro hC3 hcw3)))
  clear hr3 hB hC3 hcw3
  go_wp2_with fail
  obtain ⟨hr3, hB, hC3, hcw3⟩ := HH.out
  clear HH q0 q1 f0 f1
  generalize w2.alloc (.cells #[.string ⟨o.toArray⟩, .string ⟨x.toArray⟩] 24) = w3 at *
  generalize w2.heap.size = B at *
  refine hr3.mono ?_
  rintro e w4 ⟨rfl, hc4⟩
  have hC4 := blk_keep hC3 hc4 id
  have hB4 := blk_keep hB hc4 id
  have hcw4 := hcw3.trans hc4 (fun _ _ h => h)
  clear hr3 hB hC3 hcw3 hc4
  have b0 := cell_blk hB4 0
  have b1 := cell_blk hB4 1
  have q0 := cell_blk hC4 0
  have q1 := cell_blk hC4 1
  have f0 := froz_blk hC4 0
  have f1 := froz_blk hC4 1
  simp only [List.getElem?_toArray, List.getElem?_cons_zero, List.getElem?_cons_succ] at b0 b1 q0 q1
  cases hr : isRole (o, x) with
  | true =>
    have hp : Hid (parseR s = some (o, x)) := hid (by rw [hpar.out]; simp [hr])
    have hD : ((w4.setCell ⟨C, 0, none⟩ (.string ⟨o.toArray⟩)).setCell ⟨C, 1, none⟩ (.string ⟨x.toArray⟩)).heap[C]? = some (.cells #[.string ⟨o.toArray⟩, .string ⟨x.toArray⟩] 24 (0, 0)) := set_blk (set_blk hC4 0 (.string ⟨o.toArray⟩)) 1 (.string ⟨x.toArray⟩)
    have hch : Chg (fun _ => False) w ((w4.setCell ⟨C, 0, none⟩ (.string ⟨o.toArray⟩)).setCell ⟨C, 1, none⟩ (.string ⟨x.toArray⟩)) := (hcw4.trans (setCell_chg w4 C 0 _) (fun i hi h => by omega)).trans (setCell_chg _ C 1 _) (fun i hi h => by omega)
    have HH := hid (And.intro hD hch)
    clear hD hch hcw4 hC4 hB4 hpar
    go_wp2
    refine bodyPost_ret (results_row_tmp rfl _ _ C _ rfl (run_loadVar_row (P := Try.prog) _ C 24 24 _ (0, 0) _ HH.out.1 Try.underlying24 rfl (by kernel_rfl))) rfl ?_
    exact ⟨by rw [hp.out]; rfl, HH.out.2⟩
  | false =>
    have hp : Hid (parseR s = none) := hid (by rw [hpar.out]; simp [hr])
    have hD : ((w4.setCell ⟨C, 0, none⟩ (.string ⟨#[]⟩)).setCell ⟨C, 1, none⟩ (.string ⟨#[]⟩)).heap[C]? = some (.cells #[.string ⟨#[]⟩, .string ⟨#[]⟩] 24 (0, 0)) := set_blk (set_blk hC4 0 (.string ⟨#[]⟩)) 1 (.string ⟨#[]⟩)
    have hch : Chg (fun _ => False) w ((w4.setCell ⟨C, 0, none⟩ (.string ⟨#[]⟩)).setCell ⟨C, 1, none⟩ (.string ⟨#[]⟩)) := (hcw4.trans (setCell_chg w4 C 0 _) (fun i hi h => by omega)).trans (setCell_chg _ C 1 _) (fun i hi h => by omega)
    have HH := hid (And.intro hD hch)
    clear hD hch hcw4 hC4 hB4 hpar
    go_wp2
    refine bodyPost_ret (results_row_tmp rfl _ _ C _ rfl (run_loadVar_row (P := Try.prog) _ C 24 24 _ (0, 0) _ HH.out.1 Try.underlying24 rfl (by kernel_rfl))) rfl ?_
    exact ⟨by rw [hp.out]; rfl, HH.out.2⟩
end Go.Proofs.Ytdlpddpdobiebaa

/- The order of two roles, as a program tells it by strings.Compare. -/
namespace Go.Proofs.Ytdlpddpdobiebaa
open Go.RowKit

theorem cmpB_eq : ∀ (a b : List UInt8), Lib.compareBytes a b = if ltS a b then -1 else if ltS b a then 1 else 0
  | [], [] => rfl
  | [], _ :: _ => rfl
  | _ :: _, [] => by simp [Lib.compareBytes, ltS_nil, ltS_nil_cons]
  | x :: a, y :: b => by
    rw [Lib.compareBytes, ltS_cons, ltS_cons, cmpB_eq a b]
    by_cases h1 : x < y
    · simp [h1]
    · by_cases h2 : y < x
      · have hne : x ≠ y := fun e => by subst e; exact h1 h2
        simp [h1, h2, hne]
      · have e : x = y := by
          have h1' : ¬ x.toNat < y.toNat := h1
          have h2' : ¬ y.toNat < x.toNat := h2
          exact UInt8.toNat_inj.1 (by omega)
        subst e
        simp [h1]

theorem cmpB_zero (a b : List UInt8) : Lib.compareBytes a b = 0 ↔ a = b := by
  rw [cmpB_eq]
  constructor
  · intro h
    rcases ltS_tri a b with k | k | k
    · rw [if_pos k] at h; cases h
    · exact k
    · by_cases hb : ltS a b = true
      · rw [if_pos hb] at h; cases h
      · rw [if_neg hb, if_pos k] at h; cases h
  · rintro rfl
    rw [ltS_irrefl]
    rfl

theorem cmpR_eq (a b : RoleB) : cmpR a b = if Lib.compareBytes a.1 b.1 = 0 then Lib.compareBytes a.2 b.2 else Lib.compareBytes a.1 b.1 := by
  obtain ⟨o, x⟩ := a
  obtain ⟨p, y⟩ := b
  rw [cmpR, ltR_def, ltR_def]
  dsimp only
  by_cases h : o = p
  · subst h
    rw [if_pos ((cmpB_zero o o).2 rfl), cmpB_eq x y, ltS_irrefl]
    simp
  · have h2 : p ≠ o := fun e => h e.symm
    rw [if_neg (fun e => h ((cmpB_zero o p).1 e)), cmpB_eq o p]
    simp [h, h2]

theorem cmpB_wrap (a b : List UInt8) : -1 ≤ Lib.compareBytes a b ∧ Lib.compareBytes a b ≤ 1 := by
  rw [cmpB_eq]
  by_cases h : ltS a b = true
  · rw [if_pos h]; decide
  · rw [if_neg h]
    by_cases h2 : ltS b a = true
    · rw [if_pos h2]; decide
    · rw [if_neg h2]; decide
end Go.Proofs.Ytdlpddpdobiebaa

/- cmp.Or at two ints: the first that isn't zero, else zero. -/
namespace Go.Proofs.Ytdlpddpdobiebaa
open Go.RowKit

/-- A slice of two ints. -/
def Spec.two (x y : Int) : Spec :=
  ⟨fun v w => ∃ g ty f, v = .slice (some ⟨g, 0, none⟩) 2 2 ∧ w.heap[g]? = some (.cells #[.int .i64 x, .int .i64 y] ty f), fun _ _ _ hc ⟨g, ty, f, h1, h2⟩ => ⟨g, ty, f, h1, blk_keep h2 hc id⟩⟩

set_option maxRecDepth 100000 in
theorem por_two (g : Nat) (f : Nat × Nat) (ty : Nat) (x y : Int) (w : World) (h : w.heap[g]? = some (.cells #[.int .i64 x, .int .i64 y] ty f)) :
    Calls Try.prog 31 #[.slice (some ⟨g, 0, none⟩) 2 2] w fun e w' => e = .returned (.int .i64 (if x = 0 then y else x)) ∧ w' = w := by
  have c0 := cell_blk h 0
  have c1 := cell_blk h 1
  simp only [List.getElem?_toArray, List.getElem?_cons_zero, List.getElem?_cons_succ] at c0 c1
  clear h
  by_cases hx : x = 0
  · subst hx
    rw [if_pos rfl]
    by_cases hy : y = 0
    · subst hy
      go_enter Try.func31, Try.ntmps31
      go_wp2
      refine wp_loop_rounds 3 ?_
      rw [rounds_succ]
      go_wp2
      rw [rounds_succ]
      go_wp2
      rw [rounds_succ]
      go_wp2
      go_ret
      exact ⟨rfl, rfl⟩
    · have z : (y == 0) = false := beq_eq_false_iff_ne.2 hy
      clear hy
      go_enter Try.func31, Try.ntmps31
      go_wp2
      refine wp_loop_rounds 2 ?_
      rw [rounds_succ]
      go_wp2
      rw [rounds_succ]
      go_wp2
      go_ret
      exact ⟨rfl, rfl⟩
  · rw [if_neg hx]
    have z : (x == 0) = false := beq_eq_false_iff_ne.2 hx
    clear hx
    go_enter Try.func31, Try.ntmps31
    go_wp2
    refine wp_loop_rounds 1 ?_
    rw [rounds_succ]
    go_wp2
    go_ret
    exact ⟨rfl, rfl⟩
end Go.Proofs.Ytdlpddpdobiebaa

/- Worlds that have grown by draws and new blocks alone; a region that draws its order and grows so. -/
namespace Go.Proofs.Ytdlpddpdobiebaa
open Go.RowKit Go.Sort

/-- Draws, and blocks behind the heap: nothing else. -/
def Gr (w w' : World) : Prop := ∃ (q : Nat) (os : Array Obj), w' = grow (w.drewN q) os

theorem Gr.refl (w : World) : Gr w w := ⟨0, #[], by rw [grow_empty]; rfl⟩

theorem Gr.trans {a b c : World} (h : Gr a b) (k : Gr b c) : Gr a c := by
  obtain ⟨n, os, rfl⟩ := h
  obtain ⟨q, os', rfl⟩ := k
  exact ⟨n + q, os ++ os', by show grow (grow ((a.drewN n).drewN q) os) os' = _; rw [grow_grow, World.drewN_drewN]⟩

theorem Gr.alloc {a b : World} (h : Gr a b) (o : Obj) : Gr a (b.alloc o) :=
  h.trans ⟨0, #[o], by rw [alloc_eq_grow]; rfl⟩

theorem Gr.drew {a b : World} (h : Gr a b) : Gr a b.drew := h.trans ⟨1, #[], by rw [grow_empty]; rfl⟩

theorem Gr.chg {a b : World} (h : Gr a b) (S : Nat → Prop) : Chg S a b := by
  obtain ⟨n, os, rfl⟩ := h
  refine ⟨rfl, rfl, rfl, ?_, fun k hk _ => ?_⟩
  · rw [size_grow]; exact Nat.le_add_right _ _
  · exact heap_grow_old _ _ hk

/-- wp_region_specs, for a region whose calls and operations only grow the world. -/
theorem wp_region_grown {P : Program} {Q : Exit → Act → World → Prop} {w0 : World} {a0 : Act} {id : Nat} {l : List Oper} (specs : List Spec) (ds outs : List Tmp) (hm : P.follows .mixedOrders = true) (hok : regOk l.toArray ds = true)
    (hsize : (ds.all fun t => decide (t < a0.tmps.size)) = true) (houts : ((outsOf l.toArray ds).all fun t => outs.contains t) = true)
    (hstart : ∀ t ∈ outs, Knows (specAt specs) a0 w0 t)
    (hobs : Obs P Q Gr (specAt specs) w0 l.toArray l)
    (hfin : ∀ (vals : Tmp → Value) (w : World), Gr w0 w → (∀ t ∈ ds, specAt specs t (vals t) w) → Q .normal ⟨putAll vals ds a0.tmps, a0.defers⟩ w) :
    (Code.region id l.toArray true).wp P Q a0 w0 :=
  wp_region_known (R := Gr) (G := specAt specs) (ds := ds) hm hok (fun _ _ _ h k => h.trans k) (Gr.refl _).drew (fun t v w w' hc h => specAt_st specs t v w w' (hc.chg _) h) hsize _ rfl
    (fun w hc t ht => by
      have h1 := List.all_eq_true.1 houts t ht
      obtain ⟨v, hv, hg⟩ := hstart t (by simpa using h1)
      exact ⟨v, hv, specAt_st specs t v w0 w (hc.chg _) hg⟩)
    hobs hfin
end Go.Proofs.Ytdlpddpdobiebaa

/- The program's Compare of roles: cmp.Or of both strings.Compare. -/
namespace Go.Proofs.Ytdlpddpdobiebaa
open Go.RowKit

/-- What each slot of Compare's line holds. -/
def cmpSpecs (A : Nat) (o x p y : List UInt8) (res : Int) : List Spec :=
  [.any, .any, .eq (.pointer (some ⟨A, 0, none⟩)), .eq (.pointer (some ⟨A + 1, 0, none⟩)), .eq (.int .i64 res),
   .eq (.pointer (some ⟨A, 0, none⟩)), .eq (.string ⟨o.toArray⟩), .eq (.pointer (some ⟨A + 1, 0, none⟩)), .eq (.string ⟨p.toArray⟩), .eq (.int .i64 (Lib.compareBytes o p)),
   .eq (.pointer (some ⟨A, 1, none⟩)), .eq (.string ⟨x.toArray⟩), .eq (.pointer (some ⟨A + 1, 1, none⟩)), .eq (.string ⟨y.toArray⟩), .eq (.int .i64 (Lib.compareBytes x y)),
   .two (Lib.compareBytes o p) (Lib.compareBytes x y), .eq (.int .i64 res)]

set_option maxRecDepth 100000 in
set_option maxHeartbeats 1000000 in
theorem pcompare_grows (a b : RoleB) (w : World) : Calls Try.prog 10 #[roleV a, roleV b] w fun e w' => e = .returned (.int .i64 (cmpR a b)) ∧ Gr w w' := by
  rw [cmpR_eq]
  obtain ⟨o, x⟩ := a
  obtain ⟨p, y⟩ := b
  dsimp only
  generalize hres : (if Lib.compareBytes o p = 0 then Lib.compareBytes x y else Lib.compareBytes o p) = res
  have HR := hid hres
  clear hres
  have hc : Gr w ((w.alloc (.cells #[.string ⟨o.toArray⟩, .string ⟨x.toArray⟩] 24)).alloc (.cells #[.string ⟨p.toArray⟩, .string ⟨y.toArray⟩] 24)) := ((Gr.refl w).alloc _).alloc _
  have hA := blk_keep (heap_alloc_new w (.cells #[.string ⟨o.toArray⟩, .string ⟨x.toArray⟩] 24)) ((Chg.refl (fun _ => False) _).alloc (.cells #[.string ⟨p.toArray⟩, .string ⟨y.toArray⟩] 24)) id
  have hB := heap_alloc_new (w.alloc (.cells #[.string ⟨o.toArray⟩, .string ⟨x.toArray⟩] 24)) (.cells #[.string ⟨p.toArray⟩, .string ⟨y.toArray⟩] 24)
  rw [show (w.alloc (.cells #[.string ⟨o.toArray⟩, .string ⟨x.toArray⟩] 24)).heap.size = w.heap.size + 1 by simp] at hB
  show Calls Try.prog 10 #[.agg #[.string ⟨o.toArray⟩, .string ⟨x.toArray⟩], .agg #[.string ⟨p.toArray⟩, .string ⟨y.toArray⟩]] w _
  go_enter Try.func10, Try.ntmps10
  go_wp2_with fail
  generalize (w.alloc (.cells #[.string ⟨o.toArray⟩, .string ⟨x.toArray⟩] 24)).alloc (.cells #[.string ⟨p.toArray⟩, .string ⟨y.toArray⟩] 24) = w1 at *
  generalize w.heap.size = A at *
  refine wp_region_grown (cmpSpecs A o x p y res) [5, 6, 7, 8, 9, 10, 11, 12, 13, 14, 15, 16, 4] [2, 3] (by kernel_rfl) (by kernel_rfl) (by rfl) (by kernel_rfl) ?start ?obs ?fin
  case start =>
    simp only [List.forall_mem_cons]
    exact ⟨⟨_, rfl, rfl⟩, ⟨_, rfl, rfl⟩, fun _ h => by cases h⟩
  case obs =>
    have a0 := cell_blk hA 0
    have a1 := cell_blk hA 1
    have b0 := cell_blk hB 0
    have b1 := cell_blk hB 1
    simp only [List.getElem?_toArray, List.getElem?_cons_zero, List.getElem?_cons_succ] at a0 a1 b0 b1
    clear hA hB hc
    refine Obs.cons none (by kernel_rfl) ?_ ?_
    · refine Ob.plain fun a w hR hk K k => ?_
      obtain ⟨_, e2, rfl⟩ := hk 2 (by decide)
      clear hk
      go_simp
      exact k _ _ (Gr.refl _) rfl
    refine Obs.cons none (by kernel_rfl) ?_ ?_
    · refine Ob.plain fun a w hR hk K k => ?_
      obtain ⟨_, e5, rfl⟩ := hk 5 (by decide)
      clear hk
      have c := (hR.chg (fun _ => False)).cell a0 id
      go_simp
      exact k _ _ (Gr.refl _) rfl
    refine Obs.cons none (by kernel_rfl) ?_ ?_
    · refine Ob.plain fun a w hR hk K k => ?_
      obtain ⟨_, e3, rfl⟩ := hk 3 (by decide)
      clear hk
      go_simp
      exact k _ _ (Gr.refl _) rfl
    refine Obs.cons none (by kernel_rfl) ?_ ?_
    · refine Ob.plain fun a w hR hk K k => ?_
      obtain ⟨_, e7, rfl⟩ := hk 7 (by decide)
      clear hk
      have c := (hR.chg (fun _ => False)).cell b0 id
      go_simp
      exact k _ _ (Gr.refl _) rfl
    refine Obs.cons none (by kernel_rfl) ?_ ?_
    · refine Ob.plain fun a w hR hk K k => ?_
      obtain ⟨_, e6, rfl⟩ := hk 6 (by decide)
      obtain ⟨_, e8, rfl⟩ := hk 8 (by decide)
      clear hk
      go_simp
      refine (Try.strings_Compare ⟨o.toArray⟩ ⟨p.toArray⟩ _).mono ?_
      rintro e w' ⟨rfl, rfl⟩
      exact k _ _ (Gr.refl _) rfl
    refine Obs.cons none (by kernel_rfl) ?_ ?_
    · refine Ob.plain fun a w hR hk K k => ?_
      obtain ⟨_, e2, rfl⟩ := hk 2 (by decide)
      clear hk
      go_simp
      exact k _ _ (Gr.refl _) rfl
    refine Obs.cons none (by kernel_rfl) ?_ ?_
    · refine Ob.plain fun a w hR hk K k => ?_
      obtain ⟨_, e10, rfl⟩ := hk 10 (by decide)
      clear hk
      have c := (hR.chg (fun _ => False)).cell a1 id
      go_simp
      exact k _ _ (Gr.refl _) rfl
    refine Obs.cons none (by kernel_rfl) ?_ ?_
    · refine Ob.plain fun a w hR hk K k => ?_
      obtain ⟨_, e3, rfl⟩ := hk 3 (by decide)
      clear hk
      go_simp
      exact k _ _ (Gr.refl _) rfl
    refine Obs.cons none (by kernel_rfl) ?_ ?_
    · refine Ob.plain fun a w hR hk K k => ?_
      obtain ⟨_, e12, rfl⟩ := hk 12 (by decide)
      clear hk
      have c := (hR.chg (fun _ => False)).cell b1 id
      go_simp
      exact k _ _ (Gr.refl _) rfl
    refine Obs.cons none (by kernel_rfl) ?_ ?_
    · refine Ob.plain fun a w hR hk K k => ?_
      obtain ⟨_, e11, rfl⟩ := hk 11 (by decide)
      obtain ⟨_, e13, rfl⟩ := hk 13 (by decide)
      clear hk
      go_simp
      refine (Try.strings_Compare ⟨x.toArray⟩ ⟨y.toArray⟩ _).mono ?_
      rintro e w' ⟨rfl, rfl⟩
      exact k _ _ (Gr.refl _) rfl
    refine Obs.cons none (by kernel_rfl) ?_ ?_
    · refine Ob.plain fun a w hR hk K k => ?_
      obtain ⟨_, e9, rfl⟩ := hk 9 (by decide)
      obtain ⟨_, e14, rfl⟩ := hk 14 (by decide)
      clear hk
      go_simp
      exact k _ _ ((Gr.refl _).alloc _) ⟨_, _, _, rfl, heap_alloc_new _ _⟩
    refine Obs.cons none (by kernel_rfl) ?_ ?_
    · refine Ob.plain fun a w hR hk K k => ?_
      obtain ⟨_, e15, g, ty, f, rfl, hg⟩ := hk 15 (by decide)
      clear hk
      go_simp
      refine (por_two g f ty _ _ _ hg).mono ?_
      rintro e w' ⟨rfl, rfl⟩
      rw [HR.out]
      exact k _ _ (Gr.refl _) rfl
    refine Obs.cons none (by kernel_rfl) ?_ Obs.nil
    · refine Ob.plain fun a w hR hk K k => ?_
      obtain ⟨_, e16, rfl⟩ := hk 16 (by decide)
      clear hk
      go_simp
      exact k _ _ (Gr.refl _) rfl
  case fin =>
    intro vals w2 hc2 hv
    have h4 : vals 4 = .int .i64 res := hv 4 (by decide)
    have HC := hid (hc.trans hc2)
    clear hA hB hc hc2 hv
    simp only [putAll, List.setIfInBounds_toArray, List.set_cons_zero, List.set_cons_succ, h4]
    go_wp2
    go_ret
    exact ⟨rfl, HC.out⟩

theorem pcompare (a b : RoleB) (w : World) : Calls Try.prog 10 #[roleV a, roleV b] w fun e w' => e = .returned (.int .i64 (cmpR a b)) ∧ Chg (fun _ => False) w w' :=
  (pcompare_grows a b w).mono fun _ _ ⟨he, hg⟩ => ⟨he, hg.chg _⟩
end Go.Proofs.Ytdlpddpdobiebaa

/- Is a role in a list: slices.Index and slices.Contains at roles. -/
namespace Go.Proofs.Ytdlpddpdobiebaa
open Go.RowKit

set_option maxRecDepth 100000 in
set_option maxHeartbeats 1000000 in
theorem pindex {D : Nat → Prop} (ao : Option Addr) (cp : Nat) (ls : List RoleB) (r : RoleB) (w : World) (hn : ls.length ≤ 4194304) (h : RolesAt D w ao ls) :
    Calls Try.prog 52 #[.slice ao ls.length cp, roleV r] w fun e w' => (∃ i : Int, e = .returned (.int .i64 i) ∧ decide (0 ≤ i) = hasR ls r) ∧ Chg (fun _ => False) w w' := by
  obtain ⟨o, x⟩ := r
  show Calls Try.prog 52 #[.slice ao ls.length cp, .agg #[.string ⟨o.toArray⟩, .string ⟨x.toArray⟩]] w _
  have hc : Chg (fun _ => False) w (w.alloc (.cells #[.string ⟨o.toArray⟩, .string ⟨x.toArray⟩] 24)) := (Chg.refl _ w).alloc _
  have hA := heap_alloc_new w (.cells #[.string ⟨o.toArray⟩, .string ⟨x.toArray⟩] 24)
  have h' := h.keep hc (fun _ _ => id)
  go_enter Try.func52, Try.ntmps52
  go_wp2
  generalize hw1 : w.alloc (.cells #[.string ⟨o.toArray⟩, .string ⟨x.toArray⟩] 24) = w1 at *
  generalize w.heap.size = A at *
  go_loopw [8] (fun i wr => ∃ k : Nat, k ≤ ls.length ∧ i = .int .i64 k ∧ Hid (hasR (ls.take k) (o, x) = false) ∧ Chg (fun _ => False) w1 wr) (fun i _ => ls.length - (intOf i).toNat)
  case atStart => exact ⟨0, Nat.zero_le _, rfl, by rw [List.take_zero]; rfl, Chg.refl _ _⟩
  case round =>
    obtain ⟨k, hk, rfl, hf, hc1⟩ := hrel
    have hA1 := blk_keep hA hc1 id
    have a0 := cell_blk hA1 0
    have a1 := cell_blk hA1 1
    simp only [List.getElem?_toArray, List.getElem?_cons_zero, List.getElem?_cons_succ] at a0 a1
    by_cases hlt : k < ls.length
    · obtain ⟨b, off, rfl, _, c0, c1, _⟩ := (h'.keep hc1 (fun _ _ => id)) k hlt
      have hft := hasR_take ls (o, x) k hlt hf.out
      have HFT := hid hft
      clear h h' hft
      have hmem : Hid (ls[k] ∈ ls) := hid (List.getElem_mem hlt)
      generalize ls[k] = q at *
      obtain ⟨p, y⟩ := q
      have HC := hid hc1.drew
      have HW := hid hc
      clear hc hc1 hA hA1 hw1
      by_cases e1 : p = o
      · subst e1
        have f1 : (p == p) = true := by simp
        by_cases e2 : y = x
        · subst e2
          have f2 : (y == y) = true := by simp
          have hh : Hid (hasR ls (p, y) = true) := hid (by simpa [hasR] using hmem.out)
          go_wp2
          go_region
          go_wp2
          go_ret
          exact ⟨⟨_, rfl, by rw [hh.out]; simp⟩, HW.out.trans HC.out (fun _ _ h => h)⟩
        · have f2 : (x == y) = false := by simpa using fun e => e2 e.symm
          have hx := hid (HFT.out (fun h => e2 (congrArg Prod.snd h)))
          clear e2
          go_wp2
          go_region
          go_wp2
          go_roundw
          case rel => exact ⟨k + 1, by omega, by go_num, hx, HC.out⟩
          case measure => simp [intOf]; omega
      · have f1 : (o == p) = false := by simpa using fun e => e1 e.symm
        have hx := hid (HFT.out (fun h => e1 (congrArg Prod.fst h)))
        clear e1
        go_wp2
        go_region
        go_wp2
        go_roundw
        case rel => exact ⟨k + 1, by omega, by go_num, hx, HC.out⟩
        case measure => simp [intOf]; omega
    · have hk2 : k = ls.length := by omega
      have hh : Hid (hasR ls (o, x) = false) := by have := hf.out; rwa [List.take_of_length_le (by omega)] at this
      have HC := hid (hc.trans hc1 (fun _ _ h => h))
      clear h h' hc hc1 hA hA1 hw1
      go_wp2
      go_ret
      exact ⟨⟨-1, rfl, by rw [hh.out]; rfl⟩, HC.out⟩

set_option maxRecDepth 100000 in
theorem pcontains {D : Nat → Prop} (ao : Option Addr) (cp : Nat) (ls : List RoleB) (r : RoleB) (w : World) (hn : ls.length ≤ 4194304) (h : RolesAt D w ao ls) :
    Calls Try.prog 38 #[.slice ao ls.length cp, roleV r] w fun e w' => e = .returned (.bool (hasR ls r)) ∧ Chg (fun _ => False) w w' := by
  obtain ⟨o, x⟩ := r
  show Calls Try.prog 38 #[.slice ao ls.length cp, .agg #[.string ⟨o.toArray⟩, .string ⟨x.toArray⟩]] w _
  have hc : Chg (fun _ => False) w (w.alloc (.cells #[.string ⟨o.toArray⟩, .string ⟨x.toArray⟩] 24)) := (Chg.refl _ w).alloc _
  have hi := pindex ao cp ls (o, x) (w.alloc (.cells #[.string ⟨o.toArray⟩, .string ⟨x.toArray⟩] 24)) hn (h.keep hc (fun _ _ => id))
  have HH := hid (And.intro hi hc)
  clear hi hc h
  go_enter Try.func38, Try.ntmps38
  go_wp2_with fail
  obtain ⟨hi, hc⟩ := HH.out
  refine hi.mono ?_
  rintro e w' ⟨⟨i, rfl, hi2⟩, hc2⟩
  have HC := hid (hc.trans hc2 (fun _ _ h => h))
  have H2 := hid hi2
  clear HH hi hc hc2 hi2
  go_wp2
  go_ret
  exact ⟨congrArg (fun b => Ending.returned (.bool b)) H2.out, HC.out⟩
end Go.Proofs.Ytdlpddpdobiebaa

/- The program's Has of layer 4. -/
namespace Go.Proofs.Ytdlpddpdobiebaa
open Go.RowKit

set_option maxRecDepth 100000 in
theorem phas {D : Nat → Prop} (ao : Option Addr) (cp : Nat) (ls : List RoleB) (r : RoleB) (w : World) (hn : ls.length ≤ 4194304) (h1 : r.1.length ≤ 1048576) (h2 : r.2.length ≤ 1048576) (h : RolesAt D w ao ls) :
    Calls Try.prog 18 #[.slice ao ls.length cp, roleV r] w fun e w' => e = .returned (.bool (hasR ls r)) ∧ Chg (fun _ => False) w w' := by
  obtain ⟨o, x⟩ := r
  show Calls Try.prog 18 #[.slice ao ls.length cp, .agg #[.string ⟨o.toArray⟩, .string ⟨x.toArray⟩]] w _
  have hc : Chg (fun _ => False) w (w.alloc (.cells #[.string ⟨o.toArray⟩, .string ⟨x.toArray⟩] 24)) := (Chg.refl _ w).alloc _
  have hi := pcontains ao cp ls (o, x) (w.alloc (.cells #[.string ⟨o.toArray⟩, .string ⟨x.toArray⟩] 24)) hn (h.keep hc (fun _ _ => id))
  have HH := hid (And.intro hi hc)
  clear hi hc h h1 h2
  go_enter Try.func18, Try.ntmps18
  go_wp2_with fail
  obtain ⟨hi, hc⟩ := HH.out
  refine hi.mono ?_
  rintro e w' ⟨rfl, hc2⟩
  have HC := hid (hc.trans hc2 (fun _ _ h => h))
  clear HH hi hc hc2
  go_wp2
  go_ret
  exact ⟨rfl, HC.out⟩
end Go.Proofs.Ytdlpddpdobiebaa

/- Roles in slots. -/
namespace Go.Proofs.Ytdlpddpdobiebaa
open Go.RowKit

/-- A pointer to a role. -/
def Spec.roleP (r : RoleB) : Spec :=
  ⟨fun v w => ∃ b off, v = .pointer (some ⟨b, off, none⟩) ∧ RoleAt w b off r, fun _ _ _ hc ⟨b, off, h1, h2⟩ => ⟨b, off, h1, h2.keep hc id⟩⟩

/-- An operation whose guard was not run. -/
theorem Ob.und {P : Program} {Q : Exit → Act → World → Prop} {R : World → World → Prop} {G : Tmp → Value → World → Prop} {w0 : World} {o : Oper} {t : Tmp} {b : Bool}
    (hb : ∀ v w, G t v w → v = undef) (hrefl : ∀ w, R w w) (hd : ∀ w, R w0 w → Gd G o.dst undef w) : Ob P Q R G w0 (some (t, b)) o := by
  intro a w hR hk K hK
  obtain ⟨v, hv, hg⟩ := hk t (by simp [looks, gTmps])
  have := hb v w hg
  subst this
  have hne : ¬ (says b a.tmps[t]? = true) := by
    rw [hv]
    simp [says, undef]
  simp only [if_neg hne]
  exact hK _ _ (hrefl w) (hd w hR)

theorem name_len' {s : List UInt8} (hn : isName s = true) : 0 < s.length ∧ s.length ≤ 16 := isName_len hn
end Go.Proofs.Ytdlpddpdobiebaa

/- clear over a slice of roles. -/
namespace Go.Proofs.Ytdlpddpdobiebaa
open Go.RowKit

/-- 'clear(s)' where every cell of the zero value is one: the cells hold it; nothing else turns. -/
theorem run_clear_all {P : Program} (w : World) (t e ty : TypeId) (z u : Value) (s : Nat) (ht : P.underlying t = some (.slice e)) (hv : ∀ w, (zeroValue e).run P w = .ok z w) (hz : z.cells = Array.replicate s u) (hs : 0 < s) (h1 : u.oneCell' = true) (b o n c : Nat) (hn : 0 < n)
    (hc : ∀ j, j < n * s → (w.cell? ⟨b, o + j, none⟩).isSome = true) (hf : ∀ j, j < n * s → w.frozen? ⟨b, o + j, none⟩ = false) :
    (Builtin.clear_ #[t] ty #[.slice (some ⟨b, o, none⟩) n c]).run P w = .ok (.tuple #[]) (w.setCells b o (List.replicate (n * s) u)) := by
  have hzc : (Builtin.zeroCells z.cells n).toList = List.replicate (n * s) u := by
    rw [hz]
    apply List.ext_getElem
    · simp [Builtin.zeroCells]
    · intro i h1 h2
      simp [Builtin.zeroCells, Nat.mod_lt i hs]
  have hst := run_storeCells_cells (P := P) b o (List.replicate (n * s) u) 0 w (by simpa using hc) (by simpa using hf) (by intro v hv'; rw [List.eq_of_mem_replicate hv']; exact h1)
  simp only [Nat.add_zero] at hst
  obtain ⟨m, rfl⟩ : ∃ m, n = m + 1 := ⟨n - 1, by omega⟩
  simp [Builtin.clear_, run_underlying ht, hv, hzc, hst]
end Go.Proofs.Ytdlpddpdobiebaa
