/- Texts that the proof leans on, in one: StepApp, RefKTight. -/
import Derived.Test.YtjaplnainlbldaaFc6
import Derived.Test.YtjaplnainlbldaaFc8
/- append of a list of steps, onto a row of the call's own. -/
namespace Go.Proofs.Ytjaplnainlbldaa
open Go.RowKit

theorem stepRow_one8 (ls : List StepB) : ∀ u ∈ stepRow ls, u.oneCell' = true := by
 intro u hu
 unfold stepRow at hu
 rw [List.mem_flatMap] at hu
 obtain ⟨x, _, hx⟩ := hu
 exact step_one x u hx

theorem stepAt_cells {w : World} {b o : Nat} {s : StepB} (h : StepAt w b o s) : ∀ j, j < 12 → w.cell? ⟨b, o + j, none⟩ = (stepCells s)[j]?
 | 0, _ => h.c.k0
 | 1, _ => h.c.k1
 | 2, _ => h.c.k2
 | 3, _ => h.c.k3
 | 4, _ => h.c.k4
 | 5, _ => h.c.k5
 | 6, _ => h.c.k6
 | 7, _ => h.c.k7
 | 8, _ => h.c.k8
 | 9, _ => h.f.k0
 | 10, _ => h.f.k1
 | 11, _ => h.f.k2
 | j + 12, h => absurd h (by omega)

theorem stepsAt_row {D : Nat → Prop} {w : World} {ad : Addr} {ls : List StepB} (hst : StepsAt D w (some ad) ls) (j : Nat) (u : Value) (hj : (stepRow ls)[j]? = some u) : w.cell? (ad.add j) = some u := by
 have hjl : j < (stepRow ls).length := (List.getElem?_eq_some_iff.1 hj).1
 rw [stepRow_len] at hjl
 have hq : j / 12 < ls.length := by omega
 obtain ⟨b, off, e, _, h3, _⟩ := hst (j / 12) hq
 cases e
 have h4 := stepAt_cells h3 (j % 12) (by omega)
 have h5 := stepRow_get ls (j / 12) (j % 12) hq (by omega)
 have h6 : j / 12 * 12 + j % 12 = j := by omega
 rw [h6] at h5
 rw [add_off, show off + j = off + j / 12 * 12 + j % 12 by omega, h4, ← h5]
 exact hj

theorem stepsAt_none {D : Nat → Prop} {w : World} {ls : List StepB} (hst : StepsAt D w none ls) : ls = [] := by
 cases ls with
 | nil => rfl
 | cons y l => obtain ⟨_, _, e, _⟩ := hst 0 (by simp); cases e

theorem ownSt_chg8 {B : Nat} {w wm w' : World} {v : Value} {n : Nat} {row : List Value} (hown : wm.ownsRow B 43 12 v n row) (hgr : w.grownBy w' v.ownBlock) (S : Nat → Prop) (hS : ∀ k, B ≤ k → S k) : Chg S w w' := by
 refine (Chg.refl S w).grown hgr fun k e _ => ?_
 rcases hown.2 with ⟨hx', _⟩ | ⟨g, cap', cur, hx', hg, _⟩
 ·rw [hx'] at e; cases e
 ·rw [hx'] at e; cases e; exact hS _ hg

theorem run_append_steps {D : Nat → Prop} {B : Nat} {w : World} {v : Value} {zs : List StepB} (ty : TypeId) (hown : OwnSt B w v zs)
  {ao : Option Addr} {cp : Nat} {ls : List StepB} (hst : StepsAt D w ao ls) (h0 : ao = none → cp = 0) (hlen : zs.length + ls.length ≤ 33554432) (hB : B ≤ w.heap.size) :
  ∃ v' w', (Builtin.append_ #[29, 29] ty #[v, .slice ao ls.length cp]).run Try.prog w = .ok v' w' ∧ OwnSt B w' v' (zs ++ ls) ∧ (∀ S : Nat → Prop, (∀ k, B ≤ k → S k) → Chg S w w') := by
 obtain ⟨i0, hi, hz0, hz1, hz2⟩ := info_parts Try.info43
 cases ao with
 | none =>
  have hl := stepsAt_none hst
  subst hl
  have hcp := h0 rfl
  subst hcp
  exact ⟨v, w, run_append_owned_none (P := Try.prog) (w := w) B 29 ty 43 i0 12 Try.underlying29 hi v _ _ hown, by rw [List.append_nil]; exact hown, fun S _ => Chg.refl S w⟩
 | some ad =>
  obtain ⟨v', w', h1, h2, h3, _⟩ := run_append_own_at (P := Try.prog) w B 29 ty 43 i0 (.agg #[.int .i64 0, .string ⟨#[]⟩, .string ⟨#[]⟩, .string ⟨#[]⟩, .string ⟨#[]⟩, .string ⟨#[]⟩, .string ⟨#[]⟩, .string ⟨#[]⟩, .string ⟨#[]⟩, .string ⟨#[]⟩, .string ⟨#[]⟩, .string ⟨#[]⟩]) 12 184 Try.underlying29 hi hz0 hz1 hz2 rfl (by decide) v _ _ hown ad ls.length cp (stepRow ls) (by rw [stepRow_len])
   (fun j u hj => stepsAt_row hst j u hj) (fun u hu => stepRow_one8 ls u hu) (by unfold maxLen; omega) (by omega) hB
  exact ⟨v', w', h1, by unfold OwnSt; rw [stepRow_append, List.length_append]; exact h2, fun S hS => ownSt_chg8 hown h3 S hS⟩

/-- Rows of n credentials and fewer, and those that hold full, from the block B on, are kept. -/
def RowsSt (B n : Nat) (full : List StepB) (w w' : World) : Prop := ∀ v zs, (zs.length ≤ n ∨ zs = full) → OwnSt B w v zs → OwnSt B w' v zs
theorem RowsSt.refl (B n : Nat) (full : List StepB) (w : World) : RowsSt B n full w w := fun _ _ _ h => h
theorem RowsSt.trans {B n : Nat} {full : List StepB} {a b c : World} (h : RowsSt B n full a b) (k : RowsSt B n full b c) : RowsSt B n full a c := fun v zs hz ho => k v zs hz (h v zs hz ho)
theorem RowsSt.of_chg {B n : Nat} {full : List StepB} {a b : World} (h : Chg (fun _ => False) a b) : RowsSt B n full a b := fun _ _ _ ho => ho.keep h (fun _ _ => id)

def capOfK : Value → Nat
 | .slice _ _ c => c
 | _ => 0

theorem chg_drew_allocK (w : World) (o : Obj) : Chg (fun _ => False) w (w.drew.alloc o) := by
 have h : Chg (fun _ => False) w w.drew := (Chg.refl _ w).drew
 exact h.alloc o

set_option maxRecDepth 100000 in
theorem run_append_steps2 {D : Nat → Prop} {B : Nat} {w : World} {v : Value} {zs : List StepB} (ty : TypeId) (hown : OwnSt B w v zs)
  {ao : Option Addr} {cp : Nat} {ls : List StepB} (hst : StepsAt D w ao ls) (h0 : ao = none → cp = 0) (hlen : zs.length + ls.length ≤ 33554432) (hB : B ≤ w.heap.size) :
  ∃ v' w', (Builtin.append_ #[29, 29] ty #[v, .slice ao ls.length cp]).run Try.prog w = .ok v' w' ∧ OwnSt B w' v' (zs ++ ls) ∧ (∀ S : Nat → Prop, (∀ k, B ≤ k → S k) → Chg S w w') ∧ RowsSt B zs.length (zs ++ ls) w w' ∧ (capOfK v = 0 → Chg (fun _ => False) w w') ∧ (ls.length = 0 → capOfK v' = capOfK v) ∧ w'.heap.size = (if zs.length + ls.length ≤ capOfK v then w.heap.size else w.heap.size + 1) := by
 obtain ⟨v', w', hr, h2, h3⟩ := run_append_steps ty hown hst h0 hlen hB
 refine ⟨v', w', hr, h2, h3, ?_⟩
 obtain ⟨i0, hi, hz0, hz1, hz2⟩ := info_parts Try.info43
 have hrow := stepRow_len ls
 rw [← hz1] at hrow
 have key : Chg (fun _ => False) w w' → (ls.length = 0 → capOfK v' = capOfK v) → w'.heap.size = (if zs.length + ls.length ≤ capOfK v then w.heap.size else w.heap.size + 1) → RowsSt B zs.length (zs ++ ls) w w' ∧ (capOfK v = 0 → Chg (fun _ => False) w w') ∧ (ls.length = 0 → capOfK v' = capOfK v) ∧ w'.heap.size = (if zs.length + ls.length ≤ capOfK v then w.heap.size else w.heap.size + 1) := fun hc h h4 => ⟨RowsSt.of_chg hc, fun _ => hc, h, h4⟩
 have hcapv : zs.length ≤ capOfK v := by
  rcases hown.2 with ⟨rfl, hn⟩ | ⟨g, cap, cur, rfl, hbg, hg, hnc, hcm, hcs, htake⟩
  ·rw [hn]; exact Nat.zero_le _
  ·exact hnc
 cases ao with
 | none =>
  have hl := stepsAt_none hst
  subst hl
  have hcp := h0 rfl
  subst hcp
  have hr2 := run_append_owned_none (P := Try.prog) (w := w) B 29 ty 43 i0 12 Try.underlying29 hi v _ _ hown
  rw [show ([] : List StepB).length = 0 from rfl, hr2] at hr
  injection hr with hv hw
  subst hw
  exact key (Chg.refl _ _) (fun _ => by rw [← hv]) (by rw [if_pos (by simpa using hcapv)])
 | some ad =>
  have hnews := fun j u hj => stepsAt_row hst j u hj
  have hone := fun u hu => stepRow_one8 ls u hu
  by_cases hm : ls.length = 0
  ·have hl : ls = [] := List.eq_nil_of_length_eq_zero hm
   subst hl
   rw [show ([] : List StepB).length = 0 from rfl] at hr
   rcases hown.2 with ⟨rfl, hn⟩ | ⟨g, cap, cur, rfl, hbg, hg, hnc, hcm, hcs, htake⟩
   ·have hr2 : (Builtin.append_ #[29, 29] ty #[.slice none 0 0, .slice (some ad) 0 cp]).run Try.prog w = .ok (.slice none 0 0) w := by
     simp [Builtin.append_, run_underlying Try.underlying29, sizeOf, typeInfo, hi, Builtin.lenOf, Builtin.firstCells, loadCells, loadCellsFrom]
    rw [hr2] at hr
    injection hr with hv hw
    subst hw
    exact key (Chg.refl _ _) (fun _ => by rw [← hv]) (by rw [if_pos (by simpa using hcapv)])
   ·have hfit : zs.length * i0.size + ([] : List Value).length ≤ cur.size := by rw [hz1, hcs]; simpa using Nat.mul_le_mul_right 12 hnc
    have hr2 := run_append_room (P := Try.prog) w 29 ty 43 i0 Try.underlying29 hi g zs.length cap cur hg ad 0 cp [] (by simp) (fun j u hj => by simp at hj) (fun u hu => by cases hu) hnc hfit
    rw [hr2] at hr
    injection hr with hv hw
    subst hw
    refine key ⟨rfl, rfl, rfl, by simp [World.setRow], fun k hk _ => ?_⟩ (fun _ => by rw [← hv]; rfl) (by rw [if_pos (by simpa using hcapv)]; simp [World.setRow])
    by_cases e : k = g
    ·subst e
     rw [setRow_heap w k cur _ _ _ hg, hg]
     simp
    ·exact setRow_other w g k _ e
  ·rcases hown.2 with ⟨rfl, hn⟩ | ⟨g, cap, cur, rfl, hbg, hg, hnc, hcm, hcs, htake⟩
   ·have hcz : capOfK (.slice none 0 0) = 0 := rfl
    have hr2 := run_append_nil (P := Try.prog) w 29 ty 43 i0 _ Try.underlying29 hi hz0 ad ls.length cp (stepRow ls) hrow hnews (by omega) (by omega) (by rw [hz2]; omega)
    rw [hr2] at hr
    injection hr with _ hw
    subst hw
    exact key (chg_drew_allocK _ _) (fun h => absurd h hm) (by rw [if_neg (by rw [hcz]; omega)]; simp)
   ·by_cases hroom : zs.length + ls.length ≤ cap
    ·have hfit : zs.length * i0.size + (stepRow ls).length ≤ cur.size := by rw [hrow, hz1, hcs, ← Nat.add_mul]; exact Nat.mul_le_mul_right _ hroom
     have hr2 := run_append_room (P := Try.prog) w 29 ty 43 i0 Try.underlying29 hi g zs.length cap cur hg ad ls.length cp (stepRow ls) hrow hnews hone hroom hfit
     rw [hr2] at hr
     injection hr with _ hw
     subst hw
     refine ⟨fun v2 zs2 hz2' ho2 => ?_, fun h => by have h2 : cap = 0 := h; omega, fun h => absurd h hm, by rw [if_pos (show zs.length + ls.length ≤ capOfK (Value.slice (some ⟨g, 0, none⟩) zs.length cap) from hroom)]; simp [World.setRow]⟩
     refine ⟨ho2.1, ?_⟩
     rcases ho2.2 with hn2 | ⟨g2, cap2, cur2, rfl, hbg2, hg2, hnc2, hcm2, hcs2, htake2⟩
     ·exact .inl hn2
     ·by_cases e : g2 = g
      ·subst e
       have he : cur2 = cur := by rw [hg] at hg2; injection hg2 with hg2; injection hg2 with h1 _ _; exact h1.symm
       subst he
       have hcl : cur2.toList.length = cap * 12 := by rw [Array.length_toList, hcs]
       have hs12 : zs.length * i0.size + (stepRow ls).length = (zs.length + ls.length) * 12 := by rw [hrow, hz1, Nat.add_mul]
       have hr12 : (stepRow ls).length = ls.length * 12 := stepRow_len ls
       refine .inr ⟨g2, cap2, _, rfl, hbg2, setRow_heap w g2 cur2 _ _ _ hg, hnc2, hcm2, ?_, ?_⟩
       ·rw [← hcs2]
        simp only [List.size_toArray, List.length_append, List.length_take, List.length_drop, hz1, hr12, hcl]
        rw [hcs]
        omega
       ·rcases hz2' with hz2' | hz2'
        rotate_left
        ·subst hz2'
         have hn12 : zs.length * 12 ≤ cap * 12 := Nat.mul_le_mul_right 12 hnc
         rw [hz1]
         simp only [htake]
         rw [stepRow_append]
         have hl12 : (stepRow zs ++ stepRow ls).length = (zs ++ ls).length * 12 := by rw [← stepRow_append, stepRow_len]
         rw [← hl12]
         exact List.take_left
        rw [← htake2]
        have hz12 : zs2.length * 12 ≤ zs.length * 12 := Nat.mul_le_mul_right 12 hz2'
        have hn12 : zs.length * 12 ≤ cap * 12 := Nat.mul_le_mul_right 12 hnc
        simp only [List.append_assoc, hz1]
        rw [List.take_append_of_le_length (by rw [List.length_take, hcl, Nat.min_eq_left hn12]; exact hz12), List.take_take, Nat.min_eq_left hz12]
      ·exact .inr ⟨g2, cap2, cur2, rfl, hbg2, (setRow_other w g g2 _ e).trans hg2, hnc2, hcm2, hcs2, htake2⟩
    ·have holds : ∀ j u, (stepRow zs)[j]? = some u → w.cell? ((⟨g, 0, none⟩ : Addr).add j) = some u := hown.cells (g := g) rfl
     have hzl := hown.1
     rw [← hz1] at hzl
     have hr2 := run_append_grow (P := Try.prog) w 29 ty 43 i0 _ Try.underlying29 hi hz0 ⟨g, 0, none⟩ zs.length cap (stepRow zs) hzl holds ad ls.length cp (stepRow ls) hrow hnews (by omega) (by omega) (growslice_fits (by omega) (by rw [hz2]; omega))
     rw [hr2] at hr
     injection hr with _ hw
     subst hw
     exact key (chg_drew_allocK _ _) (fun h => absurd h hm) (by rw [if_neg (show ¬ zs.length + ls.length ≤ capOfK (Value.slice (some ⟨g, 0, none⟩) zs.length cap) from hroom)]; simp)
end Go.Proofs.Ytjaplnainlbldaa

/- The contract of the document's Tight, of layer 9. -/
namespace Go.Proofs.Ytjaplnainlbldaa
open Go.RowKit

theorem run_eqg_factl (x y : Operand) (a b : FactB) (w : World) : Sem.run Try.prog (eqGuard BinOp.eql 26 x y (.agg #[.string ⟨a.1.1.toArray⟩, .string ⟨a.1.2.toArray⟩, .string ⟨a.2.toArray⟩]) (.agg #[.string ⟨b.1.1.toArray⟩, .string ⟨b.1.2.toArray⟩, .string ⟨b.2.toArray⟩])) w = .ok () w := by
 go_simp
theorem run_eql_factl (a b : FactB) (w : World) : Sem.run Try.prog (binOp BinOp.eql 26 (.agg #[.string ⟨a.1.1.toArray⟩, .string ⟨a.1.2.toArray⟩, .string ⟨a.2.toArray⟩]) (.agg #[.string ⟨b.1.1.toArray⟩, .string ⟨b.1.2.toArray⟩, .string ⟨b.2.toArray⟩])) w = .ok (.bool (decide (a = b))) w := by
 have : decide (a = b) = decide (a.1.1 = b.1.1 ∧ a.1.2 = b.1.2 ∧ a.2 = b.2) := by simp only [Prod.ext_iff, and_assoc]
 rw [this]
 go_simp
 by_cases h1 : a.1.1 = b.1.1 <;> by_cases h2 : a.1.2 = b.1.2 <;> by_cases h3 : a.2 = b.2 <;> simp [h1, h2, h3]
attribute [local go_sem ↓ high] run_eqg_factl run_eql_factl

open Classical in
/-- Is each step needed? -/
noncomputable def tightK (ls : List StepB) : Bool := decide ((∀ i j (hi : i < ls.length) (hj : j < ls.length), j < i → ls[i].f ≠ ls[j].f) ∧ standsK ls = true ∧ ∀ i, i + 1 < ls.length → standsK (ls.take i ++ ls.drop (i + 1)) = false)

open Classical in
theorem tightK_no {ls : List StepB} (h : ¬ ((∀ i j (hi : i < ls.length) (hj : j < ls.length), j < i → ls[i].f ≠ ls[j].f) ∧ standsK ls = true ∧ ∀ i, i + 1 < ls.length → standsK (ls.take i ++ ls.drop (i + 1)) = false)) : tightK ls = false := decide_eq_false h
open Classical in
theorem tightK_yes {ls : List StepB} (h : (∀ i j (hi : i < ls.length) (hj : j < ls.length), j < i → ls[i].f ≠ ls[j].f) ∧ standsK ls = true ∧ ∀ i, i + 1 < ls.length → standsK (ls.take i ++ ls.drop (i + 1)) = false) : tightK ls = true := decide_eq_true h

/-- What may change amid the joining. -/
def AppSt (B n : Nat) (full : List StepB) (w w' : World) : Prop := Chg (fun i => B ≤ i) w w' ∧ RowsSt B n full w w'
theorem AppSt.refl (B n : Nat) (full : List StepB) (w : World) : AppSt B n full w w := ⟨Chg.refl _ _, RowsSt.refl _ _ _ _⟩
theorem AppSt.trans {B n : Nat} {full : List StepB} {a b c : World} (h : AppSt B n full a b) (k : AppSt B n full b c) : AppSt B n full a c := ⟨h.1.trans k.1 (fun _ _ h => h), h.2.trans k.2⟩
theorem AppSt.of_chg {B n : Nat} {full : List StepB} {a b : World} (h : Chg (fun _ => False) a b) : AppSt B n full a b := ⟨h.mono (fun _ _ h => h.elim), RowsSt.of_chg h⟩

def SpecR.ownK (B n : Nat) (full zs : List StepB) (h : zs.length ≤ n ∨ zs = full) : SpecR (AppSt B n full) :=
 ⟨fun v w => OwnSt B w v zs ∧ (zs.length = 0 → capOfK v = 0), fun v _ _ hc ⟨h1, h2⟩ => ⟨hc.2 v zs h h1, h2⟩⟩

theorem own_zeroK {w : World} {B : Nat} (hB : B ≤ w.heap.size) : OwnSt B (w.alloc (.cells #[] 43)) (.slice (some ⟨w.heap.size, 0, none⟩) 0 0) [] :=
 ⟨rfl, .inr ⟨w.heap.size, 0, #[], rfl, hB, heap_alloc_new w _, Nat.le_refl _, by unfold maxLen; omega, rfl, rfl⟩⟩

/-- An append whose run is known. -/
theorem ob_appendK {o : Oper} {a : Act} {w : World} {K : Act → World → Prop} {Q : Exit → Act → World → Prop} {s x : Tmp} {v y : Value} (tt : TypeId)
  (ho : o.op = .call { callee := .builtin .append, args := #[.tmp s, .tmp x], argTypes := #[tt, tt] }) (hs : a.tmps[s]? = some v) (hx : a.tmps[x]? = some y) {v' : Value} {w' : World}
  (hr : (Builtin.append_ #[tt, tt] o.type #[v, y]).run Try.prog w = .ok v' w') (hK : K (a.put o.dst v') w') : o.wp Try.prog a w K Q := by
 have h1 : a.eval (.tmp s) = v := by simp [Act.eval, hs]
 have h2 : a.eval (.tmp x) = y := by simp [Act.eval, hx]
 unfold Oper.wp execOp
 simp only [ho, resolve, invoke, builtin, Sem.run_bind, Sem.run_pure, Result.andThen_ok, List.map_toArray, List.map_cons, List.map_nil, h1, h2, hr]
 exact hK

def tkSpecs15 (B b off cp k : Nat) (ls : List StepB) : List (SpecR (AppSt B k (ls.take k ++ ls.drop (k + 1)))) := [.eq (.slice (some ⟨b, off, none⟩) ls.length cp), .any, .any, .any, .any, .eq (.int .i64 k), .ownK B k (ls.take k ++ ls.drop (k + 1)) (ls.take k ++ ls.drop (k + 1)) (.inr rfl), .any, .any, .any, .any, .any, .any, .any, .any, .any, .any, .any, .any, .any, .any, .any, .any, .any, .any, .any, .any, .any, .any, .any, .any, .any, .any, .any, .any, .any, .any, .any, .any, .ownK B k (ls.take k ++ ls.drop (k + 1)) [] (.inl (Nat.zero_le _)), .eq (.slice (some ⟨b, off, none⟩) ls.length cp), .eq (.int .i64 k), .eq (.slice (some ⟨b, off, none⟩) k cp), .ownK B k (ls.take k ++ ls.drop (k + 1)) (ls.take k) (.inl (by rw [List.length_take]; omega)), .eq (.slice (some ⟨b, off, none⟩) ls.length cp), .eq (.int .i64 k), .eq (.int .i64 (k + 1 : Nat)), .eq (.slice (some ⟨b, off + (k + 1) * 12, none⟩) (ls.length - (k + 1)) (cp - (k + 1))), .ownK B k (ls.take k ++ ls.drop (k + 1)) (ls.take k ++ ls.drop (k + 1)) (.inr rfl), .any, .any]

set_option maxRecDepth 100000 in
set_option maxHeartbeats 8000000 in
theorem rktight {D : Nat → Prop} (ao : Option Addr) (cp : Nat) (ls : List StepB) (w : World) (hn : ls.length ≤ 1048576) (hcp : ls.length ≤ cp) (hcp2 : cp ≤ 9223372036854775807) (h : StepsAt D w ao ls) (hD : ∀ i, D i → i < w.heap.size) :
  Calls Try.prog 15 #[.slice ao ls.length cp] w fun e w' => e = .returned (.bool (tightK ls)) ∧ Chg (fun _ => False) w w' := by
 have HX := hid h
 have HD := hid hD
 have HSH := hid (steps_short h)
 clear h hD
 go_enter Try.func15, Try.ntmps15
 go_wp2
 go_loopw [9] (fun i wr => ∃ k : Nat, k ≤ ls.length ∧ i = .int .i64 k ∧ Hid (∀ i j (hi : i < ls.length) (hj : j < ls.length), i < k → j < i → ls[i].f ≠ ls[j].f) ∧ Hid (Chg (fun _ => False) w wr)) (fun i _ => ls.length - (intOf i).toNat)
 case atStart => exact ⟨0, Nat.zero_le _, rfl, hid (fun i j _ _ h => absurd h (by omega)), hid (Chg.refl _ _)⟩
 case round =>
  obtain ⟨k, hk, rfl, hup, hc⟩ := hrel
  by_cases hlt : k < ls.length
  ·go_wp2
   go_loopw [4] (fun i wr => ∃ j : Nat, j ≤ k ∧ i = .int .i64 j ∧ Hid (∀ j' (hj : j' < ls.length), j' < j → ls[k].f ≠ ls[j'].f) ∧ Hid (Chg (fun _ => False) w wr)) (fun i _ => ls.length - (intOf i).toNat)
   case atStart => exact ⟨0, Nat.zero_le _, rfl, hid (fun j _ h => absurd h (by omega)), hc⟩
   case round =>
    obtain ⟨j, hj, rfl, hjp, hc2⟩ := hrel
    by_cases hjl : j < k
    ·obtain ⟨b, off, hao, _, ⟨_, hfk⟩, _⟩ := (HX.out.keep hc2.out (fun _ _ => id)) k hlt
     obtain ⟨b', off', hao', _, ⟨_, hfj⟩, _⟩ := (HX.out.keep hc2.out (fun _ _ => id)) j (by omega)
     rw [hao] at hao'
     injection hao' with hao'
     injection hao' with e1 e2 _
     subst e1 e2
     have HNX : Hid ((ls[k].f ≠ ls[j].f → ∀ j' (hj : j' < ls.length), j' < j + 1 → ls[k].f ≠ ls[j'].f) ∧ (ls[k].f = ls[j].f → tightK ls = false)) := hid ⟨fun hne j' hj' hjj => by
      by_cases e : j' = j
      ·subst e; exact hne
      ·exact hjp.out j' hj' (by omega), fun he => tightK_no (fun hall => hall.1 k j hlt (by omega) hjl he)⟩
     have HKL : Hid (k < ls.length ∧ j < k) := hid ⟨hlt, hjl⟩
     generalize ls[k].f = fk at *
     generalize ls[j].f = fj at *
     have HFK := hid (And.intro hfk hfj)
     clear hfk hfj
     subst hao
     go_wp2_with fail
     refine wp_region_specs ([.eq (.slice (some ⟨b, off, none⟩) ls.length cp), .any, .any, .eq (.int .i64 k), .eq (.int .i64 j), .any, .any, .any, .any, .any, .any, .any, .any, .any, .any, .any, .any, .eq (.slice (some ⟨b, off, none⟩) ls.length cp), .eq (.int .i64 k), .eq (.pointer (some ⟨b, off + k * 12, none⟩)), .eq (.pointer (some ⟨b, off + k * 12 + 9, none⟩)), .eq (.agg #[.string ⟨fk.1.1.toArray⟩, .string ⟨fk.1.2.toArray⟩, .string ⟨fk.2.toArray⟩]), .eq (.slice (some ⟨b, off, none⟩) ls.length cp), .eq (.int .i64 j), .eq (.pointer (some ⟨b, off + j * 12, none⟩)), .eq (.pointer (some ⟨b, off + j * 12 + 9, none⟩)), .eq (.agg #[.string ⟨fj.1.1.toArray⟩, .string ⟨fj.1.2.toArray⟩, .string ⟨fj.2.toArray⟩]), .eq (.bool (decide (fk = fj))), .any, .any, .any, .any, .any, .any, .any, .any, .any, .any, .any, .any, .any, .any, .any, .any, .any, .any, .any, .any, .any, .any, .any] : List Spec) [17, 18, 19, 20, 21, 22, 23, 24, 25, 26, 27] [0, 3, 4] (by kernel_rfl) (by kernel_rfl) (by rfl) (by kernel_rfl) ?start ?obs ?fin
     case start =>
      simp only [List.forall_mem_cons]; exact ⟨⟨_, rfl, rfl⟩, ⟨_, rfl, rfl⟩, ⟨_, rfl, rfl⟩, fun _ h => by cases h⟩
     case obs =>
      refine Obs.cons none (by kernel_rfl) ?_ ?_
      ·refine Ob.plain fun a w hR hk K k9 => ?_
       obtain ⟨_, e0, f0⟩ := hk 0 (by decide)
       clear hk
       go_simp
       exact k9 _ _ (Chg.refl _ _) f0
      refine Obs.cons none (by kernel_rfl) ?_ ?_
      ·refine Ob.plain fun a w hR hk K k9 => ?_
       obtain ⟨_, e3, f3⟩ := hk 3 (by decide)
       clear hk
       go_simp
       exact k9 _ _ (Chg.refl _ _) f3
      refine Obs.cons none (by kernel_rfl) ?_ ?_
      ·refine Ob.plain fun a w hR hk K k9 => ?_
       obtain ⟨_, e17, rfl⟩ := hk 17 (by decide)
       obtain ⟨_, e18, rfl⟩ := hk 18 (by decide)
       clear hk
       have hk3 : k < ls.length := HKL.out.1
       skip
       go_simp
       exact k9 _ _ (Chg.refl _ _) rfl
      refine Obs.cons none (by kernel_rfl) ?_ ?_
      ·refine Ob.plain fun a w hR hk K k9 => ?_
       obtain ⟨_, e19, rfl⟩ := hk 19 (by decide)
       clear hk
       go_simp
       exact k9 _ _ (Chg.refl _ _) rfl
      refine Obs.cons none (by kernel_rfl) ?_ ?_
      ·refine Ob.plain fun a w hR hk K k9 => ?_
       obtain ⟨_, e20, rfl⟩ := hk 20 (by decide)
       clear hk
       obtain ⟨y0, y1, y2⟩ := (HFK.out.1).keep hR id
       change w.cell? ⟨b, off + k * 12 + 10, none⟩ = _ at y1
       change w.cell? ⟨b, off + k * 12 + 11, none⟩ = _ at y2
       go_simp
       exact k9 _ _ (Chg.refl _ _) rfl
      refine Obs.cons none (by kernel_rfl) ?_ ?_
      ·refine Ob.plain fun a w hR hk K k9 => ?_
       obtain ⟨_, e0, f0⟩ := hk 0 (by decide)
       clear hk
       go_simp
       exact k9 _ _ (Chg.refl _ _) f0
      refine Obs.cons none (by kernel_rfl) ?_ ?_
      ·refine Ob.plain fun a w hR hk K k9 => ?_
       obtain ⟨_, e4, f4⟩ := hk 4 (by decide)
       clear hk
       go_simp
       exact k9 _ _ (Chg.refl _ _) f4
      refine Obs.cons none (by kernel_rfl) ?_ ?_
      ·refine Ob.plain fun a w hR hk K k9 => ?_
       obtain ⟨_, e22, rfl⟩ := hk 22 (by decide)
       obtain ⟨_, e23, rfl⟩ := hk 23 (by decide)
       clear hk
       have hk3 : j < ls.length := Nat.lt_trans HKL.out.2 HKL.out.1
       go_simp
       exact k9 _ _ (Chg.refl _ _) rfl
      refine Obs.cons none (by kernel_rfl) ?_ ?_
      ·refine Ob.plain fun a w hR hk K k9 => ?_
       obtain ⟨_, e24, rfl⟩ := hk 24 (by decide)
       clear hk
       go_simp
       exact k9 _ _ (Chg.refl _ _) rfl
      refine Obs.cons none (by kernel_rfl) ?_ ?_
      ·refine Ob.plain fun a w hR hk K k9 => ?_
       obtain ⟨_, e25, rfl⟩ := hk 25 (by decide)
       clear hk
       obtain ⟨y0, y1, y2⟩ := (HFK.out.2).keep hR id
       change w.cell? ⟨b, off + j * 12 + 10, none⟩ = _ at y1
       change w.cell? ⟨b, off + j * 12 + 11, none⟩ = _ at y2
       go_simp
       exact k9 _ _ (Chg.refl _ _) rfl
      refine Obs.cons none (by kernel_rfl) ?_ ?_
      ·refine Ob.plain fun a w hR hk K k9 => ?_
       obtain ⟨_, e21, rfl⟩ := hk 21 (by decide)
       obtain ⟨_, e26, rfl⟩ := hk 26 (by decide)
       clear hk
       go_simp
       exact k9 _ _ (Chg.refl _ _) rfl
      exact Obs.nil
     case fin =>
      intro vals w9 hc9 hv
      have h27 : vals 27 = .bool (decide (fk = fj)) := hv 27 (by decide)
      have HC9 := hid (hc2.out.trans hc9 (fun _ _ h => h))
      simp only [putAll, List.setIfInBounds_toArray, List.set_cons_zero, List.set_cons_succ, h27]
      clear hv h27 hc9 hc2 hjp
      have HQ : Hid ((decide (fk = fj) = true → tightK ls = false) ∧ (decide (fk = fj) = false → ∀ j' (hj : j' < ls.length), j' < j + 1 → fk ≠ ls[j'].f)) := hid ⟨fun h => HNX.out.2 (of_decide_eq_true h), fun h => HNX.out.1 (of_decide_eq_false h)⟩
      clear HNX
      generalize decide (fk = fj) = qq at *
      cases qq with
      | true =>
       have HRES := hid (HQ.out.1 rfl)
       go_wp2
       go_ret
       exact ⟨by rw [HRES.out]; rfl, HC9.out⟩
      | false =>
       have HUP := hid (HQ.out.2 rfl)
       go_wp2
       go_roundw
       case rel => exact ⟨j + 1, by have := HKL.out.2; omega, by go_num, HUP, HC9⟩
       case measure => have := HKL.out; simp [intOf]; omega
    ·have HUP : Hid (∀ i j (hi : i < ls.length) (hj : j < ls.length), i < k + 1 → j < i → ls[i].f ≠ ls[j].f) := hid (fun i j' hi hj' h1 h2 => by
      by_cases e : i = k
      ·subst e; exact hjp.out j' hj' (by omega)
      ·exact hup.out i j' hi hj' (by omega) h2)
     have HKL := hid hlt
     clear hup hjp hc
     go_wp2
     go_roundw
     case rel => exact ⟨k + 1, by have := HKL.out; omega, by go_num, HUP, hc2⟩
     case measure => have := HKL.out; simp [intOf]; omega
  ·have HUN : Hid (∀ i j (hi : i < ls.length) (hj : j < ls.length), j < i → ls[i].f ≠ ls[j].f) := hid (fun i j hi hj hji => hup.out i j hi hj (by omega) hji)
   have HSTD := hid (rkstands ao cp ls wr hn hcp hcp2 (HX.out.keep hc.out (fun _ _ => id)))
   clear hup
   go_wp2_with fail
   clear hlt hk
   refine HSTD.out.mono ?_
   rintro e w3 ⟨rfl, hc3⟩
   have HC3 := hid (hc.out.trans hc3 (fun _ _ h => h))
   clear HSTD hc3 hc
   cases hst : standsK ls with
   | false =>
    have HRES : Hid (tightK ls = false) := hid (tightK_no (fun hall => by rw [hall.2.1] at hst; cases hst))
    clear hst
    go_wp2
    go_ret
    exact ⟨by rw [HRES.out]; rfl, HC3.out⟩
   | true =>
    have HSTT := hid hst
    clear hst
    go_wp2
    go_loopw [5] (fun i wr => ∃ k : Nat, (k = 0 ∨ k < ls.length) ∧ i = .int .i64 k ∧ Hid (∀ i, i < k → i + 1 < ls.length → standsK (ls.take i ++ ls.drop (i + 1)) = false) ∧ Hid (Chg (fun _ => False) w wr)) (fun i _ => ls.length - (intOf i).toNat)
    case atStart => exact ⟨0, .inl rfl, rfl, hid (fun i h => absurd h (by omega)), HC3⟩
    case round =>
     rename World => w5
     obtain ⟨k, hk, rfl, hup, hc⟩ := hrel
     have e0 : IntKind.i64.wrap ((k : Int) + 1) = (k : Int) + 1 := by rw [IntKind.wrap_i64]; omega
     by_cases hlt : k + 1 < ls.length
     ·have hkl : k < ls.length := by omega
      obtain ⟨b, off, hao, hDb, _, _⟩ := HX.out k hkl
      have HKL : Hid (k < ls.length ∧ ls.length ≤ cp ∧ k + 1 < ls.length) := hid ⟨hkl, hcp, hlt⟩
      have HUP2 : Hid ((standsK (ls.take k ++ ls.drop (k + 1)) = false → ∀ i, i < k + 1 → i + 1 < ls.length → standsK (ls.take i ++ ls.drop (i + 1)) = false) ∧ (standsK (ls.take k ++ ls.drop (k + 1)) = true → tightK ls = false)) := hid ⟨fun hf i h1 h2 => by
       by_cases e : i = k
       ·subst e; exact hf
       ·exact hup.out i (by omega) h2, fun ht => tightK_no (fun hall => by rw [hall.2.2 k hlt] at ht; cases ht)⟩
      have HSH2 : Hid (∀ x ∈ ls.take k ++ ls.drop (k + 1), stepShort x 9223372036854775807) := hid (fun x hx => (List.mem_append.1 hx).elim (fun h => HSH.out x (List.mem_of_mem_take h)) (fun h => HSH.out x (List.mem_of_mem_drop h)))
      subst hao
      have HST : Hid (∀ W, Chg (fun i => w5.heap.size ≤ i) w5 W → StepsAt D W (some ⟨b, off, none⟩) ls) := hid (fun W hW => (HX.out.keep hc.out (fun _ _ => id)).keep hW (fun i hi h => absurd (Nat.lt_of_lt_of_le (HD.out i hi) hc.out.size) (Nat.not_lt.2 h)))
      clear hup
      go_wp2_with fail
      refine wp_region_state (AppSt w5.heap.size k (ls.take k ++ ls.drop (k + 1))) (fun _ => AppSt w5.heap.size k (ls.take k ++ ls.drop (k + 1)) w5) (specAtR (tkSpecs15 w5.heap.size b off cp k ls)) [39, 40, 41, 42, 43, 44, 45, 46, 47, 48, 6] [0, 5] (by kernel_rfl) (by kernel_rfl) (AppSt.of_chg (Chg.refl _ _).drew) (fun t v w w' hc h => specAtR_st _ t v w w' hc h) (by rfl) (by kernel_rfl) ?start ?obs ?fin
      case start =>
       simp only [List.forall_mem_cons]; exact ⟨⟨_, rfl, rfl⟩, ⟨_, rfl, rfl⟩, fun _ h => by cases h⟩
      case obs =>
       refine ObsL.cons none (by kernel_rfl) ?_ ?_
       ·refine ObL.plain fun L a w hi he hW hk K k9 => ?_
        clear hk
        have ho := own_zeroK (w := w) (B := w5.heap.size) hW.1.size
        have hc : Chg (fun _ => False) w (w.alloc (.cells #[] 43)) := (Chg.refl _ w).alloc _
        clear he hi
        go_simp
        exact k9 _ _ (AppSt.of_chg hc) (hW.trans (AppSt.of_chg hc)) ⟨ho, fun _ => rfl⟩
       refine ObsL.cons none (by kernel_rfl) ?_ ?_
       ·refine ObL.plain fun L a w hi he hW hk K k9 => ?_
        obtain ⟨_, e0, f0⟩ := hk 0 (by decide)
        clear hk
        clear hi he
        go_simp
        exact k9 _ _ (AppSt.refl _ _ _ _) hW f0
       refine ObsL.cons none (by kernel_rfl) ?_ ?_
       ·refine ObL.plain fun L a w hi he hW hk K k9 => ?_
        obtain ⟨_, e5, f5⟩ := hk 5 (by decide)
        clear hk
        clear hi he
        go_simp
        exact k9 _ _ (AppSt.refl _ _ _ _) hW f5
       refine ObsL.cons none (by kernel_rfl) ?_ ?_
       ·refine ObL.plain fun L a w hi he hW hk K k9 => ?_
        obtain ⟨_, e40, rfl⟩ := hk 40 (by decide)
        obtain ⟨_, e41, rfl⟩ := hk 41 (by decide)
        clear hk
        have hk3 : k ≤ cp := Nat.le_trans (Nat.le_of_lt HKL.out.1) HKL.out.2.1
        clear he hi
        go_simp
        exact k9 _ _ (AppSt.refl _ _ _ _) hW rfl
       refine ObsL.cons none (by kernel_rfl) ?_ ?_
       ·refine ObL.plain fun L a w hi he hW hk K k9 => ?_
        obtain ⟨_, e39, f39⟩ := hk 39 (by decide)
        obtain ⟨_, e42, rfl⟩ := hk 42 (by decide)
        clear hk
        obtain ⟨v', w', hr, ho, hch, hrk, hcp, hcl, hsz⟩ := run_append_steps2 (zs := []) (ls := ls.take k) (cp := cp) 29 f39.1 ((HST.out w hW.1).take k) (fun e => by cases e) (by simp; have := HKL.out.1; omega) hW.1.size
        have hc := hcp (f39.2 rfl)
        rw [List.length_take, Nat.min_eq_left (Nat.le_of_lt HKL.out.1)] at hr
        exact ob_appendK 29 rfl e39 e42 hr (k9 _ _ (AppSt.of_chg hc) (hW.trans (AppSt.of_chg hc)) ⟨ho, fun h => (hcl h).trans (f39.2 rfl)⟩)
       refine ObsL.cons none (by kernel_rfl) ?_ ?_
       ·refine ObL.plain fun L a w hi he hW hk K k9 => ?_
        obtain ⟨_, e0, f0⟩ := hk 0 (by decide)
        clear hk
        clear hi he
        go_simp
        exact k9 _ _ (AppSt.refl _ _ _ _) hW f0
       refine ObsL.cons none (by kernel_rfl) ?_ ?_
       ·refine ObL.plain fun L a w hi he hW hk K k9 => ?_
        obtain ⟨_, e5, f5⟩ := hk 5 (by decide)
        clear hk
        clear hi he
        go_simp
        exact k9 _ _ (AppSt.refl _ _ _ _) hW f5
       refine ObsL.cons none (by kernel_rfl) ?_ ?_
       ·refine ObL.plain fun L a w hi he hW hk K k9 => ?_
        obtain ⟨_, e45, rfl⟩ := hk 45 (by decide)
        clear hk
        have e1 : IntKind.i64.wrap ((k : Int) + 1) = ((k + 1 : Nat) : Int) := by rw [IntKind.wrap_i64]; have := HKL.out.1; omega
        clear he hi
        go_simp
        exact k9 _ _ (AppSt.refl _ _ _ _) hW rfl
       refine ObsL.cons none (by kernel_rfl) ?_ ?_
       ·refine ObL.plain fun L a w hi he hW hk K k9 => ?_
        obtain ⟨_, e44, rfl⟩ := hk 44 (by decide)
        obtain ⟨_, e46, rfl⟩ := hk 46 (by decide)
        clear hk
        have hk3 : k + 1 ≤ ls.length := HKL.out.1
        have hk4 : ls.length ≤ cp := HKL.out.2.1
        have hk5 : ¬ cp = k + 1 := by have := HKL.out.2.2; omega
        have hz1 : (0 : Int) ≤ (k : Int) + 1 := by omega
        have hz2 : (k : Int) + 1 ≤ (ls.length : Int) := by omega
        clear he hi
        go_simp
        exact k9 _ _ (AppSt.refl _ _ _ _) hW rfl
       refine ObsL.cons none (by kernel_rfl) ?_ ?_
       ·refine ObL.plain fun L a w hi he hW hk K k9 => ?_
        obtain ⟨_, e43, f43⟩ := hk 43 (by decide)
        obtain ⟨_, e47, rfl⟩ := hk 47 (by decide)
        clear hk
        obtain ⟨v', w', hr, ho, hch, hrk, hcp, hcl, hsz⟩ := run_append_steps2 (zs := ls.take k) (ls := ls.drop (k + 1)) (cp := cp - (k + 1)) 29 f43.1 ((HST.out w hW.1).drop (k + 1)) (fun e => by cases e) (by rw [List.length_take, List.length_drop]; have := HKL.out.1; omega) hW.1.size
        rw [List.length_drop] at hr
        have hS : AppSt w5.heap.size k (ls.take k ++ ls.drop (k + 1)) w w' := ⟨hch _ (fun _ h => h), by rw [List.length_take, Nat.min_eq_left (Nat.le_of_lt HKL.out.1)] at hrk; exact hrk⟩
        exact ob_appendK 29 rfl e43 e47 hr (k9 _ _ hS (hW.trans hS) ⟨ho, fun h => absurd h (by rw [List.length_append, List.length_drop]; have := HKL.out.2.2; omega)⟩)
       refine ObsL.cons none (by kernel_rfl) ?_ ?_
       ·refine ObL.plain fun L a w hi he hW hk K k9 => ?_
        obtain ⟨_, e48, f48⟩ := hk 48 (by decide)
        clear hk
        clear hi he
        go_simp
        exact k9 _ _ (AppSt.refl _ _ _ _) hW f48
       exact ObsL.nil
      case fin =>
       intro L vals w6 hL hW hv
       have h6 : OwnSt w5.heap.size w6 (vals 6) (ls.take k ++ ls.drop (k + 1)) ∧ ((ls.take k ++ ls.drop (k + 1)).length = 0 → capOfK (vals 6) = 0) := hv 6 (by decide)
       have hrl : (ls.take k ++ ls.drop (k + 1)).length + 1 = ls.length := by rw [List.length_append, List.length_take, List.length_drop]; have := HKL.out.1; omega
       have hc56 : Chg (fun _ => False) w5 w6 := hW.1.mono (fun i hi h => absurd hi (Nat.not_lt.2 h))
       obtain ⟨a6, c6, hv6, hst6, _⟩ := h6.1.steps HSH2.out
       have hcp6 : (ls.take k ++ ls.drop (k + 1)).length ≤ c6 ∧ c6 ≤ 9223372036854775807 := by
        rcases h6.1.2 with ⟨h9, h8⟩ | ⟨g9, cap9, cur9, h9, _, _, h7, h8, _⟩
        ·rw [h9] at hv6; injection hv6 with _ e1 e2; rw [← e1, ← e2]; exact ⟨Nat.le_refl _, by omega⟩
        ·rw [h9] at hv6; injection hv6 with _ e1 e2; rw [← e2]; exact ⟨h7, by unfold maxLen at h8; omega⟩
       obtain ⟨rs, hrs⟩ : ∃ rs, rs = ls.take k ++ ls.drop (k + 1) := ⟨_, rfl⟩
       rw [← hrs] at hv6 hst6 hcp6 HUP2 hrl
       have HSTD := hid (rkstands a6 c6 rs w6 (by omega) hcp6.1 hcp6.2 hst6)
       have HC6 := hid (hc.out.trans hc56 (fun _ _ h => h))
       simp only [putAll, List.setIfInBounds_toArray, List.set_cons_zero, List.set_cons_succ, hv6]
       clear hL hW hv h6 hrl hc56 hv6 hst6 hcp6 hrs hc HST HSH2
       go_wp2_with fail
       refine HSTD.out.mono ?_
       rintro e w7 ⟨rfl, hc7⟩
       have HC7 := hid (HC6.out.trans hc7 (fun _ _ h => h))
       clear HSTD hc7 HC6
       cases hs2 : standsK rs with
       | true =>
        have HRES := hid (HUP2.out.2 hs2)
        clear hs2
        go_wp2
        go_ret
        exact ⟨by rw [HRES.out]; rfl, HC7.out⟩
       | false =>
        have HUPN := hid (HUP2.out.1 hs2)
        clear hs2
        go_wp2
        go_roundw
        case rel => exact ⟨k + 1, .inr HKL.out.2.2, by go_num, HUPN, HC7⟩
        case measure => have := HKL.out.2.2; simp [intOf]; omega
     ·have HRES : Hid (tightK ls = true) := hid (tightK_yes ⟨HUN.out, HSTT.out, fun i hi => hup.out i (by omega) hi⟩)
      clear hup
      go_wp2
      go_ret
      exact ⟨by rw [HRES.out]; rfl, hc.out⟩
end Go.Proofs.Ytjaplnainlbldaa
