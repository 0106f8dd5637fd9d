/- append of a list of steps, onto a row of the call's own. -/
import Derived.Test.YtmmkopdcbiiedaaKb10
namespace Go.Proofs.Ytmmkopdcbiiedaa
open Go.RowKit

theorem stepRow_one8 (ls : List StepB) : ∀ u ∈ stepRow ls, u.oneCell' = true := by
  intro u hu
  unfold stepRow at hu
  rw [List.mem_flatMap] at hu
  obtain ⟨x, _, hx⟩ := hu
  exact step_one x u hx

theorem stepAt_cells {w : World} {b o : Nat} {s : StepB} (h : StepAt w b o s) : ∀ j, j < 12 → w.cell? ⟨b, o + j, none⟩ = (stepCells s)[j]?
  | 0, _ => h.c.k0
  | 1, _ => h.c.k1
  | 2, _ => h.c.k2
  | 3, _ => h.c.k3
  | 4, _ => h.c.k4
  | 5, _ => h.c.k5
  | 6, _ => h.c.k6
  | 7, _ => h.c.k7
  | 8, _ => h.c.k8
  | 9, _ => h.f.k0
  | 10, _ => h.f.k1
  | 11, _ => h.f.k2
  | j + 12, h => absurd h (by omega)

theorem stepsAt_row {D : Nat → Prop} {w : World} {ad : Addr} {ls : List StepB} (hst : StepsAt D w (some ad) ls) (j : Nat) (u : Value) (hj : (stepRow ls)[j]? = some u) : w.cell? (ad.add j) = some u := by
  have hjl : j < (stepRow ls).length := (List.getElem?_eq_some_iff.1 hj).1
  rw [stepRow_len] at hjl
  have hq : j / 12 < ls.length := by omega
  obtain ⟨b, off, e, _, h3, _⟩ := hst (j / 12) hq
  cases e
  have h4 := stepAt_cells h3 (j % 12) (by omega)
  have h5 := stepRow_get ls (j / 12) (j % 12) hq (by omega)
  have h6 : j / 12 * 12 + j % 12 = j := by omega
  rw [h6] at h5
  rw [add_off, show off + j = off + j / 12 * 12 + j % 12 by omega, h4, ← h5]
  exact hj

theorem stepsAt_none {D : Nat → Prop} {w : World} {ls : List StepB} (hst : StepsAt D w none ls) : ls = [] := by
  cases ls with
  | nil => rfl
  | cons y l => obtain ⟨_, _, e, _⟩ := hst 0 (by simp); cases e

theorem ownSt_chg8 {B : Nat} {w wm w' : World} {v : Value} {n : Nat} {row : List Value} (hown : wm.ownsRow B 34 12 v n row) (hgr : w.grownBy w' v.ownBlock) (S : Nat → Prop) (hS : ∀ k, B ≤ k → S k) : Chg S w w' := by
  refine (Chg.refl S w).grown hgr fun k e _ => ?_
  rcases hown.2 with ⟨hx', _⟩ | ⟨g, cap', cur, hx', hg, _⟩
  · rw [hx'] at e; cases e
  · rw [hx'] at e; cases e; exact hS _ hg

theorem run_append_steps {D : Nat → Prop} {B : Nat} {w : World} {v : Value} {zs : List StepB} (ty : TypeId) (hown : OwnSt B w v zs)
    {ao : Option Addr} {cp : Nat} {ls : List StepB} (hst : StepsAt D w ao ls) (h0 : ao = none → cp = 0) (hlen : zs.length + ls.length ≤ 33554432) (hB : B ≤ w.heap.size) :
    ∃ v' w', (Builtin.append_ #[22, 22] ty #[v, .slice ao ls.length cp]).run Try.prog w = .ok v' w' ∧ OwnSt B w' v' (zs ++ ls) ∧ (∀ S : Nat → Prop, (∀ k, B ≤ k → S k) → Chg S w w') := by
  obtain ⟨i0, hi, hz0, hz1, hz2⟩ := info_parts Try.info34
  cases ao with
  | none =>
    have hl := stepsAt_none hst
    subst hl
    have hcp := h0 rfl
    subst hcp
    exact ⟨v, w, run_append_owned_none (P := Try.prog) (w := w) B 22 ty 34 i0 12 Try.underlying22 hi v _ _ hown, by rw [List.append_nil]; exact hown, fun S _ => Chg.refl S w⟩
  | some ad =>
    obtain ⟨v', w', h1, h2, h3, _⟩ := run_append_own_at (P := Try.prog) w B 22 ty 34 i0 (.agg #[.int .i64 0, .string ⟨#[]⟩, .string ⟨#[]⟩, .string ⟨#[]⟩, .string ⟨#[]⟩, .string ⟨#[]⟩, .string ⟨#[]⟩, .string ⟨#[]⟩, .string ⟨#[]⟩, .string ⟨#[]⟩, .string ⟨#[]⟩, .string ⟨#[]⟩]) 12 184 Try.underlying22 hi hz0 hz1 hz2 rfl (by decide) v _ _ hown ad ls.length cp (stepRow ls) (by rw [stepRow_len])
      (fun j u hj => stepsAt_row hst j u hj) (fun u hu => stepRow_one8 ls u hu) (by unfold maxLen; omega) (by omega) hB
    exact ⟨v', w', h1, by unfold OwnSt; rw [stepRow_append, List.length_append]; exact h2, fun S hS => ownSt_chg8 hown h3 S hS⟩

/-- Rows of n credentials and fewer, and those that hold full, from the block B on, are kept. -/
def RowsSt (B n : Nat) (full : List StepB) (w w' : World) : Prop := ∀ v zs, (zs.length ≤ n ∨ zs = full) → OwnSt B w v zs → OwnSt B w' v zs
theorem RowsSt.refl (B n : Nat) (full : List StepB) (w : World) : RowsSt B n full w w := fun _ _ _ h => h
theorem RowsSt.trans {B n : Nat} {full : List StepB} {a b c : World} (h : RowsSt B n full a b) (k : RowsSt B n full b c) : RowsSt B n full a c := fun v zs hz ho => k v zs hz (h v zs hz ho)
theorem RowsSt.of_chg {B n : Nat} {full : List StepB} {a b : World} (h : Chg (fun _ => False) a b) : RowsSt B n full a b := fun _ _ _ ho => ho.keep h (fun _ _ => id)

def capOfK : Value → Nat
  | .slice _ _ c => c
  | _ => 0

theorem chg_drew_allocK (w : World) (o : Obj) : Chg (fun _ => False) w (w.drew.alloc o) := by
  have h : Chg (fun _ => False) w w.drew := (Chg.refl _ w).drew
  exact h.alloc o

set_option maxRecDepth 100000 in
theorem run_append_steps2 {D : Nat → Prop} {B : Nat} {w : World} {v : Value} {zs : List StepB} (ty : TypeId) (hown : OwnSt B w v zs)
    {ao : Option Addr} {cp : Nat} {ls : List StepB} (hst : StepsAt D w ao ls) (h0 : ao = none → cp = 0) (hlen : zs.length + ls.length ≤ 33554432) (hB : B ≤ w.heap.size) :
    ∃ v' w', (Builtin.append_ #[22, 22] ty #[v, .slice ao ls.length cp]).run Try.prog w = .ok v' w' ∧ OwnSt B w' v' (zs ++ ls) ∧ (∀ S : Nat → Prop, (∀ k, B ≤ k → S k) → Chg S w w') ∧ RowsSt B zs.length (zs ++ ls) w w' ∧ (capOfK v = 0 → Chg (fun _ => False) w w') ∧ (ls.length = 0 → capOfK v' = capOfK v) ∧ w'.heap.size = (if zs.length + ls.length ≤ capOfK v then w.heap.size else w.heap.size + 1) := by
  obtain ⟨v', w', hr, h2, h3⟩ := run_append_steps ty hown hst h0 hlen hB
  refine ⟨v', w', hr, h2, h3, ?_⟩
  obtain ⟨i0, hi, hz0, hz1, hz2⟩ := info_parts Try.info34
  have hrow := stepRow_len ls
  rw [← hz1] at hrow
  have key : Chg (fun _ => False) w w' → (ls.length = 0 → capOfK v' = capOfK v) → w'.heap.size = (if zs.length + ls.length ≤ capOfK v then w.heap.size else w.heap.size + 1) → RowsSt B zs.length (zs ++ ls) w w' ∧ (capOfK v = 0 → Chg (fun _ => False) w w') ∧ (ls.length = 0 → capOfK v' = capOfK v) ∧ w'.heap.size = (if zs.length + ls.length ≤ capOfK v then w.heap.size else w.heap.size + 1) := fun hc h h4 => ⟨RowsSt.of_chg hc, fun _ => hc, h, h4⟩
  have hcapv : zs.length ≤ capOfK v := by
    rcases hown.2 with ⟨rfl, hn⟩ | ⟨g, cap, cur, rfl, hbg, hg, hnc, hcm, hcs, htake⟩
    · rw [hn]; exact Nat.zero_le _
    · exact hnc
  cases ao with
  | none =>
    have hl := stepsAt_none hst
    subst hl
    have hcp := h0 rfl
    subst hcp
    have hr2 := run_append_owned_none (P := Try.prog) (w := w) B 22 ty 34 i0 12 Try.underlying22 hi v _ _ hown
    rw [show ([] : List StepB).length = 0 from rfl, hr2] at hr
    injection hr with hv hw
    subst hw
    exact key (Chg.refl _ _) (fun _ => by rw [← hv]) (by rw [if_pos (by simpa using hcapv)])
  | some ad =>
    have hnews := fun j u hj => stepsAt_row hst j u hj
    have hone := fun u hu => stepRow_one8 ls u hu
    by_cases hm : ls.length = 0
    · have hl : ls = [] := List.eq_nil_of_length_eq_zero hm
      subst hl
      rw [show ([] : List StepB).length = 0 from rfl] at hr
      rcases hown.2 with ⟨rfl, hn⟩ | ⟨g, cap, cur, rfl, hbg, hg, hnc, hcm, hcs, htake⟩
      · have hr2 : (Builtin.append_ #[22, 22] ty #[.slice none 0 0, .slice (some ad) 0 cp]).run Try.prog w = .ok (.slice none 0 0) w := by
          simp [Builtin.append_, run_underlying Try.underlying22, sizeOf, typeInfo, hi, Builtin.lenOf, Builtin.firstCells, loadCells, loadCellsFrom]
        rw [hr2] at hr
        injection hr with hv hw
        subst hw
        exact key (Chg.refl _ _) (fun _ => by rw [← hv]) (by rw [if_pos (by simpa using hcapv)])
      · have hfit : zs.length * i0.size + ([] : List Value).length ≤ cur.size := by rw [hz1, hcs]; simpa using Nat.mul_le_mul_right 12 hnc
        have hr2 := run_append_room (P := Try.prog) w 22 ty 34 i0 Try.underlying22 hi g zs.length cap cur hg ad 0 cp [] (by simp) (fun j u hj => by simp at hj) (fun u hu => by cases hu) hnc hfit
        rw [hr2] at hr
        injection hr with hv hw
        subst hw
        refine key ⟨rfl, rfl, rfl, by simp [World.setRow], fun k hk _ => ?_⟩ (fun _ => by rw [← hv]; rfl) (by rw [if_pos (by simpa using hcapv)]; simp [World.setRow])
        by_cases e : k = g
        · subst e
          rw [setRow_heap w k cur _ _ _ hg, hg]
          simp
        · exact setRow_other w g k _ e
    · rcases hown.2 with ⟨rfl, hn⟩ | ⟨g, cap, cur, rfl, hbg, hg, hnc, hcm, hcs, htake⟩
      · have hcz : capOfK (.slice none 0 0) = 0 := rfl
        have hr2 := run_append_nil (P := Try.prog) w 22 ty 34 i0 _ Try.underlying22 hi hz0 ad ls.length cp (stepRow ls) hrow hnews (by omega) (by omega) (by rw [hz2]; omega)
        rw [hr2] at hr
        injection hr with _ hw
        subst hw
        exact key (chg_drew_allocK _ _) (fun h => absurd h hm) (by rw [if_neg (by rw [hcz]; omega)]; simp)
      · by_cases hroom : zs.length + ls.length ≤ cap
        · have hfit : zs.length * i0.size + (stepRow ls).length ≤ cur.size := by rw [hrow, hz1, hcs, ← Nat.add_mul]; exact Nat.mul_le_mul_right _ hroom
          have hr2 := run_append_room (P := Try.prog) w 22 ty 34 i0 Try.underlying22 hi g zs.length cap cur hg ad ls.length cp (stepRow ls) hrow hnews hone hroom hfit
          rw [hr2] at hr
          injection hr with _ hw
          subst hw
          refine ⟨fun v2 zs2 hz2' ho2 => ?_, fun h => by have h2 : cap = 0 := h; omega, fun h => absurd h hm, by rw [if_pos (show zs.length + ls.length ≤ capOfK (Value.slice (some ⟨g, 0, none⟩) zs.length cap) from hroom)]; simp [World.setRow]⟩
          refine ⟨ho2.1, ?_⟩
          rcases ho2.2 with hn2 | ⟨g2, cap2, cur2, rfl, hbg2, hg2, hnc2, hcm2, hcs2, htake2⟩
          · exact .inl hn2
          · by_cases e : g2 = g
            · subst e
              have he : cur2 = cur := by rw [hg] at hg2; injection hg2 with hg2; injection hg2 with h1 _ _; exact h1.symm
              subst he
              have hcl : cur2.toList.length = cap * 12 := by rw [Array.length_toList, hcs]
              have hs12 : zs.length * i0.size + (stepRow ls).length = (zs.length + ls.length) * 12 := by rw [hrow, hz1, Nat.add_mul]
              have hr12 : (stepRow ls).length = ls.length * 12 := stepRow_len ls
              refine .inr ⟨g2, cap2, _, rfl, hbg2, setRow_heap w g2 cur2 _ _ _ hg, hnc2, hcm2, ?_, ?_⟩
              · rw [← hcs2]
                simp only [List.size_toArray, List.length_append, List.length_take, List.length_drop, hz1, hr12, hcl]
                rw [hcs]
                omega
              · rcases hz2' with hz2' | hz2'
                rotate_left
                · subst hz2'
                  have hn12 : zs.length * 12 ≤ cap * 12 := Nat.mul_le_mul_right 12 hnc
                  rw [hz1]
                  simp only [htake]
                  rw [stepRow_append]
                  have hl12 : (stepRow zs ++ stepRow ls).length = (zs ++ ls).length * 12 := by rw [← stepRow_append, stepRow_len]
                  rw [← hl12]
                  exact List.take_left
                rw [← htake2]
                have hz12 : zs2.length * 12 ≤ zs.length * 12 := Nat.mul_le_mul_right 12 hz2'
                have hn12 : zs.length * 12 ≤ cap * 12 := Nat.mul_le_mul_right 12 hnc
                simp only [List.append_assoc, hz1]
                rw [List.take_append_of_le_length (by rw [List.length_take, hcl, Nat.min_eq_left hn12]; exact hz12), List.take_take, Nat.min_eq_left hz12]
            · exact .inr ⟨g2, cap2, cur2, rfl, hbg2, (setRow_other w g g2 _ e).trans hg2, hnc2, hcm2, hcs2, htake2⟩
        · have holds : ∀ j u, (stepRow zs)[j]? = some u → w.cell? ((⟨g, 0, none⟩ : Addr).add j) = some u := hown.cells (g := g) rfl
          have hzl := hown.1
          rw [← hz1] at hzl
          have hr2 := run_append_grow (P := Try.prog) w 22 ty 34 i0 _ Try.underlying22 hi hz0 ⟨g, 0, none⟩ zs.length cap (stepRow zs) hzl holds ad ls.length cp (stepRow ls) hrow hnews (by omega) (by omega) (growslice_fits (by omega) (by rw [hz2]; omega))
          rw [hr2] at hr
          injection hr with _ hw
          subst hw
          exact key (chg_drew_allocK _ _) (fun h => absurd h hm) (by rw [if_neg (show ¬ zs.length + ls.length ≤ capOfK (Value.slice (some ⟨g, 0, none⟩) zs.length cap) from hroom)]; simp)
end Go.Proofs.Ytmmkopdcbiiedaa
