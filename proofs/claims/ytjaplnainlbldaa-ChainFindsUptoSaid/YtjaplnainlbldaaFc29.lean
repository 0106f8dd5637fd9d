/- Texts that the proof leans on, in one: ChRev, ChOk. -/
import Derived.Test.YtjaplnainlbldaaFc6
import Derived.Test.YtjaplnainlbldaaFc28
import Derived.Sort.OwnSorted
import Derived.Test.YtjaplnainlbldaaFc11
/- slices.Reverse at steps, of a row of the call's own. -/
namespace Go.Proofs.Ytjaplnainlbldaa
open Go.RowKit Go.Sort Go.Lib Go.Shelf

instance stepInh : Inhabited StepB := ⟨⟨noCred, (([], []), [])⟩⟩

theorem flat_steps (ls : List StepB) : (flatK stepCells 12 ls.toArray).toList = stepRow ls := by
 apply List.ext_getElem?
 intro t
 have hs : ls.toArray.size = ls.length := by simp
 by_cases ht : t < ls.length * 12
 ·have hj : t / 12 < ls.length := by omega
  have h1 := stepRow_get ls (t / 12) (t % 12) hj (Nat.mod_lt _ (by decide))
  rw [show t / 12 * 12 + t % 12 = t by omega] at h1
  rw [h1]
  have h2 := get_flatK stepCells 12 ls.toArray t (by rw [hs]; exact ht)
  have hsz : t < (flatK stepCells 12 ls.toArray).size := by rw [size_flatK, hs]; exact ht
  rw [getElem!_pos (flatK stepCells 12 ls.toArray) t hsz] at h2
  rw [Array.getElem?_toList, Array.getElem?_eq_getElem hsz, h2]
  rw [show ls.toArray[t / 12]! = ls[t / 12] by simp [hj]]
  have h12 : t % 12 < (stepCells ls[t / 12]).length := Nat.mod_lt _ (by decide)
  rw [List.getElem?_eq_getElem h12, getElem!_pos (stepCells ls[t / 12]) (t % 12) h12]
 ·rw [List.getElem?_eq_none (by simp; omega), List.getElem?_eq_none (by rw [stepRow_len]; omega)]

theorem take_putSt (cur F : Array Value) (h : F.size ≤ cur.size) : (putCells id 0 F cur).toList.take F.size = F.toList := by
 apply List.ext_getElem?
 intro j
 by_cases hj : j < F.size
 ·rw [List.getElem?_take_of_lt hj, Array.getElem?_toList]
  simp [putCells, hj, show j < cur.size by omega]
 ·rw [List.getElem?_take_eq_none (by omega), List.getElem?_eq_none (by simp; omega)]

theorem ch_rev {B : Nat} {w : World} {ao : Option Addr} {cap : Nat} {ls : List StepB} (h : OwnSt B w (.slice ao ls.length cap) ls) (hl : ls.length ≤ 4194304) :
  Calls Try.prog 82 #[.slice ao ls.length cap] w fun e w' => e = .returned (.tuple #[]) ∧ OwnSt B w' (.slice ao ls.length cap) ls.reverse ∧ Chg (fun i => (Value.slice ao ls.length cap).ownBlock = some i) w w' := by
 have hall := h
 rcases h.2 with ⟨he, h0⟩ | ⟨g, cap', cur, he, hg, hh, h1, h2, h3, h4⟩
 ·have : ls = [] := List.eq_nil_of_length_eq_zero h0
  subst this
  cases he
  have hcon := AnyQ.slices_Reverse_empty Try.revSt none 0 w
  change Calls Try.prog 82 _ _ _ at hcon
  refine hcon.mono ?_
  rintro e w' ⟨rfl, rfl⟩
  exact ⟨rfl, hall, Chg.refl _ _⟩
 ·cases he
  have hs : ls.toArray.size = ls.length := by simp
  have hF := flat_steps ls
  have hFs : (flatK stepCells 12 ls.toArray).size = ls.length * 12 := by rw [size_flatK, hs]
  have hH : HoldsK stepCells 12 w g 0 ls.toArray := by
   intro t ht
   refine ⟨?_, by simp [World.frozen?, hh]⟩
   have h5 := hall.cells (g := g) rfl t (flatK stepCells 12 ls.toArray)[t]! (by rw [← hF, Array.getElem?_toList, Array.getElem?_eq_getElem ht, getElem!_pos (flatK stepCells 12 ls.toArray) t ht])
   rw [add_off, Nat.zero_add] at h5
   rw [Nat.zero_add, h5]
   rfl
  have hcon := AnyQ.slices_Reverse Try.revSt 12 Try.isAgg43 Try.sizeOf43 stepCells (fun _ => rfl) (fun x v hv => step_one x v hv) g 0 cap ls.toArray w hH (by rw [hs]; omega)
  change Calls Try.prog 82 _ _ _ at hcon
  rw [hs] at hcon
  refine hcon.mono ?_
  rintro e w' ⟨rfl, n, rfl⟩
  have hrev : ls.toArray.reverse = ls.reverse.toArray := by simp
  have hb : (putRowK stepCells 12 (Sort.ahead w n) g 0 ls.toArray.reverse).heap[g]? = some (.cells (putCells id 0 (flatK stepCells 12 ls.toArray.reverse) cur) 43 (0, 0)) := by
   simp [putRowK, putRow, mapBlock, Sort.ahead, Array.getElem?_modify, hh, onCells]
  refine ⟨rfl, ⟨by rw [stepRow_len, List.length_reverse], .inr ⟨g, cap, _, by rw [List.length_reverse], hg, hb, by rw [List.length_reverse]; exact h1, h2, by simp [putCells, h3], ?_⟩⟩, ⟨rfl, rfl, rfl, by simp [putRowK, putRow, mapBlock, Sort.ahead], fun k hk hkn => ?_⟩⟩
  ·rw [hrev]
   have e1 : (flatK stepCells 12 ls.reverse.toArray).size = ls.reverse.length * 12 := by rw [size_flatK]; simp
   rw [← e1, take_putSt _ _ (by rw [e1, h3, List.length_reverse]; exact Nat.mul_le_mul_right 12 h1)]
   exact flat_steps ls.reverse
  ·have : g ≠ k := fun e => hkn (by rw [← e]; rfl)
   simp [putRowK, putRow, mapBlock, Sort.ahead, Array.getElem?_modify, this]
end Go.Proofs.Ytjaplnainlbldaa

/- What is kept is a tight chain: plain words, nothing of the program's text. -/
namespace Go.Proofs.Ytjaplnainlbldaa
open Go.RowKit

theorem getD_lt {S : List StepB} {i : Nat} (h : i < S.length) : S.getD i noStC = S[i] := by rw [List.getD_eq_getElem?_getD, List.getElem?_eq_getElem h]; rfl

/-- The kept places, from the first one on. -/
structure Kept (S : List StepB) (last : Nat) (ps : List Nat) : Prop where
 inc : ps.Pairwise (fun a b => a < b)
 le : ∀ i ∈ ps, i ≤ last
 end_ : last ∈ ps
 live : ∀ y ∈ ps, S[y]?.map (·.c.kind) = some 1 ∨ ∃ w ∈ waysG S (S.getD y noStC) y, w.1 ∈ ps ∧ w.2 ∈ ps
 need : ∀ i ∈ ps, i ≠ last → ∃ y ∈ ps, i < y ∧ waysG S (S.getD y noStC) y ≠ [] ∧ ∀ w ∈ waysG S (S.getD y noStC) y, w.1 ∈ ps → w.2 ∈ ps → takesW i w = true

theorem kept_of {ls : List CredB} {S : List StepB} (hg : Good ls S) {last : Nat} (hl : last < S.length) : Kept S last (tightI S last (last + 1)).2.reverse := by
 have h := tightP hg hl (last + 1) (Nat.le_refl _)
 rw [Nat.sub_self] at h
 refine ⟨List.pairwise_reverse.2 h.dec, fun i hi => (h.rng i (List.mem_reverse.1 hi)).2, List.mem_reverse.2 (h.end_ (Nat.zero_le _)), fun y hy => ?_, fun i hi hne => ?_⟩
 ·have hy := List.mem_reverse.1 hy
  have hyl : y < S.length := by have := (h.rng y hy).2; omega
  rcases waysG_ne hg hyl with k | k
  ·left
   rw [List.getElem?_eq_getElem hyl, Option.map_some, k]
  ·right
   rw [← getD_lt hyl] at k
   have hne := h.live y hy k
   obtain ⟨w, l, e⟩ := List.exists_cons_of_ne_nil hne
   have hw : w ∈ (tightI S last (last + 1)).1.W.getD y [] := by rw [e]; simp
   obtain ⟨h1, h2, h3⟩ := (h.ways y hy w).1 hw
   exact ⟨w, h1, List.mem_reverse.2 (h2 (Nat.zero_le _)), List.mem_reverse.2 (h3 (Nat.zero_le _))⟩
 ·obtain ⟨y, hy, hlt, hyn, hw⟩ := h.need i (List.mem_reverse.1 hi) hne
  exact ⟨y, List.mem_reverse.2 hy, hlt, hyn, fun w hw1 h1 h2 => hw w hw1 ⟨fun _ => List.mem_reverse.1 h1, fun _ => List.mem_reverse.1 h2⟩⟩

/-- The facts at places of a row ahead of y, of those that lie in ps. -/
theorem facts_of {S : List StepB} {ps : List Nat} (hlt : ∀ i ∈ ps, i < S.length) (f : FactB) : f ∈ factsK (stepsOf S ps) ↔ ∃ i ∈ ps, (factsK S)[i]? = some f := by
 unfold factsK stepsOf
 rw [List.map_map, List.mem_map]
 constructor
 ·rintro ⟨i, hi, rfl⟩
  refine ⟨i, hi, ?_⟩
  rw [List.getElem?_map, List.getElem?_eq_getElem (hlt i hi), Function.comp, getD_lt (hlt i hi)]
  rfl
 ·rintro ⟨i, hi, h⟩
  refine ⟨i, hi, ?_⟩
  rw [List.getElem?_map, List.getElem?_eq_getElem (hlt i hi)] at h
  rw [Function.comp, getD_lt (hlt i hi)]
  simpa using h

theorem take_of_inc {ps : List Nat} (h : ps.Pairwise (fun a b => a < b)) {j : Nat} (hj : j < ps.length) (x : Nat) : x ∈ ps.take j ↔ x ∈ ps ∧ x < ps[j] := by
 rw [List.pairwise_iff_getElem] at h
 constructor
 ·intro hx
  obtain ⟨i, hi, rfl⟩ := List.getElem_of_mem hx
  rw [List.length_take] at hi
  rw [List.getElem_take]
  exact ⟨List.getElem_mem _, h i j (by omega) hj (by omega)⟩
 ·rintro ⟨hx, hlt⟩
  obtain ⟨i, hi, rfl⟩ := List.getElem_of_mem hx
  have hij : i < j := by
   rcases Nat.lt_trichotomy i j with e | e | e
   ·exact e
   ·subst e; omega
   ·have := h j i hj hi e; omega
  refine List.mem_iff_getElem.2 ⟨i, by rw [List.length_take]; omega, ?_⟩
  rw [List.getElem_take]

/-- The kept steps. -/
theorem kept_tight {ls : List CredB} {S : List StepB} (hg : Good ls S) {last : Nat} (hl : last < S.length) {ps : List Nat} (h : Kept S last ps) :
  standsK (stepsOf S ps) = true ∧ tightK (stepsOf S ps) = true ∧ ∃ R, stepsOf S ps = R ++ [S[last]] := by
 have hlt : ∀ i ∈ ps, i < S.length := fun i hi => Nat.lt_of_le_of_lt (h.le i hi) hl
 have hlen : (stepsOf S ps).length = ps.length := by simp [stepsOf]
 have hget : ∀ j (hj : j < (stepsOf S ps).length), (stepsOf S ps)[j] = S[ps[j]'(by omega)]'(hlt _ (List.getElem_mem _)) := fun j hj => by
  simp only [stepsOf, List.getElem_map]
  exact getD_lt _
 have hfac : ∀ j (hj : j < ps.length) f, f ∈ factsK ((stepsOf S ps).take j) ↔ ∃ i, i ∈ ps ∧ i < ps[j] ∧ (factsK S)[i]? = some f := fun j hj f => by
  have e : (stepsOf S ps).take j = stepsOf S (ps.take j) := by unfold stepsOf; rw [List.map_take]
  rw [e, facts_of (fun i hi => hlt i (List.mem_of_mem_take hi))]
  constructor
  ·rintro ⟨i, hi, hf⟩
   obtain ⟨h1, h2⟩ := (take_of_inc h.inc hj i).1 hi
   exact ⟨i, h1, h2, hf⟩
  ·rintro ⟨i, h1, h2, hf⟩
   exact ⟨i, (take_of_inc h.inc hj i).2 ⟨h1, h2⟩, hf⟩
 have hahead : ∀ j (hj : j < ps.length) f, f ∈ factsK ((stepsOf S ps).take j) → f ∈ factsK (S.take (ps[j]'hj)) := fun j hj f hf => by
  obtain ⟨i, _, h2, h3⟩ := (hfac j hj f).1 hf
  rw [factsK_take]
  obtain ⟨q, e⟩ := List.getElem?_eq_some_iff.1 h3
  exact List.mem_iff_getElem.2 ⟨i, by rw [List.length_take]; omega, by rw [List.getElem_take]; exact e⟩
 have hpt : ∀ j (hj : j < ps.length) i, i < ps[j] → (AtP S (· ∈ factsK ((stepsOf S ps).take j)) i ↔ i ∈ ps) := fun j hj i hi => by
  have hil : i < (factsK S).length := by rw [factsK_len]; have := hlt _ (List.getElem_mem hj); omega
  constructor
  ·rintro ⟨f, h1, h2⟩
   obtain ⟨i2, q1, q2, q3⟩ := (hfac j hj f).1 h2
   have e1 := idx_of_get hg.nd h1
   have e2 := idx_of_get hg.nd q3
   rw [← e1, e2]
   exact q1
  ·intro hip
   exact ⟨_, List.getElem?_eq_getElem hil, (hfac j hj _).2 ⟨i, hip, hi, List.getElem?_eq_getElem hil⟩⟩
 have hst : ∀ j (hj : j < (stepsOf S ps).length), followsK (stepsOf S ps)[j] (factsK ((stepsOf S ps).take j)) = true := fun j hj => by
  have hj2 : j < ps.length := by omega
  have hpj := hlt _ (List.getElem_mem hj2)
  rw [folK_iff, hget j hj]
  refine (waysG_serve hg hpj (fun f hf => hahead j hj2 f hf)).2 ?_
  rcases h.live _ (List.getElem_mem hj2) with k | ⟨w, hw, h1, h2⟩
  ·left
   rw [List.getElem?_eq_getElem hpj, Option.map_some] at k
   exact Option.some.inj k
  ·right
   rw [getD_lt hpj] at hw
   have hwl := waysG_lt hg hpj w hw
   exact ⟨w, hw, (hpt j hj2 _ hwl.1).2 h1, (hpt j hj2 _ hwl.2).2 h2⟩
 have hd : ∀ i j (hi : i < (stepsOf S ps).length) (hj : j < (stepsOf S ps).length), j < i → (stepsOf S ps)[i].f ≠ (stepsOf S ps)[j].f := fun i j hi hj hji e => by
  rw [hget i hi, hget j hj] at e
  have hinc := (List.pairwise_iff_getElem.1 h.inc) j i (by omega) (by omega) hji
  have e1 : (factsK S)[ps[i]'(by omega)]? = some (S[ps[i]'(by omega)]'(hlt _ (List.getElem_mem _))).f := by
   unfold factsK
   rw [List.getElem?_map, List.getElem?_eq_getElem (hlt _ (List.getElem_mem _))]
   rfl
  have e2 : (factsK S)[ps[j]'(by omega)]? = some (S[ps[j]'(by omega)]'(hlt _ (List.getElem_mem _))).f := by
   unfold factsK
   rw [List.getElem?_map, List.getElem?_eq_getElem (hlt _ (List.getElem_mem _))]
   rfl
  have q1 := idx_of_get hg.nd e1
  have q2 := idx_of_get hg.nd e2
  rw [e] at q1
  omega
 have hne : ps ≠ [] := fun e => by have := h.end_; rw [e] at this; cases this
 have hlast : ps[ps.length - 1]'(by have := List.length_pos_iff.2 hne; omega) = last := by
  obtain ⟨i, hi, e⟩ := List.getElem_of_mem h.end_
  have hpos := List.length_pos_iff.2 hne
  by_cases q : i = ps.length - 1
  ·subst q; exact e
  ·have h1 := (List.pairwise_iff_getElem.1 h.inc) i (ps.length - 1) hi (by omega) (by omega)
   have h2 := h.le _ (List.getElem_mem (show ps.length - 1 < ps.length by omega))
   omega
 refine ⟨decide_eq_true hst, (tightK_iff hd hst).2 (fun i hi => ?_), ?_⟩
 ·have hi1 : i < ps.length := by omega
  have hnl : ps[i] ≠ last := fun e => by
   have h1 := (List.pairwise_iff_getElem.1 h.inc) i (ps.length - 1) hi1 (by omega) (by omega)
   rw [hlast] at h1
   omega
  obtain ⟨y, hy, hiy, hyn, hw⟩ := h.need _ (List.getElem_mem hi1) hnl
  obtain ⟨j, hj, rfl⟩ := List.getElem_of_mem hy
  have hjl : j < (stepsOf S ps).length := by omega
  have hij : i < j := by
   rcases Nat.lt_trichotomy i j with e | e | e
   ·exact e
   ·subst e; omega
   ·have := (List.pairwise_iff_getElem.1 h.inc) j i hj hi1 e; omega
  have hpj := hlt _ (List.getElem_mem hj)
  have hnd : (factsK ((stepsOf S ps).take j)).Nodup := by rw [factsK_take]; exact (factsK_nd hd).sublist (List.take_sublist _ _)
  have hgi : (factsK ((stepsOf S ps).take j))[i]? = some (stepsOf S ps)[i].f := by
   unfold factsK
   rw [List.getElem?_map, List.getElem?_take_of_lt hij, List.getElem?_eq_getElem (by omega)]
   rfl
  refine ⟨j, hjl, hjl, (common_needed hnd (folK_iff.1 (hst j hjl)) hgi).1 ?_⟩
  rw [hget j hjl]
  intro hfol
  have hgi2 : (factsK S)[ps[i]]? = some (stepsOf S ps)[i].f := by
   rw [hget i (by omega)]
   unfold factsK
   rw [List.getElem?_map, List.getElem?_eq_getElem (hlt _ (List.getElem_mem _))]
   rfl
  have hpn : ∀ p, p < ps[j] → AtP S (fun f => f ∈ factsK ((stepsOf S ps).take j) ∧ f ≠ (stepsOf S ps)[i].f) p → p ∈ ps ∧ p ≠ ps[i] := by
   rintro p hp ⟨f, h1, h2, h3⟩
   refine ⟨(hpt j hj p hp).1 ⟨f, h1, h2⟩, fun e => ?_⟩
   subst e
   rw [hgi2] at h1
   cases h1
   exact h3 rfl
  rcases (waysG_serve hg hpj (fun f hf => hahead j hj f hf.1)).1 hfol with k | ⟨w, hw1, h1, h2⟩
  ·rw [getD_lt hpj] at hyn
   exact hyn (waysG_none k)
  ·have hwl := waysG_lt hg hpj w hw1
   obtain ⟨a1, a2⟩ := hpn _ hwl.1 h1
   obtain ⟨b1, b2⟩ := hpn _ hwl.2 h2
   rw [← getD_lt hpj] at hw1
   rcases takesW_iff.1 (hw w hw1 a1 b1) with e | e
   ·exact a2 e
   ·exact b2 e
 ·refine ⟨stepsOf S (ps.take (ps.length - 1)), ?_⟩
  have hpos := List.length_pos_iff.2 hne
  have e : ps = ps.take (ps.length - 1) ++ [last] := by
   have h1 := List.take_append_drop (ps.length - 1) ps
   rw [List.drop_eq_getElem_cons (by omega), hlast, List.drop_of_length_le (by omega)] at h1
   exact h1.symm
  conv => lhs; rw [e]
  unfold stepsOf
  rw [List.map_append, List.map_singleton, getD_lt hl]
end Go.Proofs.Ytjaplnainlbldaa
