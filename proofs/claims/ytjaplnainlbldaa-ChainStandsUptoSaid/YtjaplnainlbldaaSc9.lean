/- Texts that the proof leans on, in one: ChTight, PmMap, OpenB. -/
import Derived.Test.YtjaplnainlbldaaSc8
import Derived.Test.YtjaplnainlbldaaSc4
import Derived.Test.YtjaplnainlbldaaSc6
import Derived.Maps.OwnSet
import Derived.Maps.RangeWalk
import Derived.WalkSpells
import Derived.Test.YtjaplnainlbldaaRows
import Derived.Test.YtjaplnainlbldaaSc2
import Derived.ProofKit
import Derived.OpenShut
import Derived.ShutString
import Derived.ChangeOld
import Derived.Deep.Slices
import Derived.Deep.Fields
import Derived.ChangeSame
/- Which steps of a growth a tight chain keeps: plain words, nothing of the program's text. -/
namespace Go.Proofs.Ytjaplnainlbldaa
open Go.RowKit

/-- A way to a step: the places of both facts that it takes. -/
abbrev WayB := Nat × Nat
def takesW (i : Nat) (w : WayB) : Bool := decide (w.1 = i) || decide (w.2 = i)
theorem takesW_iff {i : Nat} {w : WayB} : takesW i w = true ↔ w.1 = i ∨ w.2 = i := by
  unfold takesW
  rw [Bool.or_eq_true, decide_eq_true_eq, decide_eq_true_eq]
theorem takesW_no {i : Nat} {w : WayB} : takesW i w = false ↔ w.1 ≠ i ∧ w.2 ≠ i := by
  unfold takesW
  rw [Bool.or_eq_false_iff, decide_eq_false_iff_not, decide_eq_false_iff_not]

/-- The way by a place of B, if there is one ahead of i. -/
def linkW (S : List StepB) (s : StepB) (i b : Nat) : Option WayB :=
  if ((whoAt S b, s.c.w2), s.f.2) ∈ factsK S ∧ max b ((factsK S).idxOf ((whoAt S b, s.c.w2), s.f.2)) < i then some (b, (factsK S).idxOf ((whoAt S b, s.c.w2), s.f.2)) else none
/-- All ways to a step at a place. -/
def waysG (S : List StepB) (s : StepB) (i : Nat) : List WayB :=
  if s.c.kind = 2 then [((factsK S).idxOf (s.c.b, s.f.2), (factsK S).idxOf (s.c.b, s.f.2))]
  else if s.c.kind = 3 then (placesK (factsK S) s.c.b).filterMap (linkW S s i)
  else if s.c.kind = 4 then [((factsK S).idxOf (s.c.b, s.f.2), (factsK S).idxOf (s.c.c, s.f.2))]
  else []

theorem idx_take {S : List StepB} (hn : (factsK S).Nodup) {i : Nat} {f : FactB} (h : f ∈ factsK (S.take i)) : (factsK S).idxOf f < i ∧ f ∈ factsK S := by
  rw [factsK_take] at h
  obtain ⟨j, hj, rfl⟩ := List.getElem_of_mem h
  rw [List.length_take] at hj
  rw [List.getElem_take]
  exact ⟨by rw [hn.idxOf_getElem j (by omega)]; omega, List.getElem_mem _⟩

def AtP (S : List StepB) (P : FactB → Prop) (i : Nat) : Prop := ∃ f, (factsK S)[i]? = some f ∧ P f
theorem atP_idx {S : List StepB} {P : FactB → Prop} {f : FactB} (h : f ∈ factsK S) : AtP S P ((factsK S).idxOf f) ↔ P f := by
  unfold AtP
  rw [idx_get h]
  exact ⟨fun ⟨g, h1, h2⟩ => by cases h1; exact h2, fun h => ⟨f, rfl, h⟩⟩

theorem waysG_serve {ls : List CredB} {S : List StepB} (hg : Good ls S) {i : Nat} (hi : i < S.length) {P : FactB → Prop} (hP : ∀ f, P f → f ∈ factsK (S.take i)) :
    FolK S[i] P ↔ S[i].c.kind = 1 ∨ ∃ w ∈ waysG S S[i] i, AtP S P w.1 ∧ AtP S P w.2 := by
  have hst := hg.st i hi
  obtain ⟨hr, hh, hb⟩ := hst
  generalize S[i] = s at *
  unfold FolK Brings waysG
  rcases isCred_kind hr with k | k | k | k
  · refine ⟨fun _ => .inl k, fun _ => ⟨hr, hh, .inl ⟨k, ?_⟩⟩⟩
    rcases hb with ⟨_, h⟩ | ⟨h, _⟩ | ⟨h, _⟩ | ⟨h, _⟩
    · exact h
    · omega
    · omega
    · omega
  · rw [if_pos k]
    rcases hb with ⟨h, _⟩ | ⟨_, hb⟩ | ⟨h, _⟩ | ⟨h, _⟩
    · omega
    · have hm := (idx_take hg.nd hb).2
      constructor
      · rintro ⟨_, _, (⟨h, _⟩ | ⟨_, h⟩ | ⟨h, _⟩ | ⟨h, _⟩)⟩
        · omega
        · exact .inr ⟨_, List.mem_singleton.2 rfl, (atP_idx hm).2 h, (atP_idx hm).2 h⟩
        · omega
        · omega
      · rintro (h | ⟨w, hw, h1, _⟩)
        · omega
        · rw [List.mem_singleton] at hw
          subst hw
          exact ⟨hr, hh, .inr (.inl ⟨k, (atP_idx hm).1 h1⟩)⟩
    · omega
    · omega
  · rw [if_neg (by omega), if_pos k]
    constructor
    · rintro ⟨_, _, (⟨h, _⟩ | ⟨h, _⟩ | ⟨_, b, h1, h2⟩ | ⟨h, _⟩)⟩
      · omega
      · omega
      · obtain ⟨i1, m1⟩ := idx_take hg.nd (hP _ h1)
        obtain ⟨i2, m2⟩ := idx_take hg.nd (hP _ h2)
        have hw := whoAt_eq (idx_get m1)
        refine .inr ⟨((factsK S).idxOf (s.c.b, b), (factsK S).idxOf ((b, s.c.w2), s.f.2)), List.mem_filterMap.2 ⟨_, placesK_mem.2 ⟨b, idx_get m1⟩, ?_⟩, (atP_idx m1).2 h1, (atP_idx m2).2 h2⟩
        unfold linkW
        rw [hw, if_pos ⟨m2, by omega⟩]
      · omega
    · rintro (h | ⟨w, hw, h1, h2⟩)
      · omega
      · obtain ⟨j, hj, hw⟩ := List.mem_filterMap.1 hw
        obtain ⟨b, hb⟩ := placesK_mem.1 hj
        unfold linkW at hw
        rw [whoAt_eq hb] at hw
        split at hw
        · rename_i hc
          cases hw
          obtain ⟨f, q1, q2⟩ := h1
          simp only at q1
          rw [hb] at q1
          cases q1
          exact ⟨hr, hh, .inr (.inr (.inl ⟨k, b, q2, (atP_idx hc.1).1 h2⟩))⟩
        · cases hw
  · rw [if_neg (by omega), if_neg (by omega), if_pos k]
    rcases hb with ⟨h, _⟩ | ⟨h, _⟩ | ⟨h, _⟩ | ⟨_, hb, hb2⟩
    · omega
    · omega
    · omega
    · have hm := (idx_take hg.nd hb).2
      have hm2 := (idx_take hg.nd hb2).2
      constructor
      · rintro ⟨_, _, (⟨h, _⟩ | ⟨h, _⟩ | ⟨h, _⟩ | ⟨_, h1, h2⟩)⟩
        · omega
        · omega
        · omega
        · exact .inr ⟨_, List.mem_singleton.2 rfl, (atP_idx hm).2 h1, (atP_idx hm2).2 h2⟩
      · rintro (h | ⟨w, hw, h1, h2⟩)
        · omega
        · rw [List.mem_singleton] at hw
          subst hw
          exact ⟨hr, hh, .inr (.inr (.inr ⟨k, (atP_idx hm).1 h1, (atP_idx hm2).1 h2⟩))⟩

theorem waysG_lt {ls : List CredB} {S : List StepB} (hg : Good ls S) {i : Nat} (hi : i < S.length) : ∀ w ∈ waysG S S[i] i, w.1 < i ∧ w.2 < i := by
  have hst := hg.st i hi
  obtain ⟨hr, hh, hb⟩ := hst
  generalize S[i] = s at *
  intro w hw
  unfold waysG at hw
  rcases isCred_kind hr with k | k | k | k
  · rw [if_neg (by omega), if_neg (by omega), if_neg (by omega)] at hw
    cases hw
  · rw [if_pos k, List.mem_singleton] at hw
    subst hw
    rcases hb with ⟨h, _⟩ | ⟨_, hb⟩ | ⟨h, _⟩ | ⟨h, _⟩
    · omega
    · exact ⟨(idx_take hg.nd hb).1, (idx_take hg.nd hb).1⟩
    · omega
    · omega
  · rw [if_neg (by omega), if_pos k] at hw
    obtain ⟨j, hj, hw⟩ := List.mem_filterMap.1 hw
    unfold linkW at hw
    split at hw
    · rename_i hc
      cases hw
      simp only
      omega
    · cases hw
  · rw [if_neg (by omega), if_neg (by omega), if_pos k, List.mem_singleton] at hw
    subst hw
    rcases hb with ⟨h, _⟩ | ⟨h, _⟩ | ⟨h, _⟩ | ⟨_, hb, hb2⟩
    · omega
    · omega
    · omega
    · exact ⟨(idx_take hg.nd hb).1, (idx_take hg.nd hb2).1⟩

theorem waysG_none {S : List StepB} {s : StepB} {i : Nat} (h : s.c.kind = 1) : waysG S s i = [] := by
  unfold waysG
  rw [if_neg (by omega), if_neg (by omega), if_neg (by omega)]
theorem waysG_ne {ls : List CredB} {S : List StepB} (hg : Good ls S) {i : Nat} (hi : i < S.length) : S[i].c.kind = 1 ∨ waysG S S[i] i ≠ [] := by
  rcases (waysG_serve hg hi (fun _ h => h)).1 (hg.st i hi) with h | ⟨w, hw, _⟩
  · exact .inl h
  · refine .inr (fun e => ?_)
    rw [e] at hw
    cases hw
theorem waysG_len (S : List StepB) (s : StepB) (i : Nat) : (waysG S s i).length ≤ S.length + 1 := by
  unfold waysG
  split
  · simp
  · split
    · have h1 := List.length_filterMap_le (linkW S s i) (placesK (factsK S) s.c.b)
      have h2 := placesK_len (factsK S) s.c.b
      rw [factsK_len] at h2
      omega
    · split <;> simp

/-- Kept steps: the ways to each that are left, and to which steps a way may take each place. -/
structure KeptB where
  W : List (List WayB)
  K : List (List Nat)

def addAt (K : List (List Nat)) (j i : Nat) : List (List Nat) := K.set j (K.getD j [] ++ [i])
def takerW (i : Nat) (K : List (List Nat)) (w : WayB) : List (List Nat) := addAt (addAt K w.1 i) w.2 i
def keepK (k : KeptB) (i : Nat) (ws : List WayB) : KeptB := ⟨k.W.set i ws, ws.foldl (takerW i) k.K⟩
def needsK (k : KeptB) (i : Nat) : Bool := (k.K.getD i []).any (fun y => (k.W.getD y []).all (takesW i))
def dropAt (i : Nat) (W : List (List WayB)) (y : Nat) : List (List WayB) := W.set y ((W.getD y []).filter (fun w => !takesW i w))
def dropK (k : KeptB) (i : Nat) : KeptB := ⟨(k.K.getD i []).foldl (dropAt i) k.W, k.K⟩

theorem addAt_len (K : List (List Nat)) (j i : Nat) : (addAt K j i).length = K.length := by simp [addAt]
theorem takerW_len (i : Nat) (K : List (List Nat)) (w : WayB) : (takerW i K w).length = K.length := by simp [takerW, addAt_len]
theorem takersF_len (i : Nat) : ∀ (ws : List WayB) (K : List (List Nat)), (ws.foldl (takerW i) K).length = K.length
  | [], _ => rfl
  | w :: ws, K => by rw [List.foldl_cons, takersF_len i ws, takerW_len]
theorem dropAt_len (i : Nat) (W : List (List WayB)) (y : Nat) : (dropAt i W y).length = W.length := by simp [dropAt]
theorem dropsF_len (i : Nat) : ∀ (ys : List Nat) (W : List (List WayB)), (ys.foldl (dropAt i) W).length = W.length
  | [], _ => rfl
  | y :: ys, W => by rw [List.foldl_cons, dropsF_len i ys, dropAt_len]

theorem addAt_get {K : List (List Nat)} {j i : Nat} (hj : j < K.length) (p : Nat) : (addAt K j i).getD p [] = if p = j then K.getD p [] ++ [i] else K.getD p [] := by
  unfold addAt
  rw [List.getD_eq_getElem?_getD, List.getElem?_set]
  by_cases e : p = j
  · subst e
    rw [if_pos rfl, if_pos hj, if_pos rfl]
    rfl
  · rw [if_neg (fun x => e x.symm), if_neg e, List.getD_eq_getElem?_getD]
theorem addAt_mem {K : List (List Nat)} {j i : Nat} (hj : j < K.length) (p y : Nat) : y ∈ (addAt K j i).getD p [] ↔ y ∈ K.getD p [] ∨ (p = j ∧ y = i) := by
  rw [addAt_get hj]
  split
  · rename_i h
    simp [h]
  · rename_i h
    simp [h]
theorem takersF_mem {i : Nat} (p y : Nat) : ∀ (ws : List WayB) (K : List (List Nat)), (∀ w ∈ ws, w.1 < K.length ∧ w.2 < K.length) → (y ∈ (ws.foldl (takerW i) K).getD p [] ↔ y ∈ K.getD p [] ∨ (y = i ∧ ∃ w ∈ ws, takesW p w = true))
  | [], K, _ => by simp
  | w :: ws, K, h => by
    obtain ⟨h1, h2⟩ := h w (by simp)
    rw [List.foldl_cons, takersF_mem p y ws _ (fun x hx => by rw [takerW_len]; exact h x (by simp [hx]))]
    unfold takerW
    rw [addAt_mem (by rw [addAt_len]; exact h2), addAt_mem h1]
    constructor
    · rintro (((h | ⟨h, h'⟩) | ⟨h, h'⟩) | ⟨h, x, hx, hx2⟩)
      · exact .inl h
      · exact .inr ⟨h', w, by simp, takesW_iff.2 (.inl h.symm)⟩
      · exact .inr ⟨h', w, by simp, takesW_iff.2 (.inr h.symm)⟩
      · exact .inr ⟨h, x, by simp [hx], hx2⟩
    · rintro (hk | ⟨hk, x, hx, hx2⟩)
      · exact .inl (.inl (.inl hk))
      · rcases List.mem_cons.1 hx with rfl | hx
        · rcases takesW_iff.1 hx2 with e | e
          · exact .inl (.inl (.inr ⟨e.symm, hk⟩))
          · exact .inl (.inr ⟨e.symm, hk⟩)
        · exact .inr ⟨hk, x, hx, hx2⟩

theorem dropAt_get {i : Nat} {W : List (List WayB)} (y p : Nat) : (dropAt i W y).getD p [] = if p = y then (W.getD p []).filter (fun w => !takesW i w) else W.getD p [] := by
  unfold dropAt
  rw [List.getD_eq_getElem?_getD, List.getElem?_set]
  by_cases e : p = y
  · subst e
    rw [if_pos rfl, if_pos rfl]
    by_cases hl : p < W.length
    · rw [if_pos hl]
      rfl
    · rw [if_neg hl, List.getD_eq_getElem?_getD, List.getElem?_eq_none (by omega)]
      rfl
  · rw [if_neg (fun x => e x.symm), if_neg e, List.getD_eq_getElem?_getD]
theorem dropsF_get {i : Nat} (p : Nat) : ∀ (ys : List Nat) (W : List (List WayB)), (ys.foldl (dropAt i) W).getD p [] = if p ∈ ys then (W.getD p []).filter (fun w => !takesW i w) else W.getD p []
  | [], W => by simp
  | y :: ys, W => by
    rw [List.foldl_cons, dropsF_get p ys, dropAt_get]
    by_cases e : p = y
    · subst e
      simp only [if_pos, List.mem_cons, true_or]
      split
      · rw [List.filter_filter]; simp
      · rfl
    · rw [if_neg e]
      simp only [List.mem_cons, e, false_or]

def noStC : StepB := ⟨noCred, (([], []), [])⟩
/-- The kept state and the kept places when so many places have been asked, from the end on. -/
def tightI (S : List StepB) (last : Nat) : Nat → KeptB × List Nat
  | 0 => (⟨List.replicate (last + 1) [], List.replicate (last + 1) []⟩, [])
  | n + 1 => if last - n < last ∧ needsK (tightI S last n).1 (last - n) = false then (dropK (tightI S last n).1 (last - n), (tightI S last n).2)
    else (keepK (tightI S last n).1 (last - n) (waysG S (S.getD (last - n) noStC) (last - n)), (tightI S last n).2 ++ [last - n])
theorem tightI_drop {S : List StepB} {last n : Nat} (h1 : last - n < last) (h2 : needsK (tightI S last n).1 (last - n) = false) : tightI S last (n + 1) = (dropK (tightI S last n).1 (last - n), (tightI S last n).2) := by
  rw [tightI, if_pos ⟨h1, h2⟩]
theorem tightI_keep {S : List StepB} {last n : Nat} (h : ¬ (last - n < last ∧ needsK (tightI S last n).1 (last - n) = false)) : tightI S last (n + 1) = (keepK (tightI S last n).1 (last - n) (waysG S (S.getD (last - n) noStC) (last - n)), (tightI S last n).2 ++ [last - n]) := by
  rw [tightI, if_neg h]

def stepsOf (S : List StepB) (ks : List Nat) : List StepB := ks.map (fun i => S.getD i noStC)
/-- The tight chain. -/
def tightG (S : List StepB) (last : Nat) : List StepB := (stepsOf S (tightI S last (last + 1)).2).reverse

/-- No decided place that a way takes has been dropped. -/
def alive (ks : List Nat) (m : Nat) (w : WayB) : Prop := (m ≤ w.1 → w.1 ∈ ks) ∧ (m ≤ w.2 → w.2 ∈ ks)
theorem alive_same {ks ks' : List Nat} {m : Nat} (h : ∀ p, m ≤ p → (p ∈ ks ↔ p ∈ ks')) (w : WayB) : alive ks m w ↔ alive ks' m w :=
  ⟨fun ⟨h1, h2⟩ => ⟨fun hm => (h _ hm).1 (h1 hm), fun hm => (h _ hm).1 (h2 hm)⟩, fun ⟨h1, h2⟩ => ⟨fun hm => (h _ hm).2 (h1 hm), fun hm => (h _ hm).2 (h2 hm)⟩⟩

/-- What is so on the way. -/
structure TightP (S : List StepB) (last m : Nat) (k : KeptB) (ks : List Nat) : Prop where
  lenW : k.W.length = last + 1
  lenK : k.K.length = last + 1
  dec : ks.Pairwise (fun a b => b < a)
  rng : ∀ i ∈ ks, m ≤ i ∧ i ≤ last
  end_ : m ≤ last → last ∈ ks
  ways : ∀ y ∈ ks, ∀ w, w ∈ k.W.getD y [] ↔ w ∈ waysG S (S.getD y noStC) y ∧ alive ks m w
  takers : ∀ i, i ≤ last → ∀ y, y ∈ k.K.getD i [] ↔ y ∈ ks ∧ ∃ w ∈ waysG S (S.getD y noStC) y, takesW i w = true
  live : ∀ y ∈ ks, waysG S (S.getD y noStC) y ≠ [] → k.W.getD y [] ≠ []
  need : ∀ i ∈ ks, i ≠ last → ∃ y ∈ ks, i < y ∧ waysG S (S.getD y noStC) y ≠ [] ∧ ∀ w ∈ waysG S (S.getD y noStC) y, alive ks (i + 1) w → takesW i w = true
  fewW : ∀ y, (k.W.getD y []).length ≤ S.length + 1

theorem rep_getD {α : Type} (n i : Nat) : (List.replicate n ([] : List α)).getD i [] = [] := by
  rw [List.getD_eq_getElem?_getD, List.getElem?_replicate]
  split <;> rfl

theorem start_get (S : List StepB) (last y : Nat) : (tightI S last 0).1.W.getD y [] = [] ∧ (tightI S last 0).1.K.getD y [] = [] := ⟨rep_getD _ _, rep_getD _ _⟩

theorem TightP.start (S : List StepB) (last : Nat) : TightP S last (last + 1) (tightI S last 0).1 (tightI S last 0).2 where
  lenW := by simp [tightI]
  lenK := by simp [tightI]
  dec := List.Pairwise.nil
  rng := fun i h => by cases h
  end_ := fun h => by omega
  ways := fun y h => by cases h
  takers := fun i _ y => by rw [(start_get S last i).2]; exact ⟨fun h => (by cases h), fun h => (by cases h.1)⟩
  live := fun y h => by cases h
  need := fun i h => by cases h
  fewW := fun y => by rw [(start_get S last y).1]; simp

theorem TightP.drop {S : List StepB} {last i : Nat} {k : KeptB} {ks : List Nat} (h : TightP S last (i + 1) k ks) (hi : i < last) (hn : needsK k i = false) : TightP S last i (dropK k i) ks := by
  have hni : i ∉ ks := fun e => by have := (h.rng i e).1; omega
  have halive : ∀ w, alive ks i w ↔ alive ks (i + 1) w ∧ takesW i w = false := fun w => by
    rw [takesW_no]
    unfold alive
    constructor
    · rintro ⟨h1, h2⟩
      refine ⟨⟨fun e => h1 (by omega), fun e => h2 (by omega)⟩, fun e => ?_, fun e => ?_⟩
      · exact hni (e ▸ h1 (by omega))
      · exact hni (e ▸ h2 (by omega))
    · rintro ⟨⟨h1, h2⟩, h3, h4⟩
      exact ⟨fun e => h1 (by omega), fun e => h2 (by omega)⟩
  have hget : ∀ p, (dropK k i).W.getD p [] = if p ∈ k.K.getD i [] then (k.W.getD p []).filter (fun w => !takesW i w) else k.W.getD p [] := fun p => dropsF_get p _ _
  refine ⟨by rw [← h.lenW]; exact dropsF_len _ _ _, h.lenK, h.dec, fun j hj => ⟨by have := (h.rng j hj).1; omega, (h.rng j hj).2⟩, fun _ => h.end_ (by omega), fun y hy w => ?_, h.takers, fun y hy hne => ?_, h.need, fun y => ?_⟩
  · rw [hget, halive]
    split
    · rw [List.mem_filter, h.ways y hy]
      simp [and_assoc]
    · rename_i hy2
      rw [h.ways y hy]
      refine ⟨fun ⟨h1, h2⟩ => ⟨h1, h2, ?_⟩, fun ⟨h1, h2, _⟩ => ⟨h1, h2⟩⟩
      cases e : takesW i w with
      | false => rfl
      | true => exact absurd ((h.takers i (Nat.le_of_lt hi) y).2 ⟨hy, w, h1, e⟩) hy2
  · rw [hget]
    split
    · rename_i hy2
      unfold needsK at hn
      rw [List.any_eq_false] at hn
      have := hn y hy2
      rw [List.all_eq_true] at this
      intro e
      refine this (fun w hw => ?_)
      cases ht : takesW i w with
      | true => rfl
      | false =>
        have : w ∈ (k.W.getD y []).filter (fun w => !takesW i w) := List.mem_filter.2 ⟨hw, by simp [ht]⟩
        rw [e] at this
        cases this
    · exact h.live y hy hne
  · rw [hget]
    split
    · exact Nat.le_trans (List.length_filter_le _ _) (h.fewW y)
    · exact h.fewW y

theorem TightP.keep {S : List StepB} {last i : Nat} {k : KeptB} {ks : List Nat} (h : TightP S last (i + 1) k ks) (hi : i ≤ last) (hlt : ∀ w ∈ waysG S (S.getD i noStC) i, w.1 < i ∧ w.2 < i) (hn : i = last ∨ needsK k i = true) : TightP S last i (keepK k i (waysG S (S.getD i noStC) i)) (ks ++ [i]) := by
  have hni : i ∉ ks := fun e => by have := (h.rng i e).1; omega
  have hup : ∀ p, i + 1 ≤ p → (p ∈ ks ++ [i] ↔ p ∈ ks) := fun p hp => by
    rw [List.mem_append, List.mem_singleton]
    exact ⟨fun e => e.elim id (fun e => by omega), .inl⟩
  have halive : ∀ w, alive (ks ++ [i]) i w ↔ alive ks (i + 1) w := fun w => by
    unfold alive
    constructor
    · rintro ⟨h1, h2⟩
      exact ⟨fun e => (hup _ e).1 (h1 (by omega)), fun e => (hup _ e).1 (h2 (by omega))⟩
    · rintro ⟨h1, h2⟩
      refine ⟨fun e => ?_, fun e => ?_⟩
      · by_cases e2 : w.1 = i
        · rw [e2]; simp
        · exact (hup _ (by omega)).2 (h1 (by omega))
      · by_cases e2 : w.2 = i
        · rw [e2]; simp
        · exact (hup _ (by omega)).2 (h2 (by omega))
  have hget : ∀ y, (keepK k i (waysG S (S.getD i noStC) i)).W.getD y [] = if y = i then waysG S (S.getD i noStC) i else k.W.getD y [] := fun y => by
    unfold keepK
    rw [List.getD_eq_getElem?_getD, List.getElem?_set]
    by_cases e : y = i
    · subst e
      rw [if_pos rfl, if_pos (by rw [h.lenW]; omega), if_pos rfl]
      rfl
    · rw [if_neg (fun x => e x.symm), if_neg e, List.getD_eq_getElem?_getD]
  have hin : ∀ {y}, y ∈ ks ++ [i] → y ∈ ks ∨ y = i := fun h => by simpa using h
  refine ⟨by simp [keepK, h.lenW], by rw [← h.lenK]; exact takersF_len _ _ _, ?_, fun j hj => ?_, fun _ => ?_, fun y hy w => ?_, fun j hj y => ?_, fun y hy hne => ?_, fun j hj hjl => ?_, fun y => ?_⟩
  · rw [List.pairwise_append]
    refine ⟨h.dec, by simp, fun a ha b hb => ?_⟩
    rw [List.mem_singleton] at hb
    subst hb
    have := (h.rng a ha).1
    omega
  · rcases hin hj with hj | rfl
    · exact ⟨by have := (h.rng j hj).1; omega, (h.rng j hj).2⟩
    · exact ⟨Nat.le_refl _, hi⟩
  · by_cases e : i = last
    · rw [e]; simp
    · exact List.mem_append_left _ (h.end_ (by omega))
  · rw [hget, halive]
    rcases hin hy with hy | rfl
    · rw [if_neg (fun e => hni (by rw [← e]; exact hy))]
      exact h.ways y hy w
    · rw [if_pos rfl]
      exact ⟨fun hw => ⟨hw, fun e => by have := (hlt w hw).1; omega, fun e => by have := (hlt w hw).2; omega⟩, fun hw => hw.1⟩
  · unfold keepK
    rw [takersF_mem j y _ _ (fun w hw => by rw [h.lenK]; have := hlt w hw; omega), h.takers j hj]
    constructor
    · rintro (⟨h1, h2⟩ | ⟨rfl, h2⟩)
      · exact ⟨List.mem_append_left _ h1, h2⟩
      · exact ⟨by simp, h2⟩
    · rintro ⟨h1, h2⟩
      rcases hin h1 with h1 | rfl
      · exact .inl ⟨h1, h2⟩
      · exact .inr ⟨rfl, h2⟩
  · rw [hget]
    rcases hin hy with hy | rfl
    · rw [if_neg (fun e => hni (by rw [← e]; exact hy))]
      exact h.live y hy hne
    · rw [if_pos rfl]
      exact hne
  · rcases hin hj with hj | rfl
    · obtain ⟨y, hy, hlt, hne, hw⟩ := h.need j hj hjl
      refine ⟨y, List.mem_append_left _ hy, hlt, hne, fun w hw1 ha => hw w hw1 ((alive_same (fun p hp => ?_) w).1 ha)⟩
      exact hup p (by have := (h.rng j hj).1; omega)
    · rcases hn with e | hn
      · exact absurd e hjl
      · unfold needsK at hn
        rw [List.any_eq_true] at hn
        obtain ⟨y, hy, hall⟩ := hn
        rw [List.all_eq_true] at hall
        obtain ⟨hyk, w0, hw0, _⟩ := (h.takers j hi y).1 hy
        refine ⟨y, List.mem_append_left _ hyk, by have := (h.rng y hyk).1; omega, fun e => (by rw [e] at hw0; cases hw0), fun w hw ha => hall w ((h.ways y hyk w).2 ⟨hw, (alive_same hup w).1 ha⟩)⟩
  · rw [hget]
    split
    · exact waysG_len _ _ _
    · exact h.fewW y

theorem tightP {ls : List CredB} {S : List StepB} (hg : Good ls S) {last : Nat} (hl : last < S.length) : ∀ n, n ≤ last + 1 → TightP S last (last + 1 - n) (tightI S last n).1 (tightI S last n).2
  | 0, _ => TightP.start S last
  | n + 1, hn => by
    have h := tightP hg hl n (by omega)
    have e1 : last + 1 - n = (last - n) + 1 := by omega
    have e2 : last + 1 - (n + 1) = last - n := by omega
    rw [e1] at h
    rw [e2]
    by_cases hc : last - n < last ∧ needsK (tightI S last n).1 (last - n) = false
    · rw [tightI_drop hc.1 hc.2]
      exact h.drop hc.1 hc.2
    · rw [tightI_keep hc]
      refine h.keep (by omega) (fun w hw => ?_) ?_
      · have hlt : last - n < S.length := by omega
        have e : S.getD (last - n) noStC = S[last - n] := by rw [List.getD_eq_getElem?_getD, List.getElem?_eq_getElem hlt]; rfl
        rw [e] at hw
        exact waysG_lt hg hlt w hw
      · by_cases e : last - n = last
        · exact .inl e
        · refine .inr ?_
          cases hb : needsK (tightI S last n).1 (last - n) with
          | true => rfl
          | false => exact absurd ⟨by omega, hb⟩ hc
end Go.Proofs.Ytjaplnainlbldaa

/- Maps and sets of the model, as they lie in memory: whatever the kind of their keys. -/
namespace Go.Proofs.Ytjaplnainlbldaa
open Go.RowKit Go.Maps Go.ChangeMaps Go.WideMaps

/-- A kind of keys. -/
structure KT (α : Type) where
  ty : TypeId
  val : α → Value
  lit : α → Lit
  ok : α → Prop
  keyed : Keyed Try.prog ty
  isKey : ∀ a, WideAt.IsKeyLit (lit a)
  reads : ∀ a, ok a → Go.keyOf Try.prog ty (val a) = some (lit a)
  inj : ∀ a b, val a = val b → a = b

variable {α : Type} {β : Type}

theorem KT.lit_inj (k : KT α) {a b : α} (ha : k.ok a) (hb : k.ok b) (h : k.lit a = k.lit b) : a = b :=
  k.inj _ _ (k.keyed.inj (k.reads a ha) (h ▸ k.reads b hb))

/-- An element stands for itself. -/
def heldElem (v : Value) : Option (DataW Value × List MemPlace) := some (.held v, [])

section
variable {k : KT α} {R : Value → Option (DataW Value × List MemPlace)} {w : World} {mb : Nat} {ks : List α} {M : DataW Value}

theorem owns_keep {S : Nat → Prop} {w w' : World} {ty : TypeId} {mb n : Nat} {M : DataW Value} (h : w.ownsMap Try.prog ty R mb n M) (hc : Chg S w w') (hs : ¬ S mb) : w'.ownsMap Try.prog ty R mb n M := by
  obtain ⟨es, clock, hb, r⟩ := h
  exact ⟨es, clock, blk_keep hb hc hs, r⟩

end

section
variable {k : KT α} {w : World} {mb : Nat} {l : List α}
end

section
variable {k : KT α} {w : World} {mb : Nat} {l : List (α × Nat)}
end

section
variable {k : KT α} {R : Value → Option (DataW Value × List MemPlace)} {w : World} {mo : Option Nat} {r cnt : Nat} {rest : List α}

end

section
variable {ko : KT α} {ki : KT β} {O : Nat → Prop} {w : World} {mb n : Nat} {rel : α → β → Prop}

end
end Go.Proofs.Ytjaplnainlbldaa

/- The arguments of laws, opened to cells: bytes, a small array. -/
namespace Go.Proofs.Ytjaplnainlbldaa
open Go.ChangeShapes Go.WideShapes Go.ChangeAt Go.RowKit Go.Deep

theorem Try.own : ownKnob Try.prog.godebug = none := by kernel_rfl
theorem Try.laidOut : laidOutB Try.prog = true := by kernel_rfl

theorem spot_none {w : World} {a : Addr} {v : Value} (h : w.cell? a = some v) : a = ⟨a.block, a.off, none⟩ := by
  obtain ⟨b, o, s⟩ := a
  cases s with
  | none => rfl
  | some x =>
    simp only [World.cell?] at h
    split at h
    · simp at h
    · cases h

theorem add_zero (a : Addr) : a.add 0 = a := by
  unfold Addr.add
  simp

section
variable {H : Type} {enc : TypeId × Value → H} {w : World} {base : Nat} {held : Bool} {fuel : Nat}

end

end Go.Proofs.Ytjaplnainlbldaa
