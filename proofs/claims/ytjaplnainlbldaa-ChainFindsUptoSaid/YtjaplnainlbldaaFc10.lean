/- Texts that the proof leans on, in one: KwMath, RefCredRoles, ChMath. -/
import Derived.Test.YtjaplnainlbldaaFc6
import Derived.Test.YtjaplnainlbldaaFc9
import Derived.Test.YtjaplnainlbldaaFc7
import Derived.Test.YtjaplnainlbldaaFc5
/- The program's check: facts that are known, places and ways: plain words, nothing of the program's text. -/
namespace Go.Proofs.Ytjaplnainlbldaa
open Go.RowKit

/-- Facts as they come to be known: each once. -/
def addK (F : List FactB) (f : FactB) : List FactB := if f ∈ F then F else F ++ [f]
/-- The place of a fact. -/
theorem idx_get {F : List FactB} {f : FactB} (h : f ∈ F) : F[F.idxOf f]? = some f := by
 rw [List.getElem?_eq_getElem (List.idxOf_lt_length_of_mem h)]
 simp
theorem idx_of_get {F : List FactB} (hn : F.Nodup) {i : Nat} {f : FactB} (h : F[i]? = some f) : F.idxOf f = i := by
 obtain ⟨hi, rfl⟩ := List.getElem?_eq_some_iff.1 h
 exact hn.idxOf_getElem i hi
theorem idx_app {F : List FactB} {f g : FactB} (h : f ∈ F) : (F ++ [g]).idxOf f = F.idxOf f := by
 rw [List.idxOf_append, if_pos h]
theorem idx_new {F : List FactB} {f : FactB} (h : f ∉ F) : (F ++ [f]).idxOf f = F.length := by
 rw [List.idxOf_append, if_neg h]
 simp

/-- The places of a role's facts. -/
def placesK (F : List FactB) (r : RoleB) : List Nat := (List.range F.length).filter (fun i => decide ((F[i]?).map (·.1) = some r))
theorem placesK_mem {F : List FactB} {r : RoleB} {i : Nat} : i ∈ placesK F r ↔ ∃ w, F[i]? = some (r, w) := by
 unfold placesK
 rw [List.mem_filter, List.mem_range]
 simp only [decide_eq_true_eq, Option.map_eq_some_iff]
 constructor
 ·rintro ⟨_, f, h, rfl⟩
  exact ⟨f.2, h⟩
 ·rintro ⟨w, h⟩
  exact ⟨(List.getElem?_eq_some_iff.1 h).1, _, h, rfl⟩
theorem placesK_snoc (F : List FactB) (f : FactB) (r : RoleB) : placesK (F ++ [f]) r = if f.1 = r then placesK F r ++ [F.length] else placesK F r := by
 unfold placesK
 rw [List.length_append, List.length_singleton, List.range_succ, List.filter_append]
 have e1 : (List.range F.length).filter (fun i => decide (((F ++ [f])[i]?).map (·.1) = some r)) = (List.range F.length).filter (fun i => decide ((F[i]?).map (·.1) = some r)) := by
  refine List.filter_congr fun i hi => ?_
  rw [List.getElem?_append_left (List.mem_range.1 hi)]
 rw [e1]
 have e2 : (F ++ [f])[F.length]? = some f := by simp
 by_cases h : f.1 = r
 ·rw [if_pos h]
  simp [h]
 ·rw [if_neg h]
  simp [h]
theorem placesK_len (F : List FactB) (r : RoleB) : (placesK F r).length ≤ F.length := by
 unfold placesK
 refine Nat.le_trans (List.length_filter_le _ _) ?_
 simp
theorem placesK_lt {F : List FactB} {r : RoleB} {i : Nat} (h : i ∈ placesK F r) : i < F.length := by
 obtain ⟨w, h⟩ := placesK_mem.1 h
 exact (List.getElem?_eq_some_iff.1 h).1
theorem placesK_none {F : List FactB} {r : RoleB} (h : ∀ f ∈ F, f.1 ≠ r) : placesK F r = [] := by
 rw [List.eq_nil_iff_forall_not_mem]
 intro i hi
 obtain ⟨w, hw⟩ := placesK_mem.1 hi
 exact h _ (List.mem_of_getElem? hw) rfl

/-- The way that takes these facts. -/
def wayK (F fs : List FactB) : List (List Nat) := if ∀ f ∈ fs, f ∈ F then [fs.map (F.idxOf ·)] else []
theorem wayK_yes {F fs : List FactB} (h : ∀ f ∈ fs, f ∈ F) : wayK F fs = [fs.map (F.idxOf ·)] := if_pos h
def linkFs (F : List FactB) (s : StepB) (i : Nat) : List FactB := [F.getD i ((([], []), [])), (((F.getD i (([], []), [])).2, s.c.w2), s.f.2)]

/-- The ways to a step. -/
def waysK (s : StepB) (F : List FactB) : List (List Nat) :=
 if isCred s.c = true ∧ s.f.1 = s.c.head then
  if s.c.kind = 1 then (if s.c.who = s.f.2 then [[]] else [])
  else if s.c.kind = 2 then wayK F [(s.c.b, s.f.2)]
  else if s.c.kind = 3 then (placesK F s.c.b).flatMap (fun i => wayK F (linkFs F s i))
  else wayK F [(s.c.b, s.f.2), (s.c.c, s.f.2)]
 else []

/-- What is said by a step. -/
def FolK (s : StepB) (A : FactB → Prop) : Prop := isCred s.c = true ∧ Brings s.c A s.f

theorem folK_iff {s : StepB} {hs : List FactB} : followsK s hs = true ↔ FolK s (· ∈ hs) := by
 unfold followsK FolK Brings stepF
 rw [Bool.and_eq_true, Bool.and_eq_true, decide_eq_true_eq]
 by_cases hr : isCred s.c = true
 case neg =>
  exact ⟨fun h => absurd h.1 hr, fun h => absurd h.1 hr⟩
 refine and_congr Iff.rfl (and_congr Iff.rfl ?_)
 rcases isCred_kind hr with k | k | k | k
 ·rw [if_pos k]
  constructor
  ·intro h; exact .inl ⟨k, (beq_iff_eq.1 h).symm⟩
  ·rintro (⟨_, h⟩ | ⟨h, _⟩ | ⟨h, _⟩ | ⟨h, _⟩)
   ·exact beq_iff_eq.2 h.symm
   ·omega
   ·omega
   ·omega
 ·rw [if_neg (by omega), if_pos k, inF_iff]
  constructor
  ·intro h; exact .inr (.inl ⟨k, h⟩)
  ·rintro (⟨h, _⟩ | ⟨_, h⟩ | ⟨h, _⟩ | ⟨h, _⟩)
   ·omega
   ·exact h
   ·omega
   ·omega
 ·rw [if_neg (by omega), if_neg (by omega), if_neg (by omega), List.any_eq_true]
  constructor
  ·rintro ⟨b, _, h⟩
   rw [Bool.and_eq_true, inF_iff, inF_iff] at h
   exact .inr (.inr (.inl ⟨k, b, h.1, h.2⟩))
  ·rintro (⟨h, _⟩ | ⟨h, _⟩ | ⟨_, b, h1, h2⟩ | ⟨h, _⟩)
   ·omega
   ·omega
   ·refine ⟨b, ?_, ?_⟩
    ·unfold whosF
     exact List.mem_map.2 ⟨_, h1, rfl⟩
    ·rw [Bool.and_eq_true, inF_iff, inF_iff]
     exact ⟨h1, h2⟩
   ·omega
 ·rw [if_neg (by omega), if_neg (by omega), if_pos k, Bool.and_eq_true, inF_iff, inF_iff]
  constructor
  ·intro h; exact .inr (.inr (.inr ⟨k, h.1, h.2⟩))
  ·rintro (⟨h, _⟩ | ⟨h, _⟩ | ⟨h, _⟩ | ⟨_, h1, h2⟩)
   ·omega
   ·omega
   ·omega
   ·exact ⟨h1, h2⟩

/-- A way serves where its facts are. -/
theorem wayK_serve {F fs : List FactB} {P : FactB → Prop} (hP : ∀ f, P f → f ∈ F) : (∀ f ∈ fs, P f) ↔ ∃ y ∈ wayK F fs, ∀ i ∈ y, ∃ f, F[i]? = some f ∧ P f := by
 by_cases h : ∀ f ∈ fs, f ∈ F
 ·rw [wayK_yes h]
  constructor
  ·intro hp
   refine ⟨_, List.mem_singleton.2 rfl, fun i hi => ?_⟩
   obtain ⟨f, hf, rfl⟩ := List.mem_map.1 hi
   exact ⟨f, idx_get (h f hf), hp f hf⟩
  ·rintro ⟨y, hy, hp⟩ f hf
   rw [List.mem_singleton] at hy
   subst hy
   obtain ⟨g, h1, h2⟩ := hp _ (List.mem_map.2 ⟨f, hf, rfl⟩)
   rw [idx_get (h f hf)] at h1
   cases h1
   exact h2
 ·constructor
  ·intro hp
   exact absurd (fun f hf => hP f (hp f hf)) h
  ·rintro ⟨y, hy, _⟩
   unfold wayK at hy
   rw [if_neg h] at hy
   cases hy

theorem linkFs_at {F : List FactB} {s : StepB} {i : Nat} {r : RoleB} {w : List UInt8} (h : F[i]? = some (r, w)) : linkFs F s i = [(r, w), ((w, s.c.w2), s.f.2)] := by
 unfold linkFs
 rw [List.getD_eq_getElem?_getD, h]
 rfl

theorem waysK_serve {F : List FactB} {s : StepB} {P : FactB → Prop} (hP : ∀ f, P f → f ∈ F) : FolK s P ↔ ∃ y ∈ waysK s F, ∀ i ∈ y, ∃ f, F[i]? = some f ∧ P f := by
 unfold FolK Brings waysK
 by_cases hr : isCred s.c = true
 case neg =>
  rw [if_neg (fun h => hr h.1)]
  exact ⟨fun h => absurd h.1 hr, fun ⟨_, h, _⟩ => by cases h⟩
 by_cases hh : s.f.1 = s.c.head
 case neg =>
  rw [if_neg (fun h => hh h.2)]
  exact ⟨fun h => absurd h.2.1 hh, fun ⟨_, h, _⟩ => by cases h⟩
 rw [if_pos ⟨hr, hh⟩]
 rcases isCred_kind hr with k | k | k | k
 ·rw [if_pos k]
  constructor
  ·rintro ⟨_, _, (⟨_, h⟩ | ⟨h, _⟩ | ⟨h, _⟩ | ⟨h, _⟩)⟩
   ·rw [if_pos h.symm]
    exact ⟨[], by simp, fun i hi => by cases hi⟩
   ·omega
   ·omega
   ·omega
  ·rintro ⟨y, hy, _⟩
   refine ⟨hr, hh, .inl ⟨k, ?_⟩⟩
   split at hy
   ·rename_i h; exact h.symm
   ·cases hy
 ·rw [if_neg (by omega), if_pos k, ← wayK_serve hP]
  constructor
  ·rintro ⟨_, _, (⟨h, _⟩ | ⟨_, h⟩ | ⟨h, _⟩ | ⟨h, _⟩)⟩
   ·omega
   ·intro f hf; rw [List.mem_singleton] at hf; subst hf; exact h
   ·omega
   ·omega
  ·intro h
   exact ⟨hr, hh, .inr (.inl ⟨k, h _ (by simp)⟩)⟩
 ·rw [if_neg (by omega), if_neg (by omega), if_pos k]
  constructor
  ·rintro ⟨_, _, (⟨h, _⟩ | ⟨h, _⟩ | ⟨_, b, h1, h2⟩ | ⟨h, _⟩)⟩
   ·omega
   ·omega
   ·have hi := idx_get (hP _ h1)
    obtain ⟨y, hy, hp⟩ := (wayK_serve (F := F) (fs := linkFs F s (F.idxOf (s.c.b, b))) hP).1 (fun f hf => by
     rw [linkFs_at hi] at hf
     rcases List.mem_cons.1 hf with rfl | hf
     ·exact h1
     ·rw [List.mem_singleton] at hf; subst hf; exact h2)
    exact ⟨y, List.mem_flatMap.2 ⟨_, placesK_mem.2 ⟨b, hi⟩, hy⟩, hp⟩
   ·omega
  ·rintro ⟨y, hy, hp⟩
   obtain ⟨i, hi, hy⟩ := List.mem_flatMap.1 hy
   obtain ⟨b, hb⟩ := placesK_mem.1 hi
   have := (wayK_serve (F := F) (fs := linkFs F s i) hP).2 ⟨y, hy, hp⟩
   rw [linkFs_at hb] at this
   exact ⟨hr, hh, .inr (.inr (.inl ⟨k, b, this _ (by simp), this _ (by simp)⟩))⟩
 ·rw [if_neg (by omega), if_neg (by omega), if_neg (by omega), ← wayK_serve hP]
  constructor
  ·rintro ⟨_, _, (⟨h, _⟩ | ⟨h, _⟩ | ⟨h, _⟩ | ⟨_, h1, h2⟩)⟩
   ·omega
   ·omega
   ·omega
   ·intro f hf
    rcases List.mem_cons.1 hf with rfl | hf
    ·exact h1
    ·rw [List.mem_singleton] at hf; subst hf; exact h2
  ·intro h
   exact ⟨hr, hh, .inr (.inr (.inr ⟨k, h _ (by simp), h _ (by simp)⟩))⟩

/-- Every place of a way is one. -/
theorem waysK_lt {F : List FactB} {s : StepB} {y : List Nat} (hy : y ∈ waysK s F) : ∀ i ∈ y, i < F.length := by
 have key : ∀ fs, y ∈ wayK F fs → ∀ i ∈ y, i < F.length := fun fs h i hi => by
  unfold wayK at h
  split at h
  ·rename_i hf
   rw [List.mem_singleton] at h
   subst h
   obtain ⟨f, hfm, rfl⟩ := List.mem_map.1 hi
   exact List.idxOf_lt_length_of_mem (hf f hfm)
  ·cases h
 unfold waysK at hy
 split at hy
 ·split at hy
  ·split at hy
   ·rw [List.mem_singleton] at hy; subst hy; intro i hi; cases hi
   ·cases hy
  ·split at hy
   ·exact key _ hy
   ·split at hy
    ·obtain ⟨j, _, hy⟩ := List.mem_flatMap.1 hy
     exact key _ hy
    ·exact key _ hy
 ·cases hy

theorem waysK_ne {F : List FactB} {s : StepB} : waysK s F ≠ [] ↔ FolK s (· ∈ F) := by
 rw [waysK_serve (P := (· ∈ F)) (fun _ h => h)]
 constructor
 ·intro h
  obtain ⟨y, l, e⟩ := List.exists_cons_of_ne_nil h
  have hy : y ∈ waysK s F := by rw [e]; simp
  refine ⟨y, hy, fun i hi => ?_⟩
  have := waysK_lt hy i hi
  exact ⟨F[i], List.getElem?_eq_getElem this, List.getElem_mem this⟩
 ·rintro ⟨y, hy, _⟩ e
  rw [e] at hy
  cases hy

/-- What all ways have. -/
def commonK : List (List Nat) → List Nat
 | [] => []
 | y :: ys => ys.foldl (fun l w => l.filter (fun a => w.contains a)) y
theorem commonK_mem : ∀ {ys : List (List Nat)}, ys ≠ [] → ∀ i, i ∈ commonK ys ↔ ∀ y ∈ ys, i ∈ y
 | [], h, _ => absurd rfl h
 | y :: ys, _, i => by
  unfold commonK
  have : ∀ (ys : List (List Nat)) (l : List Nat), i ∈ ys.foldl (fun l w => l.filter (fun a => w.contains a)) l ↔ i ∈ l ∧ ∀ y ∈ ys, i ∈ y := by
   intro ys
   induction ys with
   | nil => intro l; simp
   | cons x ys ih =>
    intro l
    rw [List.foldl_cons, ih, List.mem_filter]
    simp [and_assoc]
  rw [this]
  simp
/-- Without the fact at a place a step follows no more, just where all ways have the place. -/
theorem common_needed {F : List FactB} (hn : F.Nodup) {s : StepB} (hf : FolK s (· ∈ F)) {i : Nat} {g : FactB} (hi : F[i]? = some g) : ¬ FolK s (fun f => f ∈ F ∧ f ≠ g) ↔ i ∈ commonK (waysK s F) := by
 rw [commonK_mem (waysK_ne.2 hf), waysK_serve (P := fun f => f ∈ F ∧ f ≠ g) (fun _ h => h.1)]
 constructor
 ·intro h y hy
  refine Classical.byContradiction fun hc => ?_
  refine h ⟨y, hy, fun j hj => ?_⟩
  have hlt := waysK_lt hy j hj
  refine ⟨F[j], List.getElem?_eq_getElem hlt, List.getElem_mem hlt, fun e => ?_⟩
  have h1 := idx_of_get hn (List.getElem?_eq_getElem hlt)
  rw [e, idx_of_get hn hi] at h1
  exact hc (h1 ▸ hj)
 ·rintro h ⟨y, hy, hp⟩
  obtain ⟨f, h1, h2, h3⟩ := hp i (h y hy)
  rw [hi] at h1
  cases h1
  exact h3 rfl

/-- What Tight has found when k steps are behind it. -/
def neededK (ls : List StepB) (k i : Nat) : Prop := ∃ j, ∃ h : j < ls.length, j < k ∧ i ∈ commonK (waysK ls[j] (factsK (ls.take j)))

theorem factsK_take (ls : List StepB) (k : Nat) : factsK (ls.take k) = (factsK ls).take k := by simp [factsK, List.map_take]
theorem factsK_nd {ls : List StepB} (h : ∀ i j (hi : i < ls.length) (hj : j < ls.length), j < i → ls[i].f ≠ ls[j].f) : (factsK ls).Nodup := by
 rw [List.nodup_iff_pairwise_ne, List.pairwise_iff_getElem]
 intro i j hi hj hlt
 rw [factsK_len] at hi hj
 simp only [factsK, List.getElem_map]
 exact fun e => h j i hj hi hlt e.symm

theorem tightK_iff {ls : List StepB} (hd : ∀ i j (hi : i < ls.length) (hj : j < ls.length), j < i → ls[i].f ≠ ls[j].f) (hs : ∀ i (h : i < ls.length), followsK ls[i] (factsK (ls.take i)) = true) :
  tightK ls = true ↔ ∀ i, i + 1 < ls.length → neededK ls ls.length i := by
 have hnd := factsK_nd hd
 have key : ∀ i, i + 1 < ls.length → (standsK (ls.take i ++ ls.drop (i + 1)) = false ↔ neededK ls ls.length i) := by
  intro i hi
  have hlen : (ls.take i ++ ls.drop (i + 1)).length = ls.length - 1 := by simp; omega
  have hneed : ∀ j (hj : j < ls.length), i < j → (followsK ls[j] (factsK ((ls.take i ++ ls.drop (i + 1)).take (j - 1))) = false ↔ i ∈ commonK (waysK ls[j] (factsK (ls.take j)))) := by
   intro j hj hij
   have hnd2 : (factsK (ls.take j)).Nodup := by rw [factsK_take]; exact hnd.sublist (List.take_sublist _ _)
   have hg : (factsK (ls.take j))[i]? = some ls[i].f := by
    rw [factsK, List.getElem?_map, List.getElem?_take_of_lt hij, List.getElem?_eq_getElem (by omega)]
    rfl
   rw [← common_needed hnd2 (folK_iff.1 (hs j hj)) hg, ← Bool.not_eq_true, folK_iff]
   have e : ∀ f, f ∈ factsK ((ls.take i ++ ls.drop (i + 1)).take (j - 1)) ↔ (f ∈ factsK (ls.take j) ∧ f ≠ ls[i].f) := by
    intro f
    have e1 : (ls.take i ++ ls.drop (i + 1)).take (j - 1) = ls.take i ++ (ls.take j).drop (i + 1) := by
     rw [List.take_append]
     rw [List.take_of_length_le (by simp; omega), List.length_take, List.drop_take]
     congr 2
     omega
    rw [e1]
    have e2 : ls.take j = ls.take i ++ ls[i] :: (ls.take j).drop (i + 1) := by
     have h1 : (ls.take j).take i = ls.take i := by rw [List.take_take]; congr 1; omega
     have h2 : (ls.take j)[i]'(by simp; omega) = ls[i] := by simp
     calc ls.take j = (ls.take j).take i ++ (ls.take j).drop i := (List.take_append_drop _ _).symm
      _ = _ := by rw [h1, List.drop_eq_getElem_cons (by simp; omega), h2]
    constructor
    ·intro hf
     have hm : f ∈ factsK (ls.take j) := by
      rw [e2]
      unfold factsK at hf ⊢
      rw [List.map_append] at hf ⊢
      rcases List.mem_append.1 hf with hf | hf
      ·exact List.mem_append_left _ hf
      ·exact List.mem_append_right _ (List.mem_cons_of_mem _ hf)
     refine ⟨hm, fun e => ?_⟩
     subst e
     rw [e2] at hnd2
     unfold factsK at hnd2 hf
     rw [List.map_append, List.map_cons, List.nodup_append] at hnd2
     rw [List.map_append] at hf
     rcases List.mem_append.1 hf with hf | hf
     ·exact hnd2.2.2 _ hf _ (by simp) rfl
     ·exact (List.nodup_cons.1 hnd2.2.1).1 hf
    ·rintro ⟨hm, hne⟩
     rw [e2] at hm
     unfold factsK at hm ⊢
     rw [List.map_append] at hm ⊢
     rcases List.mem_append.1 hm with hm | hm
     ·exact List.mem_append_left _ hm
     ·rw [List.map_cons] at hm
      rcases List.mem_cons.1 hm with hm | hm
      ·exact absurd hm hne
      ·exact List.mem_append_right _ hm
   have e' : (fun f => f ∈ factsK ((ls.take i ++ ls.drop (i + 1)).take (j - 1))) = (fun f => f ∈ factsK (ls.take j) ∧ f ≠ ls[i].f) := funext fun f => propext (e f)
   show ¬ FolK ls[j] (fun f => f ∈ factsK ((ls.take i ++ ls.drop (i + 1)).take (j - 1))) ↔ _
   rw [e']
  have hge : ∀ t (ht : t < (ls.take i ++ ls.drop (i + 1)).length), i ≤ t → (ls.take i ++ ls.drop (i + 1))[t] = ls[t + 1]'(by omega) := by
   intro t ht hit
   have hle : (ls.take i).length = i := by simp; omega
   rw [List.getElem_append_right (by omega), List.getElem_drop]
   congr 1
   omega
  constructor
  ·intro h
   unfold standsK at h
   rw [decide_eq_false_iff_not] at h
   refine Classical.byContradiction fun hc => ?_
   refine h fun t ht => ?_
   by_cases hit : i ≤ t
   ·rw [hge t ht hit]
    cases hb : followsK (ls[t + 1]'(by omega)) (factsK ((ls.take i ++ ls.drop (i + 1)).take t)) with
    | true => rfl
    | false =>
     refine absurd ⟨t + 1, by omega, by omega, ?_⟩ hc
     exact (hneed (t + 1) (by omega) (by omega)).1 (by simpa using hb)
   ·have h1 : (ls.take i ++ ls.drop (i + 1))[t] = ls[t]'(by omega) := by
     rw [List.getElem_append_left (by simp; omega), List.getElem_take]
    have h2 : (ls.take i ++ ls.drop (i + 1)).take t = ls.take t := by
     rw [List.take_append_of_le_length (by simp; omega), List.take_take]
     congr 1
     omega
    rw [h1, h2]
    exact hs t (by omega)
  ·rintro ⟨j, hj, _, hc⟩
   have hij : i < j := by
    have hne := waysK_ne.2 (folK_iff.1 (hs j hj))
    obtain ⟨y, l, e⟩ := List.exists_cons_of_ne_nil hne
    have hy : y ∈ waysK ls[j] (factsK (ls.take j)) := by rw [e]; simp
    have h1 := (commonK_mem hne i).1 hc y hy
    have h2 := waysK_lt hy i h1
    rw [factsK_len, List.length_take] at h2
    omega
   unfold standsK
   rw [decide_eq_false_iff_not]
   intro h
   have h1 := h (j - 1) (by omega)
   rw [hge (j - 1) (by omega) (by omega)] at h1
   have h2 := (hneed j hj hij).2 hc
   have e : ls[j - 1 + 1]'(by omega) = ls[j] := by congr 1; omega
   rw [e] at h1
   rw [h2] at h1
   cases h1
 constructor
 ·intro h i hi
  have h1 : (∀ i j (hi : i < ls.length) (hj : j < ls.length), j < i → ls[i].f ≠ ls[j].f) ∧ standsK ls = true ∧ ∀ i, i + 1 < ls.length → standsK (ls.take i ++ ls.drop (i + 1)) = false := by
   refine Classical.byContradiction fun hc => ?_
   rw [tightK_no hc] at h
   cases h
  exact (key i hi).1 (h1.2.2 i hi)
 ·intro h
  exact tightK_yes ⟨hd, by unfold standsK; exact decide_eq_true hs, fun i hi => (key i hi).2 (h i hi)⟩
end Go.Proofs.Ytjaplnainlbldaa

/- The contract of the document's Roles of layer 5. -/
namespace Go.Proofs.Ytjaplnainlbldaa
open Go.RowKit

/-- The roles that a credential speaks of. -/
def credRoles (c : CredB) : List RoleB := if isCred c then (if c.kind = 1 then [c.head] else if c.kind = 4 then [c.head, c.b, c.c] else [c.head, c.b]) else []

end Go.Proofs.Ytjaplnainlbldaa

/- How a chain grows: steps by credentials, each with a fact of its own: plain words, nothing of the program's text. -/
namespace Go.Proofs.Ytjaplnainlbldaa
open Go.RowKit

/-- Somebody is brought into a credential's head. -/
def bringG (S : List StepB) (c : CredB) (w : List UInt8) : List StepB := if (c.head, w) ∈ factsK S then S else S ++ [⟨c, (c.head, w)⟩]

/-- The credentials that lean on a role, in the order in which they were taken. -/
def leanL (T : List CredB) (r : RoleB) : List CredB := T.flatMap (fun c => (((credRoles c).drop 1).filter (fun x => decide (x = r))).map (fun _ => c))
/-- The linked ones by their second word. -/
def linkL (T : List CredB) (v : List UInt8) : List CredB := T.filter (fun c => decide (isCred c = true ∧ c.kind = 3 ∧ c.w2 = v))

theorem leanL_snoc (T : List CredB) (c : CredB) (r : RoleB) : leanL (T ++ [c]) r = leanL T r ++ (((credRoles c).drop 1).filter (fun x => decide (x = r))).map (fun _ => c) := by simp [leanL]
theorem linkL_snoc (T : List CredB) (c : CredB) (v : List UInt8) : linkL (T ++ [c]) v = linkL T v ++ if isCred c = true ∧ c.kind = 3 ∧ c.w2 = v then [c] else [] := by
 unfold linkL
 rw [List.filter_append]
 congr 1
 by_cases h : isCred c = true ∧ c.kind = 3 ∧ c.w2 = v
 ·rw [if_pos h]; simp [h]
 ·rw [if_neg h, List.filter_cons, if_neg (by simpa using h)]; rfl
theorem leanL_len (T : List CredB) (r : RoleB) : (leanL T r).length ≤ T.length * 2 := by
 unfold leanL
 induction T with
 | nil => simp
 | cons x l ih =>
  rw [List.flatMap_cons, List.length_append, List.length_map, List.length_cons]
  have h1 := List.length_filter_le (fun y => decide (y = r)) ((credRoles x).drop 1)
  have h2 : ((credRoles x).drop 1).length ≤ 2 := by
   unfold credRoles
   split
   ·split
    ·simp
    ·split <;> simp
   ·simp
  omega
theorem linkL_len (T : List CredB) (v : List UInt8) : (linkL T v).length ≤ T.length := List.length_filter_le _ _

theorem lean_iff {T : List CredB} {r : RoleB} {c : CredB} : c ∈ leanL T r ↔ leanR T r c := by
 unfold leanL leanR
 rw [List.mem_flatMap]
 constructor
 ·rintro ⟨d, hd, h⟩
  obtain ⟨x, hx, rfl⟩ := List.mem_map.1 h
  obtain ⟨h1, h2⟩ := List.mem_filter.1 hx
  have h2 := of_decide_eq_true h2
  subst h2
  unfold credRoles at h1
  by_cases hr : isCred d = true
  ·rw [if_pos hr] at h1
   by_cases k1 : d.kind = 1
   ·rw [if_pos k1] at h1; simp at h1
   ·rw [if_neg k1] at h1
    by_cases k4 : d.kind = 4
    ·rw [if_pos k4] at h1
     simp at h1
     rcases h1 with h1 | h1
     ·exact ⟨hd, hr, k1, .inl h1.symm⟩
     ·exact ⟨hd, hr, k1, .inr ⟨k4, h1.symm⟩⟩
    ·rw [if_neg k4] at h1
     simp at h1
     exact ⟨hd, hr, k1, .inl h1.symm⟩
  ·rw [if_neg hr] at h1; simp at h1
 ·rintro ⟨hd, hr, k1, h⟩
  refine ⟨c, hd, List.mem_map.2 ⟨r, List.mem_filter.2 ⟨?_, by simp⟩, rfl⟩⟩
  unfold credRoles
  rw [if_pos hr, if_neg k1]
  by_cases k4 : c.kind = 4
  ·rw [if_pos k4]
   simp
   rcases h with h | ⟨_, h⟩
   ·exact .inl h.symm
   ·exact .inr h.symm
  ·rw [if_neg k4]
   simp
   rcases h with h | ⟨h, _⟩
   ·exact h.symm
   ·exact absurd h k4
theorem link_iff {T : List CredB} {v : List UInt8} {c : CredB} : c ∈ linkL T v ↔ linkR T v c := by
 unfold linkL linkR
 rw [List.mem_filter, decide_eq_true_eq]

def whoAt (S : List StepB) (i : Nat) : List UInt8 := ((factsK S).getD i (([], []), [])).2

/-- A credential is leant on somebody's being in its B or C. -/
def leanG (S : List StepB) (c : CredB) (w : List UInt8) : List StepB :=
 if c.kind = 2 then bringG S c w
 else if c.kind = 3 then (placesK (factsK S) (w, c.w2)).foldl (fun S' i => bringG S' c (whoAt S' i)) S
 else if c.kind = 4 then (if (c.b, w) ∈ factsK S ∧ (c.c, w) ∈ factsK S then bringG S c w else S)
 else S
def linkG (S : List StepB) (c : CredB) (f : FactB) : List StepB := if (c.b, f.1.1) ∈ factsK S then bringG S c f.2 else S
/-- A fact is followed. -/
def followG (T : List CredB) (S : List StepB) (f : FactB) : List StepB := (linkL T f.1.2).foldl (fun S c => linkG S c f) ((leanL T f.1).foldl (fun S c => leanG S c f.2) S)
def takeG (S : List StepB) (c : CredB) : List StepB := if c.kind = 1 then bringG S c c.who else S

/-- Steps that stand, by these credentials, each with a fact of its own. -/
structure Good (ls : List CredB) (S : List StepB) : Prop where
 nd : (factsK S).Nodup
 mem : ∀ s ∈ S, s.c ∈ ls
 st : ∀ i (h : i < S.length), FolK S[i] (· ∈ factsK (S.take i))

theorem Good.nil (ls : List CredB) : Good ls [] := ⟨List.nodup_nil, fun _ h => (by cases h), fun _ h => absurd h (by simp)⟩

theorem Good.snoc {ls : List CredB} {S : List StepB} (h : Good ls S) {c : CredB} (hc : c ∈ ls) (hr : isCred c = true) {w : List UInt8} (hn : (c.head, w) ∉ factsK S) (hb : Brings c (· ∈ factsK S) (c.head, w)) : Good ls (S ++ [⟨c, (c.head, w)⟩]) := by
 refine ⟨?_, fun s hs => ?_, fun i hi => ?_⟩
 ·rw [factsK_snoc, List.nodup_append]
  refine ⟨h.nd, by simp, fun x hx y hy e => ?_⟩
  simp at hy
  subst hy
  subst e
  exact hn hx
 ·rcases List.mem_append.1 hs with hs | hs
  ·exact h.mem s hs
  ·rw [List.mem_singleton] at hs; subst hs; exact hc
 ·by_cases e : i < S.length
  ·rw [List.getElem_append_left e, List.take_append_of_le_length (Nat.le_of_lt e)]
   exact h.st i e
  ·have e2 : i = S.length := by simp at hi; omega
   subst e2
   rw [List.getElem_append_right (Nat.le_refl _), List.take_append_of_le_length (Nat.le_refl _), List.take_length]
   simp only [Nat.sub_self, List.getElem_cons_zero]
   exact ⟨hr, hb⟩

/-- What was there is there, ahead of what came. -/
def Ahead (S S' : List StepB) : Prop := ∃ R, S' = S ++ R
theorem Ahead.refl (S : List StepB) : Ahead S S := ⟨[], by simp⟩
theorem Ahead.trans {A B C : List StepB} (h : Ahead A B) (k : Ahead B C) : Ahead A C := by
 obtain ⟨R, rfl⟩ := h
 obtain ⟨Q, rfl⟩ := k
 exact ⟨R ++ Q, by simp⟩
theorem Ahead.facts {S S' : List StepB} (h : Ahead S S') {f : FactB} (hf : f ∈ factsK S) : f ∈ factsK S' := by
 obtain ⟨R, rfl⟩ := h
 unfold factsK at hf ⊢
 rw [List.map_append]
 exact List.mem_append_left _ hf
theorem Ahead.get {S S' : List StepB} (h : Ahead S S') {i : Nat} {f : FactB} (hf : (factsK S)[i]? = some f) : (factsK S')[i]? = some f := by
 obtain ⟨R, rfl⟩ := h
 unfold factsK at hf ⊢
 rw [List.map_append, List.getElem?_append_left (List.getElem?_eq_some_iff.1 hf).1]
 exact hf
theorem Ahead.len {S S' : List StepB} (h : Ahead S S') : S.length ≤ S'.length := by
 obtain ⟨R, rfl⟩ := h
 simp
theorem Ahead.take {S S' : List StepB} (h : Ahead S S') {i : Nat} (hi : i ≤ S.length) : S'.take i = S.take i := by
 obtain ⟨R, rfl⟩ := h
 exact List.take_append_of_le_length hi

theorem bring_ahead (S : List StepB) (c : CredB) (w : List UInt8) : Ahead S (bringG S c w) := by
 unfold bringG
 split
 ·exact Ahead.refl _
 ·exact ⟨_, rfl⟩
theorem bring_has (S : List StepB) (c : CredB) (w : List UInt8) : (c.head, w) ∈ factsK (bringG S c w) := by
 unfold bringG
 split
 ·assumption
 ·rw [factsK_snoc]; simp
theorem bring_good {ls : List CredB} {S : List StepB} (h : Good ls S) {c : CredB} (hc : c ∈ ls) (hr : isCred c = true) {w : List UInt8} (hb : Brings c (· ∈ factsK S) (c.head, w)) : Good ls (bringG S c w) := by
 unfold bringG
 split
 ·exact h
 ·rename_i hn
  exact h.snoc hc hr hn hb

/-- A fold that only adds. -/
theorem fold_ahead {α : Type} {f : List StepB → α → List StepB} (hf : ∀ S a, Ahead S (f S a)) : ∀ (l : List α) (S : List StepB), Ahead S (l.foldl f S)
 | [], S => Ahead.refl S
 | a :: l, S => (hf S a).trans (fold_ahead hf l (f S a))
theorem fold_good {α : Type} {ls : List CredB} {f : List StepB → α → List StepB} (hf : ∀ S a, Ahead S (f S a)) {S0 : List StepB} : ∀ (l : List α) (S : List StepB), Ahead S0 S → Good ls S → (∀ a ∈ l, ∀ S', Ahead S0 S' → Good ls S' → Good ls (f S' a)) → Good ls (l.foldl f S)
 | [], _, _, h, _ => h
 | a :: l, S, ha, h, hs => fold_good hf l (f S a) (ha.trans (hf S a)) (hs a (by simp) S ha h) (fun b hb => hs b (by simp [hb]))
/-- What one turn of it brings is there in the end. -/
theorem fold_has {α : Type} {f : List StepB → α → List StepB} (hf : ∀ S a, Ahead S (f S a)) {S0 : List StepB} {g : FactB} : ∀ (l : List α) (S : List StepB), Ahead S0 S → (∃ a ∈ l, ∀ S', Ahead S0 S' → g ∈ factsK (f S' a)) → g ∈ factsK (l.foldl f S)
 | [], _, _, h => by obtain ⟨_, h, _⟩ := h; cases h
 | a :: l, S, ha, h => by
  rw [List.foldl_cons]
  by_cases e : ∀ S', Ahead S0 S' → g ∈ factsK (f S' a)
  ·exact (fold_ahead hf l _).facts (e S ha)
  ·obtain ⟨b, hb, hb2⟩ := h
   rcases List.mem_cons.1 hb with rfl | hb
   ·exact absurd hb2 e
   ·exact fold_has hf l _ (ha.trans (hf S a)) ⟨b, hb, hb2⟩

theorem lean_ahead (S : List StepB) (c : CredB) (w : List UInt8) : Ahead S (leanG S c w) := by
 unfold leanG
 split
 ·exact bring_ahead _ _ _
 ·split
  ·exact fold_ahead (fun S i => bring_ahead S c _) _ _
  ·split
   ·split
    ·exact bring_ahead _ _ _
    ·exact Ahead.refl _
   ·exact Ahead.refl _
theorem link_ahead (S : List StepB) (c : CredB) (f : FactB) : Ahead S (linkG S c f) := by
 unfold linkG
 split
 ·exact bring_ahead _ _ _
 ·exact Ahead.refl _
theorem follow_ahead (T : List CredB) (S : List StepB) (f : FactB) : Ahead S (followG T S f) :=
 (fold_ahead (fun S c => lean_ahead S c f.2) _ _).trans (fold_ahead (fun S c => link_ahead S c f) _ _)
theorem take_ahead (S : List StepB) (c : CredB) : Ahead S (takeG S c) := by
 unfold takeG
 split
 ·exact bring_ahead _ _ _
 ·exact Ahead.refl _

theorem whoAt_eq {S : List StepB} {i : Nat} {r : RoleB} {w : List UInt8} (h : (factsK S)[i]? = some (r, w)) : whoAt S i = w := by
 unfold whoAt
 rw [List.getD_eq_getElem?_getD, h]
 rfl

theorem lean_has {S : List StepB} {c : CredB} {w : List UInt8} {g : FactB} (h : StepOf (factsK S) c w g) : g ∈ factsK (leanG S c w) := by
 obtain ⟨g1, g2⟩ := g
 obtain ⟨h1, h2⟩ := h
 simp only at h1 h2
 subst h1
 unfold leanG
 rcases h2 with ⟨k, h2⟩ | ⟨k, h2⟩ | ⟨k, h2, h3, h4⟩
 ·rw [if_pos k, h2]
  exact bring_has _ _ _
 ·rw [if_neg (by omega), if_pos k]
  have hi := idx_get h2
  refine fold_has (S0 := S) (fun S i => bring_ahead S c _) _ _ (Ahead.refl _) ⟨_, placesK_mem.2 ⟨_, hi⟩, fun S' ha => ?_⟩
  have := bring_has S' c (whoAt S' ((factsK S).idxOf ((w, c.w2), g2)))
  rw [whoAt_eq (ha.get hi)] at this
  rw [whoAt_eq (ha.get hi)]
  exact this
 ·rw [if_neg (by omega), if_neg (by omega), if_pos k, if_pos ⟨h3, h4⟩, h2]
  exact bring_has _ _ _

theorem lean_good {ls : List CredB} {S : List StepB} (h : Good ls S) {c : CredB} (hc : c ∈ ls) (hr : isCred c = true) {w : List UInt8} (hb : c.kind ≠ 4 → (c.b, w) ∈ factsK S) : Good ls (leanG S c w) := by
 unfold leanG
 by_cases k2 : c.kind = 2
 ·rw [if_pos k2]
  exact bring_good h hc hr ⟨rfl, .inr (.inl ⟨k2, hb (by omega)⟩)⟩
 ·rw [if_neg k2]
  by_cases k3 : c.kind = 3
  ·rw [if_pos k3]
   refine fold_good (S0 := S) (fun S i => bring_ahead S c _) _ _ (Ahead.refl _) h (fun i hi S' ha hg => ?_)
   obtain ⟨v, hv⟩ := placesK_mem.1 hi
   rw [whoAt_eq (ha.get hv)]
   exact bring_good hg hc hr ⟨rfl, .inr (.inr (.inl ⟨k3, w, ha.facts (hb (by omega)), ha.facts (List.mem_of_getElem? hv)⟩))⟩
  ·rw [if_neg k3]
   by_cases k4 : c.kind = 4
   ·rw [if_pos k4]
    split
    ·rename_i hh
     exact bring_good h hc hr ⟨rfl, .inr (.inr (.inr ⟨k4, hh.1, hh.2⟩))⟩
    ·exact h
   ·rw [if_neg k4]
    exact h

theorem link_good {ls : List CredB} {S : List StepB} (h : Good ls S) {c : CredB} (hc : c ∈ ls) (hr : isCred c = true) (k : c.kind = 3) {f : FactB} (hf : f ∈ factsK S) (hw : c.w2 = f.1.2) : Good ls (linkG S c f) := by
 unfold linkG
 split
 ·rename_i hb
  refine bring_good h hc hr ⟨rfl, .inr (.inr (.inl ⟨k, f.1.1, hb, ?_⟩))⟩
  rw [hw]
  exact hf
 ·exact h

theorem follow_good {ls : List CredB} {S : List StepB} (h : Good ls S) {f : FactB} (hf : f ∈ factsK S) : Good ls (followG ls S f) := by
 unfold followG
 have h1 := fold_good (S0 := S) (ls := ls) (fun S c => lean_ahead S c f.2) (leanL ls f.1) S (Ahead.refl _) h (fun c hc S' ha hg => by
  obtain ⟨hc1, hr, hk, hb⟩ := lean_iff.1 hc
  refine lean_good hg hc1 hr (fun hk4 => ?_)
  rcases hb with hb | ⟨hb, _⟩
  ·rw [hb]; exact ha.facts hf
  ·exact absurd hb hk4)
 refine fold_good (S0 := S) (fun S c => link_ahead S c f) (linkL ls f.1.2) _ (fold_ahead (fun S c => lean_ahead S c f.2) _ _) h1 (fun c hc S' ha hg => ?_)
 obtain ⟨hc1, hr, hk, hw⟩ := link_iff.1 hc
 exact link_good hg hc1 hr hk (ha.facts hf) hw

theorem follow_all {ls : List CredB} {S : List StepB} {f : FactB} (hf : f ∈ factsK S) : FollowedF ls (factsK S) (factsK (followG ls S f)) f := by
 refine followed_of_steps hf (fun c hc g hg => ?_) (fun c hc hb => ?_)
 ·unfold followG
  refine (fold_ahead (fun S c => link_ahead S c f) _ _).facts ?_
  refine fold_has (S0 := S) (fun S c => lean_ahead S c f.2) _ _ (Ahead.refl _) ⟨c, lean_iff.2 hc, fun S' ha => lean_has ?_⟩
  obtain ⟨h1, h2⟩ := hg
  refine ⟨h1, ?_⟩
  rcases h2 with h2 | ⟨k, h2⟩ | ⟨k, h2, h3, h4⟩
  ·exact .inl h2
  ·exact .inr (.inl ⟨k, ha.facts h2⟩)
  ·exact .inr (.inr ⟨k, h2, ha.facts h3, ha.facts h4⟩)
 ·unfold followG
  refine fold_has (S0 := S) (fun S c => link_ahead S c f) _ _ (fold_ahead (fun S c => lean_ahead S c f.2) _ _) ⟨c, link_iff.2 hc, fun S' ha => ?_⟩
  unfold linkG
  rw [if_pos (ha.facts hb)]
  exact bring_has _ _ _

/-- How far it has come when so many facts have been followed. -/
def growI (ls : List CredB) : Nat → List StepB
 | 0 => ls.foldl takeG []
 | i + 1 => match (growI ls i)[i]? with
  | some s => followG ls (growI ls i) s.f
  | none => growI ls i
theorem growI_step {ls : List CredB} {i : Nat} {S : List StepB} (h : S = growI ls i) {s : StepB} (hs : S[i]? = some s) : followG ls S s.f = growI ls (i + 1) := by
 subst h
 rw [growI, hs]

/-- It is at its end. -/
def stopG (want : FactB) (S : List StepB) (i : Nat) : Prop := S.length ≤ i ∨ want ∈ factsK S
def GrowTo (ls : List CredB) (want : FactB) (S : List StepB) : Prop := ∃ i, S = growI ls i ∧ stopG want S i ∧ ∀ j, j < i → ¬ stopG want (growI ls j) j
theorem GrowTo.one {ls : List CredB} {want : FactB} {A B : List StepB} (ha : GrowTo ls want A) (hb : GrowTo ls want B) : A = B := by
 obtain ⟨i, rfl, h1, h2⟩ := ha
 obtain ⟨j, rfl, k1, k2⟩ := hb
 rcases Nat.lt_trichotomy i j with h | h | h
 ·exact absurd h1 (k2 i h)
 ·rw [h]
 ·exact absurd k1 (h2 j h)

/-- What is so of it on the way. -/
structure GrowP (ls : List CredB) (i : Nat) (S : List StepB) : Prop where
 good : Good ls S
 le : i ≤ S.length
 add : AddI ls ls (factsK S) ((factsK S).take i)

theorem Good.der {ls : List CredB} {S : List StepB} (h : Good ls S) : ∀ f ∈ factsK S, Der ls f := by
 have key : ∀ n, ∀ i (hi : i < S.length), i < n → Der ls S[i].f := by
  intro n
  induction n with
  | zero => intro i _ h; omega
  | succ n ih =>
   intro i hi hn
   have hf := h.st i hi
   refine hf.2.der (h.mem _ (List.getElem_mem hi)) hf.1 (fun f hf => ?_)
   unfold factsK at hf
   obtain ⟨s, hs, rfl⟩ := List.mem_map.1 hf
   obtain ⟨j, hj, rfl⟩ := List.getElem_of_mem hs
   rw [List.getElem_take]
   rw [List.length_take] at hj
   exact ih j (by omega) (by omega)
 intro f hf
 unfold factsK at hf
 obtain ⟨s, hs, rfl⟩ := List.mem_map.1 hf
 obtain ⟨j, hj, rfl⟩ := List.getElem_of_mem hs
 exact key (j + 1) j hj (Nat.lt_succ_self j)

theorem GrowP.start {ls : List CredB} (hall : ∀ c ∈ ls, isCred c = true) : GrowP ls 0 (growI ls 0) := by
 have hg : Good ls (growI ls 0) := fold_good (S0 := []) (fun S c => take_ahead S c) ls [] (Ahead.refl _) (Good.nil ls) (fun c hc S' _ h => by
  unfold takeG
  split
  ·rename_i k
   exact bring_good h hc (hall c hc) ⟨rfl, .inl ⟨k, rfl⟩⟩
  ·exact h)
 refine ⟨hg, Nat.zero_le _, hg.nd, hg.der, fun f hf => (by simp at hf), fun c hc hr g hg => ?_⟩
 obtain ⟨g1, g2⟩ := g
 obtain ⟨h1, h2⟩ := hg
 simp only at h1 h2
 subst h1
 simp only [List.take_zero, List.not_mem_nil, and_false, or_false, exists_false] at h2
 refine fold_has (S0 := []) (fun S c => take_ahead S c) ls [] (Ahead.refl _) ⟨c, hc, fun S' _ => ?_⟩
 unfold takeG
 rw [if_pos h2.1, h2.2]
 exact bring_has _ _ _

theorem GrowP.step {ls : List CredB} {i : Nat} {S : List StepB} (h : GrowP ls i S) (hi : i < S.length) : GrowP ls (i + 1) (followG ls S S[i].f) := by
 have hf : S[i].f ∈ factsK S := List.mem_map.2 ⟨_, List.getElem_mem hi, rfl⟩
 have hg := follow_good h.good hf
 have ha := follow_ahead ls S S[i].f
 have hl := ha.len
 have hlf : i < (factsK S).length := by rw [factsK_len]; exact hi
 refine ⟨hg, by omega, ?_⟩
 have e : (factsK (followG ls S S[i].f)).take (i + 1) = (factsK S).take i ++ [S[i].f] := by
  rw [← factsK_take, ha.take hi, factsK_take, List.take_succ_eq_append_getElem hlf]
  congr 2
  simp [factsK]
 rw [e]
 exact h.add.follow hf hg.nd hg.der (fun f hf => ha.facts hf) (follow_all hf)

theorem growP {ls : List CredB} (hall : ∀ c ∈ ls, isCred c = true) {want : FactB} : ∀ i, (∀ j, j < i → ¬ stopG want (growI ls j) j) → GrowP ls i (growI ls i)
 | 0, _ => GrowP.start hall
 | i + 1, h => by
  have h1 := growP hall i (fun j hj => h j (by omega))
  have h2 := h i (Nat.lt_succ_self i)
  have hi : i < (growI ls i).length := Nat.lt_of_not_le (fun e => h2 (.inl e))
  have := h1.step hi
  rw [growI_step rfl (List.getElem?_eq_getElem hi)] at this
  exact this

/-- What is found. -/
theorem GrowTo.iff {ls : List CredB} (hall : ∀ c ∈ ls, isCred c = true) {want : FactB} {S : List StepB} (h : GrowTo ls want S) : Good ls S ∧ (want ∈ factsK S ↔ Der ls want) := by
 obtain ⟨i, rfl, h1, h2⟩ := h
 have hp := growP hall i h2
 refine ⟨hp.good, hp.good.der want, fun hd => ?_⟩
 rcases h1 with h1 | h1
 ·have he : (factsK (growI ls i)).take i = factsK (growI ls i) := List.take_of_length_le (by rw [factsK_len]; exact h1)
  have ha := hp.add
  rw [he] at ha
  exact (ha.done (fun f hf => hf) (fun c hc _ => hc) want).2 hd
 ·exact h1
end Go.Proofs.Ytjaplnainlbldaa
