/- Texts that the proof leans on, in one: KwMath, RefCredRoles. -/
import Derived.Test.YtjaplnainlbldaaSc6
import Derived.Test.YtjaplnainlbldaaSc5
/- The program's check: facts that are known, places and ways: plain words, nothing of the program's text. -/
namespace Go.Proofs.Ytjaplnainlbldaa
open Go.RowKit

/-- Facts as they come to be known: each once. -/
def addK (F : List FactB) (f : FactB) : List FactB := if f ∈ F then F else F ++ [f]
def knownK (hs : List FactB) : List FactB := hs.foldl addK []

theorem addK_mem {F : List FactB} {f g : FactB} : g ∈ addK F f ↔ g ∈ F ∨ g = f := by
  unfold addK
  split
  · rename_i h
    exact ⟨.inl, fun e => e.elim id (fun e => e ▸ h)⟩
  · simp
theorem addK_nd {F : List FactB} (h : F.Nodup) (f : FactB) : (addK F f).Nodup := by
  unfold addK
  split
  · exact h
  · rename_i hn
    rw [List.nodup_append]
    refine ⟨h, by simp, fun x hx y hy e => ?_⟩
    simp at hy
    subst hy
    subst e
    exact hn hx
theorem addK_len (F : List FactB) (f : FactB) : (addK F f).length ≤ F.length + 1 := by
  unfold addK
  split <;> simp
theorem foldl_addK_mem (hs : List FactB) : ∀ (F : List FactB) (g : FactB), g ∈ hs.foldl addK F ↔ g ∈ F ∨ g ∈ hs := by
  induction hs with
  | nil => intro F g; simp
  | cons x l ih => intro F g; rw [List.foldl_cons, ih, addK_mem, List.mem_cons, or_assoc]
theorem knownK_mem {hs : List FactB} {g : FactB} : g ∈ knownK hs ↔ g ∈ hs := by
  unfold knownK
  rw [foldl_addK_mem]
  simp
theorem knownK_snoc (hs : List FactB) (f : FactB) : knownK (hs ++ [f]) = addK (knownK hs) f := by simp [knownK]
theorem knownK_len (hs : List FactB) : (knownK hs).length ≤ hs.length := by
  unfold knownK
  have : ∀ (l F : List FactB), (l.foldl addK F).length ≤ F.length + l.length := by
    intro l
    induction l with
    | nil => intro F; simp
    | cons x l ih => intro F; rw [List.foldl_cons, List.length_cons]; have h1 := ih (addK F x); have h2 := addK_len F x; omega
  have := this hs []
  simpa using this
/-- The place of a fact. -/
theorem idx_get {F : List FactB} {f : FactB} (h : f ∈ F) : F[F.idxOf f]? = some f := by
  rw [List.getElem?_eq_getElem (List.idxOf_lt_length_of_mem h)]
  simp
theorem idx_of_get {F : List FactB} (hn : F.Nodup) {i : Nat} {f : FactB} (h : F[i]? = some f) : F.idxOf f = i := by
  obtain ⟨hi, rfl⟩ := List.getElem?_eq_some_iff.1 h
  exact hn.idxOf_getElem i hi
theorem idx_app {F : List FactB} {f g : FactB} (h : f ∈ F) : (F ++ [g]).idxOf f = F.idxOf f := by
  rw [List.idxOf_append, if_pos h]
theorem idx_new {F : List FactB} {f : FactB} (h : f ∉ F) : (F ++ [f]).idxOf f = F.length := by
  rw [List.idxOf_append, if_neg h]
  simp

/-- The places of a role's facts. -/
def placesK (F : List FactB) (r : RoleB) : List Nat := (List.range F.length).filter (fun i => decide ((F[i]?).map (·.1) = some r))
theorem placesK_mem {F : List FactB} {r : RoleB} {i : Nat} : i ∈ placesK F r ↔ ∃ w, F[i]? = some (r, w) := by
  unfold placesK
  rw [List.mem_filter, List.mem_range]
  simp only [decide_eq_true_eq, Option.map_eq_some_iff]
  constructor
  · rintro ⟨_, f, h, rfl⟩
    exact ⟨f.2, h⟩
  · rintro ⟨w, h⟩
    exact ⟨(List.getElem?_eq_some_iff.1 h).1, _, h, rfl⟩
theorem placesK_snoc (F : List FactB) (f : FactB) (r : RoleB) : placesK (F ++ [f]) r = if f.1 = r then placesK F r ++ [F.length] else placesK F r := by
  unfold placesK
  rw [List.length_append, List.length_singleton, List.range_succ, List.filter_append]
  have e1 : (List.range F.length).filter (fun i => decide (((F ++ [f])[i]?).map (·.1) = some r)) = (List.range F.length).filter (fun i => decide ((F[i]?).map (·.1) = some r)) := by
    refine List.filter_congr fun i hi => ?_
    rw [List.getElem?_append_left (List.mem_range.1 hi)]
  rw [e1]
  have e2 : (F ++ [f])[F.length]? = some f := by simp
  by_cases h : f.1 = r
  · rw [if_pos h]
    simp [h]
  · rw [if_neg h]
    simp [h]
theorem placesK_len (F : List FactB) (r : RoleB) : (placesK F r).length ≤ F.length := by
  unfold placesK
  refine Nat.le_trans (List.length_filter_le _ _) ?_
  simp
theorem placesK_lt {F : List FactB} {r : RoleB} {i : Nat} (h : i ∈ placesK F r) : i < F.length := by
  obtain ⟨w, h⟩ := placesK_mem.1 h
  exact (List.getElem?_eq_some_iff.1 h).1
theorem placesK_none {F : List FactB} {r : RoleB} (h : ∀ f ∈ F, f.1 ≠ r) : placesK F r = [] := by
  rw [List.eq_nil_iff_forall_not_mem]
  intro i hi
  obtain ⟨w, hw⟩ := placesK_mem.1 hi
  exact h _ (List.mem_of_getElem? hw) rfl

/-- The way that takes these facts. -/
def wayK (F fs : List FactB) : List (List Nat) := if ∀ f ∈ fs, f ∈ F then [fs.map (F.idxOf ·)] else []
theorem wayK_yes {F fs : List FactB} (h : ∀ f ∈ fs, f ∈ F) : wayK F fs = [fs.map (F.idxOf ·)] := if_pos h
theorem wayK_no {F fs : List FactB} {f : FactB} (h : f ∈ fs) (hn : f ∉ F) : wayK F fs = [] := if_neg (fun e => hn (e f h))

def linkFs (F : List FactB) (s : StepB) (i : Nat) : List FactB := [F.getD i ((([], []), [])), (((F.getD i (([], []), [])).2, s.c.w2), s.f.2)]

/-- The ways to a step. -/
def waysK (s : StepB) (F : List FactB) : List (List Nat) :=
  if isCred s.c = true ∧ s.f.1 = s.c.head then
    if s.c.kind = 1 then (if s.c.who = s.f.2 then [[]] else [])
    else if s.c.kind = 2 then wayK F [(s.c.b, s.f.2)]
    else if s.c.kind = 3 then (placesK F s.c.b).flatMap (fun i => wayK F (linkFs F s i))
    else wayK F [(s.c.b, s.f.2), (s.c.c, s.f.2)]
  else []

/-- What is said by a step. -/
def FolK (s : StepB) (A : FactB → Prop) : Prop := isCred s.c = true ∧ Brings s.c A s.f

theorem folK_iff {s : StepB} {hs : List FactB} : followsK s hs = true ↔ FolK s (· ∈ hs) := by
  unfold followsK FolK Brings stepF
  rw [Bool.and_eq_true, Bool.and_eq_true, decide_eq_true_eq]
  by_cases hr : isCred s.c = true
  case neg =>
    exact ⟨fun h => absurd h.1 hr, fun h => absurd h.1 hr⟩
  refine and_congr Iff.rfl (and_congr Iff.rfl ?_)
  rcases isCred_kind hr with k | k | k | k
  · rw [if_pos k]
    constructor
    · intro h; exact .inl ⟨k, (beq_iff_eq.1 h).symm⟩
    · rintro (⟨_, h⟩ | ⟨h, _⟩ | ⟨h, _⟩ | ⟨h, _⟩)
      · exact beq_iff_eq.2 h.symm
      · omega
      · omega
      · omega
  · rw [if_neg (by omega), if_pos k, inF_iff]
    constructor
    · intro h; exact .inr (.inl ⟨k, h⟩)
    · rintro (⟨h, _⟩ | ⟨_, h⟩ | ⟨h, _⟩ | ⟨h, _⟩)
      · omega
      · exact h
      · omega
      · omega
  · rw [if_neg (by omega), if_neg (by omega), if_neg (by omega), List.any_eq_true]
    constructor
    · rintro ⟨b, _, h⟩
      rw [Bool.and_eq_true, inF_iff, inF_iff] at h
      exact .inr (.inr (.inl ⟨k, b, h.1, h.2⟩))
    · rintro (⟨h, _⟩ | ⟨h, _⟩ | ⟨_, b, h1, h2⟩ | ⟨h, _⟩)
      · omega
      · omega
      · refine ⟨b, ?_, ?_⟩
        · unfold whosF
          exact List.mem_map.2 ⟨_, h1, rfl⟩
        · rw [Bool.and_eq_true, inF_iff, inF_iff]
          exact ⟨h1, h2⟩
      · omega
  · rw [if_neg (by omega), if_neg (by omega), if_pos k, Bool.and_eq_true, inF_iff, inF_iff]
    constructor
    · intro h; exact .inr (.inr (.inr ⟨k, h.1, h.2⟩))
    · rintro (⟨h, _⟩ | ⟨h, _⟩ | ⟨h, _⟩ | ⟨_, h1, h2⟩)
      · omega
      · omega
      · omega
      · exact ⟨h1, h2⟩

/-- A way serves where its facts are. -/
theorem wayK_serve {F fs : List FactB} {P : FactB → Prop} (hP : ∀ f, P f → f ∈ F) : (∀ f ∈ fs, P f) ↔ ∃ y ∈ wayK F fs, ∀ i ∈ y, ∃ f, F[i]? = some f ∧ P f := by
  by_cases h : ∀ f ∈ fs, f ∈ F
  · rw [wayK_yes h]
    constructor
    · intro hp
      refine ⟨_, List.mem_singleton.2 rfl, fun i hi => ?_⟩
      obtain ⟨f, hf, rfl⟩ := List.mem_map.1 hi
      exact ⟨f, idx_get (h f hf), hp f hf⟩
    · rintro ⟨y, hy, hp⟩ f hf
      rw [List.mem_singleton] at hy
      subst hy
      obtain ⟨g, h1, h2⟩ := hp _ (List.mem_map.2 ⟨f, hf, rfl⟩)
      rw [idx_get (h f hf)] at h1
      cases h1
      exact h2
  · constructor
    · intro hp
      exact absurd (fun f hf => hP f (hp f hf)) h
    · rintro ⟨y, hy, _⟩
      unfold wayK at hy
      rw [if_neg h] at hy
      cases hy

theorem linkFs_at {F : List FactB} {s : StepB} {i : Nat} {r : RoleB} {w : List UInt8} (h : F[i]? = some (r, w)) : linkFs F s i = [(r, w), ((w, s.c.w2), s.f.2)] := by
  unfold linkFs
  rw [List.getD_eq_getElem?_getD, h]
  rfl

theorem waysK_serve {F : List FactB} {s : StepB} {P : FactB → Prop} (hP : ∀ f, P f → f ∈ F) : FolK s P ↔ ∃ y ∈ waysK s F, ∀ i ∈ y, ∃ f, F[i]? = some f ∧ P f := by
  unfold FolK Brings waysK
  by_cases hr : isCred s.c = true
  case neg =>
    rw [if_neg (fun h => hr h.1)]
    exact ⟨fun h => absurd h.1 hr, fun ⟨_, h, _⟩ => by cases h⟩
  by_cases hh : s.f.1 = s.c.head
  case neg =>
    rw [if_neg (fun h => hh h.2)]
    exact ⟨fun h => absurd h.2.1 hh, fun ⟨_, h, _⟩ => by cases h⟩
  rw [if_pos ⟨hr, hh⟩]
  rcases isCred_kind hr with k | k | k | k
  · rw [if_pos k]
    constructor
    · rintro ⟨_, _, (⟨_, h⟩ | ⟨h, _⟩ | ⟨h, _⟩ | ⟨h, _⟩)⟩
      · rw [if_pos h.symm]
        exact ⟨[], by simp, fun i hi => by cases hi⟩
      · omega
      · omega
      · omega
    · rintro ⟨y, hy, _⟩
      refine ⟨hr, hh, .inl ⟨k, ?_⟩⟩
      split at hy
      · rename_i h; exact h.symm
      · cases hy
  · rw [if_neg (by omega), if_pos k, ← wayK_serve hP]
    constructor
    · rintro ⟨_, _, (⟨h, _⟩ | ⟨_, h⟩ | ⟨h, _⟩ | ⟨h, _⟩)⟩
      · omega
      · intro f hf; rw [List.mem_singleton] at hf; subst hf; exact h
      · omega
      · omega
    · intro h
      exact ⟨hr, hh, .inr (.inl ⟨k, h _ (by simp)⟩)⟩
  · rw [if_neg (by omega), if_neg (by omega), if_pos k]
    constructor
    · rintro ⟨_, _, (⟨h, _⟩ | ⟨h, _⟩ | ⟨_, b, h1, h2⟩ | ⟨h, _⟩)⟩
      · omega
      · omega
      · have hi := idx_get (hP _ h1)
        obtain ⟨y, hy, hp⟩ := (wayK_serve (F := F) (fs := linkFs F s (F.idxOf (s.c.b, b))) hP).1 (fun f hf => by
          rw [linkFs_at hi] at hf
          rcases List.mem_cons.1 hf with rfl | hf
          · exact h1
          · rw [List.mem_singleton] at hf; subst hf; exact h2)
        exact ⟨y, List.mem_flatMap.2 ⟨_, placesK_mem.2 ⟨b, hi⟩, hy⟩, hp⟩
      · omega
    · rintro ⟨y, hy, hp⟩
      obtain ⟨i, hi, hy⟩ := List.mem_flatMap.1 hy
      obtain ⟨b, hb⟩ := placesK_mem.1 hi
      have := (wayK_serve (F := F) (fs := linkFs F s i) hP).2 ⟨y, hy, hp⟩
      rw [linkFs_at hb] at this
      exact ⟨hr, hh, .inr (.inr (.inl ⟨k, b, this _ (by simp), this _ (by simp)⟩))⟩
  · rw [if_neg (by omega), if_neg (by omega), if_neg (by omega), ← wayK_serve hP]
    constructor
    · rintro ⟨_, _, (⟨h, _⟩ | ⟨h, _⟩ | ⟨h, _⟩ | ⟨_, h1, h2⟩)⟩
      · omega
      · omega
      · omega
      · intro f hf
        rcases List.mem_cons.1 hf with rfl | hf
        · exact h1
        · rw [List.mem_singleton] at hf; subst hf; exact h2
    · intro h
      exact ⟨hr, hh, .inr (.inr (.inr ⟨k, h _ (by simp), h _ (by simp)⟩))⟩

/-- Every place of a way is one. -/
theorem waysK_lt {F : List FactB} {s : StepB} {y : List Nat} (hy : y ∈ waysK s F) : ∀ i ∈ y, i < F.length := by
  have key : ∀ fs, y ∈ wayK F fs → ∀ i ∈ y, i < F.length := fun fs h i hi => by
    unfold wayK at h
    split at h
    · rename_i hf
      rw [List.mem_singleton] at h
      subst h
      obtain ⟨f, hfm, rfl⟩ := List.mem_map.1 hi
      exact List.idxOf_lt_length_of_mem (hf f hfm)
    · cases h
  unfold waysK at hy
  split at hy
  · split at hy
    · split at hy
      · rw [List.mem_singleton] at hy; subst hy; intro i hi; cases hi
      · cases hy
    · split at hy
      · exact key _ hy
      · split at hy
        · obtain ⟨j, _, hy⟩ := List.mem_flatMap.1 hy
          exact key _ hy
        · exact key _ hy
  · cases hy

theorem wayK_few (F fs : List FactB) : (wayK F fs).length ≤ 1 := by unfold wayK; split <;> simp
theorem waysK_ne {F : List FactB} {s : StepB} : waysK s F ≠ [] ↔ FolK s (· ∈ F) := by
  rw [waysK_serve (P := (· ∈ F)) (fun _ h => h)]
  constructor
  · intro h
    obtain ⟨y, l, e⟩ := List.exists_cons_of_ne_nil h
    have hy : y ∈ waysK s F := by rw [e]; simp
    refine ⟨y, hy, fun i hi => ?_⟩
    have := waysK_lt hy i hi
    exact ⟨F[i], List.getElem?_eq_getElem this, List.getElem_mem this⟩
  · rintro ⟨y, hy, _⟩ e
    rw [e] at hy
    cases hy

/-- What all ways have. -/
def commonK : List (List Nat) → List Nat
  | [] => []
  | y :: ys => ys.foldl (fun l w => l.filter (fun a => w.contains a)) y
theorem commonK_mem : ∀ {ys : List (List Nat)}, ys ≠ [] → ∀ i, i ∈ commonK ys ↔ ∀ y ∈ ys, i ∈ y
  | [], h, _ => absurd rfl h
  | y :: ys, _, i => by
    unfold commonK
    have : ∀ (ys : List (List Nat)) (l : List Nat), i ∈ ys.foldl (fun l w => l.filter (fun a => w.contains a)) l ↔ i ∈ l ∧ ∀ y ∈ ys, i ∈ y := by
      intro ys
      induction ys with
      | nil => intro l; simp
      | cons x ys ih =>
        intro l
        rw [List.foldl_cons, ih, List.mem_filter]
        simp [and_assoc]
    rw [this]
    simp
/-- Without the fact at a place a step follows no more, just where all ways have the place. -/
theorem common_needed {F : List FactB} (hn : F.Nodup) {s : StepB} (hf : FolK s (· ∈ F)) {i : Nat} {g : FactB} (hi : F[i]? = some g) : ¬ FolK s (fun f => f ∈ F ∧ f ≠ g) ↔ i ∈ commonK (waysK s F) := by
  rw [commonK_mem (waysK_ne.2 hf), waysK_serve (P := fun f => f ∈ F ∧ f ≠ g) (fun _ h => h.1)]
  constructor
  · intro h y hy
    refine Classical.byContradiction fun hc => ?_
    refine h ⟨y, hy, fun j hj => ?_⟩
    have hlt := waysK_lt hy j hj
    refine ⟨F[j], List.getElem?_eq_getElem hlt, List.getElem_mem hlt, fun e => ?_⟩
    have h1 := idx_of_get hn (List.getElem?_eq_getElem hlt)
    rw [e, idx_of_get hn hi] at h1
    exact hc (h1 ▸ hj)
  · rintro h ⟨y, hy, hp⟩
    obtain ⟨f, h1, h2, h3⟩ := hp i (h y hy)
    rw [hi] at h1
    cases h1
    exact h3 rfl

/-- What Tight has found when k steps are behind it. -/
def neededK (ls : List StepB) (k i : Nat) : Prop := ∃ j, ∃ h : j < ls.length, j < k ∧ i ∈ commonK (waysK ls[j] (factsK (ls.take j)))

theorem factsK_take (ls : List StepB) (k : Nat) : factsK (ls.take k) = (factsK ls).take k := by simp [factsK, List.map_take]
theorem factsK_nd {ls : List StepB} (h : ∀ i j (hi : i < ls.length) (hj : j < ls.length), j < i → ls[i].f ≠ ls[j].f) : (factsK ls).Nodup := by
  rw [List.nodup_iff_pairwise_ne, List.pairwise_iff_getElem]
  intro i j hi hj hlt
  rw [factsK_len] at hi hj
  simp only [factsK, List.getElem_map]
  exact fun e => h j i hj hi hlt e.symm

theorem tightK_iff {ls : List StepB} (hd : ∀ i j (hi : i < ls.length) (hj : j < ls.length), j < i → ls[i].f ≠ ls[j].f) (hs : ∀ i (h : i < ls.length), followsK ls[i] (factsK (ls.take i)) = true) :
    tightK ls = true ↔ ∀ i, i + 1 < ls.length → neededK ls ls.length i := by
  have hnd := factsK_nd hd
  have key : ∀ i, i + 1 < ls.length → (standsK (ls.take i ++ ls.drop (i + 1)) = false ↔ neededK ls ls.length i) := by
    intro i hi
    have hlen : (ls.take i ++ ls.drop (i + 1)).length = ls.length - 1 := by simp; omega
    have hneed : ∀ j (hj : j < ls.length), i < j → (followsK ls[j] (factsK ((ls.take i ++ ls.drop (i + 1)).take (j - 1))) = false ↔ i ∈ commonK (waysK ls[j] (factsK (ls.take j)))) := by
      intro j hj hij
      have hnd2 : (factsK (ls.take j)).Nodup := by rw [factsK_take]; exact hnd.sublist (List.take_sublist _ _)
      have hg : (factsK (ls.take j))[i]? = some ls[i].f := by
        rw [factsK, List.getElem?_map, List.getElem?_take_of_lt hij, List.getElem?_eq_getElem (by omega)]
        rfl
      rw [← common_needed hnd2 (folK_iff.1 (hs j hj)) hg, ← Bool.not_eq_true, folK_iff]
      have e : ∀ f, f ∈ factsK ((ls.take i ++ ls.drop (i + 1)).take (j - 1)) ↔ (f ∈ factsK (ls.take j) ∧ f ≠ ls[i].f) := by
        intro f
        have e1 : (ls.take i ++ ls.drop (i + 1)).take (j - 1) = ls.take i ++ (ls.take j).drop (i + 1) := by
          rw [List.take_append]
          rw [List.take_of_length_le (by simp; omega), List.length_take, List.drop_take]
          congr 2
          omega
        rw [e1]
        have e2 : ls.take j = ls.take i ++ ls[i] :: (ls.take j).drop (i + 1) := by
          have h1 : (ls.take j).take i = ls.take i := by rw [List.take_take]; congr 1; omega
          have h2 : (ls.take j)[i]'(by simp; omega) = ls[i] := by simp
          calc ls.take j = (ls.take j).take i ++ (ls.take j).drop i := (List.take_append_drop _ _).symm
            _ = _ := by rw [h1, List.drop_eq_getElem_cons (by simp; omega), h2]
        constructor
        · intro hf
          have hm : f ∈ factsK (ls.take j) := by
            rw [e2]
            unfold factsK at hf ⊢
            rw [List.map_append] at hf ⊢
            rcases List.mem_append.1 hf with hf | hf
            · exact List.mem_append_left _ hf
            · exact List.mem_append_right _ (List.mem_cons_of_mem _ hf)
          refine ⟨hm, fun e => ?_⟩
          subst e
          rw [e2] at hnd2
          unfold factsK at hnd2 hf
          rw [List.map_append, List.map_cons, List.nodup_append] at hnd2
          rw [List.map_append] at hf
          rcases List.mem_append.1 hf with hf | hf
          · exact hnd2.2.2 _ hf _ (by simp) rfl
          · exact (List.nodup_cons.1 hnd2.2.1).1 hf
        · rintro ⟨hm, hne⟩
          rw [e2] at hm
          unfold factsK at hm ⊢
          rw [List.map_append] at hm ⊢
          rcases List.mem_append.1 hm with hm | hm
          · exact List.mem_append_left _ hm
          · rw [List.map_cons] at hm
            rcases List.mem_cons.1 hm with hm | hm
            · exact absurd hm hne
            · exact List.mem_append_right _ hm
      have e' : (fun f => f ∈ factsK ((ls.take i ++ ls.drop (i + 1)).take (j - 1))) = (fun f => f ∈ factsK (ls.take j) ∧ f ≠ ls[i].f) := funext fun f => propext (e f)
      show ¬ FolK ls[j] (fun f => f ∈ factsK ((ls.take i ++ ls.drop (i + 1)).take (j - 1))) ↔ _
      rw [e']
    have hge : ∀ t (ht : t < (ls.take i ++ ls.drop (i + 1)).length), i ≤ t → (ls.take i ++ ls.drop (i + 1))[t] = ls[t + 1]'(by omega) := by
      intro t ht hit
      have hle : (ls.take i).length = i := by simp; omega
      rw [List.getElem_append_right (by omega), List.getElem_drop]
      congr 1
      omega
    constructor
    · intro h
      unfold standsK at h
      rw [decide_eq_false_iff_not] at h
      refine Classical.byContradiction fun hc => ?_
      refine h fun t ht => ?_
      by_cases hit : i ≤ t
      · rw [hge t ht hit]
        cases hb : followsK (ls[t + 1]'(by omega)) (factsK ((ls.take i ++ ls.drop (i + 1)).take t)) with
        | true => rfl
        | false =>
          refine absurd ⟨t + 1, by omega, by omega, ?_⟩ hc
          exact (hneed (t + 1) (by omega) (by omega)).1 (by simpa using hb)
      · have h1 : (ls.take i ++ ls.drop (i + 1))[t] = ls[t]'(by omega) := by
          rw [List.getElem_append_left (by simp; omega), List.getElem_take]
        have h2 : (ls.take i ++ ls.drop (i + 1)).take t = ls.take t := by
          rw [List.take_append_of_le_length (by simp; omega), List.take_take]
          congr 1
          omega
        rw [h1, h2]
        exact hs t (by omega)
    · rintro ⟨j, hj, _, hc⟩
      have hij : i < j := by
        have hne := waysK_ne.2 (folK_iff.1 (hs j hj))
        obtain ⟨y, l, e⟩ := List.exists_cons_of_ne_nil hne
        have hy : y ∈ waysK ls[j] (factsK (ls.take j)) := by rw [e]; simp
        have h1 := (commonK_mem hne i).1 hc y hy
        have h2 := waysK_lt hy i h1
        rw [factsK_len, List.length_take] at h2
        omega
      unfold standsK
      rw [decide_eq_false_iff_not]
      intro h
      have h1 := h (j - 1) (by omega)
      rw [hge (j - 1) (by omega) (by omega)] at h1
      have h2 := (hneed j hj hij).2 hc
      have e : ls[j - 1 + 1]'(by omega) = ls[j] := by congr 1; omega
      rw [e] at h1
      rw [h2] at h1
      cases h1
  constructor
  · intro h i hi
    have h1 : (∀ i j (hi : i < ls.length) (hj : j < ls.length), j < i → ls[i].f ≠ ls[j].f) ∧ standsK ls = true ∧ ∀ i, i + 1 < ls.length → standsK (ls.take i ++ ls.drop (i + 1)) = false := by
      refine Classical.byContradiction fun hc => ?_
      rw [tightK_no hc] at h
      cases h
    exact (key i hi).1 (h1.2.2 i hi)
  · intro h
    exact tightK_yes ⟨hd, by unfold standsK; exact decide_eq_true hs, fun i hi => (key i hi).2 (h i hi)⟩
end Go.Proofs.Ytjaplnainlbldaa

/- The contract of the document's Roles of layer 5. -/
namespace Go.Proofs.Ytjaplnainlbldaa
open Go.RowKit

/-- The roles that a credential speaks of. -/
def credRoles (c : CredB) : List RoleB := if isCred c then (if c.kind = 1 then [c.head] else if c.kind = 4 then [c.head, c.b, c.c] else [c.head, c.b]) else []

end Go.Proofs.Ytjaplnainlbldaa
