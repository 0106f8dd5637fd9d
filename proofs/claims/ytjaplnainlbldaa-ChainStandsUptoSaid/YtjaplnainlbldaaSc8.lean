/- How a chain grows: steps by credentials, each with a fact of its own: plain words, nothing of the program's text. -/
import Derived.Test.YtjaplnainlbldaaSc7
namespace Go.Proofs.Ytjaplnainlbldaa
open Go.RowKit

/-- Somebody is brought into a credential's head. -/
def bringG (S : List StepB) (c : CredB) (w : List UInt8) : List StepB := if (c.head, w) ∈ factsK S then S else S ++ [⟨c, (c.head, w)⟩]

/-- The credentials that lean on a role, in the order in which they were taken. -/
def leanL (T : List CredB) (r : RoleB) : List CredB := T.flatMap (fun c => (((credRoles c).drop 1).filter (fun x => decide (x = r))).map (fun _ => c))
/-- The linked ones by their second word. -/
def linkL (T : List CredB) (v : List UInt8) : List CredB := T.filter (fun c => decide (isCred c = true ∧ c.kind = 3 ∧ c.w2 = v))

theorem leanL_snoc (T : List CredB) (c : CredB) (r : RoleB) : leanL (T ++ [c]) r = leanL T r ++ (((credRoles c).drop 1).filter (fun x => decide (x = r))).map (fun _ => c) := by simp [leanL]
theorem linkL_snoc (T : List CredB) (c : CredB) (v : List UInt8) : linkL (T ++ [c]) v = linkL T v ++ if isCred c = true ∧ c.kind = 3 ∧ c.w2 = v then [c] else [] := by
  unfold linkL
  rw [List.filter_append]
  congr 1
  by_cases h : isCred c = true ∧ c.kind = 3 ∧ c.w2 = v
  · rw [if_pos h]; simp [h]
  · rw [if_neg h, List.filter_cons, if_neg (by simpa using h)]; rfl
theorem leanL_len (T : List CredB) (r : RoleB) : (leanL T r).length ≤ T.length * 2 := by
  unfold leanL
  induction T with
  | nil => simp
  | cons x l ih =>
    rw [List.flatMap_cons, List.length_append, List.length_map, List.length_cons]
    have h1 := List.length_filter_le (fun y => decide (y = r)) ((credRoles x).drop 1)
    have h2 : ((credRoles x).drop 1).length ≤ 2 := by
      unfold credRoles
      split
      · split
        · simp
        · split <;> simp
      · simp
    omega
theorem linkL_len (T : List CredB) (v : List UInt8) : (linkL T v).length ≤ T.length := List.length_filter_le _ _

theorem lean_iff {T : List CredB} {r : RoleB} {c : CredB} : c ∈ leanL T r ↔ leanR T r c := by
  unfold leanL leanR
  rw [List.mem_flatMap]
  constructor
  · rintro ⟨d, hd, h⟩
    obtain ⟨x, hx, rfl⟩ := List.mem_map.1 h
    obtain ⟨h1, h2⟩ := List.mem_filter.1 hx
    have h2 := of_decide_eq_true h2
    subst h2
    unfold credRoles at h1
    by_cases hr : isCred d = true
    · rw [if_pos hr] at h1
      by_cases k1 : d.kind = 1
      · rw [if_pos k1] at h1; simp at h1
      · rw [if_neg k1] at h1
        by_cases k4 : d.kind = 4
        · rw [if_pos k4] at h1
          simp at h1
          rcases h1 with h1 | h1
          · exact ⟨hd, hr, k1, .inl h1.symm⟩
          · exact ⟨hd, hr, k1, .inr ⟨k4, h1.symm⟩⟩
        · rw [if_neg k4] at h1
          simp at h1
          exact ⟨hd, hr, k1, .inl h1.symm⟩
    · rw [if_neg hr] at h1; simp at h1
  · rintro ⟨hd, hr, k1, h⟩
    refine ⟨c, hd, List.mem_map.2 ⟨r, List.mem_filter.2 ⟨?_, by simp⟩, rfl⟩⟩
    unfold credRoles
    rw [if_pos hr, if_neg k1]
    by_cases k4 : c.kind = 4
    · rw [if_pos k4]
      simp
      rcases h with h | ⟨_, h⟩
      · exact .inl h.symm
      · exact .inr h.symm
    · rw [if_neg k4]
      simp
      rcases h with h | ⟨h, _⟩
      · exact h.symm
      · exact absurd h k4
theorem link_iff {T : List CredB} {v : List UInt8} {c : CredB} : c ∈ linkL T v ↔ linkR T v c := by
  unfold linkL linkR
  rw [List.mem_filter, decide_eq_true_eq]

def whoAt (S : List StepB) (i : Nat) : List UInt8 := ((factsK S).getD i (([], []), [])).2

/-- A credential is leant on somebody's being in its B or C. -/
def leanG (S : List StepB) (c : CredB) (w : List UInt8) : List StepB :=
  if c.kind = 2 then bringG S c w
  else if c.kind = 3 then (placesK (factsK S) (w, c.w2)).foldl (fun S' i => bringG S' c (whoAt S' i)) S
  else if c.kind = 4 then (if (c.b, w) ∈ factsK S ∧ (c.c, w) ∈ factsK S then bringG S c w else S)
  else S
def linkG (S : List StepB) (c : CredB) (f : FactB) : List StepB := if (c.b, f.1.1) ∈ factsK S then bringG S c f.2 else S
/-- A fact is followed. -/
def followG (T : List CredB) (S : List StepB) (f : FactB) : List StepB := (linkL T f.1.2).foldl (fun S c => linkG S c f) ((leanL T f.1).foldl (fun S c => leanG S c f.2) S)
def takeG (S : List StepB) (c : CredB) : List StepB := if c.kind = 1 then bringG S c c.who else S

/-- Steps that stand, by these credentials, each with a fact of its own. -/
structure Good (ls : List CredB) (S : List StepB) : Prop where
  nd : (factsK S).Nodup
  mem : ∀ s ∈ S, s.c ∈ ls
  st : ∀ i (h : i < S.length), FolK S[i] (· ∈ factsK (S.take i))

theorem Good.nil (ls : List CredB) : Good ls [] := ⟨List.nodup_nil, fun _ h => (by cases h), fun _ h => absurd h (by simp)⟩

theorem FolK.mono {s : StepB} {A B : FactB → Prop} (h : FolK s A) (hab : ∀ f, A f → B f) : FolK s B := ⟨h.1, h.2.mono hab⟩

theorem Good.snoc {ls : List CredB} {S : List StepB} (h : Good ls S) {c : CredB} (hc : c ∈ ls) (hr : isCred c = true) {w : List UInt8} (hn : (c.head, w) ∉ factsK S) (hb : Brings c (· ∈ factsK S) (c.head, w)) : Good ls (S ++ [⟨c, (c.head, w)⟩]) := by
  refine ⟨?_, fun s hs => ?_, fun i hi => ?_⟩
  · rw [factsK_snoc, List.nodup_append]
    refine ⟨h.nd, by simp, fun x hx y hy e => ?_⟩
    simp at hy
    subst hy
    subst e
    exact hn hx
  · rcases List.mem_append.1 hs with hs | hs
    · exact h.mem s hs
    · rw [List.mem_singleton] at hs; subst hs; exact hc
  · by_cases e : i < S.length
    · rw [List.getElem_append_left e, List.take_append_of_le_length (Nat.le_of_lt e)]
      exact h.st i e
    · have e2 : i = S.length := by simp at hi; omega
      subst e2
      rw [List.getElem_append_right (Nat.le_refl _), List.take_append_of_le_length (Nat.le_refl _), List.take_length]
      simp only [Nat.sub_self, List.getElem_cons_zero]
      exact ⟨hr, hb⟩

/-- What was there is there, ahead of what came. -/
def Ahead (S S' : List StepB) : Prop := ∃ R, S' = S ++ R
theorem Ahead.refl (S : List StepB) : Ahead S S := ⟨[], by simp⟩
theorem Ahead.trans {A B C : List StepB} (h : Ahead A B) (k : Ahead B C) : Ahead A C := by
  obtain ⟨R, rfl⟩ := h
  obtain ⟨Q, rfl⟩ := k
  exact ⟨R ++ Q, by simp⟩
theorem Ahead.facts {S S' : List StepB} (h : Ahead S S') {f : FactB} (hf : f ∈ factsK S) : f ∈ factsK S' := by
  obtain ⟨R, rfl⟩ := h
  unfold factsK at hf ⊢
  rw [List.map_append]
  exact List.mem_append_left _ hf
theorem Ahead.get {S S' : List StepB} (h : Ahead S S') {i : Nat} {f : FactB} (hf : (factsK S)[i]? = some f) : (factsK S')[i]? = some f := by
  obtain ⟨R, rfl⟩ := h
  unfold factsK at hf ⊢
  rw [List.map_append, List.getElem?_append_left (List.getElem?_eq_some_iff.1 hf).1]
  exact hf
theorem Ahead.len {S S' : List StepB} (h : Ahead S S') : S.length ≤ S'.length := by
  obtain ⟨R, rfl⟩ := h
  simp
theorem Ahead.take {S S' : List StepB} (h : Ahead S S') {i : Nat} (hi : i ≤ S.length) : S'.take i = S.take i := by
  obtain ⟨R, rfl⟩ := h
  exact List.take_append_of_le_length hi

theorem bring_ahead (S : List StepB) (c : CredB) (w : List UInt8) : Ahead S (bringG S c w) := by
  unfold bringG
  split
  · exact Ahead.refl _
  · exact ⟨_, rfl⟩
theorem bring_has (S : List StepB) (c : CredB) (w : List UInt8) : (c.head, w) ∈ factsK (bringG S c w) := by
  unfold bringG
  split
  · assumption
  · rw [factsK_snoc]; simp
theorem bring_good {ls : List CredB} {S : List StepB} (h : Good ls S) {c : CredB} (hc : c ∈ ls) (hr : isCred c = true) {w : List UInt8} (hb : Brings c (· ∈ factsK S) (c.head, w)) : Good ls (bringG S c w) := by
  unfold bringG
  split
  · exact h
  · rename_i hn
    exact h.snoc hc hr hn hb

/-- A fold that only adds. -/
theorem fold_ahead {α : Type} {f : List StepB → α → List StepB} (hf : ∀ S a, Ahead S (f S a)) : ∀ (l : List α) (S : List StepB), Ahead S (l.foldl f S)
  | [], S => Ahead.refl S
  | a :: l, S => (hf S a).trans (fold_ahead hf l (f S a))
theorem fold_good {α : Type} {ls : List CredB} {f : List StepB → α → List StepB} (hf : ∀ S a, Ahead S (f S a)) {S0 : List StepB} : ∀ (l : List α) (S : List StepB), Ahead S0 S → Good ls S → (∀ a ∈ l, ∀ S', Ahead S0 S' → Good ls S' → Good ls (f S' a)) → Good ls (l.foldl f S)
  | [], _, _, h, _ => h
  | a :: l, S, ha, h, hs => fold_good hf l (f S a) (ha.trans (hf S a)) (hs a (by simp) S ha h) (fun b hb => hs b (by simp [hb]))
/-- What one turn of it brings is there in the end. -/
theorem fold_has {α : Type} {f : List StepB → α → List StepB} (hf : ∀ S a, Ahead S (f S a)) {S0 : List StepB} {g : FactB} : ∀ (l : List α) (S : List StepB), Ahead S0 S → (∃ a ∈ l, ∀ S', Ahead S0 S' → g ∈ factsK (f S' a)) → g ∈ factsK (l.foldl f S)
  | [], _, _, h => by obtain ⟨_, h, _⟩ := h; cases h
  | a :: l, S, ha, h => by
    rw [List.foldl_cons]
    by_cases e : ∀ S', Ahead S0 S' → g ∈ factsK (f S' a)
    · exact (fold_ahead hf l _).facts (e S ha)
    · obtain ⟨b, hb, hb2⟩ := h
      rcases List.mem_cons.1 hb with rfl | hb
      · exact absurd hb2 e
      · exact fold_has hf l _ (ha.trans (hf S a)) ⟨b, hb, hb2⟩

theorem lean_ahead (S : List StepB) (c : CredB) (w : List UInt8) : Ahead S (leanG S c w) := by
  unfold leanG
  split
  · exact bring_ahead _ _ _
  · split
    · exact fold_ahead (fun S i => bring_ahead S c _) _ _
    · split
      · split
        · exact bring_ahead _ _ _
        · exact Ahead.refl _
      · exact Ahead.refl _
theorem link_ahead (S : List StepB) (c : CredB) (f : FactB) : Ahead S (linkG S c f) := by
  unfold linkG
  split
  · exact bring_ahead _ _ _
  · exact Ahead.refl _
theorem follow_ahead (T : List CredB) (S : List StepB) (f : FactB) : Ahead S (followG T S f) :=
  (fold_ahead (fun S c => lean_ahead S c f.2) _ _).trans (fold_ahead (fun S c => link_ahead S c f) _ _)
theorem take_ahead (S : List StepB) (c : CredB) : Ahead S (takeG S c) := by
  unfold takeG
  split
  · exact bring_ahead _ _ _
  · exact Ahead.refl _

theorem whoAt_eq {S : List StepB} {i : Nat} {r : RoleB} {w : List UInt8} (h : (factsK S)[i]? = some (r, w)) : whoAt S i = w := by
  unfold whoAt
  rw [List.getD_eq_getElem?_getD, h]
  rfl

theorem lean_has {S : List StepB} {c : CredB} {w : List UInt8} {g : FactB} (h : StepOf (factsK S) c w g) : g ∈ factsK (leanG S c w) := by
  obtain ⟨g1, g2⟩ := g
  obtain ⟨h1, h2⟩ := h
  simp only at h1 h2
  subst h1
  unfold leanG
  rcases h2 with ⟨k, h2⟩ | ⟨k, h2⟩ | ⟨k, h2, h3, h4⟩
  · rw [if_pos k, h2]
    exact bring_has _ _ _
  · rw [if_neg (by omega), if_pos k]
    have hi := idx_get h2
    refine fold_has (S0 := S) (fun S i => bring_ahead S c _) _ _ (Ahead.refl _) ⟨_, placesK_mem.2 ⟨_, hi⟩, fun S' ha => ?_⟩
    have := bring_has S' c (whoAt S' ((factsK S).idxOf ((w, c.w2), g2)))
    rw [whoAt_eq (ha.get hi)] at this
    rw [whoAt_eq (ha.get hi)]
    exact this
  · rw [if_neg (by omega), if_neg (by omega), if_pos k, if_pos ⟨h3, h4⟩, h2]
    exact bring_has _ _ _

theorem lean_good {ls : List CredB} {S : List StepB} (h : Good ls S) {c : CredB} (hc : c ∈ ls) (hr : isCred c = true) {w : List UInt8} (hb : c.kind ≠ 4 → (c.b, w) ∈ factsK S) : Good ls (leanG S c w) := by
  unfold leanG
  by_cases k2 : c.kind = 2
  · rw [if_pos k2]
    exact bring_good h hc hr ⟨rfl, .inr (.inl ⟨k2, hb (by omega)⟩)⟩
  · rw [if_neg k2]
    by_cases k3 : c.kind = 3
    · rw [if_pos k3]
      refine fold_good (S0 := S) (fun S i => bring_ahead S c _) _ _ (Ahead.refl _) h (fun i hi S' ha hg => ?_)
      obtain ⟨v, hv⟩ := placesK_mem.1 hi
      rw [whoAt_eq (ha.get hv)]
      exact bring_good hg hc hr ⟨rfl, .inr (.inr (.inl ⟨k3, w, ha.facts (hb (by omega)), ha.facts (List.mem_of_getElem? hv)⟩))⟩
    · rw [if_neg k3]
      by_cases k4 : c.kind = 4
      · rw [if_pos k4]
        split
        · rename_i hh
          exact bring_good h hc hr ⟨rfl, .inr (.inr (.inr ⟨k4, hh.1, hh.2⟩))⟩
        · exact h
      · rw [if_neg k4]
        exact h

theorem link_good {ls : List CredB} {S : List StepB} (h : Good ls S) {c : CredB} (hc : c ∈ ls) (hr : isCred c = true) (k : c.kind = 3) {f : FactB} (hf : f ∈ factsK S) (hw : c.w2 = f.1.2) : Good ls (linkG S c f) := by
  unfold linkG
  split
  · rename_i hb
    refine bring_good h hc hr ⟨rfl, .inr (.inr (.inl ⟨k, f.1.1, hb, ?_⟩))⟩
    rw [hw]
    exact hf
  · exact h

theorem follow_good {ls : List CredB} {S : List StepB} (h : Good ls S) {f : FactB} (hf : f ∈ factsK S) : Good ls (followG ls S f) := by
  unfold followG
  have h1 := fold_good (S0 := S) (ls := ls) (fun S c => lean_ahead S c f.2) (leanL ls f.1) S (Ahead.refl _) h (fun c hc S' ha hg => by
    obtain ⟨hc1, hr, hk, hb⟩ := lean_iff.1 hc
    refine lean_good hg hc1 hr (fun hk4 => ?_)
    rcases hb with hb | ⟨hb, _⟩
    · rw [hb]; exact ha.facts hf
    · exact absurd hb hk4)
  refine fold_good (S0 := S) (fun S c => link_ahead S c f) (linkL ls f.1.2) _ (fold_ahead (fun S c => lean_ahead S c f.2) _ _) h1 (fun c hc S' ha hg => ?_)
  obtain ⟨hc1, hr, hk, hw⟩ := link_iff.1 hc
  exact link_good hg hc1 hr hk (ha.facts hf) hw

theorem follow_all {ls : List CredB} {S : List StepB} {f : FactB} (hf : f ∈ factsK S) : FollowedF ls (factsK S) (factsK (followG ls S f)) f := by
  refine followed_of_steps hf (fun c hc g hg => ?_) (fun c hc hb => ?_)
  · unfold followG
    refine (fold_ahead (fun S c => link_ahead S c f) _ _).facts ?_
    refine fold_has (S0 := S) (fun S c => lean_ahead S c f.2) _ _ (Ahead.refl _) ⟨c, lean_iff.2 hc, fun S' ha => lean_has ?_⟩
    obtain ⟨h1, h2⟩ := hg
    refine ⟨h1, ?_⟩
    rcases h2 with h2 | ⟨k, h2⟩ | ⟨k, h2, h3, h4⟩
    · exact .inl h2
    · exact .inr (.inl ⟨k, ha.facts h2⟩)
    · exact .inr (.inr ⟨k, h2, ha.facts h3, ha.facts h4⟩)
  · unfold followG
    refine fold_has (S0 := S) (fun S c => link_ahead S c f) _ _ (fold_ahead (fun S c => lean_ahead S c f.2) _ _) ⟨c, link_iff.2 hc, fun S' ha => ?_⟩
    unfold linkG
    rw [if_pos (ha.facts hb)]
    exact bring_has _ _ _

/-- How far it has come when so many facts have been followed. -/
def growI (ls : List CredB) : Nat → List StepB
  | 0 => ls.foldl takeG []
  | i + 1 => match (growI ls i)[i]? with
    | some s => followG ls (growI ls i) s.f
    | none => growI ls i
theorem growI_step {ls : List CredB} {i : Nat} {S : List StepB} (h : S = growI ls i) {s : StepB} (hs : S[i]? = some s) : followG ls S s.f = growI ls (i + 1) := by
  subst h
  rw [growI, hs]

/-- It is at its end. -/
def stopG (want : FactB) (S : List StepB) (i : Nat) : Prop := S.length ≤ i ∨ want ∈ factsK S
def GrowTo (ls : List CredB) (want : FactB) (S : List StepB) : Prop := ∃ i, S = growI ls i ∧ stopG want S i ∧ ∀ j, j < i → ¬ stopG want (growI ls j) j
theorem GrowTo.one {ls : List CredB} {want : FactB} {A B : List StepB} (ha : GrowTo ls want A) (hb : GrowTo ls want B) : A = B := by
  obtain ⟨i, rfl, h1, h2⟩ := ha
  obtain ⟨j, rfl, k1, k2⟩ := hb
  rcases Nat.lt_trichotomy i j with h | h | h
  · exact absurd h1 (k2 i h)
  · rw [h]
  · exact absurd k1 (h2 j h)

/-- What is so of it on the way. -/
structure GrowP (ls : List CredB) (i : Nat) (S : List StepB) : Prop where
  good : Good ls S
  le : i ≤ S.length
  add : AddI ls ls (factsK S) ((factsK S).take i)

theorem Good.der {ls : List CredB} {S : List StepB} (h : Good ls S) : ∀ f ∈ factsK S, Der ls f := by
  have key : ∀ n, ∀ i (hi : i < S.length), i < n → Der ls S[i].f := by
    intro n
    induction n with
    | zero => intro i _ h; omega
    | succ n ih =>
      intro i hi hn
      have hf := h.st i hi
      refine hf.2.der (h.mem _ (List.getElem_mem hi)) hf.1 (fun f hf => ?_)
      unfold factsK at hf
      obtain ⟨s, hs, rfl⟩ := List.mem_map.1 hf
      obtain ⟨j, hj, rfl⟩ := List.getElem_of_mem hs
      rw [List.getElem_take]
      rw [List.length_take] at hj
      exact ih j (by omega) (by omega)
  intro f hf
  unfold factsK at hf
  obtain ⟨s, hs, rfl⟩ := List.mem_map.1 hf
  obtain ⟨j, hj, rfl⟩ := List.getElem_of_mem hs
  exact key (j + 1) j hj (Nat.lt_succ_self j)

theorem GrowP.start {ls : List CredB} (hall : ∀ c ∈ ls, isCred c = true) : GrowP ls 0 (growI ls 0) := by
  have hg : Good ls (growI ls 0) := fold_good (S0 := []) (fun S c => take_ahead S c) ls [] (Ahead.refl _) (Good.nil ls) (fun c hc S' _ h => by
    unfold takeG
    split
    · rename_i k
      exact bring_good h hc (hall c hc) ⟨rfl, .inl ⟨k, rfl⟩⟩
    · exact h)
  refine ⟨hg, Nat.zero_le _, hg.nd, hg.der, fun f hf => (by simp at hf), fun c hc hr g hg => ?_⟩
  obtain ⟨g1, g2⟩ := g
  obtain ⟨h1, h2⟩ := hg
  simp only at h1 h2
  subst h1
  simp only [List.take_zero, List.not_mem_nil, and_false, or_false, exists_false] at h2
  refine fold_has (S0 := []) (fun S c => take_ahead S c) ls [] (Ahead.refl _) ⟨c, hc, fun S' _ => ?_⟩
  unfold takeG
  rw [if_pos h2.1, h2.2]
  exact bring_has _ _ _

theorem GrowP.step {ls : List CredB} {i : Nat} {S : List StepB} (h : GrowP ls i S) (hi : i < S.length) : GrowP ls (i + 1) (followG ls S S[i].f) := by
  have hf : S[i].f ∈ factsK S := List.mem_map.2 ⟨_, List.getElem_mem hi, rfl⟩
  have hg := follow_good h.good hf
  have ha := follow_ahead ls S S[i].f
  have hl := ha.len
  have hlf : i < (factsK S).length := by rw [factsK_len]; exact hi
  refine ⟨hg, by omega, ?_⟩
  have e : (factsK (followG ls S S[i].f)).take (i + 1) = (factsK S).take i ++ [S[i].f] := by
    rw [← factsK_take, ha.take hi, factsK_take, List.take_succ_eq_append_getElem hlf]
    congr 2
    simp [factsK]
  rw [e]
  exact h.add.follow hf hg.nd hg.der (fun f hf => ha.facts hf) (follow_all hf)

theorem growP {ls : List CredB} (hall : ∀ c ∈ ls, isCred c = true) {want : FactB} : ∀ i, (∀ j, j < i → ¬ stopG want (growI ls j) j) → GrowP ls i (growI ls i)
  | 0, _ => GrowP.start hall
  | i + 1, h => by
    have h1 := growP hall i (fun j hj => h j (by omega))
    have h2 := h i (Nat.lt_succ_self i)
    have hi : i < (growI ls i).length := Nat.lt_of_not_le (fun e => h2 (.inl e))
    have := h1.step hi
    rw [growI_step rfl (List.getElem?_eq_getElem hi)] at this
    exact this

/-- What is found. -/
theorem GrowTo.iff {ls : List CredB} (hall : ∀ c ∈ ls, isCred c = true) {want : FactB} {S : List StepB} (h : GrowTo ls want S) : Good ls S ∧ (want ∈ factsK S ↔ Der ls want) := by
  obtain ⟨i, rfl, h1, h2⟩ := h
  have hp := growP hall i h2
  refine ⟨hp.good, hp.good.der want, fun hd => ?_⟩
  rcases h1 with h1 | h1
  · have he : (factsK (growI ls i)).take i = factsK (growI ls i) := List.take_of_length_le (by rw [factsK_len]; exact h1)
    have ha := hp.add
    rw [he] at ha
    exact (ha.done (fun f hf => hf) (fun c hc _ => hc) want).2 hd
  · exact h1
end Go.Proofs.Ytjaplnainlbldaa
