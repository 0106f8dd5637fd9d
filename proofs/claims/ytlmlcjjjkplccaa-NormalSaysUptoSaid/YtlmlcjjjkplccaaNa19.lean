/- Normal forms: what they are, how great, and that they say the same. -/
import Derived.Test.YtlmlcjjjkplccaaNa18
namespace Go.Proofs.Ytlmlcjjjkplccaa
open Go.RowKit

def nodeN (op k : Int) (r : RoleB) (kids : List FmB) : Prop :=
  (op = 1 ∧ isRole r = true ∧ kids = [] ∧ k = 0) ∨
  ((op = 2 ∨ op = 3) ∧ k = 0 ∧ r = ([], []) ∧ kids.length ≠ 1 ∧ (∀ x ∈ kids, isC x = false ∧ x.op ≠ op) ∧ kids.Pairwise leN ∧ Apart kids) ∨
  (op = 4 ∧ 1 < k ∧ k < kids.length ∧ r = ([], []) ∧ (∀ x ∈ kids, isC x = false) ∧ kids.Pairwise leN)
/- In normal form, but for its greatness. -/
mutual
def NF : FmB → Prop
  | .mk op k r kids => NFL kids ∧ nodeN op k r kids
def NFL : List FmB → Prop
  | [] => True
  | f :: l => NF f ∧ NFL l
end
theorem NF_eq (f : FmB) : NF f ↔ NFL f.kids ∧ nodeN f.op f.k f.r f.kids := by cases f; exact Iff.rfl
theorem NFL_all : ∀ (l : List FmB), NFL l ↔ ∀ f ∈ l, NF f
  | [] => ⟨fun _ _ h => (by cases h), fun _ => trivial⟩
  | x :: l => by
    rw [NFL, NFL_all l]
    simp
theorem NF_const {x : FmB} (h : NF x) (hc : isC x = true) : (x.op = 2 ∨ x.op = 3) ∧ x = .mk x.op 0 ([], []) [] := by
  obtain ⟨op, k, r, kids⟩ := x
  have hc := of_decide_eq_true hc
  simp only [FmB.op, FmB.kids] at hc
  obtain ⟨h1, rfl⟩ := hc
  rw [NF] at h
  rcases h.2 with h | h | h
  · exact absurd h.1 h1
  · exact ⟨h.1, by rw [h.2.1, h.2.2.1]; rfl⟩
  · have := h.2.2.1; have := h.2.1; simp at *; omega

theorem nodesL_perm {a b : List FmB} (h : a.Perm b) : nodesL a = nodesL b := by
  induction h with
  | nil => rfl
  | cons x _ ih => rw [nodesL, nodesL, ih]
  | swap x y l => simp only [nodesL]; omega
  | trans _ _ h1 h2 => rw [h1, h2]
theorem holdsN_perm (T : RoleB → Bool) {a b : List FmB} (h : a.Perm b) : holdsN T a = holdsN T b := by
  induction h with
  | nil => rfl
  | cons x _ ih => rw [holdsN, holdsN, ih]
  | swap x y l => simp only [holdsN]; omega
  | trans _ _ h1 h2 => rw [h1, h2]
theorem nodesL_sub {a b : List FmB} (h : a.Sublist b) : nodesL a ≤ nodesL b := by
  induction h with
  | slnil => exact Nat.le_refl _
  | cons x _ ih => rw [nodesL]; omega
  | cons_cons x _ ih => rw [nodesL, nodesL]; omega
theorem nodes_flat (op : Int) : ∀ ks : List FmB, nodesL (flatN op ks) ≤ nodesL ks
  | [] => Nat.le_refl _
  | k :: ks => by
    have ih := nodes_flat op ks
    unfold flatN at *
    rw [List.flatMap_cons, nodesL_app, nodesL, nodesF_eq k]
    by_cases e : k.op = op
    · rw [if_pos e]; omega
    · rw [if_neg e]; simp only [nodesL]; rw [nodesF_eq k]; omega
theorem nodes_one (op : Int) (l : List FmB) : nodesF (oneN op l) ≤ 1 + nodesL l := by
  unfold oneN
  split
  · simp [nodesL]
  · simp [nodesF]
theorem join_nodes {op : Int} {ks : List FmB} {x : FmB} (h : JoinR op ks x) : nodesF x ≤ 1 + nodesL ks := by
  rcases h with ⟨k, hk, _, _, rfl⟩ | ⟨_, l, hp, _, rfl⟩
  · have := nodesL_mem hk; omega
  · have h1 := nodes_one op (cmpctN l)
    have h2 := nodesL_sub (cmpct_sub l)
    have h3 := nodesL_perm hp
    have h4 := nodes_flat op ks
    omega
theorem nodes_rest (ks : List FmB) : nodesL (restN ks) ≤ nodesL ks := nodesL_sub List.filter_sublist
theorem at_nodes {k : Int} {ks : List FmB} {x : FmB} (h : AtR k ks x) : nodesF x ≤ 1 + nodesL ks := by
  have hr := nodes_rest ks
  rcases h with ⟨_, rfl⟩ | ⟨_, _, rfl⟩ | ⟨_, _, h⟩ | ⟨_, _, _, h⟩ | ⟨_, _, l, hp, _, rfl⟩
  · simp [nodesF, nodesL]
  · simp [nodesF, nodesL]
  · have := join_nodes h; omega
  · have := join_nodes h; omega
  · rw [nodesF, nodesL_perm hp]; omega
/-- Two rows, one by one. -/
inductive All2 (R : FmB → FmB → Prop) : List FmB → List FmB → Prop
  | nil : All2 R [] []
  | cons {a b : FmB} {l m : List FmB} (h : R a b) (t : All2 R l m) : All2 R (a :: l) (b :: m)
theorem shapeL_of {P : FmB → FmB → Prop} : ∀ (l : List FmB), (∀ g ∈ l, ∀ y, ShapeR g y → P g y) → ∀ ys, ShapeL l ys → All2 (fun g y => ShapeR g y ∧ P g y) l ys
  | [], _, ys, h => by rw [ShapeL] at h; rw [h]; exact .nil
  | f :: l, hp, ys, h => by
    rw [ShapeL] at h
    obtain ⟨y, t, rfl, h1, h2⟩ := h
    exact .cons ⟨h1, hp f (by simp) y h1⟩ (shapeL_of l (fun g hg => hp g (List.mem_cons_of_mem _ hg)) t h2)
theorem all2_nodes {R : FmB → FmB → Prop} (hp : ∀ a b, R a b → nodesF b ≤ nodesF a) {l ys : List FmB} (h : All2 R l ys) : nodesL ys ≤ nodesL l := by
  induction h with
  | nil => exact Nat.le_refl _
  | cons h _ ih => rw [nodesL, nodesL]; have := hp _ _ h; omega
theorem all2_holds (T : RoleB → Bool) {R : FmB → FmB → Prop} (hp : ∀ a b, R a b → holdsF T b = holdsF T a) {l ys : List FmB} (h : All2 R l ys) : holdsN T ys = holdsN T l := by
  induction h with
  | nil => rfl
  | cons h _ ih => rw [holdsN, holdsN, ih, hp _ _ h]
theorem all2_eq {R : FmB → FmB → Prop} (hp : ∀ a b, R a b → b = a) {l ys : List FmB} (h : All2 R l ys) : ys = l := by
  induction h with
  | nil => rfl
  | cons h _ ih => rw [ih, hp _ _ h]
theorem shape_nodes : ∀ f x : FmB, ShapeR f x → nodesF x ≤ nodesF f := by
  refine nodes_ind fun f ih x h => ?_
  rw [shapeR_eq] at h
  by_cases h1 : f.op = 1
  · rw [if_pos h1] at h
    have := nodesF_pos f
    rw [h]
    simp [nodesF, nodesL]; omega
  · rw [if_neg h1] at h
    obtain ⟨ks, hk, h⟩ := h
    have hle := all2_nodes (fun a b h => h.2) (shapeL_of (P := fun g y => nodesF y ≤ nodesF g) f.kids ih ks hk)
    rw [nodesF_eq f]
    by_cases h4 : f.op = 4
    · rw [if_pos h4] at h; have := at_nodes h; omega
    · rw [if_neg h4] at h; have := join_nodes h; omega
theorem shapeL_nodes {l ys : List FmB} (h : ShapeL l ys) : nodesL ys ≤ nodesL l := all2_nodes (fun _ _ h => h.2) (shapeL_of (P := fun g y => nodesF y ≤ nodesF g) l (fun g _ y hy => shape_nodes g y hy) ys h)

theorem mem_flat {op : Int} {ks : List FmB} {y : FmB} : y ∈ flatN op ks ↔ ∃ k ∈ ks, (k.op = op ∧ y ∈ k.kids) ∨ (k.op ≠ op ∧ y = k) := by
  unfold flatN
  rw [List.mem_flatMap]
  constructor
  · rintro ⟨k, hk, h⟩
    by_cases e : k.op = op
    · rw [if_pos e] at h; exact ⟨k, hk, .inl ⟨e, h⟩⟩
    · rw [if_neg e] at h; exact ⟨k, hk, .inr ⟨e, by simpa using h⟩⟩
  · rintro ⟨k, hk, ⟨e, h⟩ | ⟨e, rfl⟩⟩
    · exact ⟨k, hk, by rw [if_pos e]; exact h⟩
    · exact ⟨y, hk, by rw [if_neg e]; simp⟩
/-- What stands within All or Some that is brought into shape. -/
theorem flat_ok {op : Int} (hop : op = 2 ∨ op = 3) {ks : List FmB} (hN : ∀ k ∈ ks, NF k) (hc : ∀ k ∈ ks, k.op ≠ op → isC k = false) {y : FmB} (hy : y ∈ flatN op ks) : NF y ∧ isC y = false ∧ y.op ≠ op := by
  obtain ⟨k, hk, ⟨e, h⟩ | ⟨e, rfl⟩⟩ := mem_flat.1 hy
  · have h1 := (NF_eq k).1 (hN k hk)
    rcases h1.2 with h2 | h2 | h2
    · omega
    · have := h2.2.2.2.2.1 y h
      exact ⟨(NFL_all _).1 h1.1 y h, this.1, by rw [← e]; exact this.2⟩
    · omega
  · exact ⟨hN y hk, hc y hk e, e⟩
theorem one_cases (op : Int) (l : List FmB) : (∃ x, l = [x] ∧ oneN op l = x) ∨ (l.length ≠ 1 ∧ oneN op l = .mk op 0 ([], []) l) := by
  unfold oneN
  split
  · exact .inl ⟨_, rfl, rfl⟩
  · rename_i h
    refine .inr ⟨fun e => ?_, rfl⟩
    obtain ⟨x, rfl⟩ := List.length_eq_one_iff.1 e
    exact h x rfl
theorem join_NF {op : Int} (hop : op = 2 ∨ op = 3) {ks : List FmB} {x : FmB} (hN : ∀ k ∈ ks, NF k) (h : JoinR op ks x) : NF x := by
  rcases h with ⟨k, hk, _, _, rfl⟩ | ⟨hc, l, hp, hs, rfl⟩
  · exact hN _ hk
  · have hm : ∀ y ∈ cmpctN l, NF y ∧ isC y = false ∧ y.op ≠ op := fun y hy => flat_ok hop hN hc (hp.mem_iff.1 ((cmpct_mem l y).1 hy))
    rcases one_cases op (cmpctN l) with ⟨z, e1, e2⟩ | ⟨e1, e2⟩
    · rw [e2]; exact (hm z (by rw [e1]; simp)).1
    · rw [e2, NF]
      exact ⟨(NFL_all _).2 fun y hy => (hm y hy).1, .inr (.inl ⟨hop, rfl, rfl, e1, fun y hy => (hm y hy).2, hs.sublist (cmpct_sub l), cmpct_apart l⟩)⟩
theorem NF_none (op : Int) (hop : op = 2 ∨ op = 3) : NF (.mk op 0 ([], []) []) := by
  rw [NF]
  exact ⟨trivial, .inr (.inl ⟨hop, rfl, rfl, by simp, fun _ h => (by cases h), List.Pairwise.nil, trivial⟩)⟩
theorem rest_mem {ks : List FmB} {y : FmB} : y ∈ restN ks ↔ y ∈ ks ∧ isC y = false := by
  unfold restN
  rw [List.mem_filter]
  simp
theorem at_NF {k : Int} {ks : List FmB} {x : FmB} (hN : ∀ k ∈ ks, NF k) (h : AtR k ks x) : NF x := by
  have hr : ∀ y ∈ restN ks, NF y := fun y hy => hN y (rest_mem.1 hy).1
  rcases h with ⟨_, rfl⟩ | ⟨_, _, rfl⟩ | ⟨_, _, h⟩ | ⟨_, _, _, h⟩ | ⟨h1, h2, l, hp, hs, rfl⟩
  · exact NF_none 2 (.inl rfl)
  · exact NF_none 3 (.inr rfl)
  · exact join_NF (.inl rfl) hr h
  · exact join_NF (.inr rfl) hr h
  · rw [NF]
    exact ⟨(NFL_all _).2 fun y hy => hr y (hp.mem_iff.1 hy), .inr (.inr ⟨rfl, h1, by rw [hp.length_eq]; exact h2, rfl, fun y hy => (rest_mem.1 (hp.mem_iff.1 hy)).2, hs⟩)⟩
theorem forall₂_right {R : FmB → FmB → Prop} {P : FmB → Prop} (hp : ∀ a b, R a b → P b) : ∀ {l ys : List FmB}, All2 R l ys → ∀ y ∈ ys, P y
  | _, _, .nil => fun _ h => by cases h
  | _, _, .cons h t => fun y hy => by
    rcases List.mem_cons.1 hy with rfl | hy
    · exact hp _ _ h
    · exact forall₂_right hp t y hy
theorem shape_NF : ∀ f : FmB, rightF f = true → ∀ x, ShapeR f x → NF x := by
  refine nodes_ind fun f ih hf x h => ?_
  rw [rightF_eq, Bool.and_eq_true] at hf
  have hk := rightL_mem hf.1
  rw [shapeR_eq] at h
  by_cases h1 : f.op = 1
  · rw [if_pos h1] at h
    rcases rightN_op hf.2 with ⟨_, h2, h3, h4⟩ | h | h
    · rw [h, NF]; exact ⟨trivial, .inl ⟨rfl, h2, rfl, rfl⟩⟩
    · omega
    · omega
  · rw [if_neg h1] at h
    obtain ⟨ks, hks, h⟩ := h
    have hN : ∀ k ∈ ks, NF k := forall₂_right (fun a b h => h.2) (shapeL_of (P := fun _ y => NF y) f.kids (fun g hg y hy => ih g hg (hk g hg) y hy) ks hks)
    by_cases h4 : f.op = 4
    · rw [if_pos h4] at h; exact at_NF hN h
    · rw [if_neg h4] at h
      exact join_NF (by rcases rightN_op hf.2 with h | h | h <;> omega) hN h
theorem shapeL_NF {l ys : List FmB} (hl : rightL l = true) (h : ShapeL l ys) : ∀ y ∈ ys, NF y :=
  forall₂_right (fun _ _ h => h.2) (shapeL_of (P := fun _ y => NF y) l (fun g hg y hy => shape_NF g (rightL_mem hl g hg) y hy) ys h)

/- It says the same. -/
theorem holdsN_all (T : RoleB → Bool) : ∀ l : List FmB, l.length ≤ holdsN T l ↔ ∀ x ∈ l, holdsF T x = true
  | [] => ⟨fun _ _ h => (by cases h), fun _ => Nat.le_refl _⟩
  | x :: l => by
    have ih := holdsN_all T l
    have hl := holdsN_len T l
    rw [holdsN, List.length_cons, List.forall_mem_cons, ← ih]
    by_cases e : holdsF T x = true
    · rw [if_pos e]; exact ⟨fun h => ⟨e, by omega⟩, fun h => by have := h.2; omega⟩
    · rw [if_neg e]; exact ⟨fun h => by omega, fun h => absurd h.1 e⟩
theorem holdsN_any (T : RoleB → Bool) : ∀ l : List FmB, 1 ≤ holdsN T l ↔ ∃ x ∈ l, holdsF T x = true
  | [] => ⟨fun h => by simp [holdsN] at h, fun ⟨_, h, _⟩ => by cases h⟩
  | x :: l => by
    have ih := holdsN_any T l
    rw [holdsN]
    by_cases e : holdsF T x = true
    · rw [if_pos e]; exact ⟨fun _ => ⟨x, by simp, e⟩, fun _ => by omega⟩
    · rw [if_neg e, Nat.zero_add, ih]
      exact ⟨fun ⟨y, hy, h⟩ => ⟨y, List.mem_cons_of_mem _ hy, h⟩, fun ⟨y, hy, h⟩ => by
        rcases List.mem_cons.1 hy with rfl | hy
        · exact absurd h e
        · exact ⟨y, hy, h⟩⟩
theorem holds_all (T : RoleB → Bool) (k : Int) (r : RoleB) (l : List FmB) : holdsF T (.mk 2 k r l) = true ↔ ∀ x ∈ l, holdsF T x = true := by
  rw [← holdsN_all, holdsF, if_neg (by decide), decide_eq_true_iff, leastN, if_pos rfl]
  omega
theorem holds_some (T : RoleB → Bool) (k : Int) (r : RoleB) (l : List FmB) : holdsF T (.mk 3 k r l) = true ↔ ∃ x ∈ l, holdsF T x = true := by
  rw [← holdsN_any, holdsF, if_neg (by decide), decide_eq_true_iff, leastN, if_neg (by decide), if_pos rfl]
  omega
theorem mk_eta2 (k : FmB) {op : Int} (h : k.op = op) : k = .mk op k.k k.r k.kids := by cases k; cases h; rfl
theorem join_all (T : RoleB → Bool) {ks : List FmB} {x : FmB} (hN : ∀ k ∈ ks, NF k) (h : JoinR 2 ks x) : holdsF T x = true ↔ ∀ k ∈ ks, holdsF T k = true := by
  rcases h with ⟨k, hk, h1, h2, rfl⟩ | ⟨hc, l, hp, hs, rfl⟩
  · obtain ⟨h3, h4⟩ := NF_const (hN x hk) h2
    have h5 : x.op = 3 := by omega
    have hx : ¬ holdsF T x = true := by rw [h4, h5, holds_some]; rintro ⟨_, h, _⟩; cases h
    exact ⟨fun h => absurd h hx, fun h => absurd (h x hk) hx⟩
  · have h1 : holdsF T (oneN 2 (cmpctN l)) = true ↔ ∀ y ∈ flatN 2 ks, holdsF T y = true := by
      have e : (∀ y ∈ flatN 2 ks, holdsF T y = true) ↔ ∀ y ∈ cmpctN l, holdsF T y = true := ⟨fun h y hy => h y (hp.mem_iff.1 ((cmpct_mem l y).1 hy)), fun h y hy => h y ((cmpct_mem l y).2 (hp.mem_iff.2 hy))⟩
      rw [e]
      rcases one_cases 2 (cmpctN l) with ⟨z, e1, e2⟩ | ⟨e1, e2⟩
      · rw [e2, e1]; simp
      · rw [e2, holds_all]
    rw [h1]
    constructor
    · intro h k hk
      by_cases e : k.op = 2
      · rw [mk_eta2 k e, holds_all]; exact fun y hy => h y (mem_flat.2 ⟨k, hk, .inl ⟨e, hy⟩⟩)
      · exact h k (mem_flat.2 ⟨k, hk, .inr ⟨e, rfl⟩⟩)
    · intro h y hy
      obtain ⟨k, hk, ⟨e, h2⟩ | ⟨e, rfl⟩⟩ := mem_flat.1 hy
      · have := h k hk; rw [mk_eta2 k e, holds_all] at this; exact this y h2
      · exact h y hk
theorem join_some (T : RoleB → Bool) {ks : List FmB} {x : FmB} (hN : ∀ k ∈ ks, NF k) (h : JoinR 3 ks x) : holdsF T x = true ↔ ∃ k ∈ ks, holdsF T k = true := by
  rcases h with ⟨k, hk, h1, h2, rfl⟩ | ⟨hc, l, hp, hs, rfl⟩
  · obtain ⟨h3, h4⟩ := NF_const (hN x hk) h2
    have h5 : x.op = 2 := by omega
    have hx : holdsF T x = true := by rw [h4, h5, holds_all]; exact fun _ h => by cases h
    exact ⟨fun _ => ⟨x, hk, hx⟩, fun _ => hx⟩
  · have h1 : holdsF T (oneN 3 (cmpctN l)) = true ↔ ∃ y ∈ flatN 3 ks, holdsF T y = true := by
      have e : (∃ y ∈ flatN 3 ks, holdsF T y = true) ↔ ∃ y ∈ cmpctN l, holdsF T y = true := ⟨fun ⟨y, hy, h⟩ => ⟨y, (cmpct_mem l y).2 (hp.mem_iff.2 hy), h⟩, fun ⟨y, hy, h⟩ => ⟨y, hp.mem_iff.1 ((cmpct_mem l y).1 hy), h⟩⟩
      rw [e]
      rcases one_cases 3 (cmpctN l) with ⟨z, e1, e2⟩ | ⟨e1, e2⟩
      · rw [e2, e1]; simp
      · rw [e2, holds_some]
    rw [h1]
    constructor
    · rintro ⟨y, hy, h⟩
      obtain ⟨k, hk, ⟨e, h2⟩ | ⟨e, rfl⟩⟩ := mem_flat.1 hy
      · exact ⟨k, hk, by rw [mk_eta2 k e, holds_some]; exact ⟨y, h2, h⟩⟩
      · exact ⟨y, hk, h⟩
    · rintro ⟨k, hk, h⟩
      by_cases e : k.op = 3
      · rw [mk_eta2 k e, holds_some] at h
        obtain ⟨y, hy, h⟩ := h
        exact ⟨y, mem_flat.2 ⟨k, hk, .inl ⟨e, hy⟩⟩, h⟩
      · exact ⟨k, mem_flat.2 ⟨k, hk, .inr ⟨e, rfl⟩⟩, h⟩
theorem holds_rest (T : RoleB → Bool) : ∀ ks : List FmB, (∀ k ∈ ks, NF k) → holdsN T ks = truesN ks + holdsN T (restN ks)
  | [], _ => rfl
  | x :: ks, hN => by
    have ih := holds_rest T ks (fun k hk => hN k (List.mem_cons_of_mem _ hk))
    unfold truesN restN at *
    rw [holdsN, ih]
    by_cases hc : isC x = true
    · obtain ⟨h3, h4⟩ := NF_const (hN x (by simp)) hc
      rw [List.filter_cons_of_neg (p := fun k => !isC k) (by simp [hc])]
      by_cases h2 : x.op = 2
      · have hx : holdsF T x = true := by rw [h4, h2, holds_all]; exact fun _ h => by cases h
        rw [List.filter_cons_of_pos (p := fun k => isC k && decide (k.op = 2)) (by simp [hc, h2]), if_pos hx, List.length_cons]
        omega
      · have hx : ¬ holdsF T x = true := by rw [h4, show x.op = 3 by omega, holds_some]; rintro ⟨_, h, _⟩; cases h
        rw [List.filter_cons_of_neg (p := fun k => isC k && decide (k.op = 2)) (by simp [h2]), if_neg hx]
        omega
    · rw [List.filter_cons_of_pos (p := fun k => !isC k) (by simpa using hc), List.filter_cons_of_neg (p := fun k => isC k && decide (k.op = 2)) (by simp [hc]), holdsN]
      omega
theorem at_holds (T : RoleB → Bool) {k : Int} {ks : List FmB} {x : FmB} (hN : ∀ k ∈ ks, NF k) (h : AtR k ks x) : holdsF T x = true ↔ k ≤ (holdsN T ks : Int) := by
  have hr : ∀ y ∈ restN ks, NF y := fun y hy => hN y (rest_mem.1 hy).1
  have h0 := holds_rest T ks hN
  have hl := holdsN_len T (restN ks)
  rcases h with ⟨h1, rfl⟩ | ⟨h1, h2, rfl⟩ | ⟨h1, h2, h⟩ | ⟨h1, h2, h3, h⟩ | ⟨h1, h2, l, hp, hs, rfl⟩
  · rw [holds_all]; exact ⟨fun _ => by omega, fun _ _ h => by cases h⟩
  · rw [holds_some]; exact ⟨fun ⟨_, h, _⟩ => (by cases h), fun h => by omega⟩
  · rw [join_all T hr h, ← holdsN_all]; omega
  · rw [join_some T hr h, ← holdsN_any]; omega
  · rw [holdsF, if_neg (by decide), decide_eq_true_iff, holdsN_perm T hp, leastN, if_neg (by decide), if_neg (by decide)]; omega
theorem shape_holds (T : RoleB → Bool) : ∀ f : FmB, rightF f = true → ∀ x, ShapeR f x → holdsF T x = holdsF T f := by
  refine nodes_ind fun f ih hf x h => ?_
  rw [rightF_eq, Bool.and_eq_true] at hf
  have hk := rightL_mem hf.1
  rw [shapeR_eq] at h
  by_cases h1 : f.op = 1
  · rw [if_pos h1] at h
    rw [h, holdsF_eq T f, if_pos h1, holdsF, if_pos rfl]
  · rw [if_neg h1] at h
    obtain ⟨ks, hks, h⟩ := h
    have hN := shapeL_NF hf.1 hks
    have hlen := hks.len
    have hh := all2_holds T (fun a b h => h.2) (shapeL_of (P := fun g y => holdsF T y = holdsF T g) f.kids (fun g hg y hy => ih g hg (hk g hg) y hy) ks hks)
    rw [Bool.eq_iff_iff, holdsF_eq T f, if_neg h1, decide_eq_true_iff]
    rcases rightN_op hf.2 with h2 | h2 | h2
    · omega
    · rw [if_neg (by omega)] at h
      rcases h2.1 with e | e
      · rw [e] at h ⊢
        rw [join_all T hN h, ← holdsN_all, leastN, if_pos rfl]; omega
      · rw [e] at h ⊢
        rw [join_some T hN h, ← holdsN_any, leastN, if_neg (by decide), if_pos rfl]; omega
    · rw [if_pos h2.1] at h
      rw [at_holds T hN h, leastN, if_neg (by omega), if_neg (by omega), hh]

/- Its own normal form. -/
theorem isF_kids {x : FmB} (h : isF x = true) : ∀ k ∈ x.kids, isF k = true := by
  rw [isF_parts] at h
  intro k hk
  rw [isF_parts]
  have h1 := nodesL_mem hk
  have h2 := deepL_mem hk
  rw [nodesF_eq x, deepF_eq x, rightF_eq x, Bool.and_eq_true] at h
  exact ⟨by omega, by omega, rightL_mem h.2.2.1 k hk⟩
theorem flat_self {op : Int} : ∀ {ks : List FmB}, (∀ k ∈ ks, k.op ≠ op) → flatN op ks = ks
  | [], _ => rfl
  | k :: ks, h => by
    have ih := flat_self (op := op) (ks := ks) (fun x hx => h x (List.mem_cons_of_mem _ hx))
    unfold flatN at *
    rw [List.flatMap_cons, ih, if_neg (h k (by simp))]
    rfl
theorem shape_self : ∀ x : FmB, NF x → isF x = true → ∀ y, ShapeR x y → y = x := by
  refine nodes_ind fun x ih hN hF y h => ?_
  obtain ⟨h0, hn⟩ := (NF_eq x).1 hN
  have hNk := (NFL_all _).1 h0
  have hFk := isF_kids hF
  have hinj : ∀ a ∈ x.kids, ∀ b ∈ x.kids, wrN a = wrN b → a = b := fun a ha b _ e => wrN_inj (hFk a ha) e
  have hks : ∀ ks, ShapeL x.kids ks → ks = x.kids := fun ks hks => all2_eq (fun a b h => h.2) (shapeL_of (P := fun g y => y = g) x.kids (fun g hg y hy => ih g hg (hNk g hg) (hFk g hg) y hy) ks hks)
  obtain ⟨op, k, r, kids⟩ := x
  simp only [FmB.op, FmB.k, FmB.r, FmB.kids] at *
  rw [ShapeR] at h
  rcases hn with ⟨h1, h2, h3, h4⟩ | ⟨h1, h2, h3, h4, h5, h6, h7⟩ | ⟨h1, h2, h3, h4, h5, h6⟩
  · rw [if_pos h1] at h
    rw [h, h1, h3, h4]
  · rw [if_neg (by omega)] at h
    obtain ⟨ks, hk, h⟩ := h
    rw [hks ks hk, if_neg (by omega)] at h
    rcases h with ⟨k, hk, _, h8, _⟩ | ⟨_, l, hp, hs, rfl⟩
    · rw [(h5 k hk).1] at h8; cases h8
    · rw [flat_self (fun k hk => (h5 k hk).2)] at hp
      have := sorted_perm hp.symm h6 hs hinj
      subst this
      rw [cmpct_self _ h7, h2, h3]
      rcases one_cases op kids with ⟨z, e1, _⟩ | ⟨_, e2⟩
      · rw [e1] at h4; exact absurd rfl h4
      · exact e2
  · rw [if_neg (by omega)] at h
    obtain ⟨ks, hk, h⟩ := h
    rw [hks ks hk, if_pos h1] at h
    have e1 : restN kids = kids := by unfold restN; rw [List.filter_eq_self]; intro a ha; simp [h5 a ha]
    have e2 : truesN kids = 0 := by unfold truesN; rw [List.length_eq_zero_iff, List.filter_eq_nil_iff]; intro a ha; simp [h5 a ha]
    unfold AtR at h
    rw [e1, e2] at h
    rcases h with ⟨k1, _⟩ | ⟨_, k2, _⟩ | ⟨_, k2, _⟩ | ⟨_, _, k3, _⟩ | ⟨_, _, l, hp, hs, rfl⟩
    · omega
    · omega
    · omega
    · omega
    · have := sorted_perm hp.symm h6 hs hinj
      subst this
      rw [h1, h4]
      simp
end Go.Proofs.Ytlmlcjjjkplccaa
