/- A formula has one normal form, where it is right. -/
import Derived.Test.YtcbfieodjbfjdaaNc21
namespace Go.Proofs.Ytcbfieodjbfjdaa
open Go.RowKit

def Sim (x y : FmB) : Prop := x = y ∨ (isF x = false ∧ isF y = false)
def SimN (x y : FmB) : Prop := NF x ∧ NF y ∧ Sim x y
theorem const_isF {x : FmB} (h : NF x) (hc : isC x = true) : isF x = true := by
  obtain ⟨h1, h2⟩ := NF_const h hc
  rw [h2]
  rcases h1 with e | e <;> rw [e] <;> decide
theorem SimN.eq {a b : FmB} (h : SimN a b) (hf : isF a = true) : a = b := by
  rcases h.2.2 with e | ⟨e, _⟩
  · exact e
  · rw [hf] at e; cases e
theorem SimN.eq2 {a b : FmB} (h : SimN a b) (hf : isF b = true) : a = b := by
  rcases h.2.2 with e | ⟨_, e⟩
  · exact e
  · rw [hf] at e; cases e
theorem SimN.const {a b : FmB} (h : SimN a b) (hc : isC a = true) : a = b := h.eq (const_isF h.1 hc)
theorem SimN.const2 {a b : FmB} (h : SimN a b) (hc : isC b = true) : a = b := h.eq2 (const_isF h.2.1 hc)
theorem SimN.isC {a b : FmB} (h : SimN a b) : isC a = isC b := by
  rw [Bool.eq_iff_iff]
  exact ⟨fun e => by rw [← h.const e]; exact e, fun e => by rw [h.const2 e]; exact e⟩

theorem All2.left {R : FmB → FmB → Prop} : ∀ {l m : List FmB}, All2 R l m → ∀ a ∈ l, ∃ b ∈ m, R a b
  | _, _, .nil => fun _ h => by cases h
  | _, _, .cons h t => fun a ha => by
    rcases List.mem_cons.1 ha with rfl | ha
    · exact ⟨_, by simp, h⟩
    · obtain ⟨b, hb, hr⟩ := t.left a ha
      exact ⟨b, List.mem_cons_of_mem _ hb, hr⟩
theorem All2.right {R : FmB → FmB → Prop} : ∀ {l m : List FmB}, All2 R l m → ∀ b ∈ m, ∃ a ∈ l, R a b
  | _, _, .nil => fun _ h => by cases h
  | _, _, .cons h t => fun b hb => by
    rcases List.mem_cons.1 hb with rfl | hb
    · exact ⟨_, by simp, h⟩
    · obtain ⟨a, ha, hr⟩ := t.right b hb
      exact ⟨a, List.mem_cons_of_mem _ ha, hr⟩
theorem all2_same {l m : List FmB} (h : All2 SimN l m) (hf : ∀ a ∈ l, isF a = true) : l = m := by
  induction h with
  | nil => rfl
  | cons h _ ih => rw [h.eq (hf _ (by simp)), ih (fun a ha => hf a (List.mem_cons_of_mem _ ha))]
theorem all2_trues {l m : List FmB} (h : All2 SimN l m) : truesN l = truesN m := by
  induction h with
  | nil => rfl
  | @cons a b l m h _ ih =>
    unfold truesN at *
    have e : (isC a && decide (a.op = 2)) = (isC b && decide (b.op = 2)) := by
      by_cases hc : isC a = true
      · rw [h.const hc]
      · have : isC b = false := by rw [← h.isC]; simpa using hc
        rw [this]; simp [hc]
    rw [List.filter_cons, List.filter_cons, e]
    split
    · rw [List.length_cons, List.length_cons, ih]
    · exact ih
theorem all2_rest {l m : List FmB} (h : All2 SimN l m) : All2 SimN (restN l) (restN m) := by
  induction h with
  | nil => exact .nil
  | @cons a b l m h _ ih =>
    unfold restN at *
    rw [List.filter_cons, List.filter_cons, h.isC]
    split
    · exact .cons h ih
    · exact ih
theorem all2_len {R : FmB → FmB → Prop} {l m : List FmB} (h : All2 R l m) : l.length = m.length := by
  induction h with
  | nil => rfl
  | cons _ _ ih => rw [List.length_cons, List.length_cons, ih]

theorem isF_no {x : FmB} {k : FmB} (hk : k ∈ x.kids) (h : isF k = false) : isF x = false := by
  cases e : isF x with
  | false => rfl
  | true => rw [isF_kids e k hk] at h; cases h
theorem leF_deep {l : List FmB} {n : Nat} : deepL l ≤ n ↔ ∀ x ∈ l, deepF x ≤ n := by
  induction l with
  | nil => exact ⟨fun _ _ h => (by cases h), fun _ => Nat.zero_le _⟩
  | cons a l ih =>
    rw [deepL, List.forall_mem_cons, ← ih]
    omega
theorem rightL_of {l : List FmB} (h : ∀ x ∈ l, rightF x = true) : rightL l = true := by
  induction l with
  | nil => rfl
  | cons a l ih => rw [rightL, h a (by simp), ih (fun x hx => h x (List.mem_cons_of_mem _ hx))]; rfl
theorem subset_nodes : ∀ {a b : List FmB}, a.Nodup → (∀ x ∈ a, x ∈ b) → nodesL a ≤ nodesL b ∧ a.length ≤ b.length
  | [], _, _, _ => ⟨Nat.zero_le _, Nat.zero_le _⟩
  | x :: a, b, hn, hs => by
    obtain ⟨hx, hn⟩ := List.nodup_cons.1 hn
    obtain ⟨s, t, rfl⟩ := List.append_of_mem (hs x (by simp))
    have hs2 : ∀ y ∈ a, y ∈ s ++ t := fun y hy => by
      have h1 := hs y (List.mem_cons_of_mem _ hy)
      rw [List.mem_append, List.mem_cons] at h1
      rw [List.mem_append]
      rcases h1 with h | rfl | h
      · exact .inl h
      · exact absurd hy hx
      · exact .inr h
    obtain ⟨h1, h2⟩ := subset_nodes hn hs2
    rw [nodesL_app] at h1 ⊢
    rw [List.length_append] at h2 ⊢
    rw [nodesL, nodesL, List.length_cons, List.length_cons]
    omega

/-- With one that isn't right, and that isn't left away, it isn't right. -/
theorem join_bad {op : Int} (hop : op = 2 ∨ op = 3) {ks l : List FmB} (hN : ∀ k ∈ ks, NF k) {k : FmB} (hk : k ∈ ks) (hb : isF k = false) (hp : l.Perm (flatN op ks)) : isF (oneN op (cmpctN l)) = false := by
  cases e : isF (oneN op (cmpctN l)) with
  | false => rfl
  | true =>
    exfalso
    have hall : ∀ y ∈ cmpctN l, isF y = true := by
      rcases one_cases op (cmpctN l) with ⟨z, e1, e2⟩ | ⟨e1, e2⟩
      · rw [e2] at e; intro y hy; rw [e1] at hy; rw [List.mem_singleton.1 hy]; exact e
      · rw [e2] at e; exact isF_kids e
    have hfl : ∀ y ∈ flatN op ks, y ∈ cmpctN l := fun y hy => (cmpct_mem l y).2 (hp.mem_iff.2 hy)
    by_cases ho : k.op = op
    · have hkids : ∀ y ∈ k.kids, y ∈ cmpctN l := fun y hy => hfl y (mem_flat.2 ⟨k, hk, .inl ⟨ho, hy⟩⟩)
      have hn := (NF_eq k).1 (hN k hk)
      rcases hn.2 with h2 | h2 | h2
      · omega
      · obtain ⟨_, h3, h4, h5, h6, h7, h8⟩ := h2
        have hkF : ∀ y ∈ k.kids, isF y = true := fun y hy => hall y (hkids y hy)
        have hnd := nodup_sorted h7 h8 (fun x hx y _ e => wrN_inj (hkF x hx) e)
        obtain ⟨hs1, hs2⟩ := subset_nodes hnd hkids
        by_cases h0 : k.kids = []
        · have : isC k = true := decide_eq_true ⟨by omega, h0⟩
          rw [const_isF (hN k hk) this] at hb
          cases hb
        · have hl2 : 2 ≤ k.kids.length := by
            have := List.length_pos_iff.2 h0
            omega
          rcases one_cases op (cmpctN l) with ⟨z, e1, e2⟩ | ⟨e1, e2⟩
          · rw [e1] at hs2; simp at hs2; omega
          · rw [e2, isF_parts] at e
            obtain ⟨g1, g2, g3⟩ := e
            rw [nodesF] at g1
            rw [deepF] at g2
            rw [rightF, Bool.and_eq_true] at g3
            have hx : isF k = true := by
              rw [isF_parts, nodesF_eq, deepF_eq, rightF_eq, Bool.and_eq_true]
              refine ⟨by omega, ?_, rightL_of fun x hx => (isF_parts.1 (hkF x hx)).2.2, ?_⟩
              · have : deepL k.kids ≤ deepL (cmpctN l) := leF_deep.2 fun x hx => deepL_mem (hkids x hx)
                omega
              · have h8 : (cmpctN l).length ≤ 8 := by rcases rightN_op g3.2 with h | h | h <;> omega
                rw [ho, h3, h4]
                unfold rightN
                rw [if_neg (by omega), if_neg (by simp; omega), if_pos hop]
                rfl
            rw [hx] at hb
            cases hb
      · omega
    · have := hall k (hfl k (mem_flat.2 ⟨k, hk, .inr ⟨ho, rfl⟩⟩))
      rw [this] at hb
      cases hb
theorem flat_isF {op : Int} {ks : List FmB} (h : ∀ k ∈ ks, isF k = true) : ∀ y ∈ flatN op ks, isF y = true := fun y hy => by
  obtain ⟨k, hk, ⟨_, h2⟩ | ⟨_, rfl⟩⟩ := mem_flat.1 hy
  · exact isF_kids (h k hk) y h2
  · exact h y hk
theorem const_one {op : Int} (hop : op = 2 ∨ op = 3) {x y : FmB} (hx : NF x) (hy : NF y) (h1 : x.op ≠ op) (h2 : isC x = true) (h3 : y.op ≠ op) (h4 : isC y = true) : x = y := by
  obtain ⟨a1, a2⟩ := NF_const hx h2
  obtain ⟨b1, b2⟩ := NF_const hy h4
  rw [a2, b2, show x.op = y.op by omega]
theorem join_det {op : Int} (hop : op = 2 ∨ op = 3) {ks ks' : List FmB} (h : All2 SimN ks ks') {x y : FmB} (hx : JoinR op ks x) (hy : JoinR op ks' y) : Sim x y := by
  have hN : ∀ k ∈ ks, NF k := fun k hk => by obtain ⟨b, _, h⟩ := h.left k hk; exact h.1
  have hN' : ∀ k ∈ ks', NF k := fun k hk => by obtain ⟨b, _, h⟩ := h.right k hk; exact h.2.1
  rcases hx with ⟨k, hk, h1, h2, rfl⟩ | ⟨hc, l, hp, hs, rfl⟩
  · obtain ⟨k', hk', hr⟩ := h.left x hk
    have e := hr.const h2
    rw [← e] at hk'
    rcases hy with ⟨k2, hk2, h3, h4, rfl⟩ | ⟨hc, _⟩
    · exact .inl (const_one hop (hN x hk) (hN' y hk2) h1 h2 h3 h4)
    · rw [hc x hk' h1] at h2; cases h2
  · rcases hy with ⟨k2, hk2, h3, h4, rfl⟩ | ⟨hc', l', hp', hs', rfl⟩
    · obtain ⟨k', hk', hr⟩ := h.right y hk2
      have e := hr.const2 h4
      rw [e] at hk'
      rw [hc y hk' h3] at h4; cases h4
    · by_cases hall : ∀ k ∈ ks, isF k = true
      · have e := all2_same h hall
        subst e
        have := sorted_perm (hp.trans hp'.symm) hs hs' (fun a ha b _ e => wrN_inj (flat_isF hall a (hp.mem_iff.1 ha)) e)
        exact .inl (by rw [this])
      · obtain ⟨k, hk, hb⟩ : ∃ k ∈ ks, isF k = false := by
          apply Classical.byContradiction
          intro hno
          exact hall fun k hk => by
            cases e : isF k with
            | true => rfl
            | false => exact absurd ⟨k, hk, e⟩ hno
        obtain ⟨k', hk', hr⟩ := h.left k hk
        have hb' : isF k' = false := by
          rcases hr.2.2 with e | ⟨_, e⟩
          · rw [← e]; exact hb
          · exact e
        exact .inr ⟨join_bad hop hN hk hb hp, join_bad hop hN' hk' hb' hp'⟩
theorem at_det {k : Int} {ks ks' : List FmB} (h : All2 SimN ks ks') {x y : FmB} (hx : AtR k ks x) (hy : AtR k ks' y) : Sim x y := by
  have ht := all2_trues h
  have hr := all2_rest h
  have hl := all2_len hr
  rcases hx with ⟨a1, rfl⟩ | ⟨a1, a2, rfl⟩ | ⟨a1, a2, a3⟩ | ⟨a1, a2, a3, a4⟩ | ⟨a1, a2, l, hp, hs, rfl⟩ <;> rcases hy with ⟨b1, rfl⟩ | ⟨b1, b2, rfl⟩ | ⟨b1, b2, b3⟩ | ⟨b1, b2, b3, b4⟩ | ⟨b1, b2, l', hp', hs', rfl⟩ <;> first | (exact .inl rfl) | (exfalso; omega) | skip
  · exact join_det (.inl rfl) hr a3 b3
  · exact join_det (.inr rfl) hr a4 b4
  · by_cases hall : ∀ k ∈ restN ks, isF k = true
    · have e := all2_same hr hall
      rw [← e] at hp'
      have := sorted_perm (hp.trans hp'.symm) hs hs' (fun a ha b _ e => wrN_inj (hall a (hp.mem_iff.1 ha)) e)
      exact .inl (by rw [this, ht])
    · obtain ⟨k2, hk, hb⟩ : ∃ k ∈ restN ks, isF k = false := by
        apply Classical.byContradiction
        intro hno
        exact hall fun k hk => by
          cases e : isF k with
          | true => rfl
          | false => exact absurd ⟨k, hk, e⟩ hno
      obtain ⟨k', hk', hr2⟩ := hr.left k2 hk
      have hb' : isF k' = false := by
        rcases hr2.2.2 with e | ⟨_, e⟩
        · rw [← e]; exact hb
        · exact e
      exact .inr ⟨isF_no (x := .mk 4 _ _ l) (hp.mem_iff.2 hk) hb, isF_no (x := .mk 4 _ _ l') (hp'.mem_iff.2 hk') hb'⟩
theorem shape_det : ∀ f : FmB, rightF f = true → ∀ x y, ShapeR f x → ShapeR f y → SimN x y := by
  refine nodes_ind fun f ih hf x y hx hy => ?_
  refine ⟨shape_NF f hf x hx, shape_NF f hf y hy, ?_⟩
  rw [rightF_eq, Bool.and_eq_true] at hf
  have hk := rightL_mem hf.1
  rw [shapeR_eq] at hx hy
  by_cases h1 : f.op = 1
  · rw [if_pos h1] at hx hy
    exact .inl (by rw [hx, hy])
  · rw [if_neg h1] at hx hy
    obtain ⟨ks, hks, hx⟩ := hx
    obtain ⟨ks', hks', hy⟩ := hy
    have key : ∀ l : List FmB, (∀ g ∈ l, g ∈ f.kids) → ∀ a b, ShapeL l a → ShapeL l b → All2 SimN a b := by
      intro l
      induction l with
      | nil => intro _ a b ha hb; rw [ShapeL] at ha hb; rw [ha, hb]; exact .nil
      | cons g l ih2 =>
        intro hg a b ha hb
        rw [ShapeL] at ha hb
        obtain ⟨y1, t1, rfl, c1, d1⟩ := ha
        obtain ⟨y2, t2, rfl, c2, d2⟩ := hb
        have hm := hg g (by simp)
        exact .cons (ih g hm (hk g hm) y1 y2 c1 c2) (ih2 (fun z hz => hg z (List.mem_cons_of_mem _ hz)) t1 t2 d1 d2)
    have h2 := key f.kids (fun _ h => h) ks ks' hks hks'
    by_cases h4 : f.op = 4
    · rw [if_pos h4] at hx hy; exact at_det h2 hx hy
    · rw [if_neg h4] at hx hy
      exact join_det (by rcases rightN_op hf.2 with h | h | h <;> omega) h2 hx hy
/-- The normal form of a formula, where another is known that is right. -/
theorem shape_is {f x y : FmB} (hf : isF f = true) (hx : ShapeR f x) (hxF : isF x = true) (hy : ShapeR f y) : y = x := ((shape_det f (isF_parts.1 hf).2.2 x y hx hy).eq hxF).symm
end Go.Proofs.Ytcbfieodjbfjdaa
