/- Texts that the proof leans on, in one: NnNorm, NnSmall. -/
import Derived.Test.YtcbfieodjbfjdaaNc20
/- Normal forms: what they are, how great, and that they say the same. -/
namespace Go.Proofs.Ytcbfieodjbfjdaa
open Go.RowKit

def nodeN (op k : Int) (r : RoleB) (kids : List FmB) : Prop :=
  (op = 1 ∧ isRole r = true ∧ kids = [] ∧ k = 0) ∨
  ((op = 2 ∨ op = 3) ∧ k = 0 ∧ r = ([], []) ∧ kids.length ≠ 1 ∧ (∀ x ∈ kids, isC x = false ∧ x.op ≠ op) ∧ kids.Pairwise leN ∧ Apart kids) ∨
  (op = 4 ∧ 1 < k ∧ k < kids.length ∧ r = ([], []) ∧ (∀ x ∈ kids, isC x = false) ∧ kids.Pairwise leN)
/- In normal form, but for its greatness. -/
mutual
def NF : FmB → Prop
  | .mk op k r kids => NFL kids ∧ nodeN op k r kids
def NFL : List FmB → Prop
  | [] => True
  | f :: l => NF f ∧ NFL l
end
theorem NF_eq (f : FmB) : NF f ↔ NFL f.kids ∧ nodeN f.op f.k f.r f.kids := by cases f; exact Iff.rfl
theorem NFL_all : ∀ (l : List FmB), NFL l ↔ ∀ f ∈ l, NF f
  | [] => ⟨fun _ _ h => (by cases h), fun _ => trivial⟩
  | x :: l => by
    rw [NFL, NFL_all l]
    simp
theorem NF_const {x : FmB} (h : NF x) (hc : isC x = true) : (x.op = 2 ∨ x.op = 3) ∧ x = .mk x.op 0 ([], []) [] := by
  obtain ⟨op, k, r, kids⟩ := x
  have hc := of_decide_eq_true hc
  simp only [FmB.op, FmB.kids] at hc
  obtain ⟨h1, rfl⟩ := hc
  rw [NF] at h
  rcases h.2 with h | h | h
  · exact absurd h.1 h1
  · exact ⟨h.1, by rw [h.2.1, h.2.2.1]; rfl⟩
  · have := h.2.2.1; have := h.2.1; simp at *; omega

theorem nodesL_perm {a b : List FmB} (h : a.Perm b) : nodesL a = nodesL b := by
  induction h with
  | nil => rfl
  | cons x _ ih => rw [nodesL, nodesL, ih]
  | swap x y l => simp only [nodesL]; omega
  | trans _ _ h1 h2 => rw [h1, h2]
theorem nodesL_sub {a b : List FmB} (h : a.Sublist b) : nodesL a ≤ nodesL b := by
  induction h with
  | slnil => exact Nat.le_refl _
  | cons x _ ih => rw [nodesL]; omega
  | cons_cons x _ ih => rw [nodesL, nodesL]; omega
theorem nodes_flat (op : Int) : ∀ ks : List FmB, nodesL (flatN op ks) ≤ nodesL ks
  | [] => Nat.le_refl _
  | k :: ks => by
    have ih := nodes_flat op ks
    unfold flatN at *
    rw [List.flatMap_cons, nodesL_app, nodesL, nodesF_eq k]
    by_cases e : k.op = op
    · rw [if_pos e]; omega
    · rw [if_neg e]; simp only [nodesL]; rw [nodesF_eq k]; omega
theorem nodes_one (op : Int) (l : List FmB) : nodesF (oneN op l) ≤ 1 + nodesL l := by
  unfold oneN
  split
  · simp [nodesL]
  · simp [nodesF]
theorem join_nodes {op : Int} {ks : List FmB} {x : FmB} (h : JoinR op ks x) : nodesF x ≤ 1 + nodesL ks := by
  rcases h with ⟨k, hk, _, _, rfl⟩ | ⟨_, l, hp, _, rfl⟩
  · have := nodesL_mem hk; omega
  · have h1 := nodes_one op (cmpctN l)
    have h2 := nodesL_sub (cmpct_sub l)
    have h3 := nodesL_perm hp
    have h4 := nodes_flat op ks
    omega
theorem nodes_rest (ks : List FmB) : nodesL (restN ks) ≤ nodesL ks := nodesL_sub List.filter_sublist
theorem at_nodes {k : Int} {ks : List FmB} {x : FmB} (h : AtR k ks x) : nodesF x ≤ 1 + nodesL ks := by
  have hr := nodes_rest ks
  rcases h with ⟨_, rfl⟩ | ⟨_, _, rfl⟩ | ⟨_, _, h⟩ | ⟨_, _, _, h⟩ | ⟨_, _, l, hp, _, rfl⟩
  · simp [nodesF, nodesL]
  · simp [nodesF, nodesL]
  · have := join_nodes h; omega
  · have := join_nodes h; omega
  · rw [nodesF, nodesL_perm hp]; omega
/-- Two rows, one by one. -/
inductive All2 (R : FmB → FmB → Prop) : List FmB → List FmB → Prop
  | nil : All2 R [] []
  | cons {a b : FmB} {l m : List FmB} (h : R a b) (t : All2 R l m) : All2 R (a :: l) (b :: m)
theorem shapeL_of {P : FmB → FmB → Prop} : ∀ (l : List FmB), (∀ g ∈ l, ∀ y, ShapeR g y → P g y) → ∀ ys, ShapeL l ys → All2 (fun g y => ShapeR g y ∧ P g y) l ys
  | [], _, ys, h => by rw [ShapeL] at h; rw [h]; exact .nil
  | f :: l, hp, ys, h => by
    rw [ShapeL] at h
    obtain ⟨y, t, rfl, h1, h2⟩ := h
    exact .cons ⟨h1, hp f (by simp) y h1⟩ (shapeL_of l (fun g hg => hp g (List.mem_cons_of_mem _ hg)) t h2)
theorem all2_nodes {R : FmB → FmB → Prop} (hp : ∀ a b, R a b → nodesF b ≤ nodesF a) {l ys : List FmB} (h : All2 R l ys) : nodesL ys ≤ nodesL l := by
  induction h with
  | nil => exact Nat.le_refl _
  | cons h _ ih => rw [nodesL, nodesL]; have := hp _ _ h; omega
theorem shape_nodes : ∀ f x : FmB, ShapeR f x → nodesF x ≤ nodesF f := by
  refine nodes_ind fun f ih x h => ?_
  rw [shapeR_eq] at h
  by_cases h1 : f.op = 1
  · rw [if_pos h1] at h
    have := nodesF_pos f
    rw [h]
    simp [nodesF, nodesL]; omega
  · rw [if_neg h1] at h
    obtain ⟨ks, hk, h⟩ := h
    have hle := all2_nodes (fun a b h => h.2) (shapeL_of (P := fun g y => nodesF y ≤ nodesF g) f.kids ih ks hk)
    rw [nodesF_eq f]
    by_cases h4 : f.op = 4
    · rw [if_pos h4] at h; have := at_nodes h; omega
    · rw [if_neg h4] at h; have := join_nodes h; omega
theorem shapeL_nodes {l ys : List FmB} (h : ShapeL l ys) : nodesL ys ≤ nodesL l := all2_nodes (fun _ _ h => h.2) (shapeL_of (P := fun g y => nodesF y ≤ nodesF g) l (fun g _ y hy => shape_nodes g y hy) ys h)

theorem mem_flat {op : Int} {ks : List FmB} {y : FmB} : y ∈ flatN op ks ↔ ∃ k ∈ ks, (k.op = op ∧ y ∈ k.kids) ∨ (k.op ≠ op ∧ y = k) := by
  unfold flatN
  rw [List.mem_flatMap]
  constructor
  · rintro ⟨k, hk, h⟩
    by_cases e : k.op = op
    · rw [if_pos e] at h; exact ⟨k, hk, .inl ⟨e, h⟩⟩
    · rw [if_neg e] at h; exact ⟨k, hk, .inr ⟨e, by simpa using h⟩⟩
  · rintro ⟨k, hk, ⟨e, h⟩ | ⟨e, rfl⟩⟩
    · exact ⟨k, hk, by rw [if_pos e]; exact h⟩
    · exact ⟨y, hk, by rw [if_neg e]; simp⟩
/-- What stands within All or Some that is brought into shape. -/
theorem flat_ok {op : Int} (hop : op = 2 ∨ op = 3) {ks : List FmB} (hN : ∀ k ∈ ks, NF k) (hc : ∀ k ∈ ks, k.op ≠ op → isC k = false) {y : FmB} (hy : y ∈ flatN op ks) : NF y ∧ isC y = false ∧ y.op ≠ op := by
  obtain ⟨k, hk, ⟨e, h⟩ | ⟨e, rfl⟩⟩ := mem_flat.1 hy
  · have h1 := (NF_eq k).1 (hN k hk)
    rcases h1.2 with h2 | h2 | h2
    · omega
    · have := h2.2.2.2.2.1 y h
      exact ⟨(NFL_all _).1 h1.1 y h, this.1, by rw [← e]; exact this.2⟩
    · omega
  · exact ⟨hN y hk, hc y hk e, e⟩
theorem one_cases (op : Int) (l : List FmB) : (∃ x, l = [x] ∧ oneN op l = x) ∨ (l.length ≠ 1 ∧ oneN op l = .mk op 0 ([], []) l) := by
  unfold oneN
  split
  · exact .inl ⟨_, rfl, rfl⟩
  · rename_i h
    refine .inr ⟨fun e => ?_, rfl⟩
    obtain ⟨x, rfl⟩ := List.length_eq_one_iff.1 e
    exact h x rfl
theorem join_NF {op : Int} (hop : op = 2 ∨ op = 3) {ks : List FmB} {x : FmB} (hN : ∀ k ∈ ks, NF k) (h : JoinR op ks x) : NF x := by
  rcases h with ⟨k, hk, _, _, rfl⟩ | ⟨hc, l, hp, hs, rfl⟩
  · exact hN _ hk
  · have hm : ∀ y ∈ cmpctN l, NF y ∧ isC y = false ∧ y.op ≠ op := fun y hy => flat_ok hop hN hc (hp.mem_iff.1 ((cmpct_mem l y).1 hy))
    rcases one_cases op (cmpctN l) with ⟨z, e1, e2⟩ | ⟨e1, e2⟩
    · rw [e2]; exact (hm z (by rw [e1]; simp)).1
    · rw [e2, NF]
      exact ⟨(NFL_all _).2 fun y hy => (hm y hy).1, .inr (.inl ⟨hop, rfl, rfl, e1, fun y hy => (hm y hy).2, hs.sublist (cmpct_sub l), cmpct_apart l⟩)⟩
theorem NF_none (op : Int) (hop : op = 2 ∨ op = 3) : NF (.mk op 0 ([], []) []) := by
  rw [NF]
  exact ⟨trivial, .inr (.inl ⟨hop, rfl, rfl, by simp, fun _ h => (by cases h), List.Pairwise.nil, trivial⟩)⟩
theorem rest_mem {ks : List FmB} {y : FmB} : y ∈ restN ks ↔ y ∈ ks ∧ isC y = false := by
  unfold restN
  rw [List.mem_filter]
  simp
theorem at_NF {k : Int} {ks : List FmB} {x : FmB} (hN : ∀ k ∈ ks, NF k) (h : AtR k ks x) : NF x := by
  have hr : ∀ y ∈ restN ks, NF y := fun y hy => hN y (rest_mem.1 hy).1
  rcases h with ⟨_, rfl⟩ | ⟨_, _, rfl⟩ | ⟨_, _, h⟩ | ⟨_, _, _, h⟩ | ⟨h1, h2, l, hp, hs, rfl⟩
  · exact NF_none 2 (.inl rfl)
  · exact NF_none 3 (.inr rfl)
  · exact join_NF (.inl rfl) hr h
  · exact join_NF (.inr rfl) hr h
  · rw [NF]
    exact ⟨(NFL_all _).2 fun y hy => hr y (hp.mem_iff.1 hy), .inr (.inr ⟨rfl, h1, by rw [hp.length_eq]; exact h2, rfl, fun y hy => (rest_mem.1 (hp.mem_iff.1 hy)).2, hs⟩)⟩
theorem forall₂_right {R : FmB → FmB → Prop} {P : FmB → Prop} (hp : ∀ a b, R a b → P b) : ∀ {l ys : List FmB}, All2 R l ys → ∀ y ∈ ys, P y
  | _, _, .nil => fun _ h => by cases h
  | _, _, .cons h t => fun y hy => by
    rcases List.mem_cons.1 hy with rfl | hy
    · exact hp _ _ h
    · exact forall₂_right hp t y hy
theorem shape_NF : ∀ f : FmB, rightF f = true → ∀ x, ShapeR f x → NF x := by
  refine nodes_ind fun f ih hf x h => ?_
  rw [rightF_eq, Bool.and_eq_true] at hf
  have hk := rightL_mem hf.1
  rw [shapeR_eq] at h
  by_cases h1 : f.op = 1
  · rw [if_pos h1] at h
    rcases rightN_op hf.2 with ⟨_, h2, h3, h4⟩ | h | h
    · rw [h, NF]; exact ⟨trivial, .inl ⟨rfl, h2, rfl, rfl⟩⟩
    · omega
    · omega
  · rw [if_neg h1] at h
    obtain ⟨ks, hks, h⟩ := h
    have hN : ∀ k ∈ ks, NF k := forall₂_right (fun a b h => h.2) (shapeL_of (P := fun _ y => NF y) f.kids (fun g hg y hy => ih g hg (hk g hg) y hy) ks hks)
    by_cases h4 : f.op = 4
    · rw [if_pos h4] at h; exact at_NF hN h
    · rw [if_neg h4] at h
      exact join_NF (by rcases rightN_op hf.2 with h | h | h <;> omega) hN h
theorem shapeL_NF {l ys : List FmB} (hl : rightL l = true) (h : ShapeL l ys) : ∀ y ∈ ys, NF y :=
  forall₂_right (fun _ _ h => h.2) (shapeL_of (P := fun _ y => NF y) l (fun g hg y hy => shape_NF g (rightL_mem hl g hg) y hy) ys h)

/- It says the same. -/
/- Its own normal form. -/
theorem isF_kids {x : FmB} (h : isF x = true) : ∀ k ∈ x.kids, isF k = true := by
  rw [isF_parts] at h
  intro k hk
  rw [isF_parts]
  have h1 := nodesL_mem hk
  have h2 := deepL_mem hk
  rw [nodesF_eq x, deepF_eq x, rightF_eq x, Bool.and_eq_true] at h
  exact ⟨by omega, by omega, rightL_mem h.2.2.1 k hk⟩
end Go.Proofs.Ytcbfieodjbfjdaa

/- CompactFunc at a row of the call's own; isConstant, Always, Never. -/
namespace Go.Proofs.Ytcbfieodjbfjdaa
open Go.RowKit Go.Lib Go.Sort

theorem OwnRw.hold {B : Nat} {w : World} {g cap : Nat} {ts : List AT} (h : OwnRw B w (.slice (some ⟨g, 0, none⟩) ts.length cap) ts) : HoldA w g cap ts.toArray ∧ B ≤ g ∧ ts.length ≤ cap ∧ cap ≤ maxLen := by
  have hall := h.row
  rcases h.row.2 with ⟨he, _⟩ | ⟨g', cap', cur, he, hg, hh, h1, h2, h3, h4⟩
  · cases he
  · cases he
    refine ⟨⟨⟨cur, hh, h3⟩, fun j hj i hi => ?_⟩, hg, h1, h2⟩
    have hj' : j < ts.length := by simpa using hj
    have hget := rowA_get ts j i hj' hi
    have hs : i < (cellsA ts[j]).length := hi
    rw [List.getElem?_eq_getElem hs] at hget
    have := hall.cells (g := g) rfl (j * 5 + i) _ hget
    rw [add_off, Nat.zero_add] at this
    rw [this]
    simp [hj', hs]
theorem HoldA.own {B : Nat} {w : World} {g cap : Nat} {ts : List AT} (h : HoldA w g cap ts.toArray) (hg : B ≤ g) (hl : ts.length ≤ cap) (hm : cap ≤ maxLen) : w.ownsRow B 26 5 (.slice (some ⟨g, 0, none⟩) ts.length cap) ts.length (rowA ts) := by
  obtain ⟨cur, b1, b2⟩ := h.blk
  refine ⟨by rw [rowA_len], .inr ⟨g, cap, cur, rfl, hg, b1, hl, hm, b2, ?_⟩⟩
  apply List.ext_getElem?
  intro i
  rw [List.getElem?_take]
  by_cases hi : i < ts.length * 5
  · rw [if_pos hi]
    have e1 : cur.toList[i]? = cur[i]? := by simp
    rw [e1]
    have hj : i / 5 < ts.length := by omega
    have a := h.at_ (i / 5) (by simpa using hj) (i % 5) (Nat.mod_lt _ (by decide))
    rw [cell_blk b1, show i / 5 * 5 + i % 5 = i by omega] at a
    have b := rowA_get ts (i / 5) (i % 5) hj (Nat.mod_lt _ (by decide))
    rw [show i / 5 * 5 + i % 5 = i by omega] at b
    rw [a, b]
    simp [hj]
  · rw [if_neg hi, List.getElem?_eq_none (by rw [rowA_len]; omega)]
theorem blksL_sub {us ts : List AT} (h : us.Sublist ts) : (blksL us).Sublist (blksL ts) := by
  induction h with
  | slnil => exact List.Sublist.refl _
  | cons x _ ih => rw [blksL]; exact ih.trans (List.sublist_append_right _ _)
  | cons_cons x _ ih => rw [blksL, blksL]; exact (List.Sublist.refl _).append ih

theorem pcompact_fm {B : Nat} {w : World} {ao : Option Addr} {cap : Nat} {ts : List AT} (h : OwnRw B w (.slice ao ts.length cap) ts) (hN : ∀ t ∈ ts, nodesF (eraseA t) ≤ 90000) (hl : ts.length ≤ 4194304) :
    Calls Try.prog 78 #[.slice ao ts.length cap, .func (.func 21) #[] #[]] w fun e w' => (∃ (us : List AT) (cap2 : Nat), e = .returned (.slice ao us.length cap2) ∧ us.map eraseA = cmpctN (ts.map eraseA) ∧ us.Sublist ts ∧ OwnRw B w' (.slice ao us.length cap2) us) ∧ Chg (fun k => Value.ownBlock (.slice ao ts.length cap) = some k) w w' := by
  have hnd := List.nodup_append.1 h.nd
  rcases h.row.2 with ⟨he, h0⟩ | ⟨g, cap', cur, he, hg, hh, h1, h2, h3, h4⟩
  · have : ts = [] := List.eq_nil_of_length_eq_zero h0
    subst this
    cases he
    have HH := hid h
    clear h hnd hN
    go_enter Try.func78, Try.ntmps78
    go_wp2
    go_ret
    exact ⟨⟨[], 0, rfl, rfl, List.Sublist.refl _, HH.out⟩, Chg.refl _ _⟩
  · cases he
    obtain ⟨hH, _, _, _⟩ := h.hold
    have hgn : ∀ t ∈ ts, g ∉ blksA t := fun t ht hb => hnd.2.2 g (by simp [Value.ownBlock]) g (by rw [blksL_flat]; exact List.mem_flatMap.2 ⟨t, ht, hb⟩) rfl
    have hO : RowOk B w g ts.toArray := fun j hj => by
      have hj' : j < ts.length := by simpa using hj
      have e : ts.toArray[j]! = ts[j] := by simp [hj']
      have hm := List.getElem_mem hj'
      rw [e]
      refine ⟨(ownL_all _ _ _).1 h.own _ hm, ?_, hgn _ hm, hN _ hm⟩
      have h5 : [ts[j]].Sublist ts := List.singleton_sublist.2 hm
      have := (blksL_sub h5).nodup hnd.2.1
      rwa [blksL, blksL, List.append_nil] at this
    have hwk := ncompact_walk g cap ts.toArray w hH hO (by simpa using hl) (by simpa using h1) (by unfold maxLen at h2; exact h2)
    have hs : ts.toArray.size = ts.length := by simp
    rw [hs] at hwk
    have hsub := compA_sub ts.toArray
    rw [hs] at hsub
    have her := compA_erase ts.toArray ts.length (by simp)
    simp only [List.take_length] at her
    refine hwk.mono ?_
    rintro e w' ⟨rfl, hH', hc⟩
    have hlen : (compA ts.toArray ts.length).length ≤ cap := Nat.le_trans (compA_len _ _) h1
    refine ⟨⟨compA ts.toArray ts.length, cap, rfl, her, hsub, hH'.own hg hlen h2, ?_, ?_⟩, hc.mono (fun k _ hk => by subst hk; rfl)⟩
    · refine (ownL_all _ _ _).2 fun t ht => ?_
      have ht2 : t ∈ ts := hsub.subset ht
      exact ownA_keep hc t ((ownL_all _ _ _).1 h.own t ht2) (fun b hb e => hgn t ht2 (e ▸ hb))
    · exact ((List.Sublist.refl _).append (blksL_sub hsub)).nodup h.nd

theorem pisConst (op k : Int) (r : RoleB) (ao : Option Addr) (n cp : Nat) (w : World) :
    Calls Try.prog 75 #[.agg #[.int .i64 op, .int .i64 k, .string ⟨r.1.toArray⟩, .string ⟨r.2.toArray⟩, .slice ao n cp]] w fun e w' => e = .returned (.bool (decide (op ≠ 1) && decide (n = 0))) ∧ Chg (fun _ => False) w w' := by
  have hc : Chg (fun _ => False) w (w.alloc (.cells #[.int .i64 op, .int .i64 k, .string ⟨r.1.toArray⟩, .string ⟨r.2.toArray⟩, .slice ao n cp] 26)) := (Chg.refl _ w).alloc _
  have hb := heap_alloc_new w (.cells #[.int .i64 op, .int .i64 k, .string ⟨r.1.toArray⟩, .string ⟨r.2.toArray⟩, .slice ao n cp] 26)
  have s0 := cell_blk hb 0
  have s1 := cell_blk hb 1
  have s2 := cell_blk hb 2
  have s3 := cell_blk hb 3
  have s4 := cell_blk hb 4
  simp only [List.getElem?_toArray, List.getElem?_cons_zero, List.getElem?_cons_succ] at s0 s1 s2 s3 s4
  have HC := hid hc
  clear hc hb
  go_enter Try.func75, Try.ntmps75
  by_cases h1 : op = 1
  · subst h1
    go_wp2
    go_ret
    exact ⟨rfl, HC.out⟩
  · have z0 : (op == 1) = false := by simpa using h1
    have z1 : (op != 1) = true := by simpa using h1
    by_cases h2 : n = 0
    · subst h2
      go_wp2
      go_ret
      exact ⟨by simp, HC.out⟩
    · have z2 : ((n : Int) == 0) = false := by simpa using h2
      go_wp2
      go_ret
      exact ⟨by simp [h1, h2], HC.out⟩
theorem palways (w : World) : Calls Try.prog 23 #[] w fun e w' => e = .returned (.agg #[.int .i64 2, .int .i64 0, .string ⟨#[]⟩, .string ⟨#[]⟩, .slice none 0 0]) ∧ Chg (fun _ => False) w w' := by
  go_enter Try.func23, Try.ntmps23
  go_wp2
  refine bodyPost_ret (results_cell_row (P := Try.prog) rfl _ _ w.heap.size 26 _ (0, 0) _ rfl (heap_alloc_new w _) Try.underlying26 rfl (by kernel_rfl)) rfl ?_
  exact ⟨rfl, (Chg.refl _ w).alloc _⟩
theorem pnever (w : World) : Calls Try.prog 24 #[] w fun e w' => e = .returned (.agg #[.int .i64 3, .int .i64 0, .string ⟨#[]⟩, .string ⟨#[]⟩, .slice none 0 0]) ∧ Chg (fun _ => False) w w' := by
  go_enter Try.func24, Try.ntmps24
  go_wp2
  refine bodyPost_ret (results_cell_row (P := Try.prog) rfl _ _ w.heap.size 26 _ (0, 0) _ rfl (heap_alloc_new w _) Try.underlying26 rfl (by kernel_rfl)) rfl ?_
  exact ⟨rfl, (Chg.refl _ w).alloc _⟩

theorem runKids {B : Nat} {w : World} {v : Value} {ts us : List AT} (ty : TypeId) (hown : w.ownsRow B 26 5 v ts.length (rowA ts)) (sv : Value) (hs : (sv = .slice none 0 0 ∧ us = []) ∨ ∃ ad c, sv = .slice (some ad) us.length c ∧ ∀ j u, (rowA us)[j]? = some u → w.cell? (ad.add j) = some u) (h1 : ∀ u ∈ rowA us, u.oneCell' = true) (hlen : ts.length + us.length ≤ 1048576) (hB : B ≤ w.heap.size) :
    ∃ v' w', (Builtin.append_ #[24, 24] ty #[v, sv]).run Try.prog w = .ok v' w' ∧ w'.ownsRow B 26 5 v' (ts ++ us).length (rowA (ts ++ us)) ∧ Chg (fun k => v.ownBlock = some k) w w' := by
  obtain ⟨i0, hi, hz0, hz1, hz2⟩ := info_parts Try.info26
  have hra : rowA (ts ++ us) = rowA ts ++ rowA us := by simp [rowA]
  rcases hs with ⟨rfl, rfl⟩ | ⟨ad, c, rfl, hc⟩
  · exact ⟨v, w, run_append_owned_none (P := Try.prog) (w := w) B 24 ty 26 i0 5 Try.underlying24b hi v _ _ hown, by rw [List.append_nil]; exact hown, Chg.refl _ w⟩
  · obtain ⟨v', w', k1, k2, k3, k4⟩ := run_append_own_atD (P := Try.prog) w B 24 ty 26 i0 (.agg #[.int .i64 0, .int .i64 0, .string ⟨#[]⟩, .string ⟨#[]⟩, .slice none 0 0]) 5 72 Try.underlying24b hi hz0 hz1 hz2 rfl (by decide) v _ _ hown ad us.length c (rowA us) (rowA_len us) hc h1 (by unfold maxLen; omega) (by omega) hB
    exact ⟨v', w', k1, by rw [List.length_append, hra]; exact k2, (Chg.refl _ w).grown k3 fun k e _ => e⟩
theorem rowA_one {B : Nat} {w : World} {us : List AT} (h : OwnL B w us) : ∀ u ∈ rowA us, u.oneCell' = true := by
  intro u hu
  obtain ⟨t, ht, hu⟩ := List.mem_flatMap.1 hu
  exact cellsA_one ((ownL_all _ _ _).1 h t ht) u hu
/-- The Kids of a formula of the call's own, as a source. -/
theorem kids_src {B : Nat} {w : World} {t : AT} (h : OwnA B w t) : (t.v = .slice none 0 0 ∧ t.kids = []) ∨ ∃ ad c, t.v = .slice (some ad) t.kids.length c ∧ ∀ j u, (rowA t.kids)[j]? = some u → w.cell? (ad.add j) = some u := by
  rw [ownA_eq] at h
  obtain ⟨_, h2, _⟩ := h
  have hall := h2
  rcases h2.2 with ⟨e, h0⟩ | ⟨g, cap, cur, e, hg, hh, k1, k2, k3, k4⟩
  · exact .inl ⟨e, List.eq_nil_of_length_eq_zero h0⟩
  · refine .inr ⟨⟨g, 0, none⟩, cap, e, fun j u hj => ?_⟩
    rw [e] at hall
    exact hall.cells (g := g) rfl j u hj
end Go.Proofs.Ytcbfieodjbfjdaa
