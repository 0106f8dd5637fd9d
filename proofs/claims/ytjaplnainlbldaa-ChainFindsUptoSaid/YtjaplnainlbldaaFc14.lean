/- Texts that the proof leans on, in one: ChState, ChHas. -/
import Derived.Test.YtjaplnainlbldaaFc13
import Derived.Test.YtjaplnainlbldaaFc10
/- A growth of facts, as it lies in memory: its steps, their places, the places of a role. -/
namespace Go.Proofs.Ytjaplnainlbldaa
open Go.RowKit Go.Maps Go.ChangeMaps Go.WideMaps

/-- Rows of places that are a role's own are kept, up to so many. -/
def Stay (T : Nat → Option KTag) (F : List FactB) (w w' : World) : Prop :=
 ∀ r v ps, (∀ b, v.ownBlock = some b → T b = some (.role r)) → ps.length ≤ (placesK F r).length → OwnI 0 w v ps → OwnI 0 w' v ps
theorem Stay.of_chg {T : Nat → Option KTag} {F : List FactB} {P : Nat → Prop} {w w' : World} (hc : Chg P w w') (hP : ∀ b r, T b = some (.role r) → ¬ P b) : Stay T F w w' :=
 fun r _ _ hv _ ho => ho.keep hc (fun k hk => hP k r (hv k hk))
theorem Stay.trans {T T' : Nat → Option KTag} {F F' : List FactB} {w w1 w2 : World} (h : Stay T F w w1) (k : Stay T' F' w1 w2) (ht : ∀ b, T b ≠ none → T' b = T b) (hf : ∀ r, (placesK F r).length ≤ (placesK F' r).length) : Stay T F w w2 :=
 fun r v ps hv hl ho => k r v ps (fun b hb => by rw [ht b (by rw [hv b hb]; simp)]; exact hv b hb) (Nat.le_trans hl (hf r)) (h r v ps hv hl ho)
theorem Stay.quiet {T : Nat → Option KTag} {F : List FactB} {w w1 w2 : World} (h : Stay T F w w1) (hc : Chg (fun _ => False) w1 w2) : Stay T F w w2 := fun r v ps hv hl ho => (h r v ps hv hl ho).keep hc (fun _ _ => id)
theorem placesK_grow (F G : List FactB) (r : RoleB) : (placesK F r).length ≤ (placesK (F ++ G) r).length := by
 induction G generalizing F with
 | nil => simp
 | cons f l ih =>
  have h1 := ih (F ++ [f])
  rw [List.append_assoc, List.singleton_append] at h1
  refine Nat.le_trans ?_ h1
  rw [placesK_snoc]
  split
  ·simp
  ·exact Nat.le_refl _

/-- What lies in the parts: Sr the steps of the row, Fa the facts of the first map, Fo those of the second one. -/
structure GParts (T : Nat → Option KTag) (w : World) (g m3 m4 : Nat) (Sr : List StepB) (Fa Fo : List FactB) (v : Value) (m1 m2 : Nat) (Sl : RoleB → Option Value) : Prop where
 blk : w.heap[g]? = some (.cells #[v, .map (some m1), .map (some m2), .map (some m3), .map (some m4)] 87 (0, 0))
 tg : T g = some .top
 t1 : T m1 = some .at
 t2 : T m2 = some .of
 row : OwnSt 0 w v Sr
 trow : ∀ b, v.ownBlock = some b → T b = some .row
 kat : KV ktF w m1 Fa.length (atF Fa)
 kof : KV ktR w m2 Fo.length Sl
 noS : ∀ r, ktR.ok r → Sl r = none → placesK Fo r = []
 isS : ∀ r u, ktR.ok r → Sl r = some u → OwnI 0 w u (placesK Fo r) ∧ ∀ b, u.ownBlock = some b → T b = some (.role r)

/-- The block g has grown to the steps S. T tells what its blocks are for. -/
structure GS (T : Nat → Option KTag) (w : World) (g m3 m4 : Nat) (S : List StepB) : Prop where
 ex : ∃ v m1 m2 Sl, GParts T w g m3 m4 S (factsK S) (factsK S) v m1 m2 Sl
 lo : ∀ b, T b ≠ none → b < w.heap.size
 nd : (factsK S).Nodup
 sh : ∀ s ∈ S, stepShort s 9223372036854775807

theorem GParts.keep {T : Nat → Option KTag} {P : Nat → Prop} {w w' : World} {g m3 m4 : Nat} {Sr : List StepB} {Fa Fo : List FactB} {v : Value} {m1 m2 : Nat} {Sl : RoleB → Option Value} (h : GParts T w g m3 m4 Sr Fa Fo v m1 m2 Sl) (hc : Chg P w w') (hs : ∀ b, T b ≠ none → ¬ P b) : GParts T w' g m3 m4 Sr Fa Fo v m1 m2 Sl :=
 ⟨blk_keep h.blk hc (hs g (by rw [h.tg]; simp)), h.tg, h.t1, h.t2, h.row.keep hc (fun k hk => hs k (by rw [h.trow k hk]; simp)), h.trow, h.kat.keep hc (hs m1 (by rw [h.t1]; simp)), h.kof.keep hc (hs m2 (by rw [h.t2]; simp)), h.noS,
  fun r u hr hu => ⟨(h.isS r u hr hu).1.keep hc (fun k hk => hs k (by rw [(h.isS r u hr hu).2 k hk]; simp)), (h.isS r u hr hu).2⟩⟩

theorem GS.keep {T : Nat → Option KTag} {P : Nat → Prop} {w w' : World} {g m3 m4 : Nat} {S : List StepB} (h : GS T w g m3 m4 S) (hc : Chg P w w') (hs : ∀ b, T b ≠ none → ¬ P b) : GS T w' g m3 m4 S := by
 obtain ⟨⟨v, m1, m2, Sl, hp⟩, h2, h3, h4⟩ := h
 exact ⟨⟨v, m1, m2, Sl, hp.keep hc hs⟩, fun b hb => Nat.lt_of_lt_of_le (h2 b hb) hc.size, h3, h4⟩
theorem GS.quiet {T : Nat → Option KTag} {w w' : World} {g m3 m4 : Nat} {S : List StepB} (h : GS T w g m3 m4 S) (hc : Chg (fun _ => False) w w') : GS T w' g m3 m4 S := h.keep hc (fun _ _ => id)
theorem GS.fsh {T : Nat → Option KTag} {w : World} {g m3 m4 : Nat} {S : List StepB} (h : GS T w g m3 m4 S) : ∀ f ∈ factsK S, factShort f 9223372036854775807 := fun f hf => by
 obtain ⟨s, hs, rfl⟩ := List.mem_map.1 hf
 exact (h.sh s hs).2
theorem OwnSt.blt {B : Nat} {w : World} {v : Value} {ls : List StepB} (h : OwnSt B w v ls) {k : Nat} (hk : v.ownBlock = some k) : B ≤ k ∧ k < w.heap.size := by
 rcases h.2 with ⟨hx', _⟩ | ⟨g, cap', cur, hx', hg, hh, _⟩
 ·rw [hx'] at hk; cases hk
 ·have hk2 : g = k := by rw [hx'] at hk; simpa [Value.ownBlock] using hk
  subst hk2
  exact ⟨hg, lt_blk hh⟩

/-- An append of one step. -/
theorem run_append_step {B : Nat} {w : World} {v : Value} {S : List StepB} {s : StepB} (ty : TypeId) (hown : OwnSt B w v S) {b : Nat} (hb : w.heap[b]? = some (.cells (stepBox s) 43 (0, 0))) (hlen : S.length ≤ 33554432) (hB : B ≤ w.heap.size) :
  ∃ v' w', (Builtin.append_ #[29, 29] ty #[v, .slice (some ⟨b, 0, none⟩) 1 1]).run Try.prog w = .ok v' w' ∧ OwnSt B w' v' (S ++ [s]) ∧ Chg (fun i => v.ownBlock = some i) w w' ∧ (v'.ownBlock = v.ownBlock ∨ v'.ownBlock = some w.heap.size) := by
 obtain ⟨i0, hi, hz0, hz1, hz2⟩ := info_parts Try.info43
 obtain ⟨v', w', hr, h2, h3, h4, h5⟩ := run_append_own_at (P := Try.prog) w B 29 ty 43 i0 (.agg #[.int .i64 0, .string ⟨#[]⟩, .string ⟨#[]⟩, .string ⟨#[]⟩, .string ⟨#[]⟩, .string ⟨#[]⟩, .string ⟨#[]⟩, .string ⟨#[]⟩, .string ⟨#[]⟩, .string ⟨#[]⟩, .string ⟨#[]⟩, .string ⟨#[]⟩]) 12 184 Try.underlying29 hi hz0 hz1 hz2 rfl (by decide) v S.length (stepRow S) hown ⟨b, 0, none⟩ 1 1 (stepCells s) rfl
  (fun j u hj => by rw [add_off, Nat.zero_add, cell_blk hb j]; have : stepBox s = (stepCells s).toArray := rfl; rw [this, List.getElem?_toArray]; exact hj) (step_one s) (by unfold maxLen; omega) (by omega) hB
 refine ⟨v', w', hr, ?_, (Chg.refl _ _).grown h3 (fun k hk _ => hk), h5⟩
 unfold OwnSt
 rw [stepRow_snoc, List.length_append]
 exact h2

/-- Rows of at most n places are kept. -/
def RowsI (n : Nat) (w w' : World) : Prop := ∀ v zs, zs.length ≤ n → OwnI 0 w v zs → OwnI 0 w' v zs

set_option maxRecDepth 100000 in
/-- An append of one place, and what it keeps. -/
theorem run_append_int2 {w : World} {v : Value} {ps : List Nat} {i : Nat} (ty : TypeId) (hown : OwnI 0 w v ps) {b : Nat} (hb : w.heap[b]? = some (.cells #[.int .i64 i] 3 (0, 0))) (hlen : ps.length ≤ 33554432) :
  ∃ v' w', (Builtin.append_ #[156, 156] ty #[v, .slice (some ⟨b, 0, none⟩) 1 1]).run Try.prog w = .ok v' w' ∧ OwnI 0 w' v' (ps ++ [i]) ∧ Chg (fun i => v.ownBlock = some i) w w' ∧ (v'.ownBlock = v.ownBlock ∨ v'.ownBlock = some w.heap.size) ∧ RowsI ps.length w w' := by
 obtain ⟨v', w', hr, h1, h2, h3⟩ := run_append_int ty hown hb hlen (Nat.zero_le _)
 refine ⟨v', w', hr, h1, h2, h3, ?_⟩
 obtain ⟨i0, hi, hz0, hz1, hz2⟩ := info_parts infoInt
 have hnews : ∀ (j : Nat) (u : Value), [Value.int .i64 (i : Nat)][j]? = some u → w.cell? ((⟨b, 0, none⟩ : Addr).add j) = some u := fun j u hj => by
  rw [add_off, Nat.zero_add, cell_blk hb j]
  cases j with
  | zero => simpa using hj
  | succ j => simp at hj
 have hone : ∀ u ∈ [Value.int .i64 (i : Nat)], u.oneCell' = true := fun u hu => by simp only [List.mem_singleton] at hu; subst hu; rfl
 have key : Chg (fun _ => False) w w' → RowsI ps.length w w' := fun hc v zs _ ho => ho.keep hc (fun _ _ => id)
 rcases hown.2 with ⟨rfl, hn⟩ | ⟨g, cap, cur, rfl, hbg, hg, hnc, hcm, hcs, htake⟩
 ·have hr2 := run_append_nil (P := Try.prog) w 156 ty 3 i0 _ Try.underlying156 hi hz0 ⟨b, 0, none⟩ 1 1 [.int .i64 (i : Nat)] (by rw [hz1]; rfl) hnews (by omega) (by omega) (by rw [hz2]; omega)
  rw [hr2] at hr
  injection hr with _ hw
  subst hw
  exact key (chg_drew_alloc _ _)
 ·by_cases hroom : ps.length + 1 ≤ cap
  ·have hfit : ps.length * i0.size + [Value.int .i64 (i : Nat)].length ≤ cur.size := by rw [hz1, hcs]; simp; omega
   have hr2 := run_append_room (P := Try.prog) w 156 ty 3 i0 Try.underlying156 hi g ps.length cap cur hg ⟨b, 0, none⟩ 1 1 [.int .i64 (i : Nat)] (by rw [hz1]; rfl) hnews hone hroom hfit
   rw [hr2] at hr
   injection hr with _ hw
   subst hw
   intro v2 zs2 hz2' ho2
   refine ⟨ho2.1, ?_⟩
   rcases ho2.2 with hn2 | ⟨g2, cap2, cur2, rfl, hbg2, hg2, hnc2, hcm2, hcs2, htake2⟩
   ·exact .inl hn2
   ·by_cases e : g2 = g
    ·subst e
     have he : cur2 = cur := by rw [hg] at hg2; injection hg2 with hg2; injection hg2 with h1 _ _; exact h1.symm
     subst he
     have hcl : cur2.toList.length = cap := by rw [Array.length_toList, hcs]; omega
     refine .inr ⟨g2, cap2, _, rfl, hbg2, setRow_heap w g2 cur2 _ _ _ hg, hnc2, hcm2, ?_, ?_⟩
     ·rw [← hcs2]
      simp only [List.size_toArray, List.length_append, List.length_take, List.length_drop, hz1, hcl, List.length_singleton]
      rw [hcs]
      omega
     ·rw [← htake2]
      simp only [List.append_assoc, hz1, Nat.mul_one]
      rw [List.take_append_of_le_length (by rw [List.length_take, hcl]; omega), List.take_take, Nat.min_eq_left (by omega)]
    ·exact .inr ⟨g2, cap2, cur2, rfl, hbg2, (setRow_other w g g2 _ e).trans hg2, hnc2, hcm2, hcs2, htake2⟩
  ·have holds : ∀ j u, (intsK ps)[j]? = some u → w.cell? ((⟨g, 0, none⟩ : Addr).add j) = some u := World.ownsRow.cells (g := g) hown rfl
   have hzl := hown.1
   rw [← hz1] at hzl
   have hr2 := run_append_grow (P := Try.prog) w 156 ty 3 i0 _ Try.underlying156 hi hz0 ⟨g, 0, none⟩ ps.length cap (intsK ps) hzl holds ⟨b, 0, none⟩ 1 1 [.int .i64 (i : Nat)] (by rw [hz1]; rfl) hnews (by omega) (by omega) (growslice_fits (by omega) (by rw [hz2]; omega))
   rw [hr2] at hr
   injection hr with _ hw
   subst hw
   exact key (chg_drew_alloc _ _)

section
variable {T : Nat → Option KTag} {w w1 : World} {g m3 m4 : Nat} {S : List StepB} {s : StepB} {v : Value} {m1 m2 : Nat} {Sl : RoleB → Option Value}

/-- The row with one more, ahead of its store. -/
def RowG1 (w : World) (v : Value) (S : List StepB) (s : StepB) (v' : Value) (w' : World) : Prop :=
 OwnSt 0 w' v' (S ++ [s]) ∧ Chg (fun i => v.ownBlock = some i) w w' ∧ (v'.ownBlock = v.ownBlock ∨ ∃ b, v'.ownBlock = some b ∧ w.heap.size ≤ b)
/-- .. and behind it. -/
def RowG2 (T : Nat → Option KTag) (w : World) (g m3 m4 : Nat) (S : List StepB) (s : StepB) (m1 m2 : Nat) (Sl : RoleB → Option Value) (w' : World) : Prop :=
 ∃ T' v', GParts T' w' g m3 m4 (S ++ [s]) (factsK S) (factsK S) v' m1 m2 Sl ∧ ExtT T T' w w' ∧ Chg (fun b => T b ≠ none) w w' ∧ Stay T (factsK S) w w'

theorem RowG1.quiet {u : Value} {w' w2 : World} (h : RowG1 w v S s u w') (hc : Chg (fun _ => False) w' w2) : RowG1 w v S s u w2 := ⟨h.1.keep hc (fun _ _ => id), h.2.1.trans hc (fun _ _ h => h.elim), h.2.2⟩
theorem RowG2.quiet {w' w2 : World} (h : RowG2 T w g m3 m4 S s m1 m2 Sl w') (hc : Chg (fun _ => False) w' w2) : RowG2 T w g m3 m4 S s m1 m2 Sl w2 := by
 obtain ⟨T', v', h1, h2, h3, h4⟩ := h
 exact ⟨T', v', h1.keep hc (fun _ _ => id), h2.up hc.size, h3.trans hc (fun _ _ h => h.elim), h4.quiet hc⟩

theorem RowG1.of (h : GParts T w g m3 m4 S (factsK S) (factsK S) v m1 m2 Sl) (hn : S.length ≤ 33554432) (hc : Chg (fun _ => False) w w1) {b : Nat} (hb : w1.heap[b]? = some (.cells (stepBox s) 43 (0, 0))) (ty : TypeId) :
  ∃ v' w', (Builtin.append_ #[29, 29] ty #[v, .slice (some ⟨b, 0, none⟩) 1 1]).run Try.prog w1 = .ok v' w' ∧ RowG1 w v S s v' w' ∧ Chg (fun b => T b ≠ none) w1 w' := by
 obtain ⟨v', w', h1, h2, h3, h4⟩ := run_append_step ty (h.row.keep hc (fun _ _ => id)) hb hn (Nat.zero_le _)
 refine ⟨v', w', h1, ⟨h2, hc.none9.trans h3 (fun _ _ h => h), h4.imp id (fun e => ⟨_, e, hc.size⟩)⟩, h3.mono (fun i _ hi => by rw [h.trow i hi]; simp)⟩

theorem RowG1.store (h : GParts T w g m3 m4 S (factsK S) (factsK S) v m1 m2 Sl) (hlo : ∀ b, T b ≠ none → b < w.heap.size) {v' : Value} {w' : World} (hr : RowG1 w v S s v' w') :
  w'.heap[g]? = some (.cells #[v, .map (some m1), .map (some m2), .map (some m3), .map (some m4)] 87 (0, 0)) ∧ RowG2 T w g m3 m4 S s m1 m2 Sl (w'.setCell ⟨g, 0, none⟩ v') ∧ Chg (fun b => T b ≠ none) w' (w'.setCell ⟨g, 0, none⟩ v') := by
 obtain ⟨h1, h2, h3⟩ := hr
 have ne : ∀ {i : Nat} {t : KTag}, T i = some t → t ≠ .row → ¬ v.ownBlock = some i := fun hi ht e => by rw [h.trow _ e] at hi; cases hi; exact ht rfl
 have hgT : T g ≠ none := by rw [h.tg]; simp
 have hb := blk_keep h.blk h2 (ne h.tg (by simp))
 have cs : Chg (· = g) w' (w'.setCell ⟨g, 0, none⟩ v') := (Chg.refl (· = g) w').setCell (p := ⟨g, 0, none⟩) (fun _ => rfl) _
 have hall : Chg (fun b => T b ≠ none) w (w'.setCell ⟨g, 0, none⟩ v') := (h2.mono (fun i _ hi => by rw [h.trow i hi]; simp)).trans (cs.mono (fun i _ hi => by rw [hi]; exact hgT)) (fun _ _ h => h)
 have hsz := hall.size
 have hvb : ∀ b, v'.ownBlock = some b → b < w'.heap.size := fun b hb => (h1.blt hb).2
 obtain ⟨T', t1, t2, t3⟩ := ext_row (t := .row) hlo (w' := w') h2.size (fun b hb => h.trow b hb) h3 hvb
 have told : ∀ {i : Nat} {t : KTag}, T i = some t → T' i = some t := fun hi => by rw [t1.old _ (by rw [hi]; simp), hi]
 have hg' : ∀ k, v'.ownBlock = some k → k ≠ g := fun k hk e => by subst e; have := told h.tg; rw [t2 k hk] at this; cases this
 have hstay : Stay T (factsK S) w (w'.setCell ⟨g, 0, none⟩ v') := (Stay.of_chg h2 (fun b r hb => ne hb (by simp))).trans (Stay.of_chg (T := T) cs (fun b r hb e => by rw [e, h.tg] at hb; cases hb)) (fun _ _ => rfl) (fun _ => Nat.le_refl _)
 refine ⟨hb, ⟨T', v', ⟨set_blk hb 0 v', told h.tg, told h.t1, told h.t2, h1.keep cs (fun k hk e => hg' k hk e), t2, ?_, ?_, h.noS, fun r u hr hu => ?_⟩, t1.up cs.size, hall, hstay⟩, cs.mono (fun i _ hi => by rw [hi]; exact hgT)⟩
 ·exact (h.kat.keep h2 (ne h.t1 (by simp))).keep cs (fun e => by have := h.t1; rw [e, h.tg] at this; cases this)
 ·exact (h.kof.keep h2 (ne h.t2 (by simp))).keep cs (fun e => by have := h.t2; rw [e, h.tg] at this; cases this)
 ·obtain ⟨q1, q2⟩ := h.isS r u hr hu
  exact ⟨(q1.keep h2 (fun k hk => ne (q2 k hk) (by simp))).keep cs (fun k hk e => by have := q2 k hk; rw [e, h.tg] at this; cases this), fun b hb => told (q2 b hb)⟩

/-- The first map with one more. -/
theorem GParts.setAt {F : List FactB} {f : FactB} (h : GParts T w g m3 m4 (S ++ [s]) F F v m1 m2 Sl) (hn : F.length < 33554432) (hf : factShort f 9223372036854775807) (hno : f ∉ F) (hc : Chg (fun _ => False) w w1) :
  ∃ w', (Instr.mapUpdate 82 (.map (some m1)) (.agg #[.string ⟨f.1.1.toArray⟩, .string ⟨f.1.2.toArray⟩, .string ⟨f.2.toArray⟩]) (.int .i64 (F.length : Nat))).run Try.prog w1 = .ok () w' ∧ GParts T w' g m3 m4 (S ++ [s]) (F ++ [f]) F v m1 m2 Sl ∧ Chg (fun b => T b ≠ none) w w' ∧ Chg (fun b => T b ≠ none) w1 w' ∧ Stay T F w w' := by
 obtain ⟨w', h1, h2, h3, _⟩ := (h.kat.keep hc id).set (t := 82) (e := 3) Try.underlying82 (by omega) (a := f) hf (.int .i64 (F.length : Nat))
 rw [atF_snoc hno] at h2
 have ne : ∀ {i : Nat} {t : KTag}, T i = some t → t ≠ .at → i ≠ m1 := fun hi ht e => by rw [e, h.t1] at hi; cases hi; exact ht rfl
 have hh := h.keep hc (fun _ _ => id)
 refine ⟨w', h1, ⟨blk_keep hh.blk h3 (ne h.tg (by simp)), h.tg, h.t1, h.t2, hh.row.keep h3 (fun k hk => ne (h.trow k hk) (by simp)), h.trow, by rw [List.length_append]; exact h2, hh.kof.keep h3 (ne h.t2 (by simp)), h.noS, fun r u hr hu => ⟨(hh.isS r u hr hu).1.keep h3 (fun k hk => ne ((h.isS r u hr hu).2 k hk) (by simp)), (h.isS r u hr hu).2⟩⟩,
  hc.none9.trans (h3.mono (fun i _ hi => by rw [hi, h.t1]; simp)) (fun _ _ h => h), h3.mono (fun i _ hi => by rw [hi, h.t1]; simp), ?_⟩
 exact Stay.of_chg (hc.none9.trans h3 (fun _ _ h => h)) (fun b r hb e => ne hb (by simp) e)

/-- What the region's reads see. -/
def BaseG (g A C : Nat) (c : CredB) (wo : List UInt8) (v : Value) (m1 m2 m3 m4 : Nat) (w : World) : Prop :=
 w.heap[g]? = some (.cells #[v, .map (some m1), .map (some m2), .map (some m3), .map (some m4)] 87 (0, 0)) ∧ w.heap[A]? = some (.cells (factBox (c.head, wo)) 26 (0, 0)) ∧ w.heap[C]? = some (.cells (credBox c) 36 (0, 0))
theorem BaseG.keep {P : Nat → Prop} {g A C : Nat} {c : CredB} {wo : List UInt8} {v : Value} {m1 m2 m3 m4 : Nat} {w w' : World} (h : BaseG g A C c wo v m1 m2 m3 m4 w) (hc : Chg P w w') (hg : ¬ P g) (hA : ¬ P A) (hC : ¬ P C) : BaseG g A C c wo v m1 m2 m3 m4 w' := ⟨blk_keep h.1 hc hg, blk_keep h.2.1 hc hA, blk_keep h.2.2 hc hC⟩
theorem BaseG.fact {g A C : Nat} {c : CredB} {wo : List UInt8} {v : Value} {m1 m2 m3 m4 : Nat} {w : World} (h : BaseG g A C c wo v m1 m2 m3 m4 w) : w.cell? ⟨A, 0, none⟩ = some (.string ⟨c.head.1.toArray⟩) ∧ w.cell? ⟨A, 1, none⟩ = some (.string ⟨c.head.2.toArray⟩) ∧ w.cell? ⟨A, 2, none⟩ = some (.string ⟨wo.toArray⟩) := ⟨cell_blk h.2.1 0, cell_blk h.2.1 1, cell_blk h.2.1 2⟩
theorem BaseG.parts {g A C : Nat} {c : CredB} {wo : List UInt8} {v : Value} {m1 m2 m3 m4 : Nat} {w : World} (h : BaseG g A C c wo v m1 m2 m3 m4 w) : w.cell? ⟨g, 0, none⟩ = some v ∧ w.cell? ⟨g, 1, none⟩ = some (.map (some m1)) ∧ w.cell? ⟨g, 2, none⟩ = some (.map (some m2)) := ⟨cell_blk h.1 0, cell_blk h.1 1, cell_blk h.1 2⟩
theorem BaseG.cred {g A C : Nat} {c : CredB} {wo : List UInt8} {v : Value} {m1 m2 m3 m4 : Nat} {w : World} (h : BaseG g A C c wo v m1 m2 m3 m4 w) : w.cell? ⟨C, 0, none⟩ = some (.int .i64 c.kind) ∧ w.cell? ⟨C, 1, none⟩ = some (.string ⟨c.head.1.toArray⟩) ∧ w.cell? ⟨C, 2, none⟩ = some (.string ⟨c.head.2.toArray⟩) ∧ w.cell? ⟨C, 3, none⟩ = some (.string ⟨c.who.toArray⟩) ∧ w.cell? ⟨C, 4, none⟩ = some (.string ⟨c.b.1.toArray⟩) ∧ w.cell? ⟨C, 5, none⟩ = some (.string ⟨c.b.2.toArray⟩) ∧ w.cell? ⟨C, 6, none⟩ = some (.string ⟨c.c.1.toArray⟩) ∧ w.cell? ⟨C, 7, none⟩ = some (.string ⟨c.c.2.toArray⟩) ∧ w.cell? ⟨C, 8, none⟩ = some (.string ⟨c.w2.toArray⟩) :=
 ⟨cell_blk h.2.2 0, cell_blk h.2.2 1, cell_blk h.2.2 2, cell_blk h.2.2 3, cell_blk h.2.2 4, cell_blk h.2.2 5, cell_blk h.2.2 6, cell_blk h.2.2 7, cell_blk h.2.2 8⟩

/-- A new row of one step. -/
def SpecR.exS (T : Nat → Option KTag) (s : StepB) : SpecR (Chg (fun b => T b ≠ none)) :=
 ⟨fun v w => ∃ b, v = .slice (some ⟨b, 0, none⟩) 1 1 ∧ w.heap[b]? = some (.cells (stepBox s) 43 (0, 0)) ∧ T b = none, fun _ _ _ hc ⟨b, h1, h2, h3⟩ => ⟨b, h1, blk_keep h2 hc (fun h => h h3), h3⟩⟩

/-- The second map's turn comes. -/
def RowGA (T : Nat → Option KTag) (w : World) (g m3 m4 : Nat) (S : List StepB) (F : List FactB) (f : FactB) (v : Value) (m1 m2 : Nat) (Sl : RoleB → Option Value) (w' : World) : Prop := GParts T w' g m3 m4 S (F ++ [f]) F v m1 m2 Sl ∧ Chg (fun b => T b ≠ none) w w' ∧ Stay T F w w'
/-- The row has grown. -/
def EntG2 (T : Nat → Option KTag) (F : List FactB) (w : World) (m2 : Nat) (o1 : Obj) (u : Value) (ps : List Nat) (v' : Value) (w' : World) : Prop :=
 EntF2 w m2 o1 u ps v' w' ∧ Stay T F w w'
/-- It is stored. -/
def EntG3 (T : Nat → Option KTag) (F : List FactB) (w : World) (g m3 m4 : Nat) (S : List StepB) (Fr : List FactB) (w' : World) : Prop := ∃ T' v m1 m2 Sl, GParts T' w' g m3 m4 S Fr Fr v m1 m2 Sl ∧ ExtT T T' w w' ∧ Chg (fun b => T b ≠ none) w w' ∧ Stay T F w w'

theorem EntG2.quiet {F : List FactB} {o1 : Obj} {u x : Value} {ps : List Nat} {w' w2 : World} (h : EntG2 T F w m2 o1 u ps x w') (hc : Chg (fun _ => False) w' w2) : EntG2 T F w m2 o1 u ps x w2 := ⟨h.1.quiet hc, h.2.quiet hc⟩
theorem EntG3.quiet {F : List FactB} {Fr : List FactB} {w' w2 : World} (h : EntG3 T F w g m3 m4 S Fr w') (hc : Chg (fun _ => False) w' w2) : EntG3 T F w g m3 m4 S Fr w2 := by
 obtain ⟨T', v', a, b, s, h1, h2, h3, h4⟩ := h
 exact ⟨T', v', a, b, s, h1.keep hc (fun _ _ => id), h2.up hc.size, h3.trans hc (fun _ _ h => h.elim), h4.quiet hc⟩

theorem GParts.entry {F : List FactB} {f : FactB} (h : GParts T w g m3 m4 S (F ++ [f]) F v m1 m2 Sl) (hlo : ∀ b, T b ≠ none → b < w.heap.size) (hn : F.length < 33554432) (hr : ktR.ok f.1) :
  ∃ (u : Value) (st : Nat) (o1 : Obj), OwnI 0 w u (placesK F f.1) ∧ (∀ b, u.ownBlock = some b → T b = some (.role f.1)) ∧
   (∀ w', Chg (fun _ => False) w w' → ∃ w1, (Instr.mapEntry 83 (.map (some m2)) (.agg #[.string ⟨f.1.1.toArray⟩, .string ⟨f.1.2.toArray⟩])).run Try.prog w' = .ok (.tuple #[u, goInt st]) w1 ∧ EntF1 w m2 o1 w1 ∧ Chg (fun b => T b ≠ none) w' w1) ∧
   (∀ w' b (ty : TypeId), EntF1 w m2 o1 w' → w'.heap[b]? = some (.cells #[.int .i64 (F.length : Nat)] 3 (0, 0)) → ∃ v' w1, (Builtin.append_ #[156, 156] ty #[u, .slice (some ⟨b, 0, none⟩) 1 1]).run Try.prog w' = .ok v' w1 ∧ EntG2 T F w m2 o1 u (placesK F f.1 ++ [F.length]) v' w1 ∧ Chg (fun b => T b ≠ none) w' w1) ∧
   (∀ w' v', EntG2 T F w m2 o1 u (placesK F f.1 ++ [F.length]) v' w' → ∃ w1, (Instr.entryStore 83 (.map (some m2)) (goInt st) v').run Try.prog w' = .ok () w1 ∧ EntG3 T F w g m3 m4 S (F ++ [f]) w1 ∧ Chg (fun b => T b ≠ none) w' w1) := by
 obtain ⟨st, o1, hE⟩ := h.kof.entry2 (t := 83) (e := 156) (a := f.1) mRoleLaw Try.underlying83 (z := .slice none 0 0) mZeroOf (by omega) hr
 have hT2 : T m2 ≠ none := by rw [h.t2]; simp
 obtain ⟨u, hu⟩ : ∃ u, u = (Sl f.1).getD (.slice none 0 0) := ⟨_, rfl⟩
 have hU : OwnI 0 w u (placesK F f.1) ∧ ∀ b, u.ownBlock = some b → T b = some (.role f.1) := by
  cases hs : Sl f.1 with
  | none =>
   rw [hu, hs, h.noS f.1 hr hs]
   exact ⟨OwnI.nil _ _, fun b hb => (by cases hb)⟩
  | some x =>
   rw [hu, hs]
   exact h.isS f.1 x hr hs
 have hlen := placesK_len F f.1
 have hm2 : ∀ {b : Nat} {r : RoleB}, T b = some (.role r) → b ≠ m2 := fun hb e => by rw [e, h.t2] at hb; cases hb
 refine ⟨u, st, o1, hU.1, hU.2, fun w' hc => ?_, fun w' b ty hw' hb => ?_, fun w' v' hw' => ?_⟩
 ·obtain ⟨w1, h1, h2, h3⟩ := (hE w' (hc.block m2 h.kof.lt id)).1
  refine ⟨w1, by rw [hu]; exact h1, ⟨hc.none9.trans h2 (fun _ _ h => h), h3⟩, h2.mono (fun i _ hi => by rw [hi]; exact hT2)⟩
 ·have hu2 : OwnI 0 w' u (placesK F f.1) := hU.1.keep hw'.1 (fun k hk e => by have := hU.2 k hk; rw [e, h.t2] at this; cases this)
  obtain ⟨v', w1, h1, h2, h3, h4, h5⟩ := run_append_int2 ty hu2 hb (by omega)
  refine ⟨v', w1, h1, ⟨⟨h2, blk_keep hw'.2 h3 (fun e => by have := hU.2 _ e; rw [h.t2] at this; cases this), ?_, h4.imp id (fun e => ⟨_, e, hw'.1.size⟩)⟩, ?_⟩, h3.mono (fun i _ hi => by rw [hU.2 i hi]; simp)⟩
  ·exact (hw'.1.mono (fun i _ hi => .inl hi)).trans h3 (fun i _ hi => .inr hi)
  ·intro r x ps hx hl ho
   have ho1 := ho.keep hw'.1 (fun k hk => hm2 (hx k hk))
   by_cases e : r = f.1
   ·subst e
    exact h5 x ps hl ho1
   ·exact ho1.keep h3 (fun k hk q => by have := hx k hk; rw [hU.2 k q] at this; cases this; exact e rfl)
 ·obtain ⟨⟨g1, g2, g3, g4⟩, g5⟩ := hw'
  obtain ⟨w1, h1, h2, h3⟩ := (hE w rfl).2 w' v' g2
  have hall : Chg (fun b => T b ≠ none) w w1 := (g3.mono (fun i _ hi => by
   rcases hi with hi | hi
   ·rw [hi]; exact hT2
   ·rw [hU.2 i hi]; simp)).trans (h2.mono (fun i _ hi => by rw [hi]; exact hT2)) (fun _ _ h => h)
  obtain ⟨T', t1, t2, t3⟩ := ext_row (t := .role f.1) hlo (w' := w') g3.size hU.2 g4 (fun b hb => (g1.blt hb).2)
  have told : ∀ {i : Nat} {t : KTag}, T i = some t → T' i = some t := fun hi => by rw [t1.old _ (by rw [hi]; simp), hi]
  have kk : ∀ {i : Nat} {t : KTag}, T i = some t → t ≠ .of → t ≠ .role f.1 → ¬ (i = m2 ∨ u.ownBlock = some i) := fun hi ha hb e => by
   rcases e with e | e
   ·rw [e, h.t2] at hi; cases hi; exact ha rfl
   ·rw [hU.2 _ e] at hi; cases hi; exact hb rfl
  have k2 : ∀ {i : Nat} {t : KTag}, T i = some t → t ≠ .of → i ≠ m2 := fun hi ha e => by rw [e, h.t2] at hi; cases hi; exact ha rfl
  have hv2 : ∀ k, v'.ownBlock = some k → k ≠ m2 := fun k hk e => by subst e; have := told h.t2; rw [t2 k hk] at this; cases this
  have hstay : Stay T F w w1 := g5.trans (Stay.of_chg (T := T) (F := F) h2 (fun b r hb e => hm2 hb e)) (fun _ _ => rfl) (fun _ => Nat.le_refl _)
  refine ⟨w1, h1, ⟨T', v, m1, m2, putF Sl f.1 v', ⟨?_, told h.tg, told h.t1, told h.t2, ?_, fun b hb => told (h.trow b hb), ?_, ?_, ?_, ?_⟩, t1.up h2.size, hall, hstay⟩, h2.mono (fun i _ hi => by rw [hi]; exact hT2)⟩
  ·exact blk_keep (blk_keep h.blk g3 (kk h.tg (by simp) (by simp))) h2 (k2 h.tg (by simp))
  ·exact (h.row.keep g3 (fun k hk => kk (h.trow k hk) (by simp) (by simp))).keep h2 (fun k hk => k2 (h.trow k hk) (by simp))
  ·exact (h.kat.keep g3 (kk h.t1 (by simp) (by simp))).keep h2 (k2 h.t1 (by simp))
  ·rw [List.length_append]; exact h3
  ·intro r hrr hs
   unfold putF at hs
   rw [placesK_snoc]
   by_cases e : r = f.1
   ·rw [if_pos e] at hs; cases hs
   ·rw [if_neg e] at hs
    rw [if_neg (fun x => e x.symm)]
    exact h.noS r hrr hs
  ·intro r x hrr hs
   unfold putF at hs
   rw [placesK_snoc]
   by_cases e : r = f.1
   ·subst e
    rw [if_pos rfl] at hs
    cases hs
    rw [if_pos rfl]
    exact ⟨g1.keep h2 (fun k hk e => hv2 k hk e), t2⟩
   ·rw [if_neg e] at hs
    rw [if_neg (fun x => e x.symm)]
    obtain ⟨q1, q2⟩ := h.isS r x hrr hs
    refine ⟨(q1.keep g3 (fun k hk => kk (q2 k hk) (by simp) (by simpa using e))).keep h2 (fun k hk => k2 (q2 k hk) (by simp)), fun b hb => told (q2 b hb)⟩
end
end Go.Proofs.Ytjaplnainlbldaa

/- Has a growth come to a fact? -/
namespace Go.Proofs.Ytjaplnainlbldaa
open Go.RowKit Go.Maps

def chhSpecs (g A m : Nat) (f : FactB) (x : Value) (b : Bool) : List Spec := [.eq (.pointer (some ⟨g, 0, none⟩)), .any, .any, .eq (.pointer (some ⟨A, 0, none⟩)), .any, .eq (x), .eq (.bool b), .eq (.tuple #[x, .bool b]), .eq (.pointer (some ⟨g, 0, none⟩)), .eq (.pointer (some ⟨g, 0, none⟩)), .eq (.pointer (some ⟨g, 1, none⟩)), .eq (.map (some m)), .eq (.agg #[.string ⟨f.1.1.toArray⟩, .string ⟨f.1.2.toArray⟩, .string ⟨f.2.toArray⟩]), .eq (.tuple #[x, .bool b]), .eq (x), .eq (.bool b), .any]

set_option maxRecDepth 100000 in
set_option maxHeartbeats 1000000 in
theorem ch_has {T : Nat → Option KTag} (g m3 m4 : Nat) (S : List StepB) (f : FactB) (w : World) (h : GS T w g m3 m4 S) (hf : factShort f 9223372036854775807) :
  Calls Try.prog 72 #[.pointer (some ⟨g, 0, none⟩), .agg #[.string ⟨f.1.1.toArray⟩, .string ⟨f.1.2.toArray⟩, .string ⟨f.2.toArray⟩]] w fun e w' => e = .returned (.bool (decide (f ∈ factsK S))) ∧ Chg (fun _ => False) w w' := by
 have hc1 : Chg (fun _ => False) w (w.alloc (.cells #[.string ⟨f.1.1.toArray⟩, .string ⟨f.1.2.toArray⟩, .string ⟨f.2.toArray⟩] 26)) := (Chg.refl _ w).alloc _
 have hb1 : (w.alloc (.cells #[.string ⟨f.1.1.toArray⟩, .string ⟨f.1.2.toArray⟩, .string ⟨f.2.toArray⟩] 26)).heap[w.heap.size]? = some (.cells #[.string ⟨f.1.1.toArray⟩, .string ⟨f.1.2.toArray⟩, .string ⟨f.2.toArray⟩] 26 (0, 0)) := heap_alloc_new w _
 obtain ⟨⟨v, m, m2, Sl, hp⟩, _⟩ := h
 have hp1 := hp.keep hc1 (fun _ _ => id)
 have hl : ∀ w', Chg (fun _ => False) (w.alloc (.cells #[.string ⟨f.1.1.toArray⟩, .string ⟨f.1.2.toArray⟩, .string ⟨f.2.toArray⟩] 26)) w' → (Instr.lookup 82 (.map (some m)) (.agg #[.string ⟨f.1.1.toArray⟩, .string ⟨f.1.2.toArray⟩, .string ⟨f.2.toArray⟩]) true).run Try.prog w' = .ok (.tuple #[(atF (factsK S) f).getD (.int .i64 0), .bool (decide (f ∈ factsK S))]) w' := fun w' hc => by
  have := (hp1.kat.keep hc id).look_ok (t := 82) (e := 3) Try.underlying82 (mZeroAt w') (a := f) hf
  rw [atF_some] at this
  exact this
 have x0 := cell_blk hp1.blk 1
 have x1 := cell_blk hb1 0
 have x2 := cell_blk hb1 1
 have x3 := cell_blk hb1 2
 simp only [List.getElem?_toArray, List.getElem?_cons_zero, List.getElem?_cons_succ] at x0 x1 x2 x3
 have HX := hid (And.intro x0 (And.intro x1 (And.intro x2 x3)))
 have HL := hid hl
 have HC := hid hc1
 clear hp hp1 hb1 hl x0 x1 x2 x3 hc1
 generalize (atF (factsK S) f).getD (.int .i64 0) = x at *
 generalize decide (f ∈ factsK S) = b at *
 go_enter Try.func72, Try.ntmps72
 go_wp2_with fail
 generalize (w.alloc (.cells #[.string ⟨f.1.1.toArray⟩, .string ⟨f.1.2.toArray⟩, .string ⟨f.2.toArray⟩] 26)) = w1 at *
 obtain ⟨A, hAe⟩ : ∃ A, w.heap.size = A := ⟨_, rfl⟩
 simp only [hAe] at HX ⊢
 clear hAe
 refine wp_region_specs (chhSpecs g A m f x b) [8, 9, 10, 11, 12, 13, 7, 14, 15, 5, 6] [0, 3] (by kernel_rfl) (by kernel_rfl) (by rfl) (by kernel_rfl) ?start ?obs ?fin
 case start =>
  simp only [List.forall_mem_cons]; exact ⟨⟨_, rfl, rfl⟩, ⟨_, rfl, rfl⟩, fun _ h => by cases h⟩
 case obs =>
  clear HC
  refine Obs.cons none (by kernel_rfl) ?_ ?_
  ·refine Ob.plain fun a w hR hk K k => ?_
   obtain ⟨_, e0, f0⟩ := hk 0 (by decide)
   clear hk
   go_simp
   exact k _ _ (Chg.refl _ _) f0
  refine Obs.cons none (by kernel_rfl) ?_ ?_
  ·refine Ob.plain fun a w hR hk K k => ?_
   obtain ⟨_, e8, rfl⟩ := hk 8 (by decide)
   clear hk
   go_simp
   exact k _ _ (Chg.refl _ _) rfl
  refine Obs.cons none (by kernel_rfl) ?_ ?_
  ·refine Ob.plain fun a w hR hk K k => ?_
   obtain ⟨_, e9, rfl⟩ := hk 9 (by decide)
   clear hk
   go_simp
   exact k _ _ (Chg.refl _ _) rfl
  refine Obs.cons none (by kernel_rfl) ?_ ?_
  ·refine Ob.plain fun a w hR hk K k => ?_
   obtain ⟨_, e10, rfl⟩ := hk 10 (by decide)
   clear hk
   have zz := hR.cell HX.out.1 id
   go_simp
   exact k _ _ (Chg.refl _ _) rfl
  refine Obs.cons none (by kernel_rfl) ?_ ?_
  ·refine Ob.plain fun a w hR hk K k => ?_
   obtain ⟨_, e3, rfl⟩ := hk 3 (by decide)
   clear hk
   have z0 := hR.cell HX.out.2.1 id
   have z1 := hR.cell HX.out.2.2.1 id
   have z2 := hR.cell HX.out.2.2.2 id
   go_simp
   exact k _ _ (Chg.refl _ _) rfl
  refine Obs.cons none (by kernel_rfl) ?_ ?_
  ·refine Ob.plain fun a w hR hk K k => ?_
   obtain ⟨_, e11, rfl⟩ := hk 11 (by decide)
   obtain ⟨_, e12, rfl⟩ := hk 12 (by decide)
   clear hk
   have q := HL.out w hR
   go_simp
   exact k _ _ (Chg.refl _ _) rfl
  refine Obs.cons none (by kernel_rfl) ?_ ?_
  ·refine Ob.plain fun a w hR hk K k => ?_
   obtain ⟨_, e13, f13⟩ := hk 13 (by decide)
   clear hk
   go_simp
   exact k _ _ (Chg.refl _ _) f13
  refine Obs.cons none (by kernel_rfl) ?_ ?_
  ·refine Ob.plain fun a w hR hk K k => ?_
   obtain ⟨_, e7, rfl⟩ := hk 7 (by decide)
   clear hk
   go_simp
   exact k _ _ (Chg.refl _ _) rfl
  refine Obs.cons none (by kernel_rfl) ?_ ?_
  ·refine Ob.plain fun a w hR hk K k => ?_
   obtain ⟨_, e7, rfl⟩ := hk 7 (by decide)
   clear hk
   go_simp
   exact k _ _ (Chg.refl _ _) rfl
  refine Obs.cons none (by kernel_rfl) ?_ ?_
  ·refine Ob.plain fun a w hR hk K k => ?_
   obtain ⟨_, e14, f14⟩ := hk 14 (by decide)
   clear hk
   go_simp
   exact k _ _ (Chg.refl _ _) f14
  refine Obs.cons none (by kernel_rfl) ?_ ?_
  ·refine Ob.plain fun a w hR hk K k => ?_
   obtain ⟨_, e15, f15⟩ := hk 15 (by decide)
   clear hk
   go_simp
   exact k _ _ (Chg.refl _ _) f15
  exact Obs.nil
 case fin =>
  intro vals w9 hc9 hv
  have h6 : vals 6 = .bool b := hv 6 (by decide)
  simp only [putAll, List.setIfInBounds_toArray, List.set_cons_zero, List.set_cons_succ, h6]
  have HC9 := hid (HC.out.trans hc9 (fun _ _ h => h))
  clear hc9 hv h6 HC HX HL
  go_wp2
  go_ret
  exact ⟨rfl, HC9.out⟩
end Go.Proofs.Ytjaplnainlbldaa
