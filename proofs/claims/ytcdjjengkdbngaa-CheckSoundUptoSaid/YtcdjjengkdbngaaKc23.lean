/- Texts that the proof leans on, in one: KwState, KvEntry. -/
import Derived.Test.YtcdjjengkdbngaaKc20
import Derived.Test.YtcdjjengkdbngaaKc21
import Derived.Test.YtcdjjengkdbngaaKc22
import Derived.Maps.AppendAt
/- What the program's check knows, as it lies in memory. -/
namespace Go.Proofs.Ytcdjjengkdbngaa
open Go.RowKit Go.Maps

theorem Chg.none9 {S : Nat → Prop} {w w' : World} (h : Chg (fun _ => False) w w') : Chg S w w' := h.mono (fun _ _ h => h.elim)

/-- What a block is for. -/
inductive KTag
  | top
  | at
  | of
  | row
  | role (r : RoleB)

def intsK (ps : List Nat) : List Value := ps.map (fun (i : Nat) => Value.int .i64 i)
/-- A row of places of the call's own. -/
def OwnI (B : Nat) (w : World) (v : Value) (ps : List Nat) : Prop := w.ownsRow B 3 1 v ps.length (intsK ps)
theorem intsK_snoc (ps : List Nat) (i : Nat) : intsK (ps ++ [i]) = intsK ps ++ [.int .i64 (i : Nat)] := by simp [intsK]
theorem OwnI.keep {S : Nat → Prop} {B : Nat} {w w' : World} {v : Value} {ps : List Nat} (h : OwnI B w v ps) (hc : Chg S w w') (hr : ∀ k, v.ownBlock = some k → ¬ S k) : OwnI B w' v ps := ownsRow_keep h hc hr
theorem OwnI.nil (B : Nat) (w : World) : OwnI B w (.slice none 0 0) [] := World.ownsRow_nil _ _ _ _
theorem OwnI.shape {B : Nat} {w : World} {v : Value} {ps : List Nat} (h : OwnI B w v ps) : ∃ ao cap, v = .slice ao ps.length cap := by
  rcases h.2 with ⟨rfl, h0⟩ | ⟨g, cap, cur, rfl, _⟩
  · exact ⟨none, 0, by rw [h0]⟩
  · exact ⟨_, _, rfl⟩
theorem OwnI.blt {B : Nat} {w : World} {v : Value} {ps : List Nat} (h : OwnI B w v ps) {k : Nat} (hk : v.ownBlock = some k) : B ≤ k ∧ k < w.heap.size := by
  rcases h.2 with ⟨hx', _⟩ | ⟨g, cap', cur, hx', hg, hh, _⟩
  · rw [hx'] at hk; cases hk
  · have hk2 : g = k := by rw [hx'] at hk; simpa [Value.ownBlock] using hk
    subst hk2
    exact ⟨hg, lt_blk hh⟩
theorem OwnF.blt9 {B : Nat} {w : World} {v : Value} {ls : List FactB} (h : OwnF B w v ls) {k : Nat} (hk : v.ownBlock = some k) : B ≤ k ∧ k < w.heap.size := by
  rcases h.2 with ⟨hx', _⟩ | ⟨g, cap', cur, hx', hg, hh, _⟩
  · rw [hx'] at hk; cases hk
  · have hk2 : g = k := by rw [hx'] at hk; simpa [Value.ownBlock] using hk
    subst hk2
    exact ⟨hg, lt_blk hh⟩
/-- The places of a row, cell by cell. -/
theorem OwnI.cells {B : Nat} {w : World} {ao : Option Addr} {n cap : Nat} {ps : List Nat} (h : OwnI B w (.slice ao n cap) ps) {i : Nat} (hi : i < ps.length) : ∃ b, ao = some ⟨b, 0, none⟩ ∧ w.cell? ⟨b, i, none⟩ = some (.int .i64 (ps[i] : Nat)) ∧ w.frozen? ⟨b, i, none⟩ = false := by
  rcases h.2 with ⟨hx, h0⟩ | ⟨g, cap', cur, hx, _, hh, h1, h2, h3, h4⟩
  · omega
  · cases hx
    refine ⟨g, rfl, ?_, froz_blk hh i⟩
    rw [cell_blk hh i, ← Array.getElem?_toList]
    have e : (cur.toList.take (ps.length * 1))[i]? = (intsK ps)[i]? := by rw [h4]
    rw [List.getElem?_take_of_lt (by omega)] at e
    rw [e, intsK, List.getElem?_map, List.getElem?_eq_getElem hi]
    rfl

def atF (F : List FactB) : FactB → Option Value := fun f => if f ∈ F then some (.int .i64 (F.idxOf f : Nat)) else none
theorem atF_some (F : List FactB) (f : FactB) : (atF F f).isSome = decide (f ∈ F) := by unfold atF; split <;> simp_all
theorem atF_snoc {F : List FactB} {f : FactB} (h : f ∉ F) : putF (atF F) f (.int .i64 (F.length : Nat)) = atF (F ++ [f]) := by
  funext g
  unfold putF atF
  by_cases e : g = f
  · subst e
    rw [if_pos rfl, if_pos (by simp), idx_new h]
  · rw [if_neg e]
    by_cases hg : g ∈ F
    · rw [if_pos hg, if_pos (by simp [hg]), idx_app hg]
    · rw [if_neg hg, if_neg (by simp [hg, e])]

/-- What lies in the parts: Fr the facts of the row, Fa those of the first map, Fo those of the second one. -/
structure KParts (T : Nat → Option KTag) (w : World) (g : Nat) (Fr Fa Fo : List FactB) (v : Value) (m1 m2 : Nat) (Sl : RoleB → Option Value) : Prop where
  blk : w.heap[g]? = some (.cells #[v, .map (some m1), .map (some m2)] 126 (0, 0))
  tg : T g = some .top
  t1 : T m1 = some .at
  t2 : T m2 = some .of
  row : OwnF 0 w v Fr
  trow : ∀ b, v.ownBlock = some b → T b = some .row
  kat : KV ktF w m1 Fa.length (atF Fa)
  kof : KV ktR w m2 Fo.length Sl
  noS : ∀ r, ktR.ok r → Sl r = none → placesK Fo r = []
  isS : ∀ r u, ktR.ok r → Sl r = some u → OwnI 0 w u (placesK Fo r) ∧ ∀ b, u.ownBlock = some b → T b = some (.role r)

/-- The block g knows the facts F. T tells what its blocks are for. -/
structure KS (T : Nat → Option KTag) (w : World) (g : Nat) (F : List FactB) : Prop where
  ex : ∃ v m1 m2 Sl, KParts T w g F F F v m1 m2 Sl
  lo : ∀ b, T b ≠ none → b < w.heap.size
  nd : F.Nodup
  sh : ∀ f ∈ F, factShort f 9223372036854775807

theorem KParts.keep {T : Nat → Option KTag} {S : Nat → Prop} {w w' : World} {g : Nat} {Fr Fa Fo : List FactB} {v : Value} {m1 m2 : Nat} {Sl : RoleB → Option Value} (h : KParts T w g Fr Fa Fo v m1 m2 Sl) (hc : Chg S w w') (hs : ∀ b, T b ≠ none → ¬ S b) : KParts T w' g Fr Fa Fo v m1 m2 Sl :=
  ⟨blk_keep h.blk hc (hs g (by rw [h.tg]; simp)), h.tg, h.t1, h.t2, h.row.keep hc (fun k hk => hs k (by rw [h.trow k hk]; simp)), h.trow, h.kat.keep hc (hs m1 (by rw [h.t1]; simp)), h.kof.keep hc (hs m2 (by rw [h.t2]; simp)), h.noS,
    fun r u hr hu => ⟨(h.isS r u hr hu).1.keep hc (fun k hk => hs k (by rw [(h.isS r u hr hu).2 k hk]; simp)), (h.isS r u hr hu).2⟩⟩

theorem KS.keep {T : Nat → Option KTag} {S : Nat → Prop} {w w' : World} {g : Nat} {F : List FactB} (h : KS T w g F) (hc : Chg S w w') (hs : ∀ b, T b ≠ none → ¬ S b) : KS T w' g F := by
  obtain ⟨⟨v, m1, m2, Sl, hp⟩, h2, h3, h4⟩ := h
  exact ⟨⟨v, m1, m2, Sl, hp.keep hc hs⟩, fun b hb => Nat.lt_of_lt_of_le (h2 b hb) hc.size, h3, h4⟩
theorem KS.quiet {T : Nat → Option KTag} {w w' : World} {g : Nat} {F : List FactB} (h : KS T w g F) (hc : Chg (fun _ => False) w w') : KS T w' g F := h.keep hc (fun _ _ => id)

theorem infoInt : (Try.prog.info? 3).map (fun i => (i.zero, i.size, i.bytes)) = some (some (.int .i64 0), 1, 8) := by kernel_rfl
theorem mZeroAt (w : World) : (zeroValue 3).run Try.prog w = .ok (.int .i64 0) w := by kernel_rfl
theorem mZeroOf (w : World) : (zeroValue 121).run Try.prog w = .ok (.slice none 0 0) w := by kernel_rfl

/-- A table with one entry more. -/
def putT (T : Nat → Option KTag) (b : Nat) (t : KTag) : Nat → Option KTag := fun i => if i = b then some t else T i
theorem putT_ne {T : Nat → Option KTag} {b i : Nat} {t : KTag} (h : i ≠ b) : putT T b t i = T i := if_neg h
theorem putT_self (T : Nat → Option KTag) (b : Nat) (t : KTag) : putT T b t b = some t := if_pos rfl

/-- T' has what T has, and blocks that are new since w. -/
structure ExtT (T T' : Nat → Option KTag) (w w' : World) : Prop where
  old : ∀ b, T b ≠ none → T' b = T b
  new : ∀ b, T' b ≠ none → T b ≠ none ∨ w.heap.size ≤ b
  lo : ∀ b, T' b ≠ none → b < w'.heap.size
theorem ExtT.refl {T : Nat → Option KTag} {w w' : World} (h : ∀ b, T b ≠ none → b < w.heap.size) (hs : w.heap.size ≤ w'.heap.size) : ExtT T T w w' := ⟨fun _ _ => rfl, fun _ h => .inl h, fun b hb => Nat.lt_of_lt_of_le (h b hb) hs⟩
theorem ExtT.trans {T T1 T2 : Nat → Option KTag} {w w1 w2 : World} (h : ExtT T T1 w w1) (k : ExtT T1 T2 w1 w2) (hs : w.heap.size ≤ w1.heap.size) : ExtT T T2 w w2 :=
  ⟨fun b hb => (k.old b (by rw [h.old b hb]; exact hb)).trans (h.old b hb), fun b hb => (k.new b hb).elim (fun e => h.new b e) (fun e => .inr (Nat.le_trans hs e)), k.lo⟩
theorem ExtT.down {T T' : Nat → Option KTag} {w0 w w' : World} (h : ExtT T T' w w') (hs : w0.heap.size ≤ w.heap.size) : ExtT T T' w0 w' := ⟨h.old, fun b hb => (h.new b hb).imp id (Nat.le_trans hs), h.lo⟩
theorem ExtT.up {T T' : Nat → Option KTag} {w w' w2 : World} (h : ExtT T T' w w') (hs : w'.heap.size ≤ w2.heap.size) : ExtT T T' w w2 := ⟨h.old, h.new, fun b hb => Nat.lt_of_lt_of_le (h.lo b hb) hs⟩
/-- A row that has come to lie in its block, or in a new one. -/
theorem ext_row {T : Nat → Option KTag} {w w' : World} (hlo : ∀ b, T b ≠ none → b < w.heap.size) (hs : w.heap.size ≤ w'.heap.size) {v v' : Value} {t : KTag} (hv : ∀ b, v.ownBlock = some b → T b = some t) (h : v'.ownBlock = v.ownBlock ∨ ∃ b, v'.ownBlock = some b ∧ w.heap.size ≤ b) (hlt : ∀ b, v'.ownBlock = some b → b < w'.heap.size) :
    ∃ T', ExtT T T' w w' ∧ (∀ b, v'.ownBlock = some b → T' b = some t) ∧ ∀ b, T' b ≠ T b → v'.ownBlock = some b ∧ T b = none := by
  rcases h with h | ⟨b, hb, hle⟩
  · exact ⟨T, ExtT.refl hlo hs, fun b hb => hv b (by rw [← h]; exact hb), fun b h => absurd rfl h⟩
  · have hTb : T b = none := by
      cases e : T b with
      | none => rfl
      | some x => have := hlo b (by rw [e]; simp); omega
    refine ⟨putT T b t, ⟨fun i hi => putT_ne (fun e => by subst e; exact hi hTb), fun i hi => ?_, fun i hi => ?_⟩, fun i hi => ?_, fun i hi => ?_⟩
    · by_cases e : i = b
      · exact .inr (by omega)
      · rw [putT_ne e] at hi; exact .inl hi
    · by_cases e : i = b
      · subst e; exact hlt i hb
      · rw [putT_ne e] at hi; exact Nat.lt_of_lt_of_le (hlo i hi) hs
    · rw [hb] at hi
      cases hi
      exact putT_self _ _ _
    · by_cases e : i = b
      · subst e; exact ⟨hb, hTb⟩
      · rw [putT_ne e] at hi; exact absurd rfl hi

theorem kparts_made (w : World) : KS (putT (putT (putT (fun _ => none) w.heap.size .at) (w.heap.size + 1) .of) (w.heap.size + 2) .top) (((w.alloc (.map #[] 0)).alloc (.map #[] 0)).alloc (.cells #[.slice none 0 0, .map (some w.heap.size), .map (some (w.heap.size + 1))] 126)) (w.heap.size + 2) [] := by
  have c1 : Chg (fun _ => False) (w.alloc (.map #[] 0)) (((w.alloc (.map #[] 0)).alloc (.map #[] 0)).alloc (.cells #[.slice none 0 0, .map (some w.heap.size), .map (some (w.heap.size + 1))] 126)) := ((Chg.refl _ _).alloc _).alloc _
  have c2 : Chg (fun _ => False) ((w.alloc (.map #[] 0)).alloc (.map #[] 0)) (((w.alloc (.map #[] 0)).alloc (.map #[] 0)).alloc (.cells #[.slice none 0 0, .map (some w.heap.size), .map (some (w.heap.size + 1))] 126)) := (Chg.refl _ _).alloc _
  have k1 := (kv_made ktF w).keep c1 id
  have k2 := kv_made ktR (w.alloc (.map #[] 0))
  rw [World.size_alloc] at k2
  have k2 := k2.keep c2 id
  have hb := heap_alloc_new ((w.alloc (.map #[] 0)).alloc (.map #[] 0)) (.cells #[.slice none 0 0, .map (some w.heap.size), .map (some (w.heap.size + 1))] 126)
  rw [World.size_alloc, World.size_alloc] at hb
  refine ⟨⟨_, _, _, fun _ => none, hb, putT_self _ _ _, ?_, ?_, World.ownsRow_nil _ _ _ _, fun b h => (by cases h), k1.cong (fun f _ => by simp [atF]), k2, fun r _ _ => placesK_none (by simp), fun r u _ h => (by cases h)⟩, fun b hb => ?_, List.nodup_nil, by simp⟩
  · rw [putT_ne (by omega), putT_ne (by omega), putT_self]
  · rw [putT_ne (by omega), putT_self]
  · simp only [World.size_alloc]
    by_cases e2 : b = w.heap.size + 2
    · omega
    · rw [putT_ne e2] at hb
      by_cases e1 : b = w.heap.size + 1
      · omega
      · rw [putT_ne e1] at hb
        by_cases e0 : b = w.heap.size
        · omega
        · rw [putT_ne e0] at hb
          exact absurd rfl hb

/-- An append of one fact. -/
theorem run_append_fact {B : Nat} {w : World} {v : Value} {F : List FactB} {f : FactB} (ty : TypeId) (hown : OwnF B w v F) {b : Nat} (hb : w.heap[b]? = some (.cells (factBox f) 34 (0, 0))) (hlen : F.length ≤ 33554432) (hB : B ≤ w.heap.size) :
    ∃ v' w', (Builtin.append_ #[45, 45] ty #[v, .slice (some ⟨b, 0, none⟩) 1 1]).run Try.prog w = .ok v' w' ∧ OwnF B w' v' (F ++ [f]) ∧ Chg (fun i => v.ownBlock = some i) w w' ∧ (v'.ownBlock = v.ownBlock ∨ v'.ownBlock = some w.heap.size) := by
  obtain ⟨i0, hi, hz0, hz1, hz2⟩ := info_parts Try.info34
  obtain ⟨v', w', hr, h2, h3, h4, h5⟩ := run_append_own_at (P := Try.prog) w B 45 ty 34 i0 (.agg #[.string ⟨#[]⟩, .string ⟨#[]⟩, .string ⟨#[]⟩]) 3 48 Try.underlying45 hi hz0 hz1 hz2 rfl (by decide) v F.length (factRow F) hown ⟨b, 0, none⟩ 1 1 (factCells f) rfl
    (fun j u hj => by rw [add_off, Nat.zero_add, cell_blk hb j]; have : factBox f = (factCells f).toArray := rfl; rw [this, List.getElem?_toArray]; exact hj) (fact_one f) (by unfold maxLen; omega) (by omega) hB
  refine ⟨v', w', hr, ?_, (Chg.refl _ _).grown h3 (fun k hk _ => hk), h5⟩
  unfold OwnF
  rw [factRow_snoc, List.length_append]
  exact h2

/-- An append of one place. -/
theorem run_append_int {B : Nat} {w : World} {v : Value} {ps : List Nat} {i : Nat} (ty : TypeId) (hown : OwnI B w v ps) {b : Nat} (hb : w.heap[b]? = some (.cells #[.int .i64 i] 3 (0, 0))) (hlen : ps.length ≤ 33554432) (hB : B ≤ w.heap.size) :
    ∃ v' w', (Builtin.append_ #[121, 121] ty #[v, .slice (some ⟨b, 0, none⟩) 1 1]).run Try.prog w = .ok v' w' ∧ OwnI B w' v' (ps ++ [i]) ∧ Chg (fun i => v.ownBlock = some i) w w' ∧ (v'.ownBlock = v.ownBlock ∨ v'.ownBlock = some w.heap.size) := by
  obtain ⟨i0, hi, hz0, hz1, hz2⟩ := info_parts infoInt
  obtain ⟨v', w', hr, h2, h3, h4, h5⟩ := run_append_own_at (P := Try.prog) w B 121 ty 3 i0 (.int .i64 0) 1 8 Try.underlying121 hi hz0 hz1 hz2 rfl (by decide) v ps.length (intsK ps) hown ⟨b, 0, none⟩ 1 1 [.int .i64 i] rfl
    (fun j u hj => by
      rw [add_off, Nat.zero_add, cell_blk hb j]
      cases j with
      | zero => simpa using hj
      | succ j => simp at hj) (by intro u hu; simp only [List.mem_singleton] at hu; subst hu; rfl) (by unfold maxLen; omega) (by omega) hB
  refine ⟨v', w', hr, ?_, (Chg.refl _ _).grown h3 (fun k hk _ => hk), h5⟩
  unfold OwnI
  rw [intsK_snoc, List.length_append]
  exact h2

section
variable {T : Nat → Option KTag} {w w1 : World} {g : Nat} {F : List FactB} {f : FactB} {v : Value} {m1 m2 : Nat} {Sl : RoleB → Option Value}

/-- The row with one more, ahead of its store. -/
def RowF1 (w : World) (v : Value) (F : List FactB) (f : FactB) (v' : Value) (w' : World) : Prop :=
  OwnF 0 w' v' (F ++ [f]) ∧ Chg (fun i => v.ownBlock = some i) w w' ∧ (v'.ownBlock = v.ownBlock ∨ ∃ b, v'.ownBlock = some b ∧ w.heap.size ≤ b)
/-- .. and behind it. -/
def RowF2 (T : Nat → Option KTag) (w : World) (g : Nat) (F : List FactB) (f : FactB) (m1 m2 : Nat) (Sl : RoleB → Option Value) (w' : World) : Prop :=
  ∃ T' v', KParts T' w' g (F ++ [f]) F F v' m1 m2 Sl ∧ ExtT T T' w w' ∧ Chg (fun b => T b ≠ none) w w'

theorem RowF1.quiet {u : Value} {w' w2 : World} (h : RowF1 w v F f u w') (hc : Chg (fun _ => False) w' w2) : RowF1 w v F f u w2 := ⟨h.1.keep hc (fun _ _ => id), h.2.1.trans hc (fun _ _ h => h.elim), h.2.2⟩
theorem RowF2.quiet {w' w2 : World} (h : RowF2 T w g F f m1 m2 Sl w') (hc : Chg (fun _ => False) w' w2) : RowF2 T w g F f m1 m2 Sl w2 := by
  obtain ⟨T', v', h1, h2, h3⟩ := h
  exact ⟨T', v', h1.keep hc (fun _ _ => id), h2.up hc.size, h3.trans hc (fun _ _ h => h.elim)⟩

theorem RowF1.of (h : KParts T w g F F F v m1 m2 Sl) (hn : F.length ≤ 33554432) (hc : Chg (fun _ => False) w w1) {b : Nat} (hb : w1.heap[b]? = some (.cells (factBox f) 34 (0, 0))) (ty : TypeId) :
    ∃ v' w', (Builtin.append_ #[45, 45] ty #[v, .slice (some ⟨b, 0, none⟩) 1 1]).run Try.prog w1 = .ok v' w' ∧ RowF1 w v F f v' w' ∧ Chg (fun b => T b ≠ none) w1 w' := by
  obtain ⟨v', w', h1, h2, h3, h4⟩ := run_append_fact ty (h.row.keep hc (fun _ _ => id)) hb hn (Nat.zero_le _)
  refine ⟨v', w', h1, ⟨h2, hc.none9.trans h3 (fun _ _ h => h), h4.imp id (fun e => ⟨_, e, hc.size⟩)⟩, h3.mono (fun i _ hi => by rw [h.trow i hi]; simp)⟩

theorem RowF1.store (h : KParts T w g F F F v m1 m2 Sl) (hlo : ∀ b, T b ≠ none → b < w.heap.size) {v' : Value} {w' : World} (hr : RowF1 w v F f v' w') :
    w'.heap[g]? = some (.cells #[v, .map (some m1), .map (some m2)] 126 (0, 0)) ∧ RowF2 T w g F f m1 m2 Sl (w'.setCell ⟨g, 0, none⟩ v') ∧ Chg (fun b => T b ≠ none) w' (w'.setCell ⟨g, 0, none⟩ v') := by
  obtain ⟨h1, h2, h3⟩ := hr
  have ne : ∀ {i : Nat} {t : KTag}, T i = some t → t ≠ .row → ¬ v.ownBlock = some i := fun hi ht e => by rw [h.trow _ e] at hi; cases hi; exact ht rfl
  have hgT : T g ≠ none := by rw [h.tg]; simp
  have hb := blk_keep h.blk h2 (ne h.tg (by simp))
  have cs : Chg (· = g) w' (w'.setCell ⟨g, 0, none⟩ v') := (Chg.refl (· = g) w').setCell (p := ⟨g, 0, none⟩) (fun _ => rfl) _
  have hall : Chg (fun b => T b ≠ none) w (w'.setCell ⟨g, 0, none⟩ v') := (h2.mono (fun i _ hi => by rw [h.trow i hi]; simp)).trans (cs.mono (fun i _ hi => by rw [hi]; exact hgT)) (fun _ _ h => h)
  have hsz := hall.size
  have hvb : ∀ b, v'.ownBlock = some b → b < w'.heap.size := fun b hb => (h1.blt9 hb).2
  obtain ⟨T', t1, t2, t3⟩ := ext_row (t := .row) hlo (w' := w') h2.size (fun b hb => h.trow b hb) h3 hvb
  have told : ∀ {i : Nat} {t : KTag}, T i = some t → T' i = some t := fun hi => by rw [t1.old _ (by rw [hi]; simp), hi]
  have hg' : ∀ k, v'.ownBlock = some k → k ≠ g := fun k hk e => by subst e; have := told h.tg; rw [t2 k hk] at this; cases this
  refine ⟨hb, ⟨T', v', ⟨set_blk hb 0 v', told h.tg, told h.t1, told h.t2, h1.keep cs (fun k hk e => hg' k hk e), t2, ?_, ?_, h.noS, fun r u hr hu => ?_⟩, t1.up cs.size, hall⟩, cs.mono (fun i _ hi => by rw [hi]; exact hgT)⟩
  · exact (h.kat.keep h2 (ne h.t1 (by simp))).keep cs (fun e => by have := h.t1; rw [e, h.tg] at this; cases this)
  · exact (h.kof.keep h2 (ne h.t2 (by simp))).keep cs (fun e => by have := h.t2; rw [e, h.tg] at this; cases this)
  · obtain ⟨q1, q2⟩ := h.isS r u hr hu
    exact ⟨(q1.keep h2 (fun k hk => ne (q2 k hk) (by simp))).keep cs (fun k hk e => by have := q2 k hk; rw [e, h.tg] at this; cases this), fun b hb => told (q2 b hb)⟩

/-- The first map with one more. -/
theorem KParts.setAt (h : KParts T w g (F ++ [f]) F F v m1 m2 Sl) (hn : F.length < 33554432) (hf : factShort f 9223372036854775807) (hno : f ∉ F) (hc : Chg (fun _ => False) w w1) :
    ∃ w', (Instr.mapUpdate 90 (.map (some m1)) (.agg #[.string ⟨f.1.1.toArray⟩, .string ⟨f.1.2.toArray⟩, .string ⟨f.2.toArray⟩]) (.int .i64 (F.length : Nat))).run Try.prog w1 = .ok () w' ∧ KParts T w' g (F ++ [f]) (F ++ [f]) F v m1 m2 Sl ∧ Chg (fun b => T b ≠ none) w w' ∧ Chg (fun b => T b ≠ none) w1 w' := by
  obtain ⟨w', h1, h2, h3, _⟩ := (h.kat.keep hc id).set (t := 90) (e := 3) Try.underlying90 (by omega) (a := f) hf (.int .i64 (F.length : Nat))
  rw [atF_snoc hno] at h2
  have ne : ∀ {i : Nat} {t : KTag}, T i = some t → t ≠ .at → i ≠ m1 := fun hi ht e => by rw [e, h.t1] at hi; cases hi; exact ht rfl
  have hh := h.keep hc (fun _ _ => id)
  refine ⟨w', h1, ⟨blk_keep hh.blk h3 (ne h.tg (by simp)), h.tg, h.t1, h.t2, hh.row.keep h3 (fun k hk => ne (h.trow k hk) (by simp)), h.trow, by rw [List.length_append]; exact h2, hh.kof.keep h3 (ne h.t2 (by simp)), h.noS, fun r u hr hu => ⟨(hh.isS r u hr hu).1.keep h3 (fun k hk => ne ((h.isS r u hr hu).2 k hk) (by simp)), (h.isS r u hr hu).2⟩⟩,
    hc.none9.trans (h3.mono (fun i _ hi => by rw [hi, h.t1]; simp)) (fun _ _ h => h), h3.mono (fun i _ hi => by rw [hi, h.t1]; simp)⟩
end
end Go.Proofs.Ytcdjjengkdbngaa

/- An element of a map that is stored anew: what is read ahead hangs on the map's block alone. -/
namespace Go.Proofs.Ytcdjjengkdbngaa
open Go.RowKit Go.Maps Go.ChangeMaps Go.WideMaps

theorem findK_same {P : Program} {k : TypeId} (K : KeyLaw P k) (w w' : World) {x : Value} {lx : Lit} (hx : Go.keyOf P k x = some lx) {es : List MapEntry} (hk : ∀ e ∈ es, ∃ l, Go.keyOf P k e.key = some l) (hn : (es.map (·.key)).Nodup) :
    ∃ r, (Instr.findKey k x es).run P w = .ok r w ∧ (Instr.findKey k x es).run P w' = .ok r w' := by
  rcases K.find w hx es hk with ⟨h1, h2⟩ | ⟨j, e, h1, h2, h3⟩ <;> rcases K.find w' hx es hk with ⟨k1, k2⟩ | ⟨i, d, k1, k2, k3⟩
  · exact ⟨_, h1, k1⟩
  · exact absurd k3 (h2 d (List.mem_of_getElem? k2))
  · exact absurd h3 (k2 e (List.mem_of_getElem? h2))
  · have hji : j = i := by
      have a1 : (es.map (·.key))[j]? = some x := by rw [List.getElem?_map, h2]; simp [h3]
      have a2 : (es.map (·.key))[i]? = some x := by rw [List.getElem?_map, k2]; simp [k3]
      obtain ⟨b1, c1⟩ := List.getElem?_eq_some_iff.1 a1
      obtain ⟨b2, c2⟩ := List.getElem?_eq_some_iff.1 a2
      exact (List.getElem_inj hn).1 (c1.trans c2.symm)
    subst hji
    rw [h2] at k2
    cases k2
    exact ⟨_, h1, k1⟩

theorem entry_same {P : Program} {w w' : World} {t k e : TypeId} {b : Nat} {es : Array MapEntry} {clock : Nat} {R : Value → Option (DataW Value × List MemPlace)} (K : KeyLaw P k) (ht : P.underlying t = some (.map k e)) {z : Value} (hz : ∀ u : World, (zeroValue e).run P u = .ok z u)
    (hb : w.heap[b]? = some (.map es clock)) (hb' : w'.heap[b]? = some (.map es clock)) (F : WideElems.Fit P k R es clock) {key : Value} {kl : Lit} (hkey : Go.keyOf P k key = some kl) {v0 : Value} {st : Nat} {o : Obj}
    (h : (Instr.mapEntry t (.map (some b)) key).run P w = .ok (.tuple #[v0, goInt st]) (setBlock w b o)) : (Instr.mapEntry t (.map (some b)) key).run P w' = .ok (.tuple #[v0, goInt st]) (setBlock w' b o) := by
  have hks : ∀ e ∈ es.toList, ∃ l, Go.keyOf P k e.key = some l := F.keys
  obtain ⟨r, h1, h2⟩ := findK_same K w w' hkey hks F.stamped.2.2
  have ho : ∀ (o' : Obj), setBlock w b o' = setBlock w b o → o' = o := fun o' e => by
    have e1 := heap_setBlock_same hb o'
    rw [e, heap_setBlock_same hb o] at e1
    cases e1
    rfl
  cases r with
  | none =>
    have e1 : (Instr.mapEntry t (.map (some b)) key).run P w = .ok (.tuple #[z, goInt clock]) (setBlock w b (.map (es.push ⟨key, z, clock⟩) (clock + 1))) := by
      simp [Instr.mapEntry, run_underlying ht, MapKept.run_getObj_map hb, K.check w false hkey, h1, hz, MapKept.run_setObj_map _ hb, Result.andThen, setBlock]
    have e2 : (Instr.mapEntry t (.map (some b)) key).run P w' = .ok (.tuple #[z, goInt clock]) (setBlock w' b (.map (es.push ⟨key, z, clock⟩) (clock + 1))) := by
      simp [Instr.mapEntry, run_underlying ht, MapKept.run_getObj_map hb', K.check w' false hkey, h2, hz, MapKept.run_setObj_map _ hb', Result.andThen, setBlock]
    rw [e1] at h
    injection h with q1 q2
    rw [e2, q1, ho _ q2]
  | some r =>
    obtain ⟨j, v⟩ := r
    have hst : ∃ ks, (Instr.keyThatStays (((es[j]?).map (·.key)).getD key) key).run P w = .ok ks w ∧ (Instr.keyThatStays (((es[j]?).map (·.key)).getD key) key).run P w' = .ok ks w' := by
      rcases K.find w hkey es.toList hks with ⟨g1, _⟩ | ⟨i, e0, g1, g2, g3⟩
      · rw [g1] at h1; cases h1
      · rw [g1] at h1
        cases h1
        have hj : es[j]? = some e0 := by simpa using g2
        rw [hj]
        simp only [Option.map_some, Option.getD_some, g3]
        exact ⟨key, K.stays w hkey, K.stays w' hkey⟩
    obtain ⟨ks, s1, s2⟩ := hst
    have e1 : (Instr.mapEntry t (.map (some b)) key).run P w = .ok (.tuple #[v, goInt (((es[j]?).map (·.born)).getD 0)]) (setBlock w b (.map (es.modify j fun e => { e with key := ks }) clock)) := by
      simp [Instr.mapEntry, run_underlying ht, MapKept.run_getObj_map hb, K.check w false hkey, h1, s1, MapKept.run_setObj_map _ hb, Result.andThen, setBlock]
    have e2 : (Instr.mapEntry t (.map (some b)) key).run P w' = .ok (.tuple #[v, goInt (((es[j]?).map (·.born)).getD 0)]) (setBlock w' b (.map (es.modify j fun e => { e with key := ks }) clock)) := by
      simp [Instr.mapEntry, run_underlying ht, MapKept.run_getObj_map hb', K.check w' false hkey, h2, s2, MapKept.run_setObj_map _ hb', Result.andThen, setBlock]
    rw [e1] at h
    injection h with q1 q2
    rw [e2, q1, ho _ q2]

variable {α : Type} {k : KT α} {w : World} {mb n : Nat} {F : α → Option Value}

/-- The element at a key, which is then stored anew: what is read hangs on the map's block alone. -/
theorem KV.entry2 [DecidableEq α] {t e : TypeId} (h : KV k w mb n F) (K : KeyLaw Try.prog k.ty) (ht : Try.prog.underlying t = some (.map k.ty e)) {z : Value} (hz : ∀ u : World, (zeroValue e).run Try.prog u = .ok z u) (hn : n < 9223372036854775807) {a : α} (ha : k.ok a) :
    ∃ (st : Nat) (o1 : Obj), ∀ w', w'.heap[mb]? = w.heap[mb]? →
      (∃ w1, (Instr.mapEntry t (.map (some mb)) (k.val a)).run Try.prog w' = .ok (.tuple #[(F a).getD z, goInt st]) w1 ∧ Chg (· = mb) w' w1 ∧ w1.heap[mb]? = some o1) ∧
      ∀ (w2 : World) (v : Value), w2.heap[mb]? = some o1 → ∃ w3, (Instr.entryStore t (.map (some mb)) (goInt st) v).run Try.prog w2 = .ok () w3 ∧ Chg (· = mb) w2 w3 ∧ KV k w3 mb (n + 1) (putF F a v) := by
  obtain ⟨M, ⟨es, clock, hb, Ft, _, _⟩, _⟩ := h.ex
  obtain ⟨st, w1, h1, h2, h3, h4⟩ := h.entry K ht hz hn ha
  have hw1 : ∃ o1, w1 = setBlock w mb o1 ∧ w1.heap[mb]? = some o1 := by
    obtain ⟨v0, st', es1, clock1, hr, _, _⟩ := WideElems.entry_then_store (R := heldElem) K ht hz hb Ft (k.reads a ha)
    rw [h1] at hr
    injection hr with _ q2
    exact ⟨_, q2, by rw [q2]; exact heap_setBlock_same hb _⟩
  obtain ⟨o1, rfl, hb1⟩ := hw1
  refine ⟨st, o1, fun w' hw' => ⟨⟨setBlock w' mb o1, entry_same K ht hz hb (hw'.trans hb) Ft (k.reads a ha) h1, ?_, heap_setBlock_same (hw'.trans hb) _⟩, fun w2 v hw2 => ?_⟩⟩
  · exact (Chg.refl (· = mb) w').grown (row := some mb) ⟨rfl, rfl, rfl, by simp [setBlock], fun i _ hi => heap_setBlock_other (hw'.trans hb) _ (fun e => hi (by rw [e]))⟩ (fun k hk _ => by simpa using hk.symm)
  · obtain ⟨w3, g1, g2, _, g3⟩ := h4 w2 v (hw2.trans hb1.symm)
    exact ⟨w3, g1, g2, g3⟩
end Go.Proofs.Ytcdjjengkdbngaa
