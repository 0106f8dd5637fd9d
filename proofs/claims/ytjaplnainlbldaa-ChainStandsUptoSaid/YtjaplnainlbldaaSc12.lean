/- Texts that the proof leans on, in one: KwState, CredEq, RoleClear, PcCompMath, Enters. -/
import Derived.Test.YtjaplnainlbldaaSc10
import Derived.Test.YtjaplnainlbldaaSc7
import Derived.Test.YtjaplnainlbldaaSc11
import Derived.Maps.AppendAt
import Derived.Test.YtjaplnainlbldaaSc5
import Derived.Lib.SliceRun
import Derived.Test.YtjaplnainlbldaaSc4
import Derived.Lib.SlicesCompact
import Derived.IntWalk
import Derived.Test.YtjaplnainlbldaaSc2
/- What the program's check knows, as it lies in memory. -/
namespace Go.Proofs.Ytjaplnainlbldaa
open Go.RowKit Go.Maps

theorem Chg.none9 {S : Nat → Prop} {w w' : World} (h : Chg (fun _ => False) w w') : Chg S w w' := h.mono (fun _ _ h => h.elim)

/-- What a block is for. -/
inductive KTag
  | top
  | at
  | of
  | row
  | role (r : RoleB)

def intsK (ps : List Nat) : List Value := ps.map (fun (i : Nat) => Value.int .i64 i)
/-- A row of places of the call's own. -/
def OwnI (B : Nat) (w : World) (v : Value) (ps : List Nat) : Prop := w.ownsRow B 3 1 v ps.length (intsK ps)
theorem intsK_snoc (ps : List Nat) (i : Nat) : intsK (ps ++ [i]) = intsK ps ++ [.int .i64 (i : Nat)] := by simp [intsK]
theorem OwnI.keep {S : Nat → Prop} {B : Nat} {w w' : World} {v : Value} {ps : List Nat} (h : OwnI B w v ps) (hc : Chg S w w') (hr : ∀ k, v.ownBlock = some k → ¬ S k) : OwnI B w' v ps := ownsRow_keep h hc hr
theorem OwnI.nil (B : Nat) (w : World) : OwnI B w (.slice none 0 0) [] := World.ownsRow_nil _ _ _ _
theorem OwnI.shape {B : Nat} {w : World} {v : Value} {ps : List Nat} (h : OwnI B w v ps) : ∃ ao cap, v = .slice ao ps.length cap := by
  rcases h.2 with ⟨rfl, h0⟩ | ⟨g, cap, cur, rfl, _⟩
  · exact ⟨none, 0, by rw [h0]⟩
  · exact ⟨_, _, rfl⟩
theorem OwnI.blt {B : Nat} {w : World} {v : Value} {ps : List Nat} (h : OwnI B w v ps) {k : Nat} (hk : v.ownBlock = some k) : B ≤ k ∧ k < w.heap.size := by
  rcases h.2 with ⟨hx', _⟩ | ⟨g, cap', cur, hx', hg, hh, _⟩
  · rw [hx'] at hk; cases hk
  · have hk2 : g = k := by rw [hx'] at hk; simpa [Value.ownBlock] using hk
    subst hk2
    exact ⟨hg, lt_blk hh⟩
theorem OwnF.blt9 {B : Nat} {w : World} {v : Value} {ls : List FactB} (h : OwnF B w v ls) {k : Nat} (hk : v.ownBlock = some k) : B ≤ k ∧ k < w.heap.size := by
  rcases h.2 with ⟨hx', _⟩ | ⟨g, cap', cur, hx', hg, hh, _⟩
  · rw [hx'] at hk; cases hk
  · have hk2 : g = k := by rw [hx'] at hk; simpa [Value.ownBlock] using hk
    subst hk2
    exact ⟨hg, lt_blk hh⟩
/-- The places of a row, cell by cell. -/
theorem OwnI.cells {B : Nat} {w : World} {ao : Option Addr} {n cap : Nat} {ps : List Nat} (h : OwnI B w (.slice ao n cap) ps) {i : Nat} (hi : i < ps.length) : ∃ b, ao = some ⟨b, 0, none⟩ ∧ w.cell? ⟨b, i, none⟩ = some (.int .i64 (ps[i] : Nat)) ∧ w.frozen? ⟨b, i, none⟩ = false := by
  rcases h.2 with ⟨hx, h0⟩ | ⟨g, cap', cur, hx, _, hh, h1, h2, h3, h4⟩
  · omega
  · cases hx
    refine ⟨g, rfl, ?_, froz_blk hh i⟩
    rw [cell_blk hh i, ← Array.getElem?_toList]
    have e : (cur.toList.take (ps.length * 1))[i]? = (intsK ps)[i]? := by rw [h4]
    rw [List.getElem?_take_of_lt (by omega)] at e
    rw [e, intsK, List.getElem?_map, List.getElem?_eq_getElem hi]
    rfl

def atF (F : List FactB) : FactB → Option Value := fun f => if f ∈ F then some (.int .i64 (F.idxOf f : Nat)) else none
theorem atF_some (F : List FactB) (f : FactB) : (atF F f).isSome = decide (f ∈ F) := by unfold atF; split <;> simp_all
theorem atF_snoc {F : List FactB} {f : FactB} (h : f ∉ F) : putF (atF F) f (.int .i64 (F.length : Nat)) = atF (F ++ [f]) := by
  funext g
  unfold putF atF
  by_cases e : g = f
  · subst e
    rw [if_pos rfl, if_pos (by simp), idx_new h]
  · rw [if_neg e]
    by_cases hg : g ∈ F
    · rw [if_pos hg, if_pos (by simp [hg]), idx_app hg]
    · rw [if_neg hg, if_neg (by simp [hg, e])]

/-- What lies in the parts: Fr the facts of the row, Fa those of the first map, Fo those of the second one. -/
structure KParts (T : Nat → Option KTag) (w : World) (g : Nat) (Fr Fa Fo : List FactB) (v : Value) (m1 m2 : Nat) (Sl : RoleB → Option Value) : Prop where
  blk : w.heap[g]? = some (.cells #[v, .map (some m1), .map (some m2)] 152 (0, 0))
  tg : T g = some .top
  t1 : T m1 = some .at
  t2 : T m2 = some .of
  row : OwnF 0 w v Fr
  trow : ∀ b, v.ownBlock = some b → T b = some .row
  kat : KV ktF w m1 Fa.length (atF Fa)
  kof : KV ktR w m2 Fo.length Sl
  noS : ∀ r, ktR.ok r → Sl r = none → placesK Fo r = []
  isS : ∀ r u, ktR.ok r → Sl r = some u → OwnI 0 w u (placesK Fo r) ∧ ∀ b, u.ownBlock = some b → T b = some (.role r)

/-- The block g knows the facts F. T tells what its blocks are for. -/
structure KS (T : Nat → Option KTag) (w : World) (g : Nat) (F : List FactB) : Prop where
  ex : ∃ v m1 m2 Sl, KParts T w g F F F v m1 m2 Sl
  lo : ∀ b, T b ≠ none → b < w.heap.size
  nd : F.Nodup
  sh : ∀ f ∈ F, factShort f 9223372036854775807

theorem KParts.keep {T : Nat → Option KTag} {S : Nat → Prop} {w w' : World} {g : Nat} {Fr Fa Fo : List FactB} {v : Value} {m1 m2 : Nat} {Sl : RoleB → Option Value} (h : KParts T w g Fr Fa Fo v m1 m2 Sl) (hc : Chg S w w') (hs : ∀ b, T b ≠ none → ¬ S b) : KParts T w' g Fr Fa Fo v m1 m2 Sl :=
  ⟨blk_keep h.blk hc (hs g (by rw [h.tg]; simp)), h.tg, h.t1, h.t2, h.row.keep hc (fun k hk => hs k (by rw [h.trow k hk]; simp)), h.trow, h.kat.keep hc (hs m1 (by rw [h.t1]; simp)), h.kof.keep hc (hs m2 (by rw [h.t2]; simp)), h.noS,
    fun r u hr hu => ⟨(h.isS r u hr hu).1.keep hc (fun k hk => hs k (by rw [(h.isS r u hr hu).2 k hk]; simp)), (h.isS r u hr hu).2⟩⟩

theorem KS.keep {T : Nat → Option KTag} {S : Nat → Prop} {w w' : World} {g : Nat} {F : List FactB} (h : KS T w g F) (hc : Chg S w w') (hs : ∀ b, T b ≠ none → ¬ S b) : KS T w' g F := by
  obtain ⟨⟨v, m1, m2, Sl, hp⟩, h2, h3, h4⟩ := h
  exact ⟨⟨v, m1, m2, Sl, hp.keep hc hs⟩, fun b hb => Nat.lt_of_lt_of_le (h2 b hb) hc.size, h3, h4⟩
theorem KS.quiet {T : Nat → Option KTag} {w w' : World} {g : Nat} {F : List FactB} (h : KS T w g F) (hc : Chg (fun _ => False) w w') : KS T w' g F := h.keep hc (fun _ _ => id)

theorem infoInt : (Try.prog.info? 3).map (fun i => (i.zero, i.size, i.bytes)) = some (some (.int .i64 0), 1, 8) := by kernel_rfl
theorem mZeroAt (w : World) : (zeroValue 3).run Try.prog w = .ok (.int .i64 0) w := by kernel_rfl
theorem mZeroOf (w : World) : (zeroValue 156).run Try.prog w = .ok (.slice none 0 0) w := by kernel_rfl

/-- A table with one entry more. -/
def putT (T : Nat → Option KTag) (b : Nat) (t : KTag) : Nat → Option KTag := fun i => if i = b then some t else T i
theorem putT_ne {T : Nat → Option KTag} {b i : Nat} {t : KTag} (h : i ≠ b) : putT T b t i = T i := if_neg h
theorem putT_self (T : Nat → Option KTag) (b : Nat) (t : KTag) : putT T b t b = some t := if_pos rfl

/-- T' has what T has, and blocks that are new since w. -/
structure ExtT (T T' : Nat → Option KTag) (w w' : World) : Prop where
  old : ∀ b, T b ≠ none → T' b = T b
  new : ∀ b, T' b ≠ none → T b ≠ none ∨ w.heap.size ≤ b
  lo : ∀ b, T' b ≠ none → b < w'.heap.size
theorem ExtT.refl {T : Nat → Option KTag} {w w' : World} (h : ∀ b, T b ≠ none → b < w.heap.size) (hs : w.heap.size ≤ w'.heap.size) : ExtT T T w w' := ⟨fun _ _ => rfl, fun _ h => .inl h, fun b hb => Nat.lt_of_lt_of_le (h b hb) hs⟩
theorem ExtT.trans {T T1 T2 : Nat → Option KTag} {w w1 w2 : World} (h : ExtT T T1 w w1) (k : ExtT T1 T2 w1 w2) (hs : w.heap.size ≤ w1.heap.size) : ExtT T T2 w w2 :=
  ⟨fun b hb => (k.old b (by rw [h.old b hb]; exact hb)).trans (h.old b hb), fun b hb => (k.new b hb).elim (fun e => h.new b e) (fun e => .inr (Nat.le_trans hs e)), k.lo⟩
theorem ExtT.down {T T' : Nat → Option KTag} {w0 w w' : World} (h : ExtT T T' w w') (hs : w0.heap.size ≤ w.heap.size) : ExtT T T' w0 w' := ⟨h.old, fun b hb => (h.new b hb).imp id (Nat.le_trans hs), h.lo⟩
theorem ExtT.up {T T' : Nat → Option KTag} {w w' w2 : World} (h : ExtT T T' w w') (hs : w'.heap.size ≤ w2.heap.size) : ExtT T T' w w2 := ⟨h.old, h.new, fun b hb => Nat.lt_of_lt_of_le (h.lo b hb) hs⟩
/-- A row that has come to lie in its block, or in a new one. -/
theorem ext_row {T : Nat → Option KTag} {w w' : World} (hlo : ∀ b, T b ≠ none → b < w.heap.size) (hs : w.heap.size ≤ w'.heap.size) {v v' : Value} {t : KTag} (hv : ∀ b, v.ownBlock = some b → T b = some t) (h : v'.ownBlock = v.ownBlock ∨ ∃ b, v'.ownBlock = some b ∧ w.heap.size ≤ b) (hlt : ∀ b, v'.ownBlock = some b → b < w'.heap.size) :
    ∃ T', ExtT T T' w w' ∧ (∀ b, v'.ownBlock = some b → T' b = some t) ∧ ∀ b, T' b ≠ T b → v'.ownBlock = some b ∧ T b = none := by
  rcases h with h | ⟨b, hb, hle⟩
  · exact ⟨T, ExtT.refl hlo hs, fun b hb => hv b (by rw [← h]; exact hb), fun b h => absurd rfl h⟩
  · have hTb : T b = none := by
      cases e : T b with
      | none => rfl
      | some x => have := hlo b (by rw [e]; simp); omega
    refine ⟨putT T b t, ⟨fun i hi => putT_ne (fun e => by subst e; exact hi hTb), fun i hi => ?_, fun i hi => ?_⟩, fun i hi => ?_, fun i hi => ?_⟩
    · by_cases e : i = b
      · exact .inr (by omega)
      · rw [putT_ne e] at hi; exact .inl hi
    · by_cases e : i = b
      · subst e; exact hlt i hb
      · rw [putT_ne e] at hi; exact Nat.lt_of_lt_of_le (hlo i hi) hs
    · rw [hb] at hi
      cases hi
      exact putT_self _ _ _
    · by_cases e : i = b
      · subst e; exact ⟨hb, hTb⟩
      · rw [putT_ne e] at hi; exact absurd rfl hi

theorem kparts_made (w : World) : KS (putT (putT (putT (fun _ => none) w.heap.size .at) (w.heap.size + 1) .of) (w.heap.size + 2) .top) (((w.alloc (.map #[] 0)).alloc (.map #[] 0)).alloc (.cells #[.slice none 0 0, .map (some w.heap.size), .map (some (w.heap.size + 1))] 152)) (w.heap.size + 2) [] := by
  have c1 : Chg (fun _ => False) (w.alloc (.map #[] 0)) (((w.alloc (.map #[] 0)).alloc (.map #[] 0)).alloc (.cells #[.slice none 0 0, .map (some w.heap.size), .map (some (w.heap.size + 1))] 152)) := ((Chg.refl _ _).alloc _).alloc _
  have c2 : Chg (fun _ => False) ((w.alloc (.map #[] 0)).alloc (.map #[] 0)) (((w.alloc (.map #[] 0)).alloc (.map #[] 0)).alloc (.cells #[.slice none 0 0, .map (some w.heap.size), .map (some (w.heap.size + 1))] 152)) := (Chg.refl _ _).alloc _
  have k1 := (kv_made ktF w).keep c1 id
  have k2 := kv_made ktR (w.alloc (.map #[] 0))
  rw [World.size_alloc] at k2
  have k2 := k2.keep c2 id
  have hb := heap_alloc_new ((w.alloc (.map #[] 0)).alloc (.map #[] 0)) (.cells #[.slice none 0 0, .map (some w.heap.size), .map (some (w.heap.size + 1))] 152)
  rw [World.size_alloc, World.size_alloc] at hb
  refine ⟨⟨_, _, _, fun _ => none, hb, putT_self _ _ _, ?_, ?_, World.ownsRow_nil _ _ _ _, fun b h => (by cases h), k1.cong (fun f _ => by simp [atF]), k2, fun r _ _ => placesK_none (by simp), fun r u _ h => (by cases h)⟩, fun b hb => ?_, List.nodup_nil, by simp⟩
  · rw [putT_ne (by omega), putT_ne (by omega), putT_self]
  · rw [putT_ne (by omega), putT_self]
  · simp only [World.size_alloc]
    by_cases e2 : b = w.heap.size + 2
    · omega
    · rw [putT_ne e2] at hb
      by_cases e1 : b = w.heap.size + 1
      · omega
      · rw [putT_ne e1] at hb
        by_cases e0 : b = w.heap.size
        · omega
        · rw [putT_ne e0] at hb
          exact absurd rfl hb

/-- An append of one fact. -/
theorem run_append_fact {B : Nat} {w : World} {v : Value} {F : List FactB} {f : FactB} (ty : TypeId) (hown : OwnF B w v F) {b : Nat} (hb : w.heap[b]? = some (.cells (factBox f) 26 (0, 0))) (hlen : F.length ≤ 33554432) (hB : B ≤ w.heap.size) :
    ∃ v' w', (Builtin.append_ #[33, 33] ty #[v, .slice (some ⟨b, 0, none⟩) 1 1]).run Try.prog w = .ok v' w' ∧ OwnF B w' v' (F ++ [f]) ∧ Chg (fun i => v.ownBlock = some i) w w' ∧ (v'.ownBlock = v.ownBlock ∨ v'.ownBlock = some w.heap.size) := by
  obtain ⟨i0, hi, hz0, hz1, hz2⟩ := info_parts Try.info26
  obtain ⟨v', w', hr, h2, h3, h4, h5⟩ := run_append_own_at (P := Try.prog) w B 33 ty 26 i0 (.agg #[.string ⟨#[]⟩, .string ⟨#[]⟩, .string ⟨#[]⟩]) 3 48 Try.underlying33 hi hz0 hz1 hz2 rfl (by decide) v F.length (factRow F) hown ⟨b, 0, none⟩ 1 1 (factCells f) rfl
    (fun j u hj => by rw [add_off, Nat.zero_add, cell_blk hb j]; have : factBox f = (factCells f).toArray := rfl; rw [this, List.getElem?_toArray]; exact hj) (fact_one f) (by unfold maxLen; omega) (by omega) hB
  refine ⟨v', w', hr, ?_, (Chg.refl _ _).grown h3 (fun k hk _ => hk), h5⟩
  unfold OwnF
  rw [factRow_snoc, List.length_append]
  exact h2

/-- An append of one place. -/
theorem run_append_int {B : Nat} {w : World} {v : Value} {ps : List Nat} {i : Nat} (ty : TypeId) (hown : OwnI B w v ps) {b : Nat} (hb : w.heap[b]? = some (.cells #[.int .i64 i] 3 (0, 0))) (hlen : ps.length ≤ 33554432) (hB : B ≤ w.heap.size) :
    ∃ v' w', (Builtin.append_ #[156, 156] ty #[v, .slice (some ⟨b, 0, none⟩) 1 1]).run Try.prog w = .ok v' w' ∧ OwnI B w' v' (ps ++ [i]) ∧ Chg (fun i => v.ownBlock = some i) w w' ∧ (v'.ownBlock = v.ownBlock ∨ v'.ownBlock = some w.heap.size) := by
  obtain ⟨i0, hi, hz0, hz1, hz2⟩ := info_parts infoInt
  obtain ⟨v', w', hr, h2, h3, h4, h5⟩ := run_append_own_at (P := Try.prog) w B 156 ty 3 i0 (.int .i64 0) 1 8 Try.underlying156 hi hz0 hz1 hz2 rfl (by decide) v ps.length (intsK ps) hown ⟨b, 0, none⟩ 1 1 [.int .i64 i] rfl
    (fun j u hj => by
      rw [add_off, Nat.zero_add, cell_blk hb j]
      cases j with
      | zero => simpa using hj
      | succ j => simp at hj) (by intro u hu; simp only [List.mem_singleton] at hu; subst hu; rfl) (by unfold maxLen; omega) (by omega) hB
  refine ⟨v', w', hr, ?_, (Chg.refl _ _).grown h3 (fun k hk _ => hk), h5⟩
  unfold OwnI
  rw [intsK_snoc, List.length_append]
  exact h2

section
variable {T : Nat → Option KTag} {w w1 : World} {g : Nat} {F : List FactB} {f : FactB} {v : Value} {m1 m2 : Nat} {Sl : RoleB → Option Value}

/-- The row with one more, ahead of its store. -/
def RowF1 (w : World) (v : Value) (F : List FactB) (f : FactB) (v' : Value) (w' : World) : Prop :=
  OwnF 0 w' v' (F ++ [f]) ∧ Chg (fun i => v.ownBlock = some i) w w' ∧ (v'.ownBlock = v.ownBlock ∨ ∃ b, v'.ownBlock = some b ∧ w.heap.size ≤ b)
/-- .. and behind it. -/
def RowF2 (T : Nat → Option KTag) (w : World) (g : Nat) (F : List FactB) (f : FactB) (m1 m2 : Nat) (Sl : RoleB → Option Value) (w' : World) : Prop :=
  ∃ T' v', KParts T' w' g (F ++ [f]) F F v' m1 m2 Sl ∧ ExtT T T' w w' ∧ Chg (fun b => T b ≠ none) w w'

theorem RowF1.quiet {u : Value} {w' w2 : World} (h : RowF1 w v F f u w') (hc : Chg (fun _ => False) w' w2) : RowF1 w v F f u w2 := ⟨h.1.keep hc (fun _ _ => id), h.2.1.trans hc (fun _ _ h => h.elim), h.2.2⟩
theorem RowF2.quiet {w' w2 : World} (h : RowF2 T w g F f m1 m2 Sl w') (hc : Chg (fun _ => False) w' w2) : RowF2 T w g F f m1 m2 Sl w2 := by
  obtain ⟨T', v', h1, h2, h3⟩ := h
  exact ⟨T', v', h1.keep hc (fun _ _ => id), h2.up hc.size, h3.trans hc (fun _ _ h => h.elim)⟩

theorem RowF1.of (h : KParts T w g F F F v m1 m2 Sl) (hn : F.length ≤ 33554432) (hc : Chg (fun _ => False) w w1) {b : Nat} (hb : w1.heap[b]? = some (.cells (factBox f) 26 (0, 0))) (ty : TypeId) :
    ∃ v' w', (Builtin.append_ #[33, 33] ty #[v, .slice (some ⟨b, 0, none⟩) 1 1]).run Try.prog w1 = .ok v' w' ∧ RowF1 w v F f v' w' ∧ Chg (fun b => T b ≠ none) w1 w' := by
  obtain ⟨v', w', h1, h2, h3, h4⟩ := run_append_fact ty (h.row.keep hc (fun _ _ => id)) hb hn (Nat.zero_le _)
  refine ⟨v', w', h1, ⟨h2, hc.none9.trans h3 (fun _ _ h => h), h4.imp id (fun e => ⟨_, e, hc.size⟩)⟩, h3.mono (fun i _ hi => by rw [h.trow i hi]; simp)⟩

theorem RowF1.store (h : KParts T w g F F F v m1 m2 Sl) (hlo : ∀ b, T b ≠ none → b < w.heap.size) {v' : Value} {w' : World} (hr : RowF1 w v F f v' w') :
    w'.heap[g]? = some (.cells #[v, .map (some m1), .map (some m2)] 152 (0, 0)) ∧ RowF2 T w g F f m1 m2 Sl (w'.setCell ⟨g, 0, none⟩ v') ∧ Chg (fun b => T b ≠ none) w' (w'.setCell ⟨g, 0, none⟩ v') := by
  obtain ⟨h1, h2, h3⟩ := hr
  have ne : ∀ {i : Nat} {t : KTag}, T i = some t → t ≠ .row → ¬ v.ownBlock = some i := fun hi ht e => by rw [h.trow _ e] at hi; cases hi; exact ht rfl
  have hgT : T g ≠ none := by rw [h.tg]; simp
  have hb := blk_keep h.blk h2 (ne h.tg (by simp))
  have cs : Chg (· = g) w' (w'.setCell ⟨g, 0, none⟩ v') := (Chg.refl (· = g) w').setCell (p := ⟨g, 0, none⟩) (fun _ => rfl) _
  have hall : Chg (fun b => T b ≠ none) w (w'.setCell ⟨g, 0, none⟩ v') := (h2.mono (fun i _ hi => by rw [h.trow i hi]; simp)).trans (cs.mono (fun i _ hi => by rw [hi]; exact hgT)) (fun _ _ h => h)
  have hsz := hall.size
  have hvb : ∀ b, v'.ownBlock = some b → b < w'.heap.size := fun b hb => (h1.blt9 hb).2
  obtain ⟨T', t1, t2, t3⟩ := ext_row (t := .row) hlo (w' := w') h2.size (fun b hb => h.trow b hb) h3 hvb
  have told : ∀ {i : Nat} {t : KTag}, T i = some t → T' i = some t := fun hi => by rw [t1.old _ (by rw [hi]; simp), hi]
  have hg' : ∀ k, v'.ownBlock = some k → k ≠ g := fun k hk e => by subst e; have := told h.tg; rw [t2 k hk] at this; cases this
  refine ⟨hb, ⟨T', v', ⟨set_blk hb 0 v', told h.tg, told h.t1, told h.t2, h1.keep cs (fun k hk e => hg' k hk e), t2, ?_, ?_, h.noS, fun r u hr hu => ?_⟩, t1.up cs.size, hall⟩, cs.mono (fun i _ hi => by rw [hi]; exact hgT)⟩
  · exact (h.kat.keep h2 (ne h.t1 (by simp))).keep cs (fun e => by have := h.t1; rw [e, h.tg] at this; cases this)
  · exact (h.kof.keep h2 (ne h.t2 (by simp))).keep cs (fun e => by have := h.t2; rw [e, h.tg] at this; cases this)
  · obtain ⟨q1, q2⟩ := h.isS r u hr hu
    exact ⟨(q1.keep h2 (fun k hk => ne (q2 k hk) (by simp))).keep cs (fun k hk e => by have := q2 k hk; rw [e, h.tg] at this; cases this), fun b hb => told (q2 b hb)⟩

/-- The first map with one more. -/
theorem KParts.setAt (h : KParts T w g (F ++ [f]) F F v m1 m2 Sl) (hn : F.length < 33554432) (hf : factShort f 9223372036854775807) (hno : f ∉ F) (hc : Chg (fun _ => False) w w1) :
    ∃ w', (Instr.mapUpdate 82 (.map (some m1)) (.agg #[.string ⟨f.1.1.toArray⟩, .string ⟨f.1.2.toArray⟩, .string ⟨f.2.toArray⟩]) (.int .i64 (F.length : Nat))).run Try.prog w1 = .ok () w' ∧ KParts T w' g (F ++ [f]) (F ++ [f]) F v m1 m2 Sl ∧ Chg (fun b => T b ≠ none) w w' ∧ Chg (fun b => T b ≠ none) w1 w' := by
  obtain ⟨w', h1, h2, h3, _⟩ := (h.kat.keep hc id).set (t := 82) (e := 3) Try.underlying82 (by omega) (a := f) hf (.int .i64 (F.length : Nat))
  rw [atF_snoc hno] at h2
  have ne : ∀ {i : Nat} {t : KTag}, T i = some t → t ≠ .at → i ≠ m1 := fun hi ht e => by rw [e, h.t1] at hi; cases hi; exact ht rfl
  have hh := h.keep hc (fun _ _ => id)
  refine ⟨w', h1, ⟨blk_keep hh.blk h3 (ne h.tg (by simp)), h.tg, h.t1, h.t2, hh.row.keep h3 (fun k hk => ne (h.trow k hk) (by simp)), h.trow, by rw [List.length_append]; exact h2, hh.kof.keep h3 (ne h.t2 (by simp)), h.noS, fun r u hr hu => ⟨(hh.isS r u hr hu).1.keep h3 (fun k hk => ne ((h.isS r u hr hu).2 k hk) (by simp)), (h.isS r u hr hu).2⟩⟩,
    hc.none9.trans (h3.mono (fun i _ hi => by rw [hi, h.t1]; simp)) (fun _ _ h => h), h3.mono (fun i _ hi => by rw [hi, h.t1]; simp)⟩
end
end Go.Proofs.Ytjaplnainlbldaa

/- Go's == and != at credentials. -/
namespace Go.Proofs.Ytjaplnainlbldaa
open Go.RowKit

theorem eqC_iff (a b : CredB) : eqC a b = decide (a.kind = b.kind ∧ a.head.1 = b.head.1 ∧ a.head.2 = b.head.2 ∧ a.who = b.who ∧ a.b.1 = b.b.1 ∧ a.b.2 = b.b.2 ∧ a.c.1 = b.c.1 ∧ a.c.2 = b.c.2 ∧ a.w2 = b.w2) := by
  obtain ⟨k, ⟨h1, h2⟩, who, ⟨b1, b2⟩, ⟨c1, c2⟩, w2⟩ := a
  obtain ⟨k', ⟨h1', h2'⟩, who', ⟨b1', b2'⟩, ⟨c1', c2'⟩, w2'⟩ := b
  rw [Bool.eq_iff_iff]
  simp [eqC, and_assoc]

theorem eqC_true {a b : CredB} : eqC a b = true ↔ a = b := by simp [eqC]

theorem run_eqgC (x y : Operand) (a b : CredB) (w : World) : Sem.run Try.prog (eqGuard BinOp.eql 36 x y (credV a) (credV b)) w = .ok () w := by
  unfold credV credBox
  go_simp

theorem run_eqlC (a b : CredB) (w : World) : Sem.run Try.prog (binOp BinOp.eql 36 (credV a) (credV b)) w = .ok (.bool (eqC a b)) w := by
  rw [eqC_iff]
  unfold credV credBox
  go_simp
  repeat' split
  all_goals simp_all

theorem run_neqgC (x y : Operand) (a b : CredB) (w : World) : Sem.run Try.prog (eqGuard BinOp.neq 36 x y (credV a) (credV b)) w = .ok () w := by
  unfold credV credBox
  go_simp

theorem run_neqC (a b : CredB) (w : World) : Sem.run Try.prog (binOp BinOp.neq 36 (credV a) (credV b)) w = .ok (.bool (!eqC a b)) w := by
  rw [eqC_iff]
  unfold credV credBox
  go_simp
  repeat' split
  all_goals simp_all
end Go.Proofs.Ytjaplnainlbldaa

/- clear over a slice of roles. -/
namespace Go.Proofs.Ytjaplnainlbldaa
open Go.RowKit

end Go.Proofs.Ytjaplnainlbldaa

/- slices.Compact at credentials, of a row of the call's own. -/
namespace Go.Proofs.Ytjaplnainlbldaa
open Go.RowKit Go.Lib Go.Sort

/-- 'clear(s)': the cells hold the zero value's; nothing else turns. -/
theorem run_clear_gen {P : Program} (w : World) (t e ty : TypeId) (z : Value) (zs : List Value) (s : Nat) (ht : P.underlying t = some (.slice e)) (hv : ∀ w, (zeroValue e).run P w = .ok z w) (b o n c : Nat) (hn : 0 < n)
    (hzs : (Builtin.zeroCells z.cells n).toList = zs) (hl : zs.length = n * s) (h1 : ∀ v ∈ zs, v.oneCell' = true)
    (hc : ∀ j, j < n * s → (w.cell? ⟨b, o + j, none⟩).isSome = true) (hf : ∀ j, j < n * s → w.frozen? ⟨b, o + j, none⟩ = false) :
    (Builtin.clear_ #[t] ty #[.slice (some ⟨b, o, none⟩) n c]).run P w = .ok (.tuple #[]) (w.setCells b o zs) := by
  have hst := run_storeCells_cells (P := P) b o zs 0 w (by rw [hl]; simpa using hc) (by rw [hl]; simpa using hf) h1
  simp only [Nat.add_zero] at hst
  obtain ⟨m, rfl⟩ : ∃ m, n = m + 1 := ⟨n - 1, by omega⟩
  simp [Builtin.clear_, run_underlying ht, hv, hzs, hst]

def credZero : List Value := [.int .i64 0, .string ⟨#[]⟩, .string ⟨#[]⟩, .string ⟨#[]⟩, .string ⟨#[]⟩, .string ⟨#[]⟩, .string ⟨#[]⟩, .string ⟨#[]⟩, .string ⟨#[]⟩]

theorem zero_cells (n : Nat) : ((Builtin.zeroCells credZero.toArray n).toList).length = n * 9 ∧ ∀ v ∈ (Builtin.zeroCells credZero.toArray n).toList, v.oneCell' = true := by
  constructor
  · simp [Builtin.zeroCells, credZero]
  · intro v hv
    simp only [Builtin.zeroCells, Array.toList_map, List.mem_map] at hv
    obtain ⟨i, _, rfl⟩ := hv
    have hall : ∀ j : Fin 9, (credZero.toArray[j.val]!).oneCell' = true := by decide
    exact hall ⟨i % 9, Nat.mod_lt _ (by decide)⟩

/-- The block g holds the credentials d from its first cell on. -/
structure HoldC (w : World) (g cap : Nat) (d : Array CredB) : Prop where
  blk : ∃ cur, w.heap[g]? = some (.cells cur 36 (0, 0)) ∧ cur.size = cap * 9
  at_ : ∀ j, j < d.size → ∀ i, i < 9 → w.cell? ⟨g, j * 9 + i, none⟩ = (credCells d[j]!)[i]?

theorem HoldC.cred {w : World} {g cap : Nat} {d : Array CredB} (h : HoldC w g cap d) {j : Nat} (hj : j < d.size) : CredAt w g (j * 9) d[j]! := cred_at_cells fun i hi => h.at_ j hj i hi

theorem HoldC.keep {S : Nat → Prop} {w w' : World} {g cap : Nat} {d : Array CredB} (h : HoldC w g cap d) (hc : Chg S w w') (hS : ¬ S g) : HoldC w' g cap d :=
  ⟨by obtain ⟨cur, h1, h2⟩ := h.blk; exact ⟨cur, blk_keep h1 hc hS, h2⟩, fun j hj i hi => by
    have hl : i < (credCells d[j]!).length := hi
    have := h.at_ j hj i hi
    rw [List.getElem?_eq_getElem hl] at this ⊢
    exact hc.cell this hS⟩

theorem HoldC.froz {w : World} {g cap : Nat} {d : Array CredB} (h : HoldC w g cap d) (i : Nat) : w.frozen? ⟨g, i, none⟩ = false := by
  obtain ⟨cur, h1, _⟩ := h.blk
  exact froz_blk h1 i

/-- Nine cells from o on, stored one by one. -/
def putCred (w : World) (g o : Nat) (c : CredB) : World :=
  ((((((((w.setCell ⟨g, o, none⟩ (.int .i64 c.kind)).setCell ⟨g, o + 1, none⟩ (.string ⟨c.head.1.toArray⟩)).setCell ⟨g, o + 2, none⟩ (.string ⟨c.head.2.toArray⟩)).setCell ⟨g, o + 3, none⟩ (.string ⟨c.who.toArray⟩)).setCell ⟨g, o + 4, none⟩ (.string ⟨c.b.1.toArray⟩)).setCell ⟨g, o + 5, none⟩ (.string ⟨c.b.2.toArray⟩)).setCell ⟨g, o + 6, none⟩ (.string ⟨c.c.1.toArray⟩)).setCell ⟨g, o + 7, none⟩ (.string ⟨c.c.2.toArray⟩)).setCell ⟨g, o + 8, none⟩ (.string ⟨c.w2.toArray⟩)

theorem putCred_eq (w : World) (g o : Nat) (c : CredB) : putCred w g o c = w.setCells g o (credCells c) := rfl

theorem blk_setCells {g : Nat} {ty : TypeId} {f : Nat × Nat} : ∀ (xs : List Value) (o : Nat) (w : World) (cur : Array Value), w.heap[g]? = some (.cells cur ty f) → ∃ cur2, (w.setCells g o xs).heap[g]? = some (.cells cur2 ty f) ∧ cur2.size = cur.size
  | [], o, w, cur, h => ⟨cur, h, rfl⟩
  | x :: r, o, w, cur, h => by
    obtain ⟨c2, h1, h2⟩ := blk_setCells r (o + 1) (w.setCell ⟨g, o, none⟩ x) _ (set_blk h o x)
    exact ⟨c2, h1, by rw [h2]; simp⟩

theorem chg_setCells {g : Nat} : ∀ (xs : List Value) (o : Nat) (w : World), Chg (· = g) w (w.setCells g o xs)
  | [], _, _ => Chg.refl _ _
  | x :: r, o, w => (setCell_chg w g o x).trans (chg_setCells r (o + 1) _) (fun _ _ h => h)

theorem HoldC.set {w : World} {g cap k : Nat} {d : Array CredB} {u : CredB} (h : HoldC w g cap d) (hk : k < d.size) (hcap : d.size ≤ cap) : HoldC (putCred w g (k * 9) u) g cap (d.setIfInBounds k u) := by
  rw [putCred_eq]
  obtain ⟨cur, h1, h2⟩ := h.blk
  refine ⟨by obtain ⟨c2, a, b⟩ := blk_setCells (credCells u) (k * 9) w cur h1; exact ⟨c2, a, by omega⟩, fun j hj i hi => ?_⟩
  have hj' : j < d.size := by simpa using hj
  by_cases e : j = k
  · subst e
    rw [getElem!_set_same d j u hj', List.getElem?_eq_getElem (by exact hi)]
    refine World.cell?_setCells_in g (credCells u) (j * 9) w (fun m hm => ?_) i hi
    have hm9 : m < 9 := hm
    rw [cell_blk h1, Array.getElem?_eq_getElem (by omega)]; rfl
  · rw [getElem!_set_other d k j u e, World.cell?_setCells_out g (credCells u) (k * 9) w _ (fun _ _ => ?_)]
    · exact h.at_ j hj' i hi
    · show j * 9 + i < k * 9 ∨ k * 9 + 9 ≤ j * 9 + i
      omega

theorem HoldC.aboves {g cap : Nat} {d : Array CredB} (xs : List Value) (o : Nat) (w : World) (h : HoldC w g cap d) (ho : d.size * 9 ≤ o) : HoldC (w.setCells g o xs) g cap d ∧ Chg (· = g) w (w.setCells g o xs) := by
  refine ⟨?_, chg_setCells xs o w⟩
  obtain ⟨cur, h1, h2⟩ := h.blk
  refine ⟨by obtain ⟨c2, a, b⟩ := blk_setCells xs o w cur h1; exact ⟨c2, a, by omega⟩, fun j hj i hi => ?_⟩
  rw [World.cell?_setCells_out g xs o w _ (fun _ _ => .inl (by show j * 9 + i < o; omega))]
  exact h.at_ j hj i hi

theorem HoldC.low {w : World} {g cap : Nat} {d : Array CredB} {c : List CredB} (h : HoldC w g cap d) (hk : c.length ≤ d.size) (hl : ∀ j, j < c.length → d[j]! = c[j]!) : HoldC w g cap c.toArray :=
  ⟨h.blk, fun j hj i hi => by
    have hj' : j < c.length := by simpa using hj
    have := hl j hj'
    rw [h.at_ j (by omega) i hi, this]; simp⟩

def compSpecs1 (g n cap k : Nat) (x y : CredB) : List Spec := [.eq (.slice (some ⟨g, 0, none⟩) n cap), .any, .any, .eq (.int .i64 k), .any, .any, .any, .any, .any, .any, .any, .any, .any, .any, .any, .any, .eq (.slice (some ⟨g, 0, none⟩) n cap), .eq (.int .i64 k), .eq (.pointer (some ⟨g, k * 9, none⟩)), .eq (credV x), .eq (.slice (some ⟨g, 0, none⟩) n cap), .eq (.int .i64 k), .eq (.int .i64 ((k - 1 : Nat) : Int)), .eq (.pointer (some ⟨g, (k - 1) * 9, none⟩)), .eq (credV y), .eq (.bool (eqC x y))]
def compSpecs2 (g n cap k m : Nat) (x y : CredB) : List Spec := [.any, .any, .any, .any, .eq (.slice (some ⟨g, k * 9, none⟩) n cap), .eq (.int .i64 m), .any, .any, .any, .any, .any, .any, .any, .any, .any, .any, .any, .any, .any, .any, .any, .any, .any, .any, .any, .any, .any, .any, .any, .any, .any, .any, .any, .any, .any, .eq (.slice (some ⟨g, k * 9, none⟩) n cap), .eq (.int .i64 m), .eq (.pointer (some ⟨g, k * 9 + m * 9, none⟩)), .eq (credV x), .eq (.slice (some ⟨g, k * 9, none⟩) n cap), .eq (.int .i64 m), .eq (.int .i64 ((m - 1 : Nat) : Int)), .eq (.pointer (some ⟨g, k * 9 + (m - 1) * 9, none⟩)), .eq (credV y), .eq (.bool (!eqC x y))]
end Go.Proofs.Ytjaplnainlbldaa

/- Functions that are values. -/
namespace Go.Proofs.Ytjaplnainlbldaa
open Go.RowKit

/-- A function with a body is entered. -/
theorem enters {K : Nat} {fn : Func} (hf : Try.prog.funcs[K]? = some fn) (hn : (fn.name == "runtime.NumGoroutine") = false) (hb : fn.body.isNone = false) (args : Array Value) (w : World) :
    (callFunc K args).run Try.prog w = .ok (.enter K args) w := by
  have h1 : fn.name ≠ "runtime.NumGoroutine" := by simpa using hn
  have h2 : fn.body ≠ none := by
    intro h
    rw [h] at hb
    simp at hb
  unfold callFunc
  simp [program, Sem.run, hf, h1, h2]

end Go.Proofs.Ytjaplnainlbldaa
