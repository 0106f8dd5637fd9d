/- Texts that the proof leans on, in one: ChCM, RoleProg, ShelfStr, RoleCmp, RoleOr, Grown. -/
import Derived.Test.YtjaplnainlbldaaSc20
import Derived.Test.YtjaplnainlbldaaSc5
import Derived.Test.YtjaplnainlbldaaSc3
import Derived.Shelf.Small.Strs
import Derived.Shelf.Strings.Search1
import Derived.Shelf.Strings.Search2
import Derived.Test.YtjaplnainlbldaaProg
import Derived.Test.YtjaplnainlbldaaSc4
import Derived.Sort.Grow
/- A credential more in a map of rows. -/
namespace Go.Proofs.Ytjaplnainlbldaa
open Go.RowKit Go.Maps Go.ChangeMaps Go.WideMaps

/-- T' has what T has, and blocks that are new since w. -/
structure ExtL (T T' : Nat → Option LTag) (w w' : World) : Prop where
  old : ∀ b, T b ≠ none → T' b = T b
  new : ∀ b, T' b ≠ none → T b ≠ none ∨ w.heap.size ≤ b
  lo : ∀ b, T' b ≠ none → b < w'.heap.size
theorem ExtL.refl {T : Nat → Option LTag} {w w' : World} (h : ∀ b, T b ≠ none → b < w.heap.size) (hs : w.heap.size ≤ w'.heap.size) : ExtL T T w w' := ⟨fun _ _ => rfl, fun _ h => .inl h, fun b hb => Nat.lt_of_lt_of_le (h b hb) hs⟩
theorem ExtL.trans {T T1 T2 : Nat → Option LTag} {w w1 w2 : World} (h : ExtL T T1 w w1) (k : ExtL T1 T2 w1 w2) (hs : w.heap.size ≤ w1.heap.size) : ExtL T T2 w w2 :=
  ⟨fun b hb => (k.old b (by rw [h.old b hb]; exact hb)).trans (h.old b hb), fun b hb => (k.new b hb).elim (fun e => h.new b e) (fun e => .inr (Nat.le_trans hs e)), k.lo⟩
theorem ExtL.down {T T' : Nat → Option LTag} {w0 w w' : World} (h : ExtL T T' w w') (hs : w0.heap.size ≤ w.heap.size) : ExtL T T' w0 w' := ⟨h.old, fun b hb => (h.new b hb).imp id (Nat.le_trans hs), h.lo⟩
theorem ExtL.up {T T' : Nat → Option LTag} {w w' w2 : World} (h : ExtL T T' w w') (hs : w'.heap.size ≤ w2.heap.size) : ExtL T T' w w2 := ⟨h.old, h.new, fun b hb => Nat.lt_of_lt_of_le (h.lo b hb) hs⟩
theorem ext_rowL {T : Nat → Option LTag} {w w' : World} (hlo : ∀ b, T b ≠ none → b < w.heap.size) (hs : w.heap.size ≤ w'.heap.size) {v v' : Value} {t : LTag} (hv : ∀ b, v.ownBlock = some b → T b = some t) (h : v'.ownBlock = v.ownBlock ∨ ∃ b, v'.ownBlock = some b ∧ w.heap.size ≤ b) (hlt : ∀ b, v'.ownBlock = some b → b < w'.heap.size) :
    ∃ T', ExtL T T' w w' ∧ (∀ b, v'.ownBlock = some b → T' b = some t) := by
  rcases h with h | ⟨b, hb, hle⟩
  · exact ⟨T, ExtL.refl hlo hs, fun b hb => hv b (by rw [← h]; exact hb)⟩
  · have hTb : T b = none := by
      cases e : T b with
      | none => rfl
      | some x => have := hlo b (by rw [e]; simp); omega
    refine ⟨fun i => if i = b then some t else T i, ⟨fun i hi => if_neg (fun e => by subst e; exact hi hTb), fun i hi => ?_, fun i hi => ?_⟩, fun i hi => ?_⟩
    · by_cases e : i = b
      · exact .inr (by omega)
      · simp only [if_neg e] at hi; exact .inl hi
    · by_cases e : i = b
      · subst e; exact hlt i hb
      · simp only [if_neg e] at hi; exact Nat.lt_of_lt_of_le (hlo i hi) hs
    · rw [hb] at hi
      cases hi
      simp

def addL {α : Type} [DecidableEq α] (L : α → List CredB) (a : α) (c : CredB) : α → List CredB := fun x => if x = a then L a ++ [c] else L x

/-- The blocks of a map and its rows. -/
def OfMap {α : Type} (T : Nat → Option LTag) (tm : LTag) (t : α → LTag) (b : Nat) : Prop := T b = some tm ∨ ∃ a, T b = some (t a)

theorem OwnC.blt {B : Nat} {w : World} {v : Value} {ls : List CredB} (h : OwnC B w v ls) {k : Nat} (hk : v.ownBlock = some k) : B ≤ k ∧ k < w.heap.size := by
  rcases h.2 with ⟨hx', _⟩ | ⟨g, cap', cur, hx', hg, hh, _⟩
  · rw [hx'] at hk; cases hk
  · have hk2 : g = k := by rw [hx'] at hk; simpa [Value.ownBlock] using hk
    subst hk2
    exact ⟨hg, lt_blk hh⟩

/-- An append of one credential. -/
theorem run_append_cred {B : Nat} {w : World} {v : Value} {ls : List CredB} {c : CredB} (ty : TypeId) (hown : OwnC B w v ls) {b : Nat} (hb : w.heap[b]? = some (.cells (credBox c) 36 (0, 0))) (hlen : ls.length ≤ 33554432) (hB : B ≤ w.heap.size) :
    ∃ v' w', (Builtin.append_ #[22, 22] ty #[v, .slice (some ⟨b, 0, none⟩) 1 1]).run Try.prog w = .ok v' w' ∧ OwnC B w' v' (ls ++ [c]) ∧ Chg (fun i => v.ownBlock = some i) w w' ∧ (v'.ownBlock = v.ownBlock ∨ v'.ownBlock = some w.heap.size) := by
  obtain ⟨i0, hi, hz0, hz1, hz2⟩ := info_parts Try.info36
  obtain ⟨v', w', hr, h2, h3, h4, h5⟩ := run_append_own_at (P := Try.prog) w B 22 ty 36 i0 (.agg #[.int .i64 0, .string ⟨#[]⟩, .string ⟨#[]⟩, .string ⟨#[]⟩, .string ⟨#[]⟩, .string ⟨#[]⟩, .string ⟨#[]⟩, .string ⟨#[]⟩, .string ⟨#[]⟩]) 9 136 Try.underlying22 hi hz0 hz1 hz2 rfl (by decide) v ls.length (credRow ls) hown ⟨b, 0, none⟩ 1 1 (credCells c) rfl
    (fun j u hj => by rw [add_off, Nat.zero_add, cell_blk hb j]; have : credBox c = (credCells c).toArray := rfl; rw [this, List.getElem?_toArray]; exact hj) (cred_one8 c) (by unfold maxLen; omega) (by omega) hB
  refine ⟨v', w', hr, ?_, (Chg.refl _ _).grown h3 (fun k hk _ => hk), h5⟩
  unfold OwnC
  rw [credRow_snoc, List.length_append]
  exact h2

/-- The row has grown. -/
def EntC2 (w : World) (m : Nat) (o1 : Obj) (u : Value) (ps : List CredB) (v' : Value) (w' : World) : Prop :=
  OwnC 0 w' v' ps ∧ w'.heap[m]? = some o1 ∧ Chg (fun i => i = m ∨ u.ownBlock = some i) w w' ∧ (v'.ownBlock = u.ownBlock ∨ ∃ b, v'.ownBlock = some b ∧ w.heap.size ≤ b)
def EntC3 {α : Type} (k : KT α) (T : Nat → Option LTag) (tm : LTag) (t : α → LTag) (w : World) (m n : Nat) (L : α → List CredB) (w' : World) : Prop := ∃ T', CM k T' t w' m n L ∧ ExtL T T' w w' ∧ Chg (OfMap T tm t) w w'
theorem EntC2.quiet {w : World} {m : Nat} {o1 : Obj} {u x : Value} {ps : List CredB} {w' w2 : World} (h : EntC2 w m o1 u ps x w') (hc : Chg (fun _ => False) w' w2) : EntC2 w m o1 u ps x w2 := ⟨h.1.keep hc (fun _ _ => id), blk_keep h.2.1 hc id, h.2.2.1.trans hc (fun _ _ h => h.elim), h.2.2.2⟩
theorem EntC3.quiet {α : Type} {k : KT α} {T : Nat → Option LTag} {tm : LTag} {t : α → LTag} {w : World} {m n : Nat} {L : α → List CredB} {w' w2 : World} (h : EntC3 k T tm t w m n L w') (hc : Chg (fun _ => False) w' w2) : EntC3 k T tm t w m n L w2 := by
  obtain ⟨T', h1, h2, h3⟩ := h
  exact ⟨T', h1.keep id hc (fun _ _ _ => id), h2.up hc.size, h3.trans hc (fun _ _ h => h.elim)⟩

section
variable {α : Type} [DecidableEq α] {k : KT α} {T : Nat → Option LTag} {tm : LTag} {t : α → LTag} {w : World} {m n : Nat} {L : α → List CredB}

/-- What is stored last. -/
theorem CM.stored (_ : CM k T t w m n L) (hm : T m = some tm) (htm : ∀ a, tm ≠ t a) (hinj : ∀ a b, t a = t b → a = b) (hlo : ∀ b, T b ≠ none → b < w.heap.size) {E : α → Option Value} (hn : ∀ a, k.ok a → E a = none → L a = []) (hi : ∀ a u, k.ok a → E a = some u → OwnC 0 w u (L a) ∧ ∀ b, u.ownBlock = some b → T b = some (t a))
    {a : α} {u v' : Value} {c : CredB} (hu : ∀ b, u.ownBlock = some b → T b = some (t a)) {w' w1 : World} (g1 : OwnC 0 w' v' (L a ++ [c])) (g3 : Chg (fun i => i = m ∨ u.ownBlock = some i) w w') (g4 : v'.ownBlock = u.ownBlock ∨ ∃ b, v'.ownBlock = some b ∧ w.heap.size ≤ b)
    (h2 : Chg (· = m) w' w1) (h3 : KV k w1 m (n + 1) (putF E a v')) : EntC3 k T tm t w m (n + 1) (addL L a c) w1 := by
  obtain ⟨T', t1, t2⟩ := ext_rowL (t := t a) hlo (w' := w') g3.size hu g4 (fun b hb => (g1.blt hb).2)
  have told : ∀ {i : Nat} {z : LTag}, T i = some z → T' i = some z := fun hi => by rw [t1.old _ (by rw [hi]; simp), hi]
  have hv2 : ∀ b, v'.ownBlock = some b → b ≠ m := fun b hb e => by
    have h1 := t2 b hb
    rw [e, told hm] at h1
    exact htm a (Option.some.inj h1)
  refine ⟨T', ⟨putF E a v', h3, fun x hx hs => ?_, fun x y hx hs => ?_⟩, t1.up h2.size, ?_⟩
  · unfold putF at hs
    unfold addL
    by_cases e : x = a
    · rw [if_pos e] at hs; cases hs
    · rw [if_neg e] at hs ⊢
      exact hn x hx hs
  · unfold putF at hs
    unfold addL
    by_cases e : x = a
    · subst e
      rw [if_pos rfl] at hs
      cases hs
      rw [if_pos rfl]
      exact ⟨g1.keep h2 (fun b hb e => hv2 b hb e), t2⟩
    · rw [if_neg e] at hs ⊢
      obtain ⟨q1, q2⟩ := hi x y hx hs
      refine ⟨(q1.keep g3 (fun b hb h => ?_)).keep h2 (fun b hb h => ?_), fun b hb => told (q2 b hb)⟩
      · rcases h with h | h
        · have := q2 b hb; rw [h, hm] at this; exact htm x (Option.some.inj this)
        · have := q2 b hb; rw [hu b h] at this; exact e (hinj _ _ (Option.some.inj this)).symm
      · have := q2 b hb; rw [h, hm] at this; exact htm x (Option.some.inj this)
  · refine (g3.mono (fun i _ h => ?_)).trans (h2.mono (fun i _ h => ?_)) (fun _ _ h => h)
    · rcases h with h | h
      · exact .inl (h ▸ hm)
      · exact .inr ⟨a, hu i h⟩
    · exact .inl (h ▸ hm)

theorem CM.entry (h : CM k T t w m n L) (hm : T m = some tm) (htm : ∀ a, tm ≠ t a) (hinj : ∀ a b, t a = t b → a = b) (hlo : ∀ b, T b ≠ none → b < w.heap.size) (K : KeyLaw Try.prog k.ty) {mt : TypeId} (ht : Try.prog.underlying mt = some (.map k.ty 22)) (hn : n < 33554432) {a : α} (ha : k.ok a) (hlen : (L a).length ≤ 33554432) (c : CredB) :
    ∃ (u : Value) (st : Nat) (o1 : Obj), OwnC 0 w u (L a) ∧ (∀ b, u.ownBlock = some b → T b = some (t a)) ∧
      (∀ w', Chg (fun _ => False) w w' → ∃ w1, (Instr.mapEntry mt (.map (some m)) (k.val a)).run Try.prog w' = .ok (.tuple #[u, goInt st]) w1 ∧ EntF1 w m o1 w1 ∧ Chg (OfMap T tm t) w' w1) ∧
      (∀ w' b (ty : TypeId), EntF1 w m o1 w' → w'.heap[b]? = some (.cells (credBox c) 36 (0, 0)) → ∃ v' w1, (Builtin.append_ #[22, 22] ty #[u, .slice (some ⟨b, 0, none⟩) 1 1]).run Try.prog w' = .ok v' w1 ∧ EntC2 w m o1 u (L a ++ [c]) v' w1 ∧ Chg (OfMap T tm t) w' w1) ∧
      (∀ w' v', EntC2 w m o1 u (L a ++ [c]) v' w' → ∃ w1, (Instr.entryStore mt (.map (some m)) (goInt st) v').run Try.prog w' = .ok () w1 ∧ EntC3 k T tm t w m (n + 1) (addL L a c) w1 ∧ Chg (OfMap T tm t) w' w1) := by
  have hh := h
  obtain ⟨E, hk, hno, his⟩ := h
  obtain ⟨st, o1, hE⟩ := hk.entry2 (t := mt) (e := 22) (a := a) K ht (z := .slice none 0 0) mZeroCr (by omega) ha
  obtain ⟨u, hu⟩ : ∃ u, u = (E a).getD (.slice none 0 0) := ⟨_, rfl⟩
  have hU : OwnC 0 w u (L a) ∧ ∀ b, u.ownBlock = some b → T b = some (t a) := by
    cases hs : E a with
    | none =>
      rw [hu, hs, hno a ha hs]
      exact ⟨World.ownsRow_nil _ _ _ _, fun b hb => (by cases hb)⟩
    | some x =>
      rw [hu, hs]
      exact his a x ha hs
  have hnm : ∀ b, u.ownBlock = some b → b ≠ m := fun b hb e => by
    have := hU.2 b hb
    rw [e, hm] at this
    exact htm a (Option.some.inj this)
  refine ⟨u, st, o1, hU.1, hU.2, fun w' hc => ?_, fun w' b ty hw' hb => ?_, fun w' v' hw' => ?_⟩
  · obtain ⟨w1, h1, h2, h3⟩ := (hE w' (hc.block m hk.lt id)).1
    refine ⟨w1, by rw [hu]; exact h1, ⟨hc.none9.trans h2 (fun _ _ h => h), h3⟩, h2.mono (fun i _ hi => .inl (hi ▸ hm))⟩
  · have hu2 : OwnC 0 w' u (L a) := hU.1.keep hw'.1 (fun b hb e => hnm b hb e)
    obtain ⟨v', w1, h1, h2, h3, h4⟩ := run_append_cred ty hu2 hb hlen (Nat.zero_le _)
    refine ⟨v', w1, h1, ⟨h2, blk_keep hw'.2 h3 (fun e => hnm _ e rfl), ?_, h4.imp id (fun e => ⟨_, e, hw'.1.size⟩)⟩, h3.mono (fun i _ hi => .inr ⟨a, hU.2 i hi⟩)⟩
    exact (hw'.1.mono (fun i _ hi => .inl hi)).trans h3 (fun i _ hi => .inr hi)
  · obtain ⟨g1, g2, g3, g4⟩ := hw'
    obtain ⟨w1, h1, h2, h3⟩ := (hE w rfl).2 w' v' g2
    exact ⟨w1, h1, hh.stored hm htm hinj hlo hno his hU.2 g1 g3 g4 h2 h3, h2.mono (fun i _ hi => .inl (hi ▸ hm))⟩

/-- The row has grown, its map is as it was. -/
def RowC1 (w : World) (u : Value) (ps : List CredB) (v' : Value) (w' : World) : Prop :=
  OwnC 0 w' v' ps ∧ Chg (fun i => u.ownBlock = some i) w w' ∧ (v'.ownBlock = u.ownBlock ∨ ∃ b, v'.ownBlock = some b ∧ w.heap.size ≤ b)
theorem RowC1.quiet {u x : Value} {ps : List CredB} {w' w2 : World} (h : RowC1 w u ps x w') (hc : Chg (fun _ => False) w' w2) : RowC1 w u ps x w2 := ⟨h.1.keep hc (fun _ _ => id), h.2.1.trans hc (fun _ _ h => h.elim), h.2.2⟩

theorem CM.update (h : CM k T t w m n L) (hm : T m = some tm) (htm : ∀ a, tm ≠ t a) (hinj : ∀ a b, t a = t b → a = b) (hlo : ∀ b, T b ≠ none → b < w.heap.size) {mt : TypeId} (ht : Try.prog.underlying mt = some (.map k.ty 22)) (hn : n < 33554432) {a : α} (ha : k.ok a) (hlen : (L a).length ≤ 33554432) (c : CredB) :
    ∃ (u : Value), OwnC 0 w u (L a) ∧ (∀ b, u.ownBlock = some b → T b = some (t a)) ∧
      (∀ w', Chg (fun i => u.ownBlock = some i) w w' → (Instr.lookup mt (.map (some m)) (k.val a) false).run Try.prog w' = .ok u w') ∧
      (∀ w' b (ty : TypeId), Chg (fun _ => False) w w' → w'.heap[b]? = some (.cells (credBox c) 36 (0, 0)) → ∃ v' w1, (Builtin.append_ #[22, 22] ty #[u, .slice (some ⟨b, 0, none⟩) 1 1]).run Try.prog w' = .ok v' w1 ∧ RowC1 w u (L a ++ [c]) v' w1 ∧ Chg (OfMap T tm t) w' w1) ∧
      (∀ w' v', RowC1 w u (L a ++ [c]) v' w' → ∃ w1, (Instr.mapUpdate mt (.map (some m)) (k.val a) v').run Try.prog w' = .ok () w1 ∧ EntC3 k T tm t w m (n + 1) (addL L a c) w1 ∧ Chg (OfMap T tm t) w' w1) := by
  have hh := h
  obtain ⟨E, hk, hno, his⟩ := h
  obtain ⟨u, hu⟩ : ∃ u, u = (E a).getD (.slice none 0 0) := ⟨_, rfl⟩
  have hU : OwnC 0 w u (L a) ∧ ∀ b, u.ownBlock = some b → T b = some (t a) := by
    cases hs : E a with
    | none =>
      rw [hu, hs, hno a ha hs]
      exact ⟨World.ownsRow_nil _ _ _ _, fun b hb => (by cases hb)⟩
    | some x =>
      rw [hu, hs]
      exact his a x ha hs
  have hnm : ∀ b, u.ownBlock = some b → b ≠ m := fun b hb e => by
    have := hU.2 b hb
    rw [e, hm] at this
    exact htm a (Option.some.inj this)
  refine ⟨u, hU.1, hU.2, fun w' hc => (congrArg (fun x => (Instr.lookup mt (.map (some m)) (k.val a) false).run Try.prog w' = .ok x w') hu).mpr ((hk.keep hc (fun e => hnm _ e rfl)).look ht (mZeroCr w') ha), fun w' b ty hc hb => ?_, fun w' v' hw' => ?_⟩
  · obtain ⟨v', w1, h1, h2, h3, h4⟩ := run_append_cred ty (hU.1.keep hc (fun _ _ => id)) hb hlen (Nat.zero_le _)
    exact ⟨v', w1, h1, ⟨h2, hc.none9.trans h3 (fun _ _ h => h), h4.imp id (fun e => ⟨_, e, hc.size⟩)⟩, h3.mono (fun i _ hi => .inr ⟨a, hU.2 i hi⟩)⟩
  · obtain ⟨g1, g3, g4⟩ := hw'
    obtain ⟨w1, h1, h3, h2, _⟩ := (hk.keep g3 (fun e => hnm _ e rfl)).set (t := mt) (e := 22) ht (by omega) ha v'
    exact ⟨w1, h1, hh.stored hm htm hinj hlo hno his hU.2 g1 (g3.mono (fun i _ h => .inr h)) g4 h2 h3, h2.mono (fun i _ hi => .inl (hi ▸ hm))⟩
end
end Go.Proofs.Ytjaplnainlbldaa

/- The contracts of the program's Right, Text, Put, Get of layer 4. -/
namespace Go.Proofs.Ytjaplnainlbldaa
open Go.RowKit

theorem role_len {r : RoleB} (h : isRole r = true) : r.1.length ≤ 16 ∧ r.2.length ≤ 16 := by
  simp only [isRole, Bool.and_eq_true] at h
  exact ⟨(isName_len h.1).2, (isName_len h.2).2⟩

theorem pright (r : RoleB) (w : World) (h1 : r.1.length ≤ 9223372036854775807) (h2 : r.2.length ≤ 9223372036854775807) :
    Calls Try.prog 117 #[roleV r] w fun e w' => e = .returned (.bool (isRole r)) ∧ Chg (fun _ => False) w w' := by
  obtain ⟨o, x⟩ := r
  have hc : Chg (fun _ => False) w (w.alloc (.cells #[.string ⟨o.toArray⟩, .string ⟨x.toArray⟩] 24)) := (Chg.refl _ w).alloc _
  have HC := hid hc
  clear hc
  show Calls Try.prog 117 #[.agg #[.string ⟨o.toArray⟩, .string ⟨x.toArray⟩]] w _
  cases ho : isName o with
  | false =>
    have hh : Hid (isRole (o, x) = false) := hid (by simp [isRole, ho])
    go_enter Try.func117, Try.ntmps117
    go_wp2_with fail
    refine (right_any o _ h1).mono ?_
    rintro e w' ⟨rfl, rfl⟩
    rw [ho]
    go_wp2
    go_ret
    exact ⟨by rw [hh.out]; rfl, HC.out⟩
  | true =>
    have hh : Hid (isRole (o, x) = isName x) := hid (by simp [isRole, ho])
    go_enter Try.func117, Try.ntmps117
    go_wp2_with fail
    refine (right_any o _ h1).mono ?_
    rintro e w' ⟨rfl, rfl⟩
    rw [ho]
    go_wp2_with fail
    refine (right_any x _ h2).mono ?_
    rintro e w' ⟨rfl, rfl⟩
    go_wp2
    go_ret
    exact ⟨by rw [hh.out]; rfl, HC.out⟩

set_option maxRecDepth 100000 in
theorem pput_yes (B P cap : Nat) (ao : Option Addr) (zs : List UInt8) (r : RoleB) (w : World) (hp : PenAt B w P ao cap zs) (hB : B ≤ w.heap.size) (hPB : P < B) (hx : zs.length ≤ 999000) (hn : isRole r = true) :
    Calls Try.prog 95 #[.pointer (some ⟨P, 0, none⟩), roleV r] w fun e w' => e = .returned (.bool true) ∧ PenPost B P ao (zs ++ roleEnc r) w w' := by
  obtain ⟨o, x⟩ := r
  have hl := role_len hn
  have hn2 : isName o = true ∧ isName x = true := by simpa [isRole] using hn
  dsimp only at hl
  have hc : Chg (fun _ => False) w (w.alloc (.cells #[.string ⟨o.toArray⟩, .string ⟨x.toArray⟩] 24)) := (Chg.refl _ w).alloc _
  have hA := heap_alloc_new w (.cells #[.string ⟨o.toArray⟩, .string ⟨x.toArray⟩] 24)
  have hPl := lt_blk hp.cell
  have hrow0 : ∀ k, rowOf ao = some k → B ≤ k ∧ k < w.heap.size := fun k hk => hp.row.lt k ((rowOf_block _ _ _).trans hk)
  have hp1 := hp.keep hc id (fun _ _ => id)
  show Calls Try.prog 95 #[.pointer (some ⟨P, 0, none⟩), .agg #[.string ⟨o.toArray⟩, .string ⟨x.toArray⟩]] w _
  go_enter Try.func95, Try.ntmps95
  go_wp2_with fail
  refine (pright (o, x) _ (by show o.length ≤ _; omega) (by show x.length ≤ _; omega)).mono ?_
  rintro e w1 ⟨rfl, hc1⟩
  rw [hn]
  have hA1 := blk_keep hA hc1 id
  have hp2 := hp1.keep hc1 id (fun _ _ => id)
  have hcw := hc.trans hc1 (fun _ _ h => h)
  have a0 := cell_blk hA1 0
  simp only [List.getElem?_toArray, List.getElem?_cons_zero] at a0
  clear hc hc1 hA hp1
  have hs1 := hcw.size
  go_wp2_with fail
  refine (put_yes B P cap ao zs o w1 hp2 (by omega) hPB (by omega) hn2.1).mono ?_
  rintro e w2 ⟨rfl, ao2, cap2, hp3, hch⟩
  have hA2 := blk_keep hA1 hch.chg (fun h => h.elim (fun h => by omega) (fun h => by have := (hrow0 _ h).2; omega))
  have hs2 := hch.chg.size
  have a1 := cell_blk hA2 1
  simp only [List.getElem?_toArray, List.getElem?_cons_zero, List.getElem?_cons_succ] at a1
  have hel : (enc o.length ++ o).length ≤ 32 := by rw [enc_small (by omega)]; simp; omega
  clear a0 hA1 hp2 hA2
  go_wp2_with fail
  refine (put_yes B P cap2 ao2 (zs ++ (enc o.length ++ o)) x w2 hp3 (by omega) hPB (by rw [List.length_append]; omega) hn2.2).mono ?_
  rintro e w3 ⟨rfl, ao3, cap3, hp4, hch2⟩
  have HH := hid (And.intro hp4 (And.intro hch2 (And.intro hch hcw)))
  clear hp3 hp4 hch hch2 hcw a1
  go_wp2
  go_ret
  obtain ⟨h4, h5, h6, h7⟩ := HH.out
  refine ⟨rfl, ao3, cap3, by rw [List.append_assoc] at h4; exact h4, ?_⟩
  have h8 := h6.trans h5
  refine ⟨(h7.mono (fun _ _ h => h.elim)).trans h8.chg (fun i _ h => h), ?_⟩
  rcases h8.row with h | ⟨g, k1, k2⟩
  · exact .inl h
  · have := h7.size
    exact .inr ⟨g, k1, by omega⟩
end Go.Proofs.Ytjaplnainlbldaa

/-
  DERIVED: THE SHELF's CONTRACTS AT THIS DUMP, IN PLAIN WORDS (tools/lay-plain.mjs out of 'TryShelfStr.lean', which tools/lay-shelf.mjs wrote): THE SAME DECLARATIONS UNDER THE SAME NAMES: 'import', 'namespace', 'open', 'def', 'theorem' AND NOTHING ELSE: no command of the shelf's: FOR A HAND-IN. Each laying: the table of numbers ('.._ren') and one theorem, a field a fact of the dump's own or the kernel's comparison; each contract: ONE APPLICATION.
-/
namespace Go.Proofs
open Go.Shelf
def Try.lays106_ren : Go.Shelf.Ren := ⟨fun | 106 => 141 | 213 => 159 | 265 => 164 | n => n, fun | 9 => 9 | 3 => 3 | n => n, fun | n => n⟩
theorem Try.lays106 : Go.Proofs.Lays.n106 Try.prog Try.lays106_ren := {
  mixed := by kernel_rfl
  f106 := Try.func141.trans (congrArg some (by kernel_rfl))
  f213 := Try.func159.trans (congrArg some (by kernel_rfl))
  f265 := Try.func164.trans (congrArg some (by kernel_rfl))
  t3 := Try.underlying3
  a3 := Try.isAgg3
  z3 := Try.sizeOf3
  v3 := Try.zeroValue3
  t9 := Try.underlying9
  a9 := Try.isAgg9
  z9 := Try.sizeOf9
  v9 := Try.zeroValue9 }
open Go.RowKit in
/-- strings.Compare: "Compare returns an integer comparing two strings lexicographically. The result will be 0 if a == b, -1 if a < b, and +1 if a > b.": IT RETURNS 'Lib.compareBytes a b'; the world is as it was. (LAID: no walk: one application.) -/
theorem Try.strings_Compare (a b : ByteArray) (w : World) :
    Calls Try.prog 141 #[.string a, .string b] w fun e w' => e = .returned (.int .i64 (Lib.compareBytes a.data.toList b.data.toList)) ∧ w' = w := Any.strings_Compare Try.lays106 a b w
end Go.Proofs

/- The order of two roles, as a program tells it by strings.Compare. -/
namespace Go.Proofs.Ytjaplnainlbldaa
open Go.RowKit

theorem cmpB_eq : ∀ (a b : List UInt8), Lib.compareBytes a b = if ltS a b then -1 else if ltS b a then 1 else 0
  | [], [] => rfl
  | [], _ :: _ => rfl
  | _ :: _, [] => by simp [Lib.compareBytes, ltS_nil, ltS_nil_cons]
  | x :: a, y :: b => by
    rw [Lib.compareBytes, ltS_cons, ltS_cons, cmpB_eq a b]
    by_cases h1 : x < y
    · simp [h1]
    · by_cases h2 : y < x
      · have hne : x ≠ y := fun e => by subst e; exact h1 h2
        simp [h1, h2, hne]
      · have e : x = y := by
          have h1' : ¬ x.toNat < y.toNat := h1
          have h2' : ¬ y.toNat < x.toNat := h2
          exact UInt8.toNat_inj.1 (by omega)
        subst e
        simp [h1]

theorem cmpB_zero (a b : List UInt8) : Lib.compareBytes a b = 0 ↔ a = b := by
  rw [cmpB_eq]
  constructor
  · intro h
    rcases ltS_tri a b with k | k | k
    · rw [if_pos k] at h; cases h
    · exact k
    · by_cases hb : ltS a b = true
      · rw [if_pos hb] at h; cases h
      · rw [if_neg hb, if_pos k] at h; cases h
  · rintro rfl
    rw [ltS_irrefl]
    rfl

theorem cmpR_eq (a b : RoleB) : cmpR a b = if Lib.compareBytes a.1 b.1 = 0 then Lib.compareBytes a.2 b.2 else Lib.compareBytes a.1 b.1 := by
  obtain ⟨o, x⟩ := a
  obtain ⟨p, y⟩ := b
  rw [cmpR, ltR_def, ltR_def]
  dsimp only
  by_cases h : o = p
  · subst h
    rw [if_pos ((cmpB_zero o o).2 rfl), cmpB_eq x y, ltS_irrefl]
    simp
  · have h2 : p ≠ o := fun e => h e.symm
    rw [if_neg (fun e => h ((cmpB_zero o p).1 e)), cmpB_eq o p]
    simp [h, h2]

end Go.Proofs.Ytjaplnainlbldaa

/- cmp.Or at two ints: the first that isn't zero, else zero. -/
namespace Go.Proofs.Ytjaplnainlbldaa
open Go.RowKit

/-- A slice of two ints. -/
def Spec.two (x y : Int) : Spec :=
  ⟨fun v w => ∃ g ty f, v = .slice (some ⟨g, 0, none⟩) 2 2 ∧ w.heap[g]? = some (.cells #[.int .i64 x, .int .i64 y] ty f), fun _ _ _ hc ⟨g, ty, f, h1, h2⟩ => ⟨g, ty, f, h1, blk_keep h2 hc id⟩⟩

set_option maxRecDepth 100000 in
theorem por_two (g : Nat) (f : Nat × Nat) (ty : Nat) (x y : Int) (w : World) (h : w.heap[g]? = some (.cells #[.int .i64 x, .int .i64 y] ty f)) :
    Calls Try.prog 140 #[.slice (some ⟨g, 0, none⟩) 2 2] w fun e w' => e = .returned (.int .i64 (if x = 0 then y else x)) ∧ w' = w := by
  have c0 := cell_blk h 0
  have c1 := cell_blk h 1
  simp only [List.getElem?_toArray, List.getElem?_cons_zero, List.getElem?_cons_succ] at c0 c1
  clear h
  by_cases hx : x = 0
  · subst hx
    rw [if_pos rfl]
    by_cases hy : y = 0
    · subst hy
      go_enter Try.func140, Try.ntmps140
      go_wp2
      refine wp_loop_rounds 3 ?_
      rw [rounds_succ]
      go_wp2
      rw [rounds_succ]
      go_wp2
      rw [rounds_succ]
      go_wp2
      go_ret
      exact ⟨rfl, rfl⟩
    · have z : (y == 0) = false := beq_eq_false_iff_ne.2 hy
      clear hy
      go_enter Try.func140, Try.ntmps140
      go_wp2
      refine wp_loop_rounds 2 ?_
      rw [rounds_succ]
      go_wp2
      rw [rounds_succ]
      go_wp2
      go_ret
      exact ⟨rfl, rfl⟩
  · rw [if_neg hx]
    have z : (x == 0) = false := beq_eq_false_iff_ne.2 hx
    clear hx
    go_enter Try.func140, Try.ntmps140
    go_wp2
    refine wp_loop_rounds 1 ?_
    rw [rounds_succ]
    go_wp2
    go_ret
    exact ⟨rfl, rfl⟩
end Go.Proofs.Ytjaplnainlbldaa

/- Worlds that have grown by draws and new blocks alone; a region that draws its order and grows so. -/
namespace Go.Proofs.Ytjaplnainlbldaa
open Go.RowKit Go.Sort

/-- Draws, and blocks behind the heap: nothing else. -/
def Gr (w w' : World) : Prop := ∃ (q : Nat) (os : Array Obj), w' = grow (w.drewN q) os

theorem Gr.refl (w : World) : Gr w w := ⟨0, #[], by rw [grow_empty]; rfl⟩

theorem Gr.trans {a b c : World} (h : Gr a b) (k : Gr b c) : Gr a c := by
  obtain ⟨n, os, rfl⟩ := h
  obtain ⟨q, os', rfl⟩ := k
  exact ⟨n + q, os ++ os', by show grow (grow ((a.drewN n).drewN q) os) os' = _; rw [grow_grow, World.drewN_drewN]⟩

theorem Gr.alloc {a b : World} (h : Gr a b) (o : Obj) : Gr a (b.alloc o) :=
  h.trans ⟨0, #[o], by rw [alloc_eq_grow]; rfl⟩

theorem Gr.drew {a b : World} (h : Gr a b) : Gr a b.drew := h.trans ⟨1, #[], by rw [grow_empty]; rfl⟩

theorem Gr.chg {a b : World} (h : Gr a b) (S : Nat → Prop) : Chg S a b := by
  obtain ⟨n, os, rfl⟩ := h
  refine ⟨rfl, rfl, rfl, ?_, fun k hk _ => ?_⟩
  · rw [size_grow]; exact Nat.le_add_right _ _
  · exact heap_grow_old _ _ hk

/-- wp_region_specs, for a region whose calls and operations only grow the world. -/
theorem wp_region_grown {P : Program} {Q : Exit → Act → World → Prop} {w0 : World} {a0 : Act} {id : Nat} {l : List Oper} (specs : List Spec) (ds outs : List Tmp) (hm : P.follows .mixedOrders = true) (hok : regOk l.toArray ds = true)
    (hsize : (ds.all fun t => decide (t < a0.tmps.size)) = true) (houts : ((outsOf l.toArray ds).all fun t => outs.contains t) = true)
    (hstart : ∀ t ∈ outs, Knows (specAt specs) a0 w0 t)
    (hobs : Obs P Q Gr (specAt specs) w0 l.toArray l)
    (hfin : ∀ (vals : Tmp → Value) (w : World), Gr w0 w → (∀ t ∈ ds, specAt specs t (vals t) w) → Q .normal ⟨putAll vals ds a0.tmps, a0.defers⟩ w) :
    (Code.region id l.toArray true).wp P Q a0 w0 :=
  wp_region_known (R := Gr) (G := specAt specs) (ds := ds) hm hok (fun _ _ _ h k => h.trans k) (Gr.refl _).drew (fun t v w w' hc h => specAt_st specs t v w w' (hc.chg _) h) hsize _ rfl
    (fun w hc t ht => by
      have h1 := List.all_eq_true.1 houts t ht
      obtain ⟨v, hv, hg⟩ := hstart t (by simpa using h1)
      exact ⟨v, hv, specAt_st specs t v w0 w (hc.chg _) hg⟩)
    hobs hfin
end Go.Proofs.Ytjaplnainlbldaa
