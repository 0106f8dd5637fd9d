/- Texts that the proof leans on, in one: PmMap, OpenB, PmKeys, FactMap, KindW. -/
import Derived.Test.YtjaplnainlbldaaUc5
import Derived.Test.YtjaplnainlbldaaUc7
import Derived.Maps.OwnSet
import Derived.Maps.RangeWalk
import Derived.WalkSpells
import Derived.Test.YtjaplnainlbldaaRows
import Derived.Test.YtjaplnainlbldaaUc2
import Derived.ProofKit
import Derived.OpenShut
import Derived.ShutString
import Derived.ChangeOld
import Derived.Deep.Slices
import Derived.Deep.Fields
import Derived.ChangeSame
import Derived.DeepKeys4
import Derived.Test.YtjaplnainlbldaaUc8
/- Maps and sets of the model, as they lie in memory: whatever the kind of their keys. -/
namespace Go.Proofs.Ytjaplnainlbldaa
open Go.RowKit Go.Maps Go.ChangeMaps Go.WideMaps

/-- A kind of keys. -/
structure KT (α : Type) where
  ty : TypeId
  val : α → Value
  lit : α → Lit
  ok : α → Prop
  keyed : Keyed Try.prog ty
  isKey : ∀ a, WideAt.IsKeyLit (lit a)
  reads : ∀ a, ok a → Go.keyOf Try.prog ty (val a) = some (lit a)
  inj : ∀ a b, val a = val b → a = b

variable {α : Type} {β : Type}

theorem KT.lit_inj (k : KT α) {a b : α} (ha : k.ok a) (hb : k.ok b) (h : k.lit a = k.lit b) : a = b :=
  k.inj _ _ (k.keyed.inj (k.reads a ha) (h ▸ k.reads b hb))

/-- An element stands for itself. -/
def heldElem (v : Value) : Option (DataW Value × List MemPlace) := some (.held v, [])

/-- The map in the block mb, which reads as M, has the keys ks. -/
structure KM (k : KT α) (R : Value → Option (DataW Value × List MemPlace)) (w : World) (mb : Nat) (ks : List α) (M : DataW Value) : Prop where
  own : w.ownsMap Try.prog k.ty R mb ks.length M
  has : ∀ a, k.ok a → (Maps.has M (k.lit a) = true ↔ a ∈ ks)
  of : ∀ kl, Maps.has M kl = true → ∃ a ∈ ks, kl = k.lit a
  nd : ks.Nodup
  ok : ∀ a ∈ ks, k.ok a

section
variable {k : KT α} {R : Value → Option (DataW Value × List MemPlace)} {w : World} {mb : Nat} {ks : List α} {M : DataW Value}

theorem owns_keep {S : Nat → Prop} {w w' : World} {ty : TypeId} {mb n : Nat} {M : DataW Value} (h : w.ownsMap Try.prog ty R mb n M) (hc : Chg S w w') (hs : ¬ S mb) : w'.ownsMap Try.prog ty R mb n M := by
  obtain ⟨es, clock, hb, r⟩ := h
  exact ⟨es, clock, blk_keep hb hc hs, r⟩

theorem KM.keep {S : Nat → Prop} {w' : World} (h : KM k R w mb ks M) (hc : Chg S w w') (hs : ¬ S mb) : KM k R w' mb ks M :=
  ⟨owns_keep h.own hc hs, h.has, h.of, h.nd, h.ok⟩

theorem KM.lt (h : KM k R w mb ks M) : mb < w.heap.size := h.own.lt

theorem KM.has_eq [DecidableEq α] (h : KM k R w mb ks M) {a : α} (ha : k.ok a) : Maps.has M (k.lit a) = decide (a ∈ ks) := by
  have := h.has a ha
  by_cases e : a ∈ ks
  · rw [this.2 e]; simp [e]
  · cases hh : Maps.has M (k.lit a) with
    | false => simp [e]
    | true => exact absurd (this.1 hh) e

/-- A key that is new. -/
theorem KM.add [DecidableEq α] {t e : TypeId} (h : KM k R w mb ks M) (ht : Try.prog.underlying t = some (.map k.ty e)) (hn : ks.length < 9223372036854775807) {a : α} (ha : k.ok a) (hno : a ∉ ks) {val : Value} {d : DataW Value} {ps : List MemPlace} (hv : R val = some (d, ps)) :
    ∃ w', (Instr.mapUpdate t (.map (some mb)) (k.val a) val).run Try.prog w = .ok () w' ∧ KM k R w' mb (ks ++ [a]) (M.put (k.lit a) d) ∧ Chg (· = mb) w w' := by
  obtain ⟨w', hrun, hown, hg⟩ := h.own.update k.keyed ht (by unfold maxLen; omega) (k.reads a ha) hv
  have hM := h.own.isMap
  refine ⟨w', hrun, ⟨by rw [List.length_append]; exact hown, fun b hb => ?_, fun kl hkl => ?_, ?_, ?_⟩, (Chg.refl (· = mb) w).grown hg (fun k hk _ => by simpa using hk.symm)⟩
  · by_cases e : b = a
    · subst e
      rw [Maps.has_put_same hM (k.isKey _)]
      simp
    · rw [Maps.has_put_other (fun e' => e (k.lit_inj hb ha e')), h.has b hb]
      simp [e]
  · by_cases e : kl = k.lit a
    · exact ⟨a, by simp, e⟩
    · rw [Maps.has_put_other e] at hkl
      obtain ⟨b, hb, e⟩ := h.of kl hkl
      exact ⟨b, by simp [hb], e⟩
  · rw [List.nodup_append]
    refine ⟨h.nd, by simp, fun x hx y hy e => ?_⟩
    simp at hy
    subst hy
    subst e
    exact hno hx
  · intro x hx
    rcases List.mem_append.1 hx with hx | hx
    · exact h.ok x hx
    · simp at hx; subst hx; exact ha
end

/-- A set. -/
def SMap (k : KT α) (w : World) (mb : Nat) (l : List α) : Prop := ∃ M, KM k unitElem w mb l M

section
variable {k : KT α} {w : World} {mb : Nat} {l : List α}
theorem SMap.keep {S : Nat → Prop} {w' : World} (h : SMap k w mb l) (hc : Chg S w w') (hs : ¬ S mb) : SMap k w' mb l := let ⟨M, h⟩ := h; ⟨M, h.keep hc hs⟩
theorem SMap.lt (h : SMap k w mb l) : mb < w.heap.size := let ⟨_, h⟩ := h; h.lt
theorem SMap.nd (h : SMap k w mb l) : l.Nodup := let ⟨_, h⟩ := h; h.nd
theorem SMap.ok (h : SMap k w mb l) : ∀ a ∈ l, k.ok a := let ⟨_, h⟩ := h; h.ok
theorem SMap.look [DecidableEq α] {t e : TypeId} (h : SMap k w mb l) (ht : Try.prog.underlying t = some (.map k.ty e)) (hz : (zeroValue e).run Try.prog w = .ok (.agg #[]) w) {a : α} (ha : k.ok a) :
    (Instr.lookup t (.map (some mb)) (k.val a) true).run Try.prog w = .ok (.tuple #[.agg #[], .bool (decide (a ∈ l))]) w := by
  obtain ⟨M, h⟩ := h
  obtain ⟨v, ps, hrun, hv⟩ := h.own.look_ok k.keyed ht hz unitElem_mk (k.reads a ha)
  rw [hrun, h.has_eq ha, (unitElem_inv hv).1]

theorem SMap.add [DecidableEq α] {t e : TypeId} (h : SMap k w mb l) (ht : Try.prog.underlying t = some (.map k.ty e)) (hn : l.length < 9223372036854775807) {a : α} (ha : k.ok a) (hno : a ∉ l) :
    ∃ w', (Instr.mapUpdate t (.map (some mb)) (k.val a) (.agg #[])).run Try.prog w = .ok () w' ∧ SMap k w' mb (l ++ [a]) ∧ Chg (· = mb) w w' := by
  obtain ⟨M, h⟩ := h
  obtain ⟨w', h1, h2, h3⟩ := h.add ht hn ha hno unitElem_mk
  exact ⟨w', h1, ⟨_, h2⟩, h3⟩
end

/-- A map to maps: the keys, and the blocks of the maps that lie there. -/
structure OMap (k : KT α) (w : World) (mb : Nat) (l : List (α × Nat)) : Prop where
  ex : ∃ M, KM k heldElem w mb (l.map (·.1)) M ∧ ∀ p ∈ l, ∀ z, M.atKey (k.lit p.1) z = .held (.map (some p.2))

section
variable {k : KT α} {w : World} {mb : Nat} {l : List (α × Nat)}
theorem OMap.keep {S : Nat → Prop} {w' : World} (h : OMap k w mb l) (hc : Chg S w w') (hs : ¬ S mb) : OMap k w' mb l := let ⟨⟨M, h, h2⟩⟩ := h; ⟨M, h.keep hc hs, h2⟩
theorem OMap.lt (h : OMap k w mb l) : mb < w.heap.size := let ⟨⟨_, h, _⟩⟩ := h; h.lt
theorem OMap.nd (h : OMap k w mb l) : (l.map (·.1)).Nodup := let ⟨⟨_, h, _⟩⟩ := h; h.nd
theorem OMap.ok (h : OMap k w mb l) : ∀ p ∈ l, k.ok p.1 := let ⟨⟨_, h, _⟩⟩ := h; fun p hp => h.ok p.1 (List.mem_map_of_mem hp)
/-- The map that lies at a key, if one does. -/
def subOf [DecidableEq α] (l : List (α × Nat)) (a : α) : Option Nat := (l.find? (fun p => decide (p.1 = a))).map (·.2)

theorem subOf_some [DecidableEq α] {l : List (α × Nat)} {a : α} {b : Nat} (h : subOf l a = some b) : (a, b) ∈ l := by
  unfold subOf at h
  rw [Option.map_eq_some_iff] at h
  obtain ⟨p, hp, rfl⟩ := h
  have h1 := List.mem_of_find?_eq_some hp
  have h2 := List.find?_some hp
  simp at h2
  subst h2
  exact h1

theorem subOf_mem [DecidableEq α] {l : List (α × Nat)} (hn : (l.map (·.1)).Nodup) {a : α} {b : Nat} (h : (a, b) ∈ l) : subOf l a = some b := by
  cases hs : subOf l a with
  | none =>
    unfold subOf at hs
    rw [Option.map_eq_none_iff, List.find?_eq_none] at hs
    exact absurd (hs _ h) (by simp)
  | some c =>
    have h2 := subOf_some hs
    have : ∀ (l : List (α × Nat)), (l.map (·.1)).Nodup → (a, b) ∈ l → (a, c) ∈ l → b = c := by
      intro l
      induction l with
      | nil => intro _ h; cases h
      | cons x l ih =>
        intro hn h1 h2
        rw [List.map_cons, List.nodup_cons] at hn
        rcases List.mem_cons.1 h1 with e1 | h1
        · rcases List.mem_cons.1 h2 with e2 | h2
          · rw [← e1] at e2; exact (Prod.mk.inj e2).2.symm
          · exact absurd (List.mem_map.2 ⟨_, h2, by rw [← e1]⟩) hn.1
        · rcases List.mem_cons.1 h2 with e2 | h2
          · exact absurd (List.mem_map.2 ⟨_, h1, by rw [← e2]⟩) hn.1
          · exact ih hn.2 h1 h2
    rw [this l hn h h2]

theorem OMap.look [DecidableEq α] {t e : TypeId} (h : OMap k w mb l) (ht : Try.prog.underlying t = some (.map k.ty e)) (hz : (zeroValue e).run Try.prog w = .ok (.map none) w) {a : α} (ha : k.ok a) :
    (Instr.lookup t (.map (some mb)) (k.val a) false).run Try.prog w = .ok (.map (subOf l a)) w := by
  have hnd := h.nd
  obtain ⟨M, h, h2⟩ := h
  obtain ⟨v, ps, hrun, hv⟩ := h.own.lookup k.keyed ht hz (R := heldElem) rfl (k.reads a ha)
  cases hs : subOf l a with
  | some b =>
    have hm := subOf_some hs
    rw [h2 _ hm] at hv
    simp only [heldElem, Option.some.injEq, Prod.mk.injEq, DataW.held.injEq] at hv
    rw [hrun, hv.1]
  | none =>
    have hno : Maps.has M (k.lit a) = false := by
      cases hh : Maps.has M (k.lit a) with
      | false => rfl
      | true =>
        obtain ⟨p, hp, rfl⟩ := List.mem_map.1 ((h.has a ha).1 hh)
        rw [subOf_mem hnd hp] at hs
        cases hs
    rw [Maps.atKey_of_not_has hno] at hv
    simp only [heldElem, Option.some.injEq, Prod.mk.injEq, DataW.held.injEq] at hv
    rw [hrun, hv.1]

theorem OMap.add [DecidableEq α] {t e : TypeId} (h : OMap k w mb l) (ht : Try.prog.underlying t = some (.map k.ty e)) (hn : l.length < 9223372036854775807) {a : α} (ha : k.ok a) (hno : a ∉ l.map (·.1)) (b : Nat) :
    ∃ w', (Instr.mapUpdate t (.map (some mb)) (k.val a) (.map (some b))).run Try.prog w = .ok () w' ∧ OMap k w' mb (l ++ [(a, b)]) ∧ Chg (· = mb) w w' := by
  obtain ⟨M, h, h2⟩ := h
  obtain ⟨w', h4, h5, h3⟩ := h.add (val := .map (some b)) ht (by rwa [List.length_map]) ha hno rfl
  refine ⟨w', h4, ⟨_, by rw [List.map_append]; exact h5, fun p hp z => ?_⟩, h3⟩
  rcases List.mem_append.1 hp with hp | hp
  · rw [Maps.atKey_put_other (fun e' => hno ?_)]
    · exact h2 p hp z
    · have hpm : p.1 ∈ l.map (·.1) := List.mem_map_of_mem hp
      have := k.lit_inj (h.ok _ hpm) ha e'
      rwa [this] at hpm
  · simp at hp
    subst hp
    exact Maps.atKey_put_same h.own.isMap (k.isKey _) _ _
end

/-- 'range' over a map under way, or over the nil map: what is still to come. -/
def KRange (k : KT α) (R : Value → Option (DataW Value × List MemPlace)) (w : World) (mo : Option Nat) (r : Nat) (rest : List α) (cnt : Nat) : Prop :=
  rest.Nodup ∧ (∀ a ∈ rest, k.ok a) ∧
  match mo with
  | none => rest = [] ∧ cnt = 0 ∧ ∃ a s b, w.heap[r]? = some (.mapIter none a s b)
  | some mb => ∃ M n left, w.ranges Try.prog k.ty R mb r n M left cnt ∧ (∀ kl, left kl = true → ∃ a ∈ rest, kl = k.lit a) ∧ (∀ a ∈ rest, left (k.lit a) = true)

section
variable {k : KT α} {R : Value → Option (DataW Value × List MemPlace)} {w : World} {mo : Option Nat} {r cnt : Nat} {rest : List α}

theorem KRange.lt (h : KRange k R w mo r rest cnt) : r < w.heap.size := by
  cases mo with
  | none => obtain ⟨_, _, _, _, a, s, b, h⟩ := h; exact lt_blk h
  | some mb => obtain ⟨_, _, M, n, left, h1, _⟩ := h; exact h1.lt

theorem KRange.keep {S : Nat → Prop} {w' : World} (h : KRange k R w mo r rest cnt) (hc : Chg S w w') (hm : ∀ mb, mo = some mb → ¬ S mb) (hr : ¬ S r) : KRange k R w' mo r rest cnt := by
  refine ⟨h.1, h.2.1, ?_⟩
  cases mo with
  | none => obtain ⟨_, _, h1, h2, a, s, b, h⟩ := h; exact ⟨h1, h2, a, s, b, blk_keep h hc hr⟩
  | some mb =>
    obtain ⟨_, _, M, n, left, h1, h2⟩ := h
    obtain ⟨es, clock, since, seen, c0, hb, F, hs, hD, hr', rs⟩ := h1
    exact ⟨M, n, left, ⟨es, clock, since, seen, c0, blk_keep hb hc (hm mb rfl), F, hs, hD, blk_keep hr' hc hr, rs⟩, h2⟩

theorem KRange.drew (h : KRange k R w mo r rest cnt) : KRange k R w.drew mo r rest cnt := h.keep (S := fun _ => False) (Chg.refl _ _).drew (fun _ _ => id) id

/-- It begins. -/
theorem KM.range {t e : TypeId} {mb : Nat} {ks : List α} {M : DataW Value} (h : KM k R w mb ks M) (ht : Try.prog.underlying t = some (.map k.ty e)) :
    ∃ w', (Instr.range t (.map (some mb))).run Try.prog w = .ok (.pointer (some ⟨w.heap.size, 0, none⟩)) w' ∧ KRange k R w' (some mb) w.heap.size ks (Maps.size M) ∧ Chg (fun _ => False) w w' ∧ w'.heap.size = w.heap.size + 1 := by
  obtain ⟨w', hrun, hr, hg, hs⟩ := h.own.range k.keyed ht
  exact ⟨w', hrun, ⟨h.nd, h.ok, M, _, _, hr, h.of, fun a ha => (h.has a (h.ok a ha)).2 ha⟩, (Chg.refl _ _).grown hg (fun k hk => by cases hk), hs⟩

end

/-- A map to sets: pairs. mb: the map's block; all blocks of it are of O. No set in it has more than n. -/
structure Sets (ko : KT α) (ki : KT β) (O : Nat → Prop) (w : World) (mb n : Nat) (rel : α → β → Prop) : Prop where
  ex : ∃ l : List (α × Nat), OMap ko w mb l ∧ (∀ p ∈ l, O p.2 ∧ p.2 ≠ mb ∧ ∃ xs, SMap ki w p.2 xs ∧ xs.length ≤ n ∧ ∀ x, x ∈ xs ↔ rel p.1 x) ∧ (l.map (·.2)).Nodup ∧ (∀ a x, rel a x → a ∈ l.map (·.1)) ∧ l.length ≤ n
  top : O mb

section
variable {ko : KT α} {ki : KT β} {O : Nat → Prop} {w : World} {mb n : Nat} {rel : α → β → Prop}

theorem Sets.keep {S : Nat → Prop} {w' : World} (h : Sets ko ki O w mb n rel) (hc : Chg S w w') (hs : ∀ i, O i → ¬ S i) : Sets ko ki O w' mb n rel := by
  obtain ⟨⟨l, h1, h2, h3⟩, h4⟩ := h
  exact ⟨⟨l, h1.keep hc (hs _ h4), fun p hp => let ⟨a, b, xs, c, d⟩ := h2 p hp; ⟨a, b, xs, c.keep hc (hs _ a), d⟩, h3⟩, h4⟩

theorem Sets.mono {O' : Nat → Prop} (h : Sets ko ki O w mb n rel) (hO : ∀ i, O i → O' i) : Sets ko ki O' w mb n rel := by
  obtain ⟨⟨l, h1, h2, h3⟩, h4⟩ := h
  exact ⟨⟨l, h1, fun p hp => let ⟨a, b, xs, c, d⟩ := h2 p hp; ⟨hO _ a, b, xs, c, d⟩, h3⟩, hO _ h4⟩

theorem Sets.cong {rel' : α → β → Prop} (h : Sets ko ki O w mb n rel) (hr : ∀ a x, rel a x ↔ rel' a x) : Sets ko ki O w mb n rel' := by
  obtain ⟨⟨l, h1, h2, h3, h4, h5⟩, h6⟩ := h
  exact ⟨⟨l, h1, fun p hp => let ⟨a, b, xs, c, d, e⟩ := h2 p hp; ⟨a, b, xs, c, d, fun x => (e x).trans (hr _ _)⟩, h3, fun a x hx => h4 a x ((hr a x).2 hx), h5⟩, h6⟩

theorem Sets.le {n' : Nat} (h : Sets ko ki O w mb n rel) (hn : n ≤ n') : Sets ko ki O w mb n' rel := by
  obtain ⟨⟨l, h1, h2, h3, h4, h5⟩, h6⟩ := h
  exact ⟨⟨l, h1, fun p hp => let ⟨a, b, xs, c, d, e⟩ := h2 p hp; ⟨a, b, xs, c, Nat.le_trans d hn, e⟩, h3, h4, Nat.le_trans h5 hn⟩, h6⟩

theorem Sets.lt (h : Sets ko ki O w mb n rel) : mb < w.heap.size := let ⟨⟨_, h, _⟩, _⟩ := h; h.lt

/-- A set that is there grows by one. -/
theorem Sets.grow [DecidableEq α] {t e : TypeId} (h : Sets ko ki O w mb n rel) (ht : Try.prog.underlying t = some (.map ko.ty e)) (hz : ∀ w, (zeroValue e).run Try.prog w = .ok (.map none) w) {a : α} (ha : ko.ok a) {b : Nat} {w' : World} (hb : ∀ w', Chg (fun i => i ≠ mb) w w' → (Instr.lookup t (.map (some mb)) (ko.val a) false).run Try.prog w' = .ok (.map (some b)) w')
    {ys : List β} {x : β} (hc : Chg (· = b) w w') (hy : SMap ki w' b ys) (hys : ∀ z, z ∈ ys ↔ (rel a z ∨ z = x)) (hyn : ys.length ≤ n + 1) : Sets ko ki O w' mb (n + 1) (fun a' z => rel a' z ∨ (a' = a ∧ z = x)) := by
  obtain ⟨⟨l, h1, h2, h3, h4, h5⟩, h6⟩ := h
  have hl := hb w (Chg.refl _ _)
  rw [h1.look ht (hz w) ha] at hl
  have hs : subOf l a = some b := by simpa using hl
  have hm := subOf_some hs
  obtain ⟨_, hbm, _⟩ := h2 _ hm
  refine ⟨⟨l, h1.keep hc (fun e => hbm e.symm), fun p hp => ?_, h3, fun a' z hz => ?_, by omega⟩, h6⟩
  · obtain ⟨q1, q2, xs, q3, q4, q5⟩ := h2 p hp
    by_cases e : p.1 = a
    · have hpb : p.2 = b := by
        have := subOf_mem h1.nd (a := p.1) (b := p.2) hp
        rw [e, hs] at this
        simpa using this.symm
      refine ⟨q1, q2, ys, by rw [hpb]; exact hy, hyn, fun z => ?_⟩
      rw [hys, e]
      simp
    · have hpb : p.2 ≠ b := fun e2 => by
        have key : ∀ (l : List (α × Nat)), (l.map (·.2)).Nodup → p ∈ l → (a, b) ∈ l → p = (a, b) := by
          intro l
          induction l with
          | nil => intro _ h; cases h
          | cons y l ih =>
            intro hn h1 h2
            rw [List.map_cons, List.nodup_cons] at hn
            rcases List.mem_cons.1 h1 with e1 | h1
            · rcases List.mem_cons.1 h2 with e3 | h2
              · rw [e1, e3]
              · exact absurd (List.mem_map.2 ⟨_, h2, by rw [← e1]; exact e2.symm⟩) hn.1
            · rcases List.mem_cons.1 h2 with e3 | h2
              · exact absurd (List.mem_map.2 ⟨_, h1, by rw [← e3]; exact e2⟩) hn.1
              · exact ih hn.2 h1 h2
        exact e (by rw [key l h3 hp hm])
      exact ⟨q1, q2, xs, q3.keep hc hpb, by omega, fun z => (q5 z).trans (by simp [e])⟩
  · rcases hz with hz | ⟨rfl, rfl⟩
    · exact h4 a' z hz
    · exact List.mem_map.2 ⟨_, hm, rfl⟩

/-- A set that is new, of one. -/
theorem Sets.new [DecidableEq α] {t e : TypeId} (h : Sets ko ki O w mb n rel) (ht : Try.prog.underlying t = some (.map ko.ty e)) (hz : ∀ w, (zeroValue e).run Try.prog w = .ok (.map none) w) {a : α} (ha : ko.ok a) (hn : n < 9223372036854775807) (hb : (Instr.lookup t (.map (some mb)) (ko.val a) false).run Try.prog w = .ok (.map none) w)
    {b : Nat} (hbO : ∀ i, O i → i < w.heap.size) {w1 : World} (hc1 : Chg (fun _ => False) w w1) (hbw : w.heap.size ≤ b) :
    ∃ w', (Instr.mapUpdate t (.map (some mb)) (ko.val a) (.map (some b))).run Try.prog w1 = .ok () w' ∧ Chg (· = mb) w1 w' ∧
      (∀ w2, Chg (fun i => i ≠ mb) w' w2 → (Instr.lookup t (.map (some mb)) (ko.val a) false).run Try.prog w2 = .ok (.map (some b)) w2) ∧
      ∀ w5 x, Chg (· = b) w' w5 → SMap ki w5 b [x] → Sets ko ki (fun i => O i ∨ i = b) w5 mb (n + 1) (fun a' z => rel a' z ∨ (a' = a ∧ z = x)) := by
  obtain ⟨⟨l, h1, h2, h3, h4, h5⟩, h6⟩ := h
  have hlt := hbO _ h6
  rw [h1.look ht (hz w) ha] at hb
  have hs : subOf l a = none := by simpa using hb
  have hno : a ∉ l.map (·.1) := fun h => by
    obtain ⟨p, hp, rfl⟩ := List.mem_map.1 h
    rw [subOf_mem h1.nd (b := p.2) hp] at hs
    cases hs
  obtain ⟨w', hrun, ho, hc⟩ := (h1.keep hc1 id).add ht (by omega) ha hno b
  refine ⟨w', hrun, hc, fun w2 h2' => ?_, fun w5 x hc5 hsm => ⟨⟨_, ho.keep hc5 (fun e => by omega), fun p hp => ?_, ?_, fun a' z hz => ?_, by simp; omega⟩, .inl h6⟩⟩
  · rw [(ho.keep h2' (fun e => e rfl)).look ht (hz w2) ha]
    have := subOf_mem ho.nd (a := a) (b := b) (by simp)
    rw [this]
  · rcases List.mem_append.1 hp with hp' | hp'
    · obtain ⟨q1, q2, xs, q3, q4, q5⟩ := h2 p hp'
      have hpb := hbO _ q1
      refine ⟨.inl q1, q2, xs, ((q3.keep hc1 id).keep hc q2).keep hc5 (fun e => by omega), by omega, fun z => (q5 z).trans ⟨.inl, fun h => ?_⟩⟩
      rcases h with h | ⟨rfl, _⟩
      · exact h
      · exact absurd (List.mem_map.2 ⟨p, hp', rfl⟩) hno
    · simp at hp'
      subst hp'
      exact ⟨.inr rfl, by simp; omega, [x], hsm, by simp, fun z => ⟨fun h => .inr ⟨rfl, by simpa using h⟩, fun h => by
        rcases h with h | h
        · exact absurd (h4 a z h) hno
        · simp [h.2]⟩⟩
  · rw [List.map_append, List.nodup_append]
    refine ⟨h3, by simp, fun x hx y hy e => ?_⟩
    simp at hy
    subst hy
    subst e
    obtain ⟨p, hp, rfl⟩ := List.mem_map.1 hx
    have := hbO _ (h2 p hp).1
    omega
  · rw [List.map_append]
    rcases hz with hz | ⟨rfl, _⟩
    · exact List.mem_append_left _ (h4 a' z hz)
    · simp
end
end Go.Proofs.Ytjaplnainlbldaa

/- The arguments of laws, opened to cells: bytes, a small array. -/
namespace Go.Proofs.Ytjaplnainlbldaa
open Go.ChangeShapes Go.WideShapes Go.ChangeAt Go.RowKit Go.Deep

theorem Try.own : ownKnob Try.prog.godebug = none := by kernel_rfl
theorem Try.laidOut : laidOutB Try.prog = true := by kernel_rfl

theorem spot_none {w : World} {a : Addr} {v : Value} (h : w.cell? a = some v) : a = ⟨a.block, a.off, none⟩ := by
  obtain ⟨b, o, s⟩ := a
  cases s with
  | none => rfl
  | some x =>
    simp only [World.cell?] at h
    split at h
    · simp at h
    · cases h

theorem add_zero (a : Addr) : a.add 0 = a := by
  unfold Addr.add
  simp

section
variable {H : Type} {enc : TypeId × Value → H} {w : World} {base : Nat} {held : Bool} {fuel : Nat}

end

end Go.Proofs.Ytjaplnainlbldaa

/- The keys of the model's maps: names, roles, credentials. -/
namespace Go.Proofs.Ytjaplnainlbldaa
open Go.RowKit Go.Maps Go.ChangeMaps Go.WideMaps

theorem mStr (d : Nat) {s : List UInt8} (h : s.length ≤ 9223372036854775807) : Try.prog.keyLits (d + 1) 9 [.string ⟨s.toArray⟩] = some [.string s] := by
  have b1 : (ByteArray.mk s.toArray).size ≤ maxLen := by unfold maxLen; simpa [ByteArray.size] using h
  unfold Program.keyLits
  rw [Try.underlying9]
  simp [b1]

theorem mRoleN : Try.prog.cellsOf 24 = 2 := by kernel_rfl
theorem mStrN : Try.prog.cellsOf 9 = 1 := by kernel_rfl
theorem mRole (d : Nat) {a b : List UInt8} (ha : a.length ≤ 9223372036854775807) (hb : b.length ≤ 9223372036854775807) : Try.prog.keyLits (d + 1 + 1) 24 [.string ⟨a.toArray⟩, .string ⟨b.toArray⟩] = some [.string a, .string b] := by
  unfold Program.keyLits
  rw [Try.underlying24]
  simp [mRoleN, mStrN, mStr d ha, mStr d hb]

def roleLit (r : RoleB) : Lit := .string (keyBytes [.string r.1, .string r.2])
theorem roleReads {r : RoleB} (h : r.1.length ≤ 9223372036854775807 ∧ r.2.length ≤ 9223372036854775807) : Go.keyOf Try.prog 24 (.agg #[.string ⟨r.1.toArray⟩, .string ⟨r.2.toArray⟩]) = some (roleLit r) := by
  have h3 : 3 ≤ Try.prog.types.size := of_decide_eq_true (by kernel_rfl)
  obtain ⟨n, hn⟩ : ∃ n, Try.prog.types.size = n + 1 := ⟨Try.prog.types.size - 1, by omega⟩
  have h1 : Try.prog.keyType 24 = true := by kernel_rfl
  have h2 : (Value.agg #[.string ⟨r.1.toArray⟩, .string ⟨r.2.toArray⟩]).formed Try.prog 24 = true := by simp [Value.formed, Try.underlying24, mRoleN]
  unfold Go.keyOf
  rw [Try.underlying24]
  simp only [h1, h2, Bool.and_self, if_true, hn]
  have h4 := mRole n h.1 h.2
  show (Try.prog.keyLits (n + 1 + 1) 24 [.string ⟨r.1.toArray⟩, .string ⟨r.2.toArray⟩]).map _ = _
  rw [h4]
  rfl

theorem mRoleBelow : 24 < Try.prog.types.size := of_decide_eq_true (by kernel_rfl)
theorem mRoleKeyed : Keyed Try.prog 24 := Keyed.of_law (deep_law_laid Try.laidOut (m := 4) (by omega) mRoleBelow (by kernel_rfl) (by rw [Try.underlying24]))
/-- Names. -/
def ktS : KT (List UInt8) where
  ty := 9
  val s := .string ⟨s.toArray⟩
  lit s := .string s
  ok s := s.length ≤ 9223372036854775807
  keyed := string_keyed Try.underlying9
  isKey _ := trivial
  reads s hs := by
    have := keyOf_string_mk (P := Try.prog) (k := 9) Try.underlying9 (s := ⟨s.toArray⟩) (by unfold maxLen; simpa [ByteArray.size] using hs)
    simpa using this
  inj a b h := by simpa using h

/-- Roles. -/
def ktR : KT RoleB where
  ty := 24
  val r := .agg #[.string ⟨r.1.toArray⟩, .string ⟨r.2.toArray⟩]
  lit := roleLit
  ok r := r.1.length ≤ 9223372036854775807 ∧ r.2.length ≤ 9223372036854775807
  keyed := mRoleKeyed
  isKey _ := trivial
  reads _ h := roleReads h
  inj a b h := by
    obtain ⟨a1, a2⟩ := a
    obtain ⟨b1, b2⟩ := b
    simp at h
    obtain ⟨rfl, rfl⟩ := h
    rfl

end Go.Proofs.Ytjaplnainlbldaa

/- A map by facts, of bools, as it lies in memory. -/
namespace Go.Proofs.Ytjaplnainlbldaa
open Go.RowKit Go.Maps Go.ChangeMaps Go.WideMaps

/-- What a fact is as a map's key. -/
def factLit (f : FactB) : Lit := .string (keyBytes [.string f.1.1, .string f.1.2, .string f.2])
def factVal (f : FactB) : Value := .agg #[.string ⟨f.1.1.toArray⟩, .string ⟨f.1.2.toArray⟩, .string ⟨f.2.toArray⟩]

theorem factBelow : 26 < Try.prog.types.size := of_decide_eq_true (by kernel_rfl)

theorem factKeyed : Keyed Try.prog 26 :=
  Keyed.of_law (deep_law_laid Try.laidOut (m := 4) (by omega) factBelow (by kernel_rfl) (by rw [Try.underlying26]))

theorem factCellsN : Try.prog.cellsOf 26 = 3 := by kernel_rfl
theorem roleCellsN : Try.prog.cellsOf 24 = 2 := by kernel_rfl
theorem strCellsN : Try.prog.cellsOf 9 = 1 := by kernel_rfl

theorem keyStrF (d : Nat) {s : List UInt8} (h : s.length ≤ 9223372036854775807) : Try.prog.keyLits (d + 1) 9 [.string ⟨s.toArray⟩] = some [.string s] := by
  have b1 : (ByteArray.mk s.toArray).size ≤ maxLen := by unfold maxLen; simpa [ByteArray.size] using h
  unfold Program.keyLits
  rw [Try.underlying9]
  simp [b1]

theorem keyRole (d : Nat) {a b : List UInt8} (ha : a.length ≤ 9223372036854775807) (hb : b.length ≤ 9223372036854775807) : Try.prog.keyLits (d + 1 + 1) 24 [.string ⟨a.toArray⟩, .string ⟨b.toArray⟩] = some [.string a, .string b] := by
  unfold Program.keyLits
  rw [Try.underlying24]
  simp [roleCellsN, strCellsN, keyStrF d ha, keyStrF d hb]

theorem keyFact (d : Nat) {f : FactB} (h : factShort f 9223372036854775807) : Try.prog.keyLits (d + 1 + 1 + 1) 26 (factVal f).cells.toList = some [.string f.1.1, .string f.1.2, .string f.2] := by
  obtain ⟨a1, a2, a3⟩ := h
  unfold Program.keyLits
  rw [Try.underlying26]
  simp [factVal, Value.cells, factCellsN, roleCellsN, strCellsN, keyRole d a1 a2, keyStrF (d + 1) a3]

theorem factReads {f : FactB} (h : factShort f 9223372036854775807) : Go.keyOf Try.prog 26 (factVal f) = some (factLit f) := by
  have h3 : 3 ≤ Try.prog.types.size := of_decide_eq_true (by kernel_rfl)
  obtain ⟨n, hn⟩ : ∃ n, Try.prog.types.size = n + 1 + 1 := ⟨Try.prog.types.size - 2, by omega⟩
  have h1 : Try.prog.keyType 26 = true := by kernel_rfl
  have h2 : (factVal f).formed Try.prog 26 = true := by unfold factVal; simp [Value.formed, Try.underlying26, factCellsN]
  unfold Go.keyOf
  rw [Try.underlying26]
  simp only [h1, h2, Bool.and_self, if_true, hn]
  rw [keyFact n h]
  rfl

/-- The map in the block mb holds the facts l. -/
structure FMap (w : World) (mb : Nat) (l : List FactB) : Prop where
  ex : ∃ M : DataW Value, w.ownsMap Try.prog 26 (plainElem Try.prog 4) mb l.length M ∧ (∀ f : FactB, factShort f 9223372036854775807 → Maps.has M (factLit f) = l.contains f) ∧ (∀ f : FactB, f ∈ l → ∀ z, M.atKey (factLit f) z = .lit (.bool true)) ∧ Maps.size M = l.length
  nd : l.Nodup
  sh : ∀ f ∈ l, factShort f 9223372036854775807

theorem FMap.keep {S : Nat → Prop} {w w' : World} {mb : Nat} {l : List FactB} (h : FMap w mb l) (hc : Chg S w w') (hs : ¬ S mb) : FMap w' mb l := by
  obtain ⟨⟨M, h1, h2, h3, h4⟩, h5, h6⟩ := h
  obtain ⟨es, clock, hb, r⟩ := h1
  exact ⟨⟨M, ⟨es, clock, blk_keep hb hc hs, r⟩, h2, h3, h4⟩, h5, h6⟩

theorem FMap.lt {w : World} {mb : Nat} {l : List FactB} (h : FMap w mb l) : mb < w.heap.size := by
  obtain ⟨⟨M, h1, _⟩, _⟩ := h
  exact h1.lt

end Go.Proofs.Ytjaplnainlbldaa

/- The kinds of credentials that came in are ints as they can be. -/
namespace Go.Proofs.Ytjaplnainlbldaa
open Go.RowKit

def kindW (c : CredB) : Prop := (Lit.int .i64 c.kind).wf = true
def KindsS (ls : List StepB) : Prop := ∀ s ∈ ls, kindW s.c
theorem KindsS.take {ls : List StepB} (h : KindsS ls) (k : Nat) : KindsS (ls.take k) := fun s hs => h s (List.mem_of_mem_take hs)
end Go.Proofs.Ytjaplnainlbldaa
