/- Texts that the proof leans on, in one: FactMap, KvMap, PmMath. -/
import Derived.Test.YtmmkopdcbiiedaaKb10
import Derived.Test.YtmmkopdcbiiedaaKb28
import Derived.Maps.OwnSet
import Derived.DeepKeys4
import Derived.Test.YtmmkopdcbiiedaaKb31
import Derived.Test.YtmmkopdcbiiedaaKb19
import Derived.WideKeyEntry
import Derived.Test.YtmmkopdcbiiedaaKb9
/- A map by facts, of bools, as it lies in memory. -/
namespace Go.Proofs.Ytmmkopdcbiiedaa
open Go.RowKit Go.Maps Go.ChangeMaps Go.WideMaps

/-- What a fact is as a map's key. -/
def factLit (f : FactB) : Lit := .string (keyBytes [.string f.1.1, .string f.1.2, .string f.2])
def factVal (f : FactB) : Value := .agg #[.string ⟨f.1.1.toArray⟩, .string ⟨f.1.2.toArray⟩, .string ⟨f.2.toArray⟩]

theorem factBelow : 27 < Try.prog.types.size := of_decide_eq_true (by kernel_rfl)

theorem factKeyed : Keyed Try.prog 27 :=
  Keyed.of_law (deep_law_laid Try.laidOut (m := 4) (by omega) factBelow (by kernel_rfl) (by rw [Try.underlying27]))

theorem factCellsN : Try.prog.cellsOf 27 = 3 := by kernel_rfl
theorem roleCellsN : Try.prog.cellsOf 25 = 2 := by kernel_rfl
theorem strCellsN : Try.prog.cellsOf 9 = 1 := by kernel_rfl

theorem keyStrF (d : Nat) {s : List UInt8} (h : s.length ≤ 9223372036854775807) : Try.prog.keyLits (d + 1) 9 [.string ⟨s.toArray⟩] = some [.string s] := by
  have b1 : (ByteArray.mk s.toArray).size ≤ maxLen := by unfold maxLen; simpa [ByteArray.size] using h
  unfold Program.keyLits
  rw [Try.underlying9]
  simp [b1]

theorem keyRole (d : Nat) {a b : List UInt8} (ha : a.length ≤ 9223372036854775807) (hb : b.length ≤ 9223372036854775807) : Try.prog.keyLits (d + 1 + 1) 25 [.string ⟨a.toArray⟩, .string ⟨b.toArray⟩] = some [.string a, .string b] := by
  unfold Program.keyLits
  rw [Try.underlying25]
  simp [roleCellsN, strCellsN, keyStrF d ha, keyStrF d hb]

theorem keyFact (d : Nat) {f : FactB} (h : factShort f 9223372036854775807) : Try.prog.keyLits (d + 1 + 1 + 1) 27 (factVal f).cells.toList = some [.string f.1.1, .string f.1.2, .string f.2] := by
  obtain ⟨a1, a2, a3⟩ := h
  unfold Program.keyLits
  rw [Try.underlying27]
  simp [factVal, Value.cells, factCellsN, roleCellsN, strCellsN, keyRole d a1 a2, keyStrF (d + 1) a3]

theorem factReads {f : FactB} (h : factShort f 9223372036854775807) : Go.keyOf Try.prog 27 (factVal f) = some (factLit f) := by
  have h3 : 3 ≤ Try.prog.types.size := of_decide_eq_true (by kernel_rfl)
  obtain ⟨n, hn⟩ : ∃ n, Try.prog.types.size = n + 1 + 1 := ⟨Try.prog.types.size - 2, by omega⟩
  have h1 : Try.prog.keyType 27 = true := by kernel_rfl
  have h2 : (factVal f).formed Try.prog 27 = true := by unfold factVal; simp [Value.formed, Try.underlying27, factCellsN]
  unfold Go.keyOf
  rw [Try.underlying27]
  simp only [h1, h2, Bool.and_self, if_true, hn]
  rw [keyFact n h]
  rfl

/-- The map in the block mb holds the facts l. -/
structure FMap (w : World) (mb : Nat) (l : List FactB) : Prop where
  ex : ∃ M : DataW Value, w.ownsMap Try.prog 27 (plainElem Try.prog 4) mb l.length M ∧ (∀ f : FactB, factShort f 9223372036854775807 → Maps.has M (factLit f) = l.contains f) ∧ (∀ f : FactB, f ∈ l → ∀ z, M.atKey (factLit f) z = .lit (.bool true)) ∧ Maps.size M = l.length
  nd : l.Nodup
  sh : ∀ f ∈ l, factShort f 9223372036854775807

theorem FMap.keep {S : Nat → Prop} {w w' : World} {mb : Nat} {l : List FactB} (h : FMap w mb l) (hc : Chg S w w') (hs : ¬ S mb) : FMap w' mb l := by
  obtain ⟨⟨M, h1, h2, h3, h4⟩, h5, h6⟩ := h
  obtain ⟨es, clock, hb, r⟩ := h1
  exact ⟨⟨M, ⟨es, clock, blk_keep hb hc hs, r⟩, h2, h3, h4⟩, h5, h6⟩

theorem FMap.lt {w : World} {mb : Nat} {l : List FactB} (h : FMap w mb l) : mb < w.heap.size := by
  obtain ⟨⟨M, h1, _⟩, _⟩ := h
  exact h1.lt

end Go.Proofs.Ytmmkopdcbiiedaa

/- Maps of the program's check, as they lie in memory: by what a look-up gives. -/
namespace Go.Proofs.Ytmmkopdcbiiedaa
open Go.RowKit Go.Maps Go.ChangeMaps Go.WideMaps

/-- Facts. -/
def ktF : KT FactB where
  ty := 27
  val := factV
  lit := factLit
  ok f := factShort f 9223372036854775807
  keyed := factKeyed
  isKey _ := trivial
  reads _ h := factReads h
  inj a b h := by
    obtain ⟨⟨a1, a2⟩, a3⟩ := a
    obtain ⟨⟨b1, b2⟩, b3⟩ := b
    simp [factV, factBox] at h
    obtain ⟨rfl, rfl, rfl⟩ := h
    rfl

/-- Credentials as they stand. -/
def ktW : KT CredB where
  ty := 32
  val := credV
  lit := credLit
  ok c := credShort c 9223372036854775807 ∧ kindW c
  keyed := mCredKeyed
  isKey _ := trivial
  reads _ h := credReads h.1 h.2
  inj := ktC.inj

variable {α : Type}

/-- The map in the block mb has at most n entries; at a key a lies F a. -/
structure KV (k : KT α) (w : World) (mb n : Nat) (F : α → Option Value) : Prop where
  ex : ∃ M : DataW Value, w.ownsMap Try.prog k.ty heldElem mb n M ∧ ∀ a, k.ok a → Maps.has M (k.lit a) = (F a).isSome ∧ ∀ v, F a = some v → ∀ z, M.atKey (k.lit a) z = .held v

section
variable {k : KT α} {w : World} {mb n : Nat} {F : α → Option Value}

theorem owns_blk {R : Value → Option (DataW Value × List MemPlace)} {w' : World} {ty : TypeId} {M : DataW Value} (h : w.ownsMap Try.prog ty R mb n M) (hb : w'.heap[mb]? = w.heap[mb]?) : w'.ownsMap Try.prog ty R mb n M := by
  obtain ⟨es, clock, h0, r⟩ := h
  exact ⟨es, clock, hb.trans h0, r⟩
theorem KV.blk {w' : World} (h : KV k w mb n F) (hb : w'.heap[mb]? = w.heap[mb]?) : KV k w' mb n F := let ⟨M, h1, h2⟩ := h.ex; ⟨M, owns_blk h1 hb, h2⟩
theorem KV.keep {S : Nat → Prop} {w' : World} (h : KV k w mb n F) (hc : Chg S w w') (hs : ¬ S mb) : KV k w' mb n F := let ⟨M, h1, h2⟩ := h.ex; ⟨M, owns_keep h1 hc hs, h2⟩
theorem KV.lt (h : KV k w mb n F) : mb < w.heap.size := let ⟨_, h1, _⟩ := h.ex; h1.lt
theorem KV.le {n' : Nat} (h : KV k w mb n F) (hn : n ≤ n') : KV k w mb n' F := let ⟨M, h1, h2⟩ := h.ex; ⟨M, h1.mono hn, h2⟩
theorem KV.cong {F' : α → Option Value} (h : KV k w mb n F) (hf : ∀ a, k.ok a → F a = F' a) : KV k w mb n F' := let ⟨M, h1, h2⟩ := h.ex; ⟨M, h1, fun a ha => hf a ha ▸ h2 a ha⟩
theorem kv_made (k : KT α) (w : World) : KV k (w.alloc (.map #[] 0)) w.heap.size 0 (fun _ => none) :=
  ⟨_, World.ownsMap_made w _ _ _, fun _ _ => ⟨rfl, fun _ h => (by cases h)⟩⟩

theorem KV.at {M : DataW Value} (h2 : ∀ a, k.ok a → Maps.has M (k.lit a) = (F a).isSome ∧ ∀ v, F a = some v → ∀ z, M.atKey (k.lit a) z = .held v) {a : α} (ha : k.ok a) {z v : Value} {ps : List MemPlace} (hv : heldElem v = some (M.atKey (k.lit a) (.held z), ps)) : v = (F a).getD z := by
  obtain ⟨q1, q2⟩ := h2 a ha
  cases hF : F a with
  | some u =>
    rw [q2 u hF] at hv
    simp only [heldElem, Option.some.injEq, Prod.mk.injEq, DataW.held.injEq] at hv
    exact hv.1
  | none =>
    rw [hF] at q1
    rw [Maps.atKey_of_not_has q1] at hv
    simp only [heldElem, Option.some.injEq, Prod.mk.injEq, DataW.held.injEq] at hv
    exact hv.1

theorem KV.look {t e : TypeId} (h : KV k w mb n F) (ht : Try.prog.underlying t = some (.map k.ty e)) {z : Value} (hz : (zeroValue e).run Try.prog w = .ok z w) {a : α} (ha : k.ok a) :
    (Instr.lookup t (.map (some mb)) (k.val a) false).run Try.prog w = .ok ((F a).getD z) w := by
  obtain ⟨M, h1, h2⟩ := h.ex
  obtain ⟨v, ps, hrun, hv⟩ := h1.lookup k.keyed ht hz (R := heldElem) rfl (k.reads a ha)
  rw [hrun, KV.at h2 ha hv]

theorem KV.look_ok {t e : TypeId} (h : KV k w mb n F) (ht : Try.prog.underlying t = some (.map k.ty e)) {z : Value} (hz : (zeroValue e).run Try.prog w = .ok z w) {a : α} (ha : k.ok a) :
    (Instr.lookup t (.map (some mb)) (k.val a) true).run Try.prog w = .ok (.tuple #[(F a).getD z, .bool (F a).isSome]) w := by
  obtain ⟨M, h1, h2⟩ := h.ex
  obtain ⟨v, ps, hrun, hv⟩ := h1.look_ok k.keyed ht hz (R := heldElem) rfl (k.reads a ha)
  rw [hrun, KV.at h2 ha hv, (h2 a ha).1]

/-- One more. -/
def putF [DecidableEq α] (F : α → Option Value) (a : α) (v : Value) : α → Option Value := fun b => if b = a then some v else F b

theorem KV.put [DecidableEq α] {M : DataW Value} {w' : World} {n' : Nat} (hM : ∃ m, M = .map m) (h2 : ∀ a, k.ok a → Maps.has M (k.lit a) = (F a).isSome ∧ ∀ v, F a = some v → ∀ z, M.atKey (k.lit a) z = .held v) {a : α} (ha : k.ok a) {v : Value} (h : w'.ownsMap Try.prog k.ty heldElem mb n' (M.put (k.lit a) (.held v))) : KV k w' mb n' (putF F a v) := by
  refine ⟨_, h, fun b hb => ?_⟩
  unfold putF
  by_cases e : b = a
  · subst e
    rw [if_pos rfl]
    exact ⟨by rw [Maps.has_put_same hM (k.isKey _)]; rfl, fun u hu z => by cases hu; exact Maps.atKey_put_same hM (k.isKey _) _ _⟩
  · rw [if_neg e]
    have hne : k.lit b ≠ k.lit a := fun e' => e (k.lit_inj hb ha e')
    obtain ⟨q1, q2⟩ := h2 b hb
    exact ⟨by rw [Maps.has_put_other hne]; exact q1, fun u hu z => by rw [Maps.atKey_put_other hne]; exact q2 u hu z⟩

theorem KV.set [DecidableEq α] {t e : TypeId} (h : KV k w mb n F) (ht : Try.prog.underlying t = some (.map k.ty e)) (hn : n < 9223372036854775807) {a : α} (ha : k.ok a) (v : Value) :
    ∃ w', (Instr.mapUpdate t (.map (some mb)) (k.val a) v).run Try.prog w = .ok () w' ∧ KV k w' mb (n + 1) (putF F a v) ∧ Chg (· = mb) w w' ∧ w'.heap.size = w.heap.size := by
  obtain ⟨M, h1, h2⟩ := h.ex
  obtain ⟨es, clock, hb, Ft, hs, hM⟩ := h1
  obtain ⟨w', hrun, hown, hg⟩ := (show w.ownsMap Try.prog k.ty heldElem mb n M from ⟨es, clock, hb, Ft, hs, hM⟩).update k.keyed ht (by unfold maxLen; omega) (k.reads a ha) (val := v) (d := .held v) (ps := []) rfl
  obtain ⟨es', clock', hrun', _⟩ := Maps.fit_store (R' := heldElem) k.keyed ht hb Ft (Nat.lt_of_le_of_lt hs (by unfold maxLen; omega)) (fun _ _ _ _ hz => hz) (k.reads a ha) (val := v) (yv := (.held v, [])) rfl
  rw [hrun] at hrun'
  cases hrun'
  exact ⟨_, hrun, KV.put (Go.World.ownsMap.isMap ⟨es, clock, hb, Ft, hs, hM⟩) h2 ha hown, (Chg.refl (· = mb) w).grown hg (fun k hk _ => by simpa using hk.symm), by simp [setBlock]⟩

/-- The element at a key, which is then stored anew. -/
theorem KV.entry [DecidableEq α] {t e : TypeId} (h : KV k w mb n F) (K : KeyLaw Try.prog k.ty) (ht : Try.prog.underlying t = some (.map k.ty e)) {z : Value} (hz : ∀ u : World, (zeroValue e).run Try.prog u = .ok z u) (hn : n < 9223372036854775807) {a : α} (ha : k.ok a) :
    ∃ (st : Nat) (w1 : World), (Instr.mapEntry t (.map (some mb)) (k.val a)).run Try.prog w = .ok (.tuple #[(F a).getD z, goInt st]) w1 ∧ Chg (· = mb) w w1 ∧ w1.heap.size = w.heap.size ∧
      ∀ (w2 : World) (v : Value), w2.heap[mb]? = w1.heap[mb]? → ∃ w3, (Instr.entryStore t (.map (some mb)) (goInt st) v).run Try.prog w2 = .ok () w3 ∧ Chg (· = mb) w2 w3 ∧ w3.heap.size = w2.heap.size ∧ KV k w3 mb (n + 1) (putF F a v) := by
  obtain ⟨M, h1, h2⟩ := h.ex
  have h1' := h1
  obtain ⟨es, clock, hb, Ft, hs, hM⟩ := h1
  have hkey := k.reads a ha
  obtain ⟨v0, st, es1, clock1, hrun, hv0, hst⟩ := WideElems.entry_then_store (R := heldElem) K ht hz hb Ft hkey
  have hval : v0 = (F a).getD z := by
    obtain ⟨v, ps, hl, hv⟩ := h1'.lookup k.keyed ht (hz w) (R := heldElem) rfl hkey
    rw [← KV.at h2 ha hv]
    rcases Maps.fit_look false k.keyed ht (hz w) hb Ft hkey with ⟨hr, hno, _⟩ | ⟨e0, y, he0, hk0, hr, _⟩
    · rw [hl] at hr
      cases hr
      rcases hv0 with ⟨e1, h3, h4, _⟩ | ⟨_, h3⟩
      · exact absurd h4 (hno e1 h3)
      · exact h3
    · rw [hl] at hr
      cases hr
      rcases hv0 with ⟨e1, h3, h4, h5⟩ | ⟨h3, _⟩
      · rw [h5, entry_eq_of_key (List.pairwise_map.1 (List.nodup_iff_pairwise_ne.1 Ft.stamped.2.2)) h3 he0 (h4.trans hk0.symm)]
        rfl
      · exact absurd hk0 (h3 e0 he0)
  subst hval
  have hsb : ∀ (u : World) (o : Obj) (es0 : Array MapEntry) (c0 : Nat), u.heap[mb]? = some (.map es0 c0) → Chg (· = mb) u (setBlock u mb o) ∧ (setBlock u mb o).heap.size = u.heap.size ∧ (setBlock u mb o).heap[mb]? = some o := fun u o es0 c0 hu =>
    ⟨(Chg.refl (· = mb) u).grown (row := some mb) ⟨rfl, rfl, rfl, by simp [setBlock], fun i _ hi => heap_setBlock_other hu _ (fun e => hi (by rw [e]))⟩ (fun k hk _ => by simpa using hk.symm), by simp [setBlock], heap_setBlock_same hu _⟩
  obtain ⟨c1, s1, b1⟩ := hsb w (.map es1 clock1) _ _ hb
  refine ⟨st, _, hrun, c1, s1, fun w2 v hw2 => ?_⟩
  rw [b1] at hw2
  obtain ⟨es', clock', hr2, hr3⟩ := hst w2 v hw2
  obtain ⟨c2, s2, b2⟩ := hsb w2 (.map es' clock') _ _ hw2
  obtain ⟨w', hset, hkv, _⟩ := h.set ht hn ha v
  rw [hset] at hr3
  cases hr3
  exact ⟨_, hr2, c2, s2, hkv.blk (by rw [b2, (hsb w (.map es' clock') _ _ hb).2.2])⟩
end
end Go.Proofs.Ytmmkopdcbiiedaa

/- How the program's model grows: plain words, nothing of the program's text. -/
namespace Go.Proofs.Ytmmkopdcbiiedaa
open Go.RowKit

/-- What a credential brings, if A says which facts are there. -/
def Brings (c : CredB) (A : FactB → Prop) (f : FactB) : Prop :=
  f.1 = c.head ∧ ((c.kind = 1 ∧ f.2 = c.who) ∨ (c.kind = 2 ∧ A (c.b, f.2)) ∨ (c.kind = 3 ∧ ∃ b, A (c.b, b) ∧ A ((b, c.w2), f.2)) ∨ (c.kind = 4 ∧ A (c.b, f.2) ∧ A (c.c, f.2)))

theorem Brings.mono {c : CredB} {A B : FactB → Prop} (h : ∀ f, A f → B f) {f : FactB} (hb : Brings c A f) : Brings c B f := by
  obtain ⟨h1, h2⟩ := hb
  refine ⟨h1, ?_⟩
  rcases h2 with ⟨k, h2⟩ | ⟨k, h2⟩ | ⟨k, b, h2, h3⟩ | ⟨k, h2, h3⟩
  · exact .inl ⟨k, h2⟩
  · exact .inr (.inl ⟨k, h _ h2⟩)
  · exact .inr (.inr (.inl ⟨k, b, h _ h2, h _ h3⟩))
  · exact .inr (.inr (.inr ⟨k, h _ h2, h _ h3⟩))

theorem Brings.der {ls : List CredB} {c : CredB} {A : FactB → Prop} (hc : c ∈ ls) (hr : isCred c = true) (hA : ∀ f, A f → Der ls f) {f : FactB} (hb : Brings c A f) : Der ls f := by
  obtain ⟨r, s⟩ := f
  obtain ⟨h1, h2⟩ := hb
  simp only at h1 h2
  subst h1
  rcases h2 with ⟨k, rfl⟩ | ⟨k, h2⟩ | ⟨k, b, h2, h3⟩ | ⟨k, h2, h3⟩
  · exact .mem hc hr k
  · exact .inc hc hr k (hA _ h2)
  · exact .link hc hr k (hA _ h2) (hA _ h3)
  · exact .both hc hr k (hA _ h2) (hA _ h3)

theorem brings_all {ls : List CredB} {A : FactB → Prop} (h : ∀ c ∈ ls, isCred c = true → ∀ f, Brings c A f → A f) {f : FactB} (hd : Der ls f) : A f := by
  induction hd with
  | mem hc hr k => exact h _ hc hr _ ⟨rfl, .inl ⟨k, rfl⟩⟩
  | inc hc hr k _ ih => exact h _ hc hr _ ⟨rfl, .inr (.inl ⟨k, ih⟩)⟩
  | link hc hr k _ _ ih1 ih2 => exact h _ hc hr _ ⟨rfl, .inr (.inr (.inl ⟨k, _, ih1, ih2⟩))⟩
  | both hc hr k _ _ ih1 ih2 => exact h _ hc hr _ ⟨rfl, .inr (.inr (.inr ⟨k, ih1, ih2⟩))⟩

/-- What is there when c has been taken. -/
def TakenF (F F' : List FactB) (c : CredB) : Prop := ∀ g, Brings c (· ∈ F) g → g ∈ F'

/-- Between two of Add's calls: F are the facts that are there, P those that need not be followed any more, T the credentials that have been taken. -/
structure AddI (ls T : List CredB) (F P : List FactB) : Prop where
  nd : F.Nodup
  der : ∀ f ∈ F, Der ls f
  sub : ∀ f ∈ P, f ∈ F
  step : ∀ c ∈ T, isCred c = true → ∀ g, Brings c (· ∈ P) g → g ∈ F

theorem AddI.take {ls T : List CredB} {F P F' : List FactB} (h : AddI ls T F P) {c : CredB} (hnd : F'.Nodup) (hd : ∀ f ∈ F', Der ls f) (hsub : ∀ f ∈ F, f ∈ F') (hT : c ∉ T → TakenF F F' c) : AddI ls (T ++ [c]) F' P :=
  ⟨hnd, hd, fun f hf => hsub f (h.sub f hf), fun d hdm hr g hg => by
    by_cases e : d ∈ T
    · exact hsub g (h.step d e hr g hg)
    · rcases List.mem_append.1 hdm with h' | h'
      · exact absurd h' e
      · rw [List.mem_singleton] at h'
        subst h'
        exact hT e g (hg.mono (fun f hf => h.sub f hf))⟩

theorem AddI.done {ls T : List CredB} {F P : List FactB} (h : AddI ls T F P) (hP : ∀ f ∈ F, f ∈ P) (hT : ∀ c ∈ ls, isCred c = true → c ∈ T) : ∀ f, f ∈ F ↔ Der ls f := fun f =>
  ⟨h.der f, fun hd => brings_all (A := (· ∈ F)) (fun c hc hr g hg => h.step c (hT c hc hr) hr g (hg.mono (fun x hx => hP x hx))) hd⟩

end Go.Proofs.Ytmmkopdcbiiedaa
