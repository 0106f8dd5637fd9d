/- Texts that the proof leans on, in one: PmKeys, FactMap, KindW, KvMap. -/
import Derived.Test.YtjaplnainlbldaaSc9
import Derived.Test.YtjaplnainlbldaaSc6
import Derived.DeepKeys4
import Derived.Maps.OwnSet
import Derived.WideKeyEntry
/- The keys of the model's maps: names, roles, credentials. -/
namespace Go.Proofs.Ytjaplnainlbldaa
open Go.RowKit Go.Maps Go.ChangeMaps Go.WideMaps

theorem mStr (d : Nat) {s : List UInt8} (h : s.length ≤ 9223372036854775807) : Try.prog.keyLits (d + 1) 9 [.string ⟨s.toArray⟩] = some [.string s] := by
  have b1 : (ByteArray.mk s.toArray).size ≤ maxLen := by unfold maxLen; simpa [ByteArray.size] using h
  unfold Program.keyLits
  rw [Try.underlying9]
  simp [b1]

theorem mRoleN : Try.prog.cellsOf 24 = 2 := by kernel_rfl
theorem mCredN : Try.prog.cellsOf 36 = 9 := by kernel_rfl
theorem mStrN : Try.prog.cellsOf 9 = 1 := by kernel_rfl
theorem mKindN : Try.prog.cellsOf 3 = 1 := by kernel_rfl

theorem mRole (d : Nat) {a b : List UInt8} (ha : a.length ≤ 9223372036854775807) (hb : b.length ≤ 9223372036854775807) : Try.prog.keyLits (d + 1 + 1) 24 [.string ⟨a.toArray⟩, .string ⟨b.toArray⟩] = some [.string a, .string b] := by
  unfold Program.keyLits
  rw [Try.underlying24]
  simp [mRoleN, mStrN, mStr d ha, mStr d hb]

theorem mKind (d : Nat) {x : Int} (h : (Lit.int .i64 x).wf = true) : Try.prog.keyLits (d + 1) 3 [.int .i64 x] = some [.int .i64 x] := by
  unfold Program.keyLits
  rw [Try.underlying3]
  simp [h]

def roleLit (r : RoleB) : Lit := .string (keyBytes [.string r.1, .string r.2])
def credLit (c : CredB) : Lit := .string (keyBytes [.int .i64 c.kind, .string c.head.1, .string c.head.2, .string c.who, .string c.b.1, .string c.b.2, .string c.c.1, .string c.c.2, .string c.w2])

theorem roleReads {r : RoleB} (h : r.1.length ≤ 9223372036854775807 ∧ r.2.length ≤ 9223372036854775807) : Go.keyOf Try.prog 24 (.agg #[.string ⟨r.1.toArray⟩, .string ⟨r.2.toArray⟩]) = some (roleLit r) := by
  have h3 : 3 ≤ Try.prog.types.size := of_decide_eq_true (by kernel_rfl)
  obtain ⟨n, hn⟩ : ∃ n, Try.prog.types.size = n + 1 := ⟨Try.prog.types.size - 1, by omega⟩
  have h1 : Try.prog.keyType 24 = true := by kernel_rfl
  have h2 : (Value.agg #[.string ⟨r.1.toArray⟩, .string ⟨r.2.toArray⟩]).formed Try.prog 24 = true := by simp [Value.formed, Try.underlying24, mRoleN]
  unfold Go.keyOf
  rw [Try.underlying24]
  simp only [h1, h2, Bool.and_self, if_true, hn]
  have h4 := mRole n h.1 h.2
  show (Try.prog.keyLits (n + 1 + 1) 24 [.string ⟨r.1.toArray⟩, .string ⟨r.2.toArray⟩]).map _ = _
  rw [h4]
  rfl

theorem credReads {c : CredB} (h : credShort c 9223372036854775807) (hw : (Lit.int .i64 c.kind).wf = true) : Go.keyOf Try.prog 36 (credV c) = some (credLit c) := by
  obtain ⟨a1, a2, a3, a4, a5, a6, a7, a8⟩ := h
  have h3 : 3 ≤ Try.prog.types.size := of_decide_eq_true (by kernel_rfl)
  obtain ⟨n, hn⟩ : ∃ n, Try.prog.types.size = n + 1 + 1 := ⟨Try.prog.types.size - 2, by omega⟩
  have h1 : Try.prog.keyType 36 = true := by kernel_rfl
  have h2 : (credV c).formed Try.prog 36 = true := by unfold credV credBox; simp [Value.formed, Try.underlying36, mCredN]
  have h4 : Try.prog.keyLits (n + 1 + 1 + 1) 36 (credV c).cells.toList = some [.int .i64 c.kind, .string c.head.1, .string c.head.2, .string c.who, .string c.b.1, .string c.b.2, .string c.c.1, .string c.c.2, .string c.w2] := by
    unfold Program.keyLits
    rw [Try.underlying36]
    simp [credV, credBox, Value.cells, mCredN, mRoleN, mStrN, mKindN, mKind (n + 1) hw, mRole n a1 a2, mRole n a4 a5, mRole n a6 a7, mStr (n + 1) a3, mStr (n + 1) a8]
  unfold Go.keyOf
  rw [Try.underlying36]
  simp only [h1, h2, Bool.and_self, if_true, hn]
  rw [h4]
  rfl

theorem mRoleBelow : 24 < Try.prog.types.size := of_decide_eq_true (by kernel_rfl)
theorem mCredBelow : 36 < Try.prog.types.size := of_decide_eq_true (by kernel_rfl)
theorem mRoleKeyed : Keyed Try.prog 24 := Keyed.of_law (deep_law_laid Try.laidOut (m := 4) (by omega) mRoleBelow (by kernel_rfl) (by rw [Try.underlying24]))
theorem mCredKeyed : Keyed Try.prog 36 := Keyed.of_law (deep_law_laid Try.laidOut (m := 4) (by omega) mCredBelow (by kernel_rfl) (by rw [Try.underlying36]))

theorem kind_wf {c : CredB} (h : isCred c = true) : (Lit.int .i64 c.kind).wf = true := by
  rcases isCred_kind h with k | k | k | k <;> rw [k] <;> decide

/-- Names. -/
def ktS : KT (List UInt8) where
  ty := 9
  val s := .string ⟨s.toArray⟩
  lit s := .string s
  ok s := s.length ≤ 9223372036854775807
  keyed := string_keyed Try.underlying9
  isKey _ := trivial
  reads s hs := by
    have := keyOf_string_mk (P := Try.prog) (k := 9) Try.underlying9 (s := ⟨s.toArray⟩) (by unfold maxLen; simpa [ByteArray.size] using hs)
    simpa using this
  inj a b h := by simpa using h

/-- Roles. -/
def ktR : KT RoleB where
  ty := 24
  val r := .agg #[.string ⟨r.1.toArray⟩, .string ⟨r.2.toArray⟩]
  lit := roleLit
  ok r := r.1.length ≤ 9223372036854775807 ∧ r.2.length ≤ 9223372036854775807
  keyed := mRoleKeyed
  isKey _ := trivial
  reads _ h := roleReads h
  inj a b h := by
    obtain ⟨a1, a2⟩ := a
    obtain ⟨b1, b2⟩ := b
    simp at h
    obtain ⟨rfl, rfl⟩ := h
    rfl

/-- Right credentials. -/
def ktC : KT CredB where
  ty := 36
  val := credV
  lit := credLit
  ok c := isCred c = true
  keyed := mCredKeyed
  isKey _ := trivial
  reads c h := credReads (by obtain ⟨a1, a2, a3, a4, a5, a6, a7, a8⟩ := isCred_short h; exact ⟨by omega, by omega, by omega, by omega, by omega, by omega, by omega, by omega⟩) (kind_wf h)
  inj a b h := by
    obtain ⟨k, ⟨a1, a2⟩, a3, ⟨a4, a5⟩, ⟨a6, a7⟩, a8⟩ := a
    obtain ⟨k', ⟨b1, b2⟩, b3, ⟨b4, b5⟩, ⟨b6, b7⟩, b8⟩ := b
    simp [credV, credBox] at h
    obtain ⟨rfl, rfl, rfl, rfl, rfl, rfl, rfl, rfl, rfl⟩ := h
    rfl
end Go.Proofs.Ytjaplnainlbldaa

/- A map by facts, of bools, as it lies in memory. -/
namespace Go.Proofs.Ytjaplnainlbldaa
open Go.RowKit Go.Maps Go.ChangeMaps Go.WideMaps

/-- What a fact is as a map's key. -/
def factLit (f : FactB) : Lit := .string (keyBytes [.string f.1.1, .string f.1.2, .string f.2])
def factVal (f : FactB) : Value := .agg #[.string ⟨f.1.1.toArray⟩, .string ⟨f.1.2.toArray⟩, .string ⟨f.2.toArray⟩]

theorem factBelow : 26 < Try.prog.types.size := of_decide_eq_true (by kernel_rfl)

theorem factKeyed : Keyed Try.prog 26 :=
  Keyed.of_law (deep_law_laid Try.laidOut (m := 4) (by omega) factBelow (by kernel_rfl) (by rw [Try.underlying26]))

theorem factCellsN : Try.prog.cellsOf 26 = 3 := by kernel_rfl
theorem roleCellsN : Try.prog.cellsOf 24 = 2 := by kernel_rfl
theorem strCellsN : Try.prog.cellsOf 9 = 1 := by kernel_rfl

theorem keyStrF (d : Nat) {s : List UInt8} (h : s.length ≤ 9223372036854775807) : Try.prog.keyLits (d + 1) 9 [.string ⟨s.toArray⟩] = some [.string s] := by
  have b1 : (ByteArray.mk s.toArray).size ≤ maxLen := by unfold maxLen; simpa [ByteArray.size] using h
  unfold Program.keyLits
  rw [Try.underlying9]
  simp [b1]

theorem keyRole (d : Nat) {a b : List UInt8} (ha : a.length ≤ 9223372036854775807) (hb : b.length ≤ 9223372036854775807) : Try.prog.keyLits (d + 1 + 1) 24 [.string ⟨a.toArray⟩, .string ⟨b.toArray⟩] = some [.string a, .string b] := by
  unfold Program.keyLits
  rw [Try.underlying24]
  simp [roleCellsN, strCellsN, keyStrF d ha, keyStrF d hb]

theorem keyFact (d : Nat) {f : FactB} (h : factShort f 9223372036854775807) : Try.prog.keyLits (d + 1 + 1 + 1) 26 (factVal f).cells.toList = some [.string f.1.1, .string f.1.2, .string f.2] := by
  obtain ⟨a1, a2, a3⟩ := h
  unfold Program.keyLits
  rw [Try.underlying26]
  simp [factVal, Value.cells, factCellsN, roleCellsN, strCellsN, keyRole d a1 a2, keyStrF (d + 1) a3]

theorem factReads {f : FactB} (h : factShort f 9223372036854775807) : Go.keyOf Try.prog 26 (factVal f) = some (factLit f) := by
  have h3 : 3 ≤ Try.prog.types.size := of_decide_eq_true (by kernel_rfl)
  obtain ⟨n, hn⟩ : ∃ n, Try.prog.types.size = n + 1 + 1 := ⟨Try.prog.types.size - 2, by omega⟩
  have h1 : Try.prog.keyType 26 = true := by kernel_rfl
  have h2 : (factVal f).formed Try.prog 26 = true := by unfold factVal; simp [Value.formed, Try.underlying26, factCellsN]
  unfold Go.keyOf
  rw [Try.underlying26]
  simp only [h1, h2, Bool.and_self, if_true, hn]
  rw [keyFact n h]
  rfl

end Go.Proofs.Ytjaplnainlbldaa

/- The kinds of credentials that came in are ints as they can be. -/
namespace Go.Proofs.Ytjaplnainlbldaa
open Go.RowKit

def kindW (c : CredB) : Prop := (Lit.int .i64 c.kind).wf = true
def KindsC (cs : List CredB) : Prop := ∀ c ∈ cs, kindW c
def KindsS (ls : List StepB) : Prop := ∀ s ∈ ls, kindW s.c
end Go.Proofs.Ytjaplnainlbldaa

/- Maps of the program's check, as they lie in memory: by what a look-up gives. -/
namespace Go.Proofs.Ytjaplnainlbldaa
open Go.RowKit Go.Maps Go.ChangeMaps Go.WideMaps

/-- Facts. -/
def ktF : KT FactB where
  ty := 26
  val := factV
  lit := factLit
  ok f := factShort f 9223372036854775807
  keyed := factKeyed
  isKey _ := trivial
  reads _ h := factReads h
  inj a b h := by
    obtain ⟨⟨a1, a2⟩, a3⟩ := a
    obtain ⟨⟨b1, b2⟩, b3⟩ := b
    simp [factV, factBox] at h
    obtain ⟨rfl, rfl, rfl⟩ := h
    rfl

/-- Credentials as they stand. -/
def ktW : KT CredB where
  ty := 36
  val := credV
  lit := credLit
  ok c := credShort c 9223372036854775807 ∧ kindW c
  keyed := mCredKeyed
  isKey _ := trivial
  reads _ h := credReads h.1 h.2
  inj := ktC.inj

variable {α : Type}

/-- The map in the block mb has at most n entries; at a key a lies F a. -/
structure KV (k : KT α) (w : World) (mb n : Nat) (F : α → Option Value) : Prop where
  ex : ∃ M : DataW Value, w.ownsMap Try.prog k.ty heldElem mb n M ∧ ∀ a, k.ok a → Maps.has M (k.lit a) = (F a).isSome ∧ ∀ v, F a = some v → ∀ z, M.atKey (k.lit a) z = .held v

section
variable {k : KT α} {w : World} {mb n : Nat} {F : α → Option Value}

theorem owns_blk {R : Value → Option (DataW Value × List MemPlace)} {w' : World} {ty : TypeId} {M : DataW Value} (h : w.ownsMap Try.prog ty R mb n M) (hb : w'.heap[mb]? = w.heap[mb]?) : w'.ownsMap Try.prog ty R mb n M := by
  obtain ⟨es, clock, h0, r⟩ := h
  exact ⟨es, clock, hb.trans h0, r⟩
theorem KV.blk {w' : World} (h : KV k w mb n F) (hb : w'.heap[mb]? = w.heap[mb]?) : KV k w' mb n F := let ⟨M, h1, h2⟩ := h.ex; ⟨M, owns_blk h1 hb, h2⟩
theorem KV.keep {S : Nat → Prop} {w' : World} (h : KV k w mb n F) (hc : Chg S w w') (hs : ¬ S mb) : KV k w' mb n F := let ⟨M, h1, h2⟩ := h.ex; ⟨M, owns_keep h1 hc hs, h2⟩
theorem KV.lt (h : KV k w mb n F) : mb < w.heap.size := let ⟨_, h1, _⟩ := h.ex; h1.lt
theorem KV.le {n' : Nat} (h : KV k w mb n F) (hn : n ≤ n') : KV k w mb n' F := let ⟨M, h1, h2⟩ := h.ex; ⟨M, h1.mono hn, h2⟩
theorem KV.cong {F' : α → Option Value} (h : KV k w mb n F) (hf : ∀ a, k.ok a → F a = F' a) : KV k w mb n F' := let ⟨M, h1, h2⟩ := h.ex; ⟨M, h1, fun a ha => hf a ha ▸ h2 a ha⟩
theorem kv_made (k : KT α) (w : World) : KV k (w.alloc (.map #[] 0)) w.heap.size 0 (fun _ => none) :=
  ⟨_, World.ownsMap_made w _ _ _, fun _ _ => ⟨rfl, fun _ h => (by cases h)⟩⟩

theorem KV.at {M : DataW Value} (h2 : ∀ a, k.ok a → Maps.has M (k.lit a) = (F a).isSome ∧ ∀ v, F a = some v → ∀ z, M.atKey (k.lit a) z = .held v) {a : α} (ha : k.ok a) {z v : Value} {ps : List MemPlace} (hv : heldElem v = some (M.atKey (k.lit a) (.held z), ps)) : v = (F a).getD z := by
  obtain ⟨q1, q2⟩ := h2 a ha
  cases hF : F a with
  | some u =>
    rw [q2 u hF] at hv
    simp only [heldElem, Option.some.injEq, Prod.mk.injEq, DataW.held.injEq] at hv
    exact hv.1
  | none =>
    rw [hF] at q1
    rw [Maps.atKey_of_not_has q1] at hv
    simp only [heldElem, Option.some.injEq, Prod.mk.injEq, DataW.held.injEq] at hv
    exact hv.1

theorem KV.look {t e : TypeId} (h : KV k w mb n F) (ht : Try.prog.underlying t = some (.map k.ty e)) {z : Value} (hz : (zeroValue e).run Try.prog w = .ok z w) {a : α} (ha : k.ok a) :
    (Instr.lookup t (.map (some mb)) (k.val a) false).run Try.prog w = .ok ((F a).getD z) w := by
  obtain ⟨M, h1, h2⟩ := h.ex
  obtain ⟨v, ps, hrun, hv⟩ := h1.lookup k.keyed ht hz (R := heldElem) rfl (k.reads a ha)
  rw [hrun, KV.at h2 ha hv]

theorem KV.look_ok {t e : TypeId} (h : KV k w mb n F) (ht : Try.prog.underlying t = some (.map k.ty e)) {z : Value} (hz : (zeroValue e).run Try.prog w = .ok z w) {a : α} (ha : k.ok a) :
    (Instr.lookup t (.map (some mb)) (k.val a) true).run Try.prog w = .ok (.tuple #[(F a).getD z, .bool (F a).isSome]) w := by
  obtain ⟨M, h1, h2⟩ := h.ex
  obtain ⟨v, ps, hrun, hv⟩ := h1.look_ok k.keyed ht hz (R := heldElem) rfl (k.reads a ha)
  rw [hrun, KV.at h2 ha hv, (h2 a ha).1]

/-- One more. -/
def putF [DecidableEq α] (F : α → Option Value) (a : α) (v : Value) : α → Option Value := fun b => if b = a then some v else F b

theorem KV.put [DecidableEq α] {M : DataW Value} {w' : World} {n' : Nat} (hM : ∃ m, M = .map m) (h2 : ∀ a, k.ok a → Maps.has M (k.lit a) = (F a).isSome ∧ ∀ v, F a = some v → ∀ z, M.atKey (k.lit a) z = .held v) {a : α} (ha : k.ok a) {v : Value} (h : w'.ownsMap Try.prog k.ty heldElem mb n' (M.put (k.lit a) (.held v))) : KV k w' mb n' (putF F a v) := by
  refine ⟨_, h, fun b hb => ?_⟩
  unfold putF
  by_cases e : b = a
  · subst e
    rw [if_pos rfl]
    exact ⟨by rw [Maps.has_put_same hM (k.isKey _)]; rfl, fun u hu z => by cases hu; exact Maps.atKey_put_same hM (k.isKey _) _ _⟩
  · rw [if_neg e]
    have hne : k.lit b ≠ k.lit a := fun e' => e (k.lit_inj hb ha e')
    obtain ⟨q1, q2⟩ := h2 b hb
    exact ⟨by rw [Maps.has_put_other hne]; exact q1, fun u hu z => by rw [Maps.atKey_put_other hne]; exact q2 u hu z⟩

theorem KV.set [DecidableEq α] {t e : TypeId} (h : KV k w mb n F) (ht : Try.prog.underlying t = some (.map k.ty e)) (hn : n < 9223372036854775807) {a : α} (ha : k.ok a) (v : Value) :
    ∃ w', (Instr.mapUpdate t (.map (some mb)) (k.val a) v).run Try.prog w = .ok () w' ∧ KV k w' mb (n + 1) (putF F a v) ∧ Chg (· = mb) w w' ∧ w'.heap.size = w.heap.size := by
  obtain ⟨M, h1, h2⟩ := h.ex
  obtain ⟨es, clock, hb, Ft, hs, hM⟩ := h1
  obtain ⟨w', hrun, hown, hg⟩ := (show w.ownsMap Try.prog k.ty heldElem mb n M from ⟨es, clock, hb, Ft, hs, hM⟩).update k.keyed ht (by unfold maxLen; omega) (k.reads a ha) (val := v) (d := .held v) (ps := []) rfl
  obtain ⟨es', clock', hrun', _⟩ := Maps.fit_store (R' := heldElem) k.keyed ht hb Ft (Nat.lt_of_le_of_lt hs (by unfold maxLen; omega)) (fun _ _ _ _ hz => hz) (k.reads a ha) (val := v) (yv := (.held v, [])) rfl
  rw [hrun] at hrun'
  cases hrun'
  exact ⟨_, hrun, KV.put (Go.World.ownsMap.isMap ⟨es, clock, hb, Ft, hs, hM⟩) h2 ha hown, (Chg.refl (· = mb) w).grown hg (fun k hk _ => by simpa using hk.symm), by simp [setBlock]⟩

/-- The element at a key, which is then stored anew. -/
theorem KV.entry [DecidableEq α] {t e : TypeId} (h : KV k w mb n F) (K : KeyLaw Try.prog k.ty) (ht : Try.prog.underlying t = some (.map k.ty e)) {z : Value} (hz : ∀ u : World, (zeroValue e).run Try.prog u = .ok z u) (hn : n < 9223372036854775807) {a : α} (ha : k.ok a) :
    ∃ (st : Nat) (w1 : World), (Instr.mapEntry t (.map (some mb)) (k.val a)).run Try.prog w = .ok (.tuple #[(F a).getD z, goInt st]) w1 ∧ Chg (· = mb) w w1 ∧ w1.heap.size = w.heap.size ∧
      ∀ (w2 : World) (v : Value), w2.heap[mb]? = w1.heap[mb]? → ∃ w3, (Instr.entryStore t (.map (some mb)) (goInt st) v).run Try.prog w2 = .ok () w3 ∧ Chg (· = mb) w2 w3 ∧ w3.heap.size = w2.heap.size ∧ KV k w3 mb (n + 1) (putF F a v) := by
  obtain ⟨M, h1, h2⟩ := h.ex
  have h1' := h1
  obtain ⟨es, clock, hb, Ft, hs, hM⟩ := h1
  have hkey := k.reads a ha
  obtain ⟨v0, st, es1, clock1, hrun, hv0, hst⟩ := WideElems.entry_then_store (R := heldElem) K ht hz hb Ft hkey
  have hval : v0 = (F a).getD z := by
    obtain ⟨v, ps, hl, hv⟩ := h1'.lookup k.keyed ht (hz w) (R := heldElem) rfl hkey
    rw [← KV.at h2 ha hv]
    rcases Maps.fit_look false k.keyed ht (hz w) hb Ft hkey with ⟨hr, hno, _⟩ | ⟨e0, y, he0, hk0, hr, _⟩
    · rw [hl] at hr
      cases hr
      rcases hv0 with ⟨e1, h3, h4, _⟩ | ⟨_, h3⟩
      · exact absurd h4 (hno e1 h3)
      · exact h3
    · rw [hl] at hr
      cases hr
      rcases hv0 with ⟨e1, h3, h4, h5⟩ | ⟨h3, _⟩
      · rw [h5, entry_eq_of_key (List.pairwise_map.1 (List.nodup_iff_pairwise_ne.1 Ft.stamped.2.2)) h3 he0 (h4.trans hk0.symm)]
        rfl
      · exact absurd hk0 (h3 e0 he0)
  subst hval
  have hsb : ∀ (u : World) (o : Obj) (es0 : Array MapEntry) (c0 : Nat), u.heap[mb]? = some (.map es0 c0) → Chg (· = mb) u (setBlock u mb o) ∧ (setBlock u mb o).heap.size = u.heap.size ∧ (setBlock u mb o).heap[mb]? = some o := fun u o es0 c0 hu =>
    ⟨(Chg.refl (· = mb) u).grown (row := some mb) ⟨rfl, rfl, rfl, by simp [setBlock], fun i _ hi => heap_setBlock_other hu _ (fun e => hi (by rw [e]))⟩ (fun k hk _ => by simpa using hk.symm), by simp [setBlock], heap_setBlock_same hu _⟩
  obtain ⟨c1, s1, b1⟩ := hsb w (.map es1 clock1) _ _ hb
  refine ⟨st, _, hrun, c1, s1, fun w2 v hw2 => ?_⟩
  rw [b1] at hw2
  obtain ⟨es', clock', hr2, hr3⟩ := hst w2 v hw2
  obtain ⟨c2, s2, b2⟩ := hsb w2 (.map es' clock') _ _ hw2
  obtain ⟨w', hset, hkv, _⟩ := h.set ht hn ha v
  rw [hset] at hr3
  cases hr3
  exact ⟨_, hr2, c2, s2, hkv.blk (by rw [b2, (hsb w (.map es' clock') _ _ hb).2.2])⟩
end
end Go.Proofs.Ytjaplnainlbldaa
