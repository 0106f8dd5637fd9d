/- Texts that the proof leans on, in one: PmKeys, KvMap, PmMath. -/
import Derived.Test.YtcdjjengkdbngaaKc19
import Derived.Test.YtcdjjengkdbngaaKc8
import Derived.Test.YtcdjjengkdbngaaKc16
import Derived.DeepKeys4
import Derived.Test.YtcdjjengkdbngaaKc17
import Derived.Test.YtcdjjengkdbngaaKc10
import Derived.WideKeyEntry
import Derived.Test.YtcdjjengkdbngaaKc7
/- The keys of the model's maps: names, roles, credentials. -/
namespace Go.Proofs.Ytcdjjengkdbngaa
open Go.RowKit Go.Maps Go.ChangeMaps Go.WideMaps

theorem mStr (d : Nat) {s : List UInt8} (h : s.length ≤ 9223372036854775807) : Try.prog.keyLits (d + 1) 9 [.string ⟨s.toArray⟩] = some [.string s] := by
  have b1 : (ByteArray.mk s.toArray).size ≤ maxLen := by unfold maxLen; simpa [ByteArray.size] using h
  unfold Program.keyLits
  rw [Try.underlying9]
  simp [b1]

theorem mRoleN : Try.prog.cellsOf 30 = 2 := by kernel_rfl
theorem mCredN : Try.prog.cellsOf 32 = 9 := by kernel_rfl
theorem mStrN : Try.prog.cellsOf 9 = 1 := by kernel_rfl
theorem mKindN : Try.prog.cellsOf 3 = 1 := by kernel_rfl

theorem mRole (d : Nat) {a b : List UInt8} (ha : a.length ≤ 9223372036854775807) (hb : b.length ≤ 9223372036854775807) : Try.prog.keyLits (d + 1 + 1) 30 [.string ⟨a.toArray⟩, .string ⟨b.toArray⟩] = some [.string a, .string b] := by
  unfold Program.keyLits
  rw [Try.underlying30]
  simp [mRoleN, mStrN, mStr d ha, mStr d hb]

theorem mKind (d : Nat) {x : Int} (h : (Lit.int .i64 x).wf = true) : Try.prog.keyLits (d + 1) 3 [.int .i64 x] = some [.int .i64 x] := by
  unfold Program.keyLits
  rw [Try.underlying3]
  simp [h]

def roleLit (r : RoleB) : Lit := .string (keyBytes [.string r.1, .string r.2])
def credLit (c : CredB) : Lit := .string (keyBytes [.int .i64 c.kind, .string c.head.1, .string c.head.2, .string c.who, .string c.b.1, .string c.b.2, .string c.c.1, .string c.c.2, .string c.w2])

theorem roleReads {r : RoleB} (h : r.1.length ≤ 9223372036854775807 ∧ r.2.length ≤ 9223372036854775807) : Go.keyOf Try.prog 30 (.agg #[.string ⟨r.1.toArray⟩, .string ⟨r.2.toArray⟩]) = some (roleLit r) := by
  have h3 : 3 ≤ Try.prog.types.size := of_decide_eq_true (by kernel_rfl)
  obtain ⟨n, hn⟩ : ∃ n, Try.prog.types.size = n + 1 := ⟨Try.prog.types.size - 1, by omega⟩
  have h1 : Try.prog.keyType 30 = true := by kernel_rfl
  have h2 : (Value.agg #[.string ⟨r.1.toArray⟩, .string ⟨r.2.toArray⟩]).formed Try.prog 30 = true := by simp [Value.formed, Try.underlying30, mRoleN]
  unfold Go.keyOf
  rw [Try.underlying30]
  simp only [h1, h2, Bool.and_self, if_true, hn]
  have h4 := mRole n h.1 h.2
  show (Try.prog.keyLits (n + 1 + 1) 30 [.string ⟨r.1.toArray⟩, .string ⟨r.2.toArray⟩]).map _ = _
  rw [h4]
  rfl

theorem credReads {c : CredB} (h : credShort c 9223372036854775807) (hw : (Lit.int .i64 c.kind).wf = true) : Go.keyOf Try.prog 32 (credV c) = some (credLit c) := by
  obtain ⟨a1, a2, a3, a4, a5, a6, a7, a8⟩ := h
  have h3 : 3 ≤ Try.prog.types.size := of_decide_eq_true (by kernel_rfl)
  obtain ⟨n, hn⟩ : ∃ n, Try.prog.types.size = n + 1 + 1 := ⟨Try.prog.types.size - 2, by omega⟩
  have h1 : Try.prog.keyType 32 = true := by kernel_rfl
  have h2 : (credV c).formed Try.prog 32 = true := by unfold credV credBox; simp [Value.formed, Try.underlying32, mCredN]
  have h4 : Try.prog.keyLits (n + 1 + 1 + 1) 32 (credV c).cells.toList = some [.int .i64 c.kind, .string c.head.1, .string c.head.2, .string c.who, .string c.b.1, .string c.b.2, .string c.c.1, .string c.c.2, .string c.w2] := by
    unfold Program.keyLits
    rw [Try.underlying32]
    simp [credV, credBox, Value.cells, mCredN, mRoleN, mStrN, mKindN, mKind (n + 1) hw, mRole n a1 a2, mRole n a4 a5, mRole n a6 a7, mStr (n + 1) a3, mStr (n + 1) a8]
  unfold Go.keyOf
  rw [Try.underlying32]
  simp only [h1, h2, Bool.and_self, if_true, hn]
  rw [h4]
  rfl

theorem mRoleBelow : 30 < Try.prog.types.size := of_decide_eq_true (by kernel_rfl)
theorem mCredBelow : 32 < Try.prog.types.size := of_decide_eq_true (by kernel_rfl)
theorem mRoleKeyed : Keyed Try.prog 30 := Keyed.of_law (deep_law_laid Try.laidOut (m := 4) (by omega) mRoleBelow (by kernel_rfl) (by rw [Try.underlying30]))
theorem mCredKeyed : Keyed Try.prog 32 := Keyed.of_law (deep_law_laid Try.laidOut (m := 4) (by omega) mCredBelow (by kernel_rfl) (by rw [Try.underlying32]))

theorem kind_wf {c : CredB} (h : isCred c = true) : (Lit.int .i64 c.kind).wf = true := by
  rcases isCred_kind h with k | k | k | k <;> rw [k] <;> decide

/-- Names. -/
def ktS : KT (List UInt8) where
  ty := 9
  val s := .string ⟨s.toArray⟩
  lit s := .string s
  ok s := s.length ≤ 9223372036854775807
  keyed := string_keyed Try.underlying9
  isKey _ := trivial
  reads s hs := by
    have := keyOf_string_mk (P := Try.prog) (k := 9) Try.underlying9 (s := ⟨s.toArray⟩) (by unfold maxLen; simpa [ByteArray.size] using hs)
    simpa using this
  inj a b h := by simpa using h

/-- Roles. -/
def ktR : KT RoleB where
  ty := 30
  val r := .agg #[.string ⟨r.1.toArray⟩, .string ⟨r.2.toArray⟩]
  lit := roleLit
  ok r := r.1.length ≤ 9223372036854775807 ∧ r.2.length ≤ 9223372036854775807
  keyed := mRoleKeyed
  isKey _ := trivial
  reads _ h := roleReads h
  inj a b h := by
    obtain ⟨a1, a2⟩ := a
    obtain ⟨b1, b2⟩ := b
    simp at h
    obtain ⟨rfl, rfl⟩ := h
    rfl

/-- Right credentials. -/
def ktC : KT CredB where
  ty := 32
  val := credV
  lit := credLit
  ok c := isCred c = true
  keyed := mCredKeyed
  isKey _ := trivial
  reads c h := credReads (by obtain ⟨a1, a2, a3, a4, a5, a6, a7, a8⟩ := isCred_short h; exact ⟨by omega, by omega, by omega, by omega, by omega, by omega, by omega, by omega⟩) (kind_wf h)
  inj a b h := by
    obtain ⟨k, ⟨a1, a2⟩, a3, ⟨a4, a5⟩, ⟨a6, a7⟩, a8⟩ := a
    obtain ⟨k', ⟨b1, b2⟩, b3, ⟨b4, b5⟩, ⟨b6, b7⟩, b8⟩ := b
    simp [credV, credBox] at h
    obtain ⟨rfl, rfl, rfl, rfl, rfl, rfl, rfl, rfl, rfl⟩ := h
    rfl
end Go.Proofs.Ytcdjjengkdbngaa

/- Maps of the program's check, as they lie in memory: by what a look-up gives. -/
namespace Go.Proofs.Ytcdjjengkdbngaa
open Go.RowKit Go.Maps Go.ChangeMaps Go.WideMaps

/-- Facts. -/
def ktF : KT FactB where
  ty := 34
  val := factV
  lit := factLit
  ok f := factShort f 9223372036854775807
  keyed := factKeyed
  isKey _ := trivial
  reads _ h := factReads h
  inj a b h := by
    obtain ⟨⟨a1, a2⟩, a3⟩ := a
    obtain ⟨⟨b1, b2⟩, b3⟩ := b
    simp [factV, factBox] at h
    obtain ⟨rfl, rfl, rfl⟩ := h
    rfl

/-- Credentials as they stand. -/
def ktW : KT CredB where
  ty := 32
  val := credV
  lit := credLit
  ok c := credShort c 9223372036854775807 ∧ kindW c
  keyed := mCredKeyed
  isKey _ := trivial
  reads _ h := credReads h.1 h.2
  inj := ktC.inj

variable {α : Type}

/-- The map in the block mb has at most n entries; at a key a lies F a. -/
structure KV (k : KT α) (w : World) (mb n : Nat) (F : α → Option Value) : Prop where
  ex : ∃ M : DataW Value, w.ownsMap Try.prog k.ty heldElem mb n M ∧ ∀ a, k.ok a → Maps.has M (k.lit a) = (F a).isSome ∧ ∀ v, F a = some v → ∀ z, M.atKey (k.lit a) z = .held v

section
variable {k : KT α} {w : World} {mb n : Nat} {F : α → Option Value}

theorem owns_blk {R : Value → Option (DataW Value × List MemPlace)} {w' : World} {ty : TypeId} {M : DataW Value} (h : w.ownsMap Try.prog ty R mb n M) (hb : w'.heap[mb]? = w.heap[mb]?) : w'.ownsMap Try.prog ty R mb n M := by
  obtain ⟨es, clock, h0, r⟩ := h
  exact ⟨es, clock, hb.trans h0, r⟩
theorem KV.blk {w' : World} (h : KV k w mb n F) (hb : w'.heap[mb]? = w.heap[mb]?) : KV k w' mb n F := let ⟨M, h1, h2⟩ := h.ex; ⟨M, owns_blk h1 hb, h2⟩
theorem KV.keep {S : Nat → Prop} {w' : World} (h : KV k w mb n F) (hc : Chg S w w') (hs : ¬ S mb) : KV k w' mb n F := let ⟨M, h1, h2⟩ := h.ex; ⟨M, owns_keep h1 hc hs, h2⟩
theorem KV.lt (h : KV k w mb n F) : mb < w.heap.size := let ⟨_, h1, _⟩ := h.ex; h1.lt
theorem KV.le {n' : Nat} (h : KV k w mb n F) (hn : n ≤ n') : KV k w mb n' F := let ⟨M, h1, h2⟩ := h.ex; ⟨M, h1.mono hn, h2⟩
theorem KV.cong {F' : α → Option Value} (h : KV k w mb n F) (hf : ∀ a, k.ok a → F a = F' a) : KV k w mb n F' := let ⟨M, h1, h2⟩ := h.ex; ⟨M, h1, fun a ha => hf a ha ▸ h2 a ha⟩
theorem kv_made (k : KT α) (w : World) : KV k (w.alloc (.map #[] 0)) w.heap.size 0 (fun _ => none) :=
  ⟨_, World.ownsMap_made w _ _ _, fun _ _ => ⟨rfl, fun _ h => (by cases h)⟩⟩

theorem KV.at {M : DataW Value} (h2 : ∀ a, k.ok a → Maps.has M (k.lit a) = (F a).isSome ∧ ∀ v, F a = some v → ∀ z, M.atKey (k.lit a) z = .held v) {a : α} (ha : k.ok a) {z v : Value} {ps : List MemPlace} (hv : heldElem v = some (M.atKey (k.lit a) (.held z), ps)) : v = (F a).getD z := by
  obtain ⟨q1, q2⟩ := h2 a ha
  cases hF : F a with
  | some u =>
    rw [q2 u hF] at hv
    simp only [heldElem, Option.some.injEq, Prod.mk.injEq, DataW.held.injEq] at hv
    exact hv.1
  | none =>
    rw [hF] at q1
    rw [Maps.atKey_of_not_has q1] at hv
    simp only [heldElem, Option.some.injEq, Prod.mk.injEq, DataW.held.injEq] at hv
    exact hv.1

theorem KV.look {t e : TypeId} (h : KV k w mb n F) (ht : Try.prog.underlying t = some (.map k.ty e)) {z : Value} (hz : (zeroValue e).run Try.prog w = .ok z w) {a : α} (ha : k.ok a) :
    (Instr.lookup t (.map (some mb)) (k.val a) false).run Try.prog w = .ok ((F a).getD z) w := by
  obtain ⟨M, h1, h2⟩ := h.ex
  obtain ⟨v, ps, hrun, hv⟩ := h1.lookup k.keyed ht hz (R := heldElem) rfl (k.reads a ha)
  rw [hrun, KV.at h2 ha hv]

theorem KV.look_ok {t e : TypeId} (h : KV k w mb n F) (ht : Try.prog.underlying t = some (.map k.ty e)) {z : Value} (hz : (zeroValue e).run Try.prog w = .ok z w) {a : α} (ha : k.ok a) :
    (Instr.lookup t (.map (some mb)) (k.val a) true).run Try.prog w = .ok (.tuple #[(F a).getD z, .bool (F a).isSome]) w := by
  obtain ⟨M, h1, h2⟩ := h.ex
  obtain ⟨v, ps, hrun, hv⟩ := h1.look_ok k.keyed ht hz (R := heldElem) rfl (k.reads a ha)
  rw [hrun, KV.at h2 ha hv, (h2 a ha).1]

/-- One more. -/
def putF [DecidableEq α] (F : α → Option Value) (a : α) (v : Value) : α → Option Value := fun b => if b = a then some v else F b

theorem KV.put [DecidableEq α] {M : DataW Value} {w' : World} {n' : Nat} (hM : ∃ m, M = .map m) (h2 : ∀ a, k.ok a → Maps.has M (k.lit a) = (F a).isSome ∧ ∀ v, F a = some v → ∀ z, M.atKey (k.lit a) z = .held v) {a : α} (ha : k.ok a) {v : Value} (h : w'.ownsMap Try.prog k.ty heldElem mb n' (M.put (k.lit a) (.held v))) : KV k w' mb n' (putF F a v) := by
  refine ⟨_, h, fun b hb => ?_⟩
  unfold putF
  by_cases e : b = a
  · subst e
    rw [if_pos rfl]
    exact ⟨by rw [Maps.has_put_same hM (k.isKey _)]; rfl, fun u hu z => by cases hu; exact Maps.atKey_put_same hM (k.isKey _) _ _⟩
  · rw [if_neg e]
    have hne : k.lit b ≠ k.lit a := fun e' => e (k.lit_inj hb ha e')
    obtain ⟨q1, q2⟩ := h2 b hb
    exact ⟨by rw [Maps.has_put_other hne]; exact q1, fun u hu z => by rw [Maps.atKey_put_other hne]; exact q2 u hu z⟩

theorem KV.set [DecidableEq α] {t e : TypeId} (h : KV k w mb n F) (ht : Try.prog.underlying t = some (.map k.ty e)) (hn : n < 9223372036854775807) {a : α} (ha : k.ok a) (v : Value) :
    ∃ w', (Instr.mapUpdate t (.map (some mb)) (k.val a) v).run Try.prog w = .ok () w' ∧ KV k w' mb (n + 1) (putF F a v) ∧ Chg (· = mb) w w' ∧ w'.heap.size = w.heap.size := by
  obtain ⟨M, h1, h2⟩ := h.ex
  obtain ⟨es, clock, hb, Ft, hs, hM⟩ := h1
  obtain ⟨w', hrun, hown, hg⟩ := (show w.ownsMap Try.prog k.ty heldElem mb n M from ⟨es, clock, hb, Ft, hs, hM⟩).update k.keyed ht (by unfold maxLen; omega) (k.reads a ha) (val := v) (d := .held v) (ps := []) rfl
  obtain ⟨es', clock', hrun', _⟩ := Maps.fit_store (R' := heldElem) k.keyed ht hb Ft (Nat.lt_of_le_of_lt hs (by unfold maxLen; omega)) (fun _ _ _ _ hz => hz) (k.reads a ha) (val := v) (yv := (.held v, [])) rfl
  rw [hrun] at hrun'
  cases hrun'
  exact ⟨_, hrun, KV.put (Go.World.ownsMap.isMap ⟨es, clock, hb, Ft, hs, hM⟩) h2 ha hown, (Chg.refl (· = mb) w).grown hg (fun k hk _ => by simpa using hk.symm), by simp [setBlock]⟩

/-- The element at a key, which is then stored anew. -/
theorem KV.entry [DecidableEq α] {t e : TypeId} (h : KV k w mb n F) (K : KeyLaw Try.prog k.ty) (ht : Try.prog.underlying t = some (.map k.ty e)) {z : Value} (hz : ∀ u : World, (zeroValue e).run Try.prog u = .ok z u) (hn : n < 9223372036854775807) {a : α} (ha : k.ok a) :
    ∃ (st : Nat) (w1 : World), (Instr.mapEntry t (.map (some mb)) (k.val a)).run Try.prog w = .ok (.tuple #[(F a).getD z, goInt st]) w1 ∧ Chg (· = mb) w w1 ∧ w1.heap.size = w.heap.size ∧
      ∀ (w2 : World) (v : Value), w2.heap[mb]? = w1.heap[mb]? → ∃ w3, (Instr.entryStore t (.map (some mb)) (goInt st) v).run Try.prog w2 = .ok () w3 ∧ Chg (· = mb) w2 w3 ∧ w3.heap.size = w2.heap.size ∧ KV k w3 mb (n + 1) (putF F a v) := by
  obtain ⟨M, h1, h2⟩ := h.ex
  have h1' := h1
  obtain ⟨es, clock, hb, Ft, hs, hM⟩ := h1
  have hkey := k.reads a ha
  obtain ⟨v0, st, es1, clock1, hrun, hv0, hst⟩ := WideElems.entry_then_store (R := heldElem) K ht hz hb Ft hkey
  have hval : v0 = (F a).getD z := by
    obtain ⟨v, ps, hl, hv⟩ := h1'.lookup k.keyed ht (hz w) (R := heldElem) rfl hkey
    rw [← KV.at h2 ha hv]
    rcases Maps.fit_look false k.keyed ht (hz w) hb Ft hkey with ⟨hr, hno, _⟩ | ⟨e0, y, he0, hk0, hr, _⟩
    · rw [hl] at hr
      cases hr
      rcases hv0 with ⟨e1, h3, h4, _⟩ | ⟨_, h3⟩
      · exact absurd h4 (hno e1 h3)
      · exact h3
    · rw [hl] at hr
      cases hr
      rcases hv0 with ⟨e1, h3, h4, h5⟩ | ⟨h3, _⟩
      · rw [h5, entry_eq_of_key (List.pairwise_map.1 (List.nodup_iff_pairwise_ne.1 Ft.stamped.2.2)) h3 he0 (h4.trans hk0.symm)]
        rfl
      · exact absurd hk0 (h3 e0 he0)
  subst hval
  have hsb : ∀ (u : World) (o : Obj) (es0 : Array MapEntry) (c0 : Nat), u.heap[mb]? = some (.map es0 c0) → Chg (· = mb) u (setBlock u mb o) ∧ (setBlock u mb o).heap.size = u.heap.size ∧ (setBlock u mb o).heap[mb]? = some o := fun u o es0 c0 hu =>
    ⟨(Chg.refl (· = mb) u).grown (row := some mb) ⟨rfl, rfl, rfl, by simp [setBlock], fun i _ hi => heap_setBlock_other hu _ (fun e => hi (by rw [e]))⟩ (fun k hk _ => by simpa using hk.symm), by simp [setBlock], heap_setBlock_same hu _⟩
  obtain ⟨c1, s1, b1⟩ := hsb w (.map es1 clock1) _ _ hb
  refine ⟨st, _, hrun, c1, s1, fun w2 v hw2 => ?_⟩
  rw [b1] at hw2
  obtain ⟨es', clock', hr2, hr3⟩ := hst w2 v hw2
  obtain ⟨c2, s2, b2⟩ := hsb w2 (.map es' clock') _ _ hw2
  obtain ⟨w', hset, hkv, _⟩ := h.set ht hn ha v
  rw [hset] at hr3
  cases hr3
  exact ⟨_, hr2, c2, s2, hkv.blk (by rw [b2, (hsb w (.map es' clock') _ _ hb).2.2])⟩
end
end Go.Proofs.Ytcdjjengkdbngaa

/- How the program's model grows: plain words, nothing of the program's text. -/
namespace Go.Proofs.Ytcdjjengkdbngaa
open Go.RowKit

/-- What a credential brings, if A says which facts are there. -/
def Brings (c : CredB) (A : FactB → Prop) (f : FactB) : Prop :=
  f.1 = c.head ∧ ((c.kind = 1 ∧ f.2 = c.who) ∨ (c.kind = 2 ∧ A (c.b, f.2)) ∨ (c.kind = 3 ∧ ∃ b, A (c.b, b) ∧ A ((b, c.w2), f.2)) ∨ (c.kind = 4 ∧ A (c.b, f.2) ∧ A (c.c, f.2)))

theorem Brings.mono {c : CredB} {A B : FactB → Prop} (h : ∀ f, A f → B f) {f : FactB} (hb : Brings c A f) : Brings c B f := by
  obtain ⟨h1, h2⟩ := hb
  refine ⟨h1, ?_⟩
  rcases h2 with ⟨k, h2⟩ | ⟨k, h2⟩ | ⟨k, b, h2, h3⟩ | ⟨k, h2, h3⟩
  · exact .inl ⟨k, h2⟩
  · exact .inr (.inl ⟨k, h _ h2⟩)
  · exact .inr (.inr (.inl ⟨k, b, h _ h2, h _ h3⟩))
  · exact .inr (.inr (.inr ⟨k, h _ h2, h _ h3⟩))

theorem Brings.der {ls : List CredB} {c : CredB} {A : FactB → Prop} (hc : c ∈ ls) (hr : isCred c = true) (hA : ∀ f, A f → Der ls f) {f : FactB} (hb : Brings c A f) : Der ls f := by
  obtain ⟨r, s⟩ := f
  obtain ⟨h1, h2⟩ := hb
  simp only at h1 h2
  subst h1
  rcases h2 with ⟨k, rfl⟩ | ⟨k, h2⟩ | ⟨k, b, h2, h3⟩ | ⟨k, h2, h3⟩
  · exact .mem hc hr k
  · exact .inc hc hr k (hA _ h2)
  · exact .link hc hr k (hA _ h2) (hA _ h3)
  · exact .both hc hr k (hA _ h2) (hA _ h3)

theorem brings_all {ls : List CredB} {A : FactB → Prop} (h : ∀ c ∈ ls, isCred c = true → ∀ f, Brings c A f → A f) {f : FactB} (hd : Der ls f) : A f := by
  induction hd with
  | mem hc hr k => exact h _ hc hr _ ⟨rfl, .inl ⟨k, rfl⟩⟩
  | inc hc hr k _ ih => exact h _ hc hr _ ⟨rfl, .inr (.inl ⟨k, ih⟩)⟩
  | link hc hr k _ _ ih1 ih2 => exact h _ hc hr _ ⟨rfl, .inr (.inr (.inl ⟨k, _, ih1, ih2⟩))⟩
  | both hc hr k _ _ ih1 ih2 => exact h _ hc hr _ ⟨rfl, .inr (.inr (.inr ⟨k, ih1, ih2⟩))⟩

/-- What one step brings because w is in a role that c leans on. -/
def StepOf (F : List FactB) (c : CredB) (w : List UInt8) (g : FactB) : Prop :=
  g.1 = c.head ∧ ((c.kind = 2 ∧ g.2 = w) ∨ (c.kind = 3 ∧ ((w, c.w2), g.2) ∈ F) ∨ (c.kind = 4 ∧ g.2 = w ∧ (c.b, w) ∈ F ∧ (c.c, w) ∈ F))

theorem StepOf.brings {F : List FactB} {c : CredB} {w : List UInt8} {g : FactB} (h : StepOf F c w g) (hb : c.kind ≠ 4 → (c.b, w) ∈ F) : Brings c (· ∈ F) g := by
  obtain ⟨h1, h2⟩ := h
  refine ⟨h1, ?_⟩
  rcases h2 with ⟨k, h2⟩ | ⟨k, h2⟩ | ⟨k, h2, h3, h4⟩
  · exact .inr (.inl ⟨k, by rw [h2]; exact hb (by omega)⟩)
  · exact .inr (.inr (.inl ⟨k, w, hb (by omega), h2⟩))
  · exact .inr (.inr (.inr ⟨k, by rw [h2]; exact h3, by rw [h2]; exact h4⟩))

/-- The credentials by the roles that they lean on. -/
def leanR (T : List CredB) (r : RoleB) (c : CredB) : Prop := c ∈ T ∧ isCred c = true ∧ c.kind ≠ 1 ∧ (c.b = r ∨ (c.kind = 4 ∧ c.c = r))
def linkR (T : List CredB) (v : List UInt8) (c : CredB) : Prop := c ∈ T ∧ isCred c = true ∧ c.kind = 3 ∧ c.w2 = v

/-- What is there when c has been taken. -/
def TakenF (F F' : List FactB) (c : CredB) : Prop := ∀ g, Brings c (· ∈ F) g → g ∈ F'

/-- What the steps of c through all members of its role bring. -/
theorem taken_of_steps {F F' : List FactB} {c : CredB} (_ : isCred c = true) (hk : c.kind ≠ 1) (h : ∀ w, (c.b, w) ∈ F → ∀ g, StepOf F c w g → g ∈ F') : TakenF F F' c := fun g hb => by
  obtain ⟨h1, h2⟩ := hb
  rcases h2 with ⟨k, h2⟩ | ⟨k, h2⟩ | ⟨k, b, h2, h3⟩ | ⟨k, h2, h3⟩
  · exact absurd k hk
  · exact h _ h2 g ⟨h1, .inl ⟨k, rfl⟩⟩
  · exact h _ h2 g ⟨h1, .inr (.inl ⟨k, h3⟩)⟩
  · exact h _ h2 g ⟨h1, .inr (.inr ⟨k, rfl, h2, h3⟩)⟩

/-- What is there when f has been followed. -/
def FollowedF (T : List CredB) (F F' : List FactB) (f : FactB) : Prop :=
  ∀ c ∈ T, isCred c = true → ∀ P : FactB → Prop, (∀ x, P x → x ∈ F) → ∀ g, Brings c (fun x => P x ∨ x = f) g → Brings c P g ∨ g ∈ F'

theorem followed_of_steps {T : List CredB} {F F' : List FactB} {f : FactB} (hf : f ∈ F) (h1 : ∀ c, leanR T f.1 c → ∀ g, StepOf F c f.2 g → g ∈ F') (h2 : ∀ c, linkR T f.1.2 c → (c.b, f.1.1) ∈ F → (c.head, f.2) ∈ F') : FollowedF T F F' f := by
  intro c hc hr P hP g hb
  obtain ⟨⟨o, v⟩, s⟩ := f
  obtain ⟨g1, g2⟩ := g
  obtain ⟨e1, hb⟩ := hb
  simp only at e1 hb h1 h2
  subst e1
  rcases hb with ⟨k, hb⟩ | ⟨k, hb⟩ | ⟨k, b, hb, hb2⟩ | ⟨k, hb, hb2⟩
  · exact .inl ⟨rfl, .inl ⟨k, hb⟩⟩
  · rcases hb with hb | hb
    · exact .inl ⟨rfl, .inr (.inl ⟨k, hb⟩)⟩
    · simp only [Prod.mk.injEq] at hb
      exact .inr (h1 c ⟨hc, hr, by omega, .inl hb.1⟩ _ ⟨rfl, .inl ⟨k, hb.2⟩⟩)
  · have hb2F : ((b, c.w2), g2) ∈ F := by
      rcases hb2 with hb2 | hb2
      · exact hP _ hb2
      · rw [hb2]; exact hf
    rcases hb with hb | hb
    · rcases hb2 with hb2 | hb2
      · exact .inl ⟨rfl, .inr (.inr (.inl ⟨k, b, hb, hb2⟩))⟩
      · simp only [Prod.mk.injEq] at hb2
        obtain ⟨⟨rfl, rfl⟩, rfl⟩ := hb2
        exact .inr (h2 c ⟨hc, hr, k, rfl⟩ (hP _ hb))
    · simp only [Prod.mk.injEq] at hb
      obtain ⟨hb, rfl⟩ := hb
      exact .inr (h1 c ⟨hc, hr, by omega, .inl hb⟩ _ ⟨rfl, .inr (.inl ⟨k, hb2F⟩)⟩)
  · have hbF : (c.b, g2) ∈ F := by
      rcases hb with hb | hb
      · exact hP _ hb
      · rw [hb]; exact hf
    have hb2F : (c.c, g2) ∈ F := by
      rcases hb2 with hb2 | hb2
      · exact hP _ hb2
      · rw [hb2]; exact hf
    rcases hb with hb | hb
    · rcases hb2 with hb2 | hb2
      · exact .inl ⟨rfl, .inr (.inr (.inr ⟨k, hb, hb2⟩))⟩
      · simp only [Prod.mk.injEq] at hb2
        obtain ⟨hb2, rfl⟩ := hb2
        exact .inr (h1 c ⟨hc, hr, by omega, .inr ⟨k, hb2⟩⟩ _ ⟨rfl, .inr (.inr ⟨k, rfl, hbF, hb2F⟩)⟩)
    · simp only [Prod.mk.injEq] at hb
      obtain ⟨hb, rfl⟩ := hb
      exact .inr (h1 c ⟨hc, hr, by omega, .inl hb⟩ _ ⟨rfl, .inr (.inr ⟨k, rfl, hbF, hb2F⟩)⟩)

/-- Between two of Add's calls: F are the facts that are there, P those that need not be followed any more, T the credentials that have been taken. -/
structure AddI (ls T : List CredB) (F P : List FactB) : Prop where
  nd : F.Nodup
  der : ∀ f ∈ F, Der ls f
  sub : ∀ f ∈ P, f ∈ F
  step : ∀ c ∈ T, isCred c = true → ∀ g, Brings c (· ∈ P) g → g ∈ F

theorem AddI.take {ls T : List CredB} {F P F' : List FactB} (h : AddI ls T F P) {c : CredB} (hnd : F'.Nodup) (hd : ∀ f ∈ F', Der ls f) (hsub : ∀ f ∈ F, f ∈ F') (hT : c ∉ T → TakenF F F' c) : AddI ls (T ++ [c]) F' P :=
  ⟨hnd, hd, fun f hf => hsub f (h.sub f hf), fun d hdm hr g hg => by
    by_cases e : d ∈ T
    · exact hsub g (h.step d e hr g hg)
    · rcases List.mem_append.1 hdm with h' | h'
      · exact absurd h' e
      · rw [List.mem_singleton] at h'
        subst h'
        exact hT e g (hg.mono (fun f hf => h.sub f hf))⟩

theorem AddI.follow {ls T : List CredB} {F P F' : List FactB} (h : AddI ls T F P) {f : FactB} (hf : f ∈ F) (hnd : F'.Nodup) (hd : ∀ f ∈ F', Der ls f) (hsub : ∀ f ∈ F, f ∈ F') (hF : FollowedF T F F' f) : AddI ls T F' (P ++ [f]) :=
  ⟨hnd, hd, fun x hx => by
    rcases List.mem_append.1 hx with hx | hx
    · exact hsub x (h.sub x hx)
    · rw [List.mem_singleton] at hx; subst hx; exact hsub _ hf, fun c hc hr g hg => by
    rcases hF c hc hr (· ∈ P) (fun x hx => h.sub x hx) g (hg.mono (fun x hx => by simpa using hx)) with h1 | h1
    · exact hsub g (h.step c hc hr g h1)
    · exact h1⟩

theorem AddI.done {ls T : List CredB} {F P : List FactB} (h : AddI ls T F P) (hP : ∀ f ∈ F, f ∈ P) (hT : ∀ c ∈ ls, isCred c = true → c ∈ T) : ∀ f, f ∈ F ↔ Der ls f := fun f =>
  ⟨h.der f, fun hd => brings_all (A := (· ∈ F)) (fun c hc hr g hg => h.step c (hT c hc hr) hr g (hg.mono (fun x hx => hP x hx))) hd⟩

theorem der_few {ls : List CredB} {F : List FactB} (hnd : F.Nodup) (hd : ∀ f ∈ F, Der ls f) (hl : ls.length ≤ 1000) : F.length ≤ 4000000 := by
  have := facts_le (rs := ls.map (·.head)) (ns := whosOf ls) hnd (fun f hf => by
    refine ⟨?_, ?_⟩
    · obtain ⟨c, hc, _, e⟩ := (hd f hf).head
      exact List.mem_map.2 ⟨c, hc, e⟩
    · obtain ⟨c, hc, hr, hk, e⟩ := (hd f hf).who
      rw [← e]
      exact whosOf_who hc)
  rw [List.length_map, whosOf_len] at this
  exact Nat.le_trans this (Nat.le_trans (Nat.mul_le_mul hl (Nat.mul_le_mul_right 4 hl)) (by decide))

theorem der_short {ls : List CredB} {f : FactB} (hd : Der ls f) : f.1.1.length ≤ 16 ∧ f.1.2.length ≤ 16 ∧ f.2.length ≤ 16 := by
  obtain ⟨c, _, hr, e⟩ := hd.head
  obtain ⟨c2, _, hr2, hk2, e2⟩ := hd.who
  have h1 := isCred_short hr
  refine ⟨?_, ?_, ?_⟩
  · rw [← e]; exact h1.1
  · rw [← e]; exact h1.2.1
  · rw [← e2]; exact (isCred_short hr2).2.2.1
end Go.Proofs.Ytcdjjengkdbngaa
