/- Texts that the proof leans on, in one: RoleOwn, CredOwn, KeyCells, PkMap. -/
import Derived.Test.YtjflmhncgkbdmaaKm6
import Derived.Test.YtjflmhncgkbdmaaKm2
import Derived.Maps.AppendAt
import Derived.Maps.OwnSet
import Derived.Sort.KeysCollected
/- Lists of roles of the call's own. -/
namespace Go.Proofs.Ytjflmhncgkbdmaa
open Go.RowKit

theorem Try.info24 : (Try.prog.info? 24).map (fun i => (i.zero, i.size, i.bytes)) = some (some (.agg #[.string ⟨#[]⟩, .string ⟨#[]⟩]), 2, 32) := by kernel_rfl

theorem ownsRow_keep {S : Nat → Prop} {B E n s : Nat} {w w' : World} {v : Value} {xs : List Value} (h : w.ownsRow B E s v n xs) (hc : Chg S w w') (hr : ∀ k, v.ownBlock = some k → ¬ S k) : w'.ownsRow B E s v n xs := by
  refine ⟨h.1, ?_⟩
  rcases h.2 with hn | ⟨g, cap, cur, hv, hg, hh, r⟩
  · exact .inl hn
  · exact .inr ⟨g, cap, cur, hv, hg, blk_keep hh hc (hr g (by rw [hv]; rfl)), r⟩

theorem ownsRow_lt {B E n s : Nat} {w : World} {v : Value} {xs : List Value} (h : w.ownsRow B E s v n xs) (k : Nat) (hk : v.ownBlock = some k) : B ≤ k ∧ k < w.heap.size := by
  rcases h.2 with ⟨hn, _⟩ | ⟨g, cap, cur, hv, hg, hh, r⟩
  · rw [hn] at hk; cases hk
  · rw [hv] at hk; cases hk; exact ⟨hg, lt_blk hh⟩

def roleRow (ls : List RoleB) : List Value := ls.flatMap roleCells

theorem roleRow_length (ls : List RoleB) : (roleRow ls).length = ls.length * 2 := by
  induction ls with
  | nil => rfl
  | cons x l ih => simp only [roleRow, List.flatMap_cons, List.length_append, List.length_cons] at ih ⊢; rw [ih]; simp [roleCells]; omega

theorem roleRow_get : ∀ (ls : List RoleB) (i : Nat) (h : i < ls.length), (roleRow ls)[i * 2]? = some (.string ⟨ls[i].1.toArray⟩) ∧ (roleRow ls)[i * 2 + 1]? = some (.string ⟨ls[i].2.toArray⟩)
  | x :: l, 0, _ => ⟨rfl, rfl⟩
  | x :: l, i + 1, h => by
    have := roleRow_get l i (by simpa using h)
    have e : roleRow (x :: l) = .string ⟨x.1.toArray⟩ :: .string ⟨x.2.toArray⟩ :: roleRow l := rfl
    rw [e, show (i + 1) * 2 = i * 2 + 1 + 1 by omega]
    exact this

theorem roleRow_snoc (ls : List RoleB) (x : RoleB) : roleRow (ls ++ [x]) = roleRow ls ++ roleCells x := by
  simp [roleRow]

/-- A list of roles of the call's own. -/
def OwnR (B : Nat) (w : World) (v : Value) (ls : List RoleB) : Prop := w.ownsRow B 24 2 v ls.length (roleRow ls)

theorem OwnR.roles {B : Nat} {w : World} {v : Value} {ls : List RoleB} (h : OwnR B w v ls) (hb : ∀ x ∈ ls, x.1.length ≤ 9223372036854775807 ∧ x.2.length ≤ 9223372036854775807) :
    ∃ ao cap, v = .slice ao ls.length cap ∧ RolesAt (fun k => B ≤ k ∧ k < w.heap.size) w ao ls ∧ (ao = none → cap = 0) := by
  rcases h.2 with ⟨rfl, h0⟩ | ⟨g, cap, cur, rfl, hg, hh, h1, h2, h3, h4⟩
  · have : ls = [] := List.eq_nil_of_length_eq_zero h0
    subst this
    exact ⟨none, 0, rfl, RolesAt.nil _ _ _, fun _ => rfl⟩
  · refine ⟨_, _, rfl, fun i hi => ⟨g, 0, rfl, ⟨hg, lt_blk hh⟩, ?_, ?_, hb _ (List.getElem_mem hi)⟩, fun e => by cases e⟩
    · have := h.cells (g := g) rfl (i * 2) _ (roleRow_get ls i hi).1
      rw [add_off] at this
      exact this
    · have := h.cells (g := g) rfl (i * 2 + 1) _ (roleRow_get ls i hi).2
      rw [add_off] at this
      exact this

theorem OwnR.shape {B : Nat} {w : World} {v : Value} {ls : List RoleB} (h : OwnR B w v ls) : ∃ ao cap, v = .slice ao ls.length cap := by
  rcases h.2 with ⟨rfl, h0⟩ | ⟨g, cap, cur, rfl, _⟩
  · exact ⟨none, 0, by rw [h0]⟩
  · exact ⟨_, _, rfl⟩

theorem OwnR.keep {S : Nat → Prop} {B : Nat} {w w' : World} {v : Value} {ls : List RoleB} (h : OwnR B w v ls) (hc : Chg S w w') (hr : ∀ k, v.ownBlock = some k → ¬ S k) : OwnR B w' v ls := ownsRow_keep h hc hr

theorem role_cells_new (w : World) (x : RoleB) (j : Nat) (u : Value) (h : (roleCells x)[j]? = some u) : (w.alloc (.cells #[.string ⟨x.1.toArray⟩, .string ⟨x.2.toArray⟩] 24)).cell? ((⟨w.heap.size, 0, none⟩ : Addr).add j) = some u := by
  rw [add_off, cell_blk (heap_alloc_new w _), Nat.zero_add]
  match j, h with
  | 0, h => exact h
  | 1, h => exact h

/-- What Set leaves: the set, in new memory. -/
def SetPostR (ls : List RoleB) (w : World) (e : Ending) (w' : World) : Prop :=
  ∃ out ao cap, e = .returned (.slice ao out.length cap) ∧ SetR ls out ∧ RolesAt (fun k => w.heap.size ≤ k ∧ k < w'.heap.size) w' ao out ∧ Chg (fun _ => False) w w' ∧ (ao = none → cap = 0)

def lenOfV : Value → Nat
  | .slice _ n _ => n
  | _ => 0

theorem roles_lit (ls : List RoleB) (w : World) (f : Nat × Nat) (hb : ∀ x ∈ ls, x.1.length ≤ 9223372036854775807 ∧ x.2.length ≤ 9223372036854775807) :
    RolesAt (fun k => k = w.heap.size) (w.alloc (.cells (roleRow ls).toArray 24 f)) (some ⟨w.heap.size, 0, none⟩) ls := fun i hi =>
  ⟨w.heap.size, 0, rfl, rfl, by rw [cell_blk (heap_alloc_new w _), Nat.zero_add, List.getElem?_toArray]; exact (roleRow_get ls i hi).1, by rw [cell_blk (heap_alloc_new w _), Nat.zero_add, List.getElem?_toArray]; exact (roleRow_get ls i hi).2, hb _ (List.getElem_mem hi)⟩
end Go.Proofs.Ytjflmhncgkbdmaa

/- Lists of credentials of the call's own. -/
namespace Go.Proofs.Ytjflmhncgkbdmaa
open Go.RowKit

theorem Try.info26 : (Try.prog.info? 26).map (fun i => (i.zero, i.size, i.bytes)) = some (some (.agg #[.int .i64 0, .string ⟨#[]⟩, .string ⟨#[]⟩, .string ⟨#[]⟩, .string ⟨#[]⟩, .string ⟨#[]⟩, .string ⟨#[]⟩, .string ⟨#[]⟩, .string ⟨#[]⟩]), 9, 136) := by kernel_rfl

def credRow (ls : List CredB) : List Value := ls.flatMap credCells

theorem credRow_length (ls : List CredB) : (credRow ls).length = ls.length * 9 := by
  induction ls with
  | nil => rfl
  | cons x l ih => simp only [credRow, List.flatMap_cons, List.length_append, List.length_cons] at ih ⊢; rw [ih]; simp [credCells]; omega

theorem credRow_get : ∀ (ls : List CredB) (i j : Nat) (h : i < ls.length) (_ : j < 9), (credRow ls)[i * 9 + j]? = (credCells ls[i])[j]?
  | x :: l, 0, j, _, hj => by
    rw [show 0 * 9 + j = j by omega, credRow, List.flatMap_cons, List.getElem?_append_left (by simpa [credCells] using hj)]
    rfl
  | x :: l, i + 1, j, h, hj => by
    have := credRow_get l i j (by simpa using h) hj
    rw [credRow, List.flatMap_cons, List.getElem?_append_right (by simp [credCells]; omega)]
    rw [show (i + 1) * 9 + j - (credCells x).length = i * 9 + j by simp [credCells]; omega]
    exact this

theorem credRow_snoc (ls : List CredB) (x : CredB) : credRow (ls ++ [x]) = credRow ls ++ credCells x := by
  simp [credRow]

/-- A list of credentials of the call's own. -/
def OwnC (B : Nat) (w : World) (v : Value) (ls : List CredB) : Prop := w.ownsRow B 26 9 v ls.length (credRow ls)

theorem cred_at_cells {w : World} {g o : Nat} {c : CredB} (h : ∀ j, j < 9 → w.cell? ⟨g, o + j, none⟩ = (credCells c)[j]?) : CredAt w g o c :=
  ⟨h 0 (by omega), h 1 (by omega), h 2 (by omega), h 3 (by omega), h 4 (by omega), h 5 (by omega), h 6 (by omega), h 7 (by omega), h 8 (by omega)⟩

theorem OwnC.creds {B : Nat} {w : World} {v : Value} {ls : List CredB} (h : OwnC B w v ls) (hb : ∀ x ∈ ls, credShort x 9223372036854775807) :
    ∃ ao cap, v = .slice ao ls.length cap ∧ CredsAt (fun k => B ≤ k ∧ k < w.heap.size) w ao ls ∧ (ao = none → cap = 0) := by
  rcases h.2 with ⟨rfl, h0⟩ | ⟨g, cap, cur, rfl, hg, hh, h1, h2, h3, h4⟩
  · have : ls = [] := List.eq_nil_of_length_eq_zero h0
    subst this
    exact ⟨none, 0, rfl, CredsAt.nil _ _ _, fun _ => rfl⟩
  · refine ⟨_, _, rfl, fun i hi => ⟨g, 0, rfl, ⟨hg, lt_blk hh⟩, cred_at_cells fun j hj => ?_, hb _ (List.getElem_mem hi)⟩, fun e => by cases e⟩
    have hs : j < (credCells ls[i]).length := by simpa [credCells] using hj
    have hget := credRow_get ls i j hi hj
    rw [List.getElem?_eq_getElem hs] at hget ⊢
    have := h.cells (g := g) rfl (i * 9 + j) _ hget
    rw [add_off] at this
    rw [Nat.zero_add] at this ⊢
    exact this

theorem OwnC.shape {B : Nat} {w : World} {v : Value} {ls : List CredB} (h : OwnC B w v ls) : ∃ ao cap, v = .slice ao ls.length cap := by
  rcases h.2 with ⟨rfl, h0⟩ | ⟨g, cap, cur, rfl, _⟩
  · exact ⟨none, 0, by rw [h0]⟩
  · exact ⟨_, _, rfl⟩

theorem OwnC.keep {S : Nat → Prop} {B : Nat} {w w' : World} {v : Value} {ls : List CredB} (h : OwnC B w v ls) (hc : Chg S w w') (hr : ∀ k, v.ownBlock = some k → ¬ S k) : OwnC B w' v ls := ownsRow_keep h hc hr

theorem cred_cells_new (w : World) (x : CredB) (j : Nat) (u : Value) (h : (credCells x)[j]? = some u) : (w.alloc (.cells (credBox x) 26)).cell? ((⟨w.heap.size, 0, none⟩ : Addr).add j) = some u := by
  rw [add_off, cell_blk (heap_alloc_new w _), Nat.zero_add, show credBox x = (credCells x).toArray from rfl, List.getElem?_toArray]
  exact h

/-- What Set leaves: the set, in new memory. -/
def SetPostC (ls : List CredB) (w : World) (e : Ending) (w' : World) : Prop :=
  ∃ out ao cap, e = .returned (.slice ao out.length cap) ∧ SetC ls out ∧ CredsAt (fun k => w.heap.size ≤ k ∧ k < w'.heap.size) w' ao out ∧ Chg (fun _ => False) w w' ∧ (ao = none → cap = 0)

theorem isCred_short {c : CredB} (h : isCred c = true) : credShort c 16 := by
  have hh := isCred_head h
  simp only [isRole, Bool.and_eq_true] at hh
  have l1 := (isName_len hh.1).2
  have l2 := (isName_len hh.2).2
  have hr : ∀ r : RoleB, isRole r = true → r.1.length ≤ 16 ∧ r.2.length ≤ 16 := fun r hr => by
    simp only [isRole, Bool.and_eq_true] at hr
    exact ⟨(isName_len hr.1).2, (isName_len hr.2).2⟩
  rcases isCred_kind h with k | k | k | k
  · obtain ⟨a1, a2, a3, a4⟩ := isCred_one h k
    exact ⟨l1, l2, (isName_len a1).2, by rw [a2]; simp [noneR], by rw [a2]; simp [noneR], by rw [a3]; simp [noneR], by rw [a3]; simp [noneR], by rw [a4]; simp⟩
  · obtain ⟨a1, a2, a3, a4⟩ := isCred_two h k
    exact ⟨l1, l2, by rw [a1]; simp, (hr _ a2).1, (hr _ a2).2, by rw [a3]; simp [noneR], by rw [a3]; simp [noneR], by rw [a4]; simp⟩
  · obtain ⟨a1, a2, a3, a4, a5⟩ := isCred_three h k
    exact ⟨l1, l2, by rw [a1]; simp, (hr _ a2).1, (hr _ a2).2, by rw [a3]; simp [noneR], by rw [a3]; simp [noneR], (isName_len a5).2⟩
  · obtain ⟨a1, a2, a3, a4, a5⟩ := isCred_four h k
    exact ⟨l1, l2, by rw [a1]; simp, (hr _ a2).1, (hr _ a2).2, (hr _ a4).1, (hr _ a4).2, by rw [a3]; simp⟩
end Go.Proofs.Ytjflmhncgkbdmaa

/- Keys and signed credentials, as they lie in memory. -/
namespace Go.Proofs.Ytjflmhncgkbdmaa
open Go.RowKit

/-- The key k lies at two cells from o on; its bytes can be read from blocks of D. -/
structure KeyAt (D : Nat → Prop) (w : World) (b o : Nat) (k : KeyB) : Prop where
  k0 : w.cell? ⟨b, o, none⟩ = some (.string ⟨k.who.toArray⟩)
  k1 : ∃ ka cap, w.cell? ⟨b, o + 1, none⟩ = some (.slice ka k.key.length cap) ∧ BytesAt D w (.slice ka k.key.length cap) k.key
  l0 : k.who.length ≤ 9223372036854775807
  l1 : k.key.length ≤ 9223372036854775807

theorem KeyAt.keep {D S : Nat → Prop} {w w' : World} {b o : Nat} {k : KeyB} (h : KeyAt D w b o k) (hc : Chg S w w') (hb : ¬ S b) (hD : ∀ i, D i → ¬ S i) : KeyAt D w' b o k := by
  obtain ⟨ka, cap, h1, h2⟩ := h.k1
  exact ⟨hc.cell h.k0 hb, ⟨ka, cap, hc.cell h1 hb, h2.keep hc hD⟩, h.l0, h.l1⟩

theorem KeyAt.mono {D E : Nat → Prop} {w : World} {b o : Nat} {k : KeyB} (h : KeyAt D w b o k) (hD : ∀ i, D i → E i) : KeyAt E w b o k := by
  obtain ⟨ka, cap, h1, h2⟩ := h.k1
  exact ⟨h.k0, ⟨ka, cap, h1, h2.mono hD⟩, h.l0, h.l1⟩

/-- The keys ls can be read from the address ao on. -/
def KeysAt (D : Nat → Prop) (w : World) (ao : Option Addr) (ls : List KeyB) : Prop :=
  ∀ i (h : i < ls.length), ∃ b off, ao = some ⟨b, off, none⟩ ∧ D b ∧ KeyAt D w b (off + i * 2) ls[i]

theorem KeysAt.keep {S D : Nat → Prop} {w w' : World} {ao : Option Addr} {ls : List KeyB} (h : KeysAt D w ao ls) (hc : Chg S w w') (hS : ∀ i, D i → ¬ S i) : KeysAt D w' ao ls := fun i hi =>
  let ⟨b, off, h1, h2, h3⟩ := h i hi
  ⟨b, off, h1, h2, h3.keep hc (hS b h2) hS⟩

theorem KeysAt.mono {D D' : Nat → Prop} {w : World} {ao : Option Addr} {ls : List KeyB} (h : KeysAt D w ao ls) (hD : ∀ i, D i → D' i) : KeysAt D' w ao ls := fun i hi =>
  let ⟨b, off, h1, h2, h3⟩ := h i hi
  ⟨b, off, h1, hD b h2, h3.mono hD⟩

theorem KeysAt.nil (D : Nat → Prop) (w : World) (ao : Option Addr) : KeysAt D w ao [] := fun i hi => by simp at hi

/-- The signed credential s lies at ten cells from o on; its tag's bytes can be read from blocks of D. -/
structure SignAt (D : Nat → Prop) (w : World) (b o : Nat) (s : SignB) : Prop where
  cr : CredAt w b o s.c
  tg : ∃ ta cap, w.cell? ⟨b, o + 9, none⟩ = some (.slice ta s.tag.length cap) ∧ BytesAt D w (.slice ta s.tag.length cap) s.tag
  sh : credShort s.c 9223372036854775807
  ln : s.tag.length ≤ 9223372036854775807

theorem SignAt.keep {D S : Nat → Prop} {w w' : World} {b o : Nat} {s : SignB} (h : SignAt D w b o s) (hc : Chg S w w') (hb : ¬ S b) (hD : ∀ i, D i → ¬ S i) : SignAt D w' b o s := by
  obtain ⟨ta, cap, h1, h2⟩ := h.tg
  exact ⟨h.cr.keep hc hb, ⟨ta, cap, hc.cell h1 hb, h2.keep hc hD⟩, h.sh, h.ln⟩

theorem SignAt.mono {D E : Nat → Prop} {w : World} {b o : Nat} {s : SignB} (h : SignAt D w b o s) (hD : ∀ i, D i → E i) : SignAt E w b o s := by
  obtain ⟨ta, cap, h1, h2⟩ := h.tg
  exact ⟨h.cr, ⟨ta, cap, h1, h2.mono hD⟩, h.sh, h.ln⟩

/-- The signed credentials ls can be read from the address ao on. -/
def SignsAt (D : Nat → Prop) (w : World) (ao : Option Addr) (ls : List SignB) : Prop :=
  ∀ i (h : i < ls.length), ∃ b off, ao = some ⟨b, off, none⟩ ∧ D b ∧ SignAt D w b (off + i * 10) ls[i]

theorem SignsAt.keep {S D : Nat → Prop} {w w' : World} {ao : Option Addr} {ls : List SignB} (h : SignsAt D w ao ls) (hc : Chg S w w') (hS : ∀ i, D i → ¬ S i) : SignsAt D w' ao ls := fun i hi =>
  let ⟨b, off, h1, h2, h3⟩ := h i hi
  ⟨b, off, h1, h2, h3.keep hc (hS b h2) hS⟩

theorem SignsAt.mono {D D' : Nat → Prop} {w : World} {ao : Option Addr} {ls : List SignB} (h : SignsAt D w ao ls) (hD : ∀ i, D i → D' i) : SignsAt D' w ao ls := fun i hi =>
  let ⟨b, off, h1, h2, h3⟩ := h i hi
  ⟨b, off, h1, hD b h2, h3.mono hD⟩

theorem SignsAt.nil (D : Nat → Prop) (w : World) (ao : Option Addr) : SignsAt D w ao [] := fun i hi => by simp at hi

/-- A signed credential's ten cells, the tag being the slice v. -/
def signBox (c : CredB) (v : Value) : Array Value :=
  #[.int .i64 c.kind, .string ⟨c.head.1.toArray⟩, .string ⟨c.head.2.toArray⟩, .string ⟨c.who.toArray⟩, .string ⟨c.b.1.toArray⟩, .string ⟨c.b.2.toArray⟩, .string ⟨c.c.1.toArray⟩, .string ⟨c.c.2.toArray⟩, .string ⟨c.w2.toArray⟩, v]
def signV (c : CredB) (v : Value) : Value := .agg (signBox c v)

/-- v is a signed credential's value: its tag can be read. -/
def SignVal (D : Nat → Prop) (w : World) (v : Value) (s : SignB) : Prop :=
  ∃ ta cap, v = signV s.c (.slice ta s.tag.length cap) ∧ BytesAt D w (.slice ta s.tag.length cap) s.tag

theorem SignVal.keep {D S : Nat → Prop} {w w' : World} {v : Value} {s : SignB} (h : SignVal D w v s) (hc : Chg S w w') (hD : ∀ i, D i → ¬ S i) : SignVal D w' v s := by
  obtain ⟨ta, cap, h1, h2⟩ := h
  exact ⟨ta, cap, h1, h2.keep hc hD⟩

theorem cred_at_sign {w : World} {g : Nat} {c : CredB} {v : Value} {ty : TypeId} {f : Nat × Nat} (h : w.heap[g]? = some (.cells (signBox c v) ty f)) : CredAt w g 0 c ∧ w.cell? ⟨g, 9, none⟩ = some v :=
  ⟨⟨cell_blk h 0, cell_blk h 1, cell_blk h 2, cell_blk h 3, cell_blk h 4, cell_blk h 5, cell_blk h 6, cell_blk h 7, cell_blk h 8⟩, cell_blk h 9⟩
end Go.Proofs.Ytjflmhncgkbdmaa

/- A registry as it lies in memory: the block of its one cell, and its map's block. -/
namespace Go.Proofs.Ytjflmhncgkbdmaa
open Go.RowKit Go.Maps Go.ChangeMaps Go.WideMaps

/-- An element of the map stands for itself. -/
def selfElem (v : Value) : Option (DataW Value × List MemPlace) := some (.held v, [])

theorem Try.keyedS : Keyed Try.prog 9 := string_keyed Try.underlying9
theorem Try.zeroB (w : World) : (zeroValue 34).run Try.prog w = .ok (.slice none 0 0) w := by kernel_rfl

/-- The map in the block mb holds the keys l: who has one, and its bytes, which can be read from blocks of D. -/
structure MapAt (D : Nat → Prop) (w : World) (mb : Nat) (l : List KeyB) : Prop where
  ex : ∃ M : DataW Value, w.ownsMap Try.prog 9 selfElem mb l.length M ∧ (∀ o : List UInt8, Maps.has M (.string o) = hasWho l o) ∧
    ∀ o : List UInt8, hasWho l o = true → ∃ v, (∀ z, M.atKey (.string o) z = .held v) ∧ BytesAt D w v (keyOf l o)
  nd : (l.map (·.who)).Nodup

theorem ownsMap_keep {S : Nat → Prop} {w w' : World} {mb n : Nat} {M : DataW Value} (h : w.ownsMap Try.prog 9 selfElem mb n M) (hc : Chg S w w') (hs : ¬ S mb) : w'.ownsMap Try.prog 9 selfElem mb n M := by
  obtain ⟨es, clock, hb, r⟩ := h
  exact ⟨es, clock, blk_keep hb hc hs, r⟩

theorem MapAt.keep {D S : Nat → Prop} {w w' : World} {mb : Nat} {l : List KeyB} (h : MapAt D w mb l) (hc : Chg S w w') (hs : ¬ S mb) (hD : ∀ i, D i → ¬ S i) : MapAt D w' mb l := by
  obtain ⟨⟨M, h1, h2, h3⟩, h4⟩ := h
  exact ⟨⟨M, ownsMap_keep h1 hc hs, h2, fun o ho => let ⟨v, hv, hb⟩ := h3 o ho; ⟨v, hv, hb.keep hc hD⟩⟩, h4⟩

theorem MapAt.mono {D E : Nat → Prop} {w : World} {mb : Nat} {l : List KeyB} (h : MapAt D w mb l) (hD : ∀ i, D i → E i) : MapAt E w mb l := by
  obtain ⟨⟨M, h1, h2, h3⟩, h4⟩ := h
  exact ⟨⟨M, h1, h2, fun o ho => let ⟨v, hv, hb⟩ := h3 o ho; ⟨v, hv, hb.mono hD⟩⟩, h4⟩

theorem MapAt.lt {D : Nat → Prop} {w : World} {mb : Nat} {l : List KeyB} (h : MapAt D w mb l) : mb < w.heap.size := by
  obtain ⟨⟨M, h1, _⟩, _⟩ := h
  exact h1.lt

/-- A map that has just been made holds no key. -/
theorem map_made (D : Nat → Prop) (w : World) : MapAt D (w.alloc (.map #[] 0)) w.heap.size [] :=
  ⟨⟨_, World.ownsMap_made w _ _ _, fun _ => rfl, fun o ho => by simp [hasWho] at ho⟩, List.nodup_nil⟩

theorem key_reads {o : List UInt8} (ho : o.length ≤ 9223372036854775807) : Go.keyOf Try.prog 9 (.string ⟨o.toArray⟩) = some (.string o) := by
  have := keyOf_string_mk (P := Try.prog) (k := 9) Try.underlying9 (s := ⟨o.toArray⟩) (by unfold maxLen; simpa [ByteArray.size] using ho)
  simpa using this

/-- The look-up of a name that has no key. -/
theorem MapAt.miss {D : Nat → Prop} {w : World} {mb : Nat} {l : List KeyB} (h : MapAt D w mb l) {o : List UInt8} (ho : o.length ≤ 9223372036854775807) (hn : hasWho l o = false) :
    (Instr.lookup 58 (.map (some mb)) (.string ⟨o.toArray⟩) true).run Try.prog w = .ok (.tuple #[.slice none 0 0, .bool false]) w := by
  obtain ⟨⟨M, h1, h2, _⟩, _⟩ := h
  obtain ⟨v, ps, hrun, hv⟩ := h1.look_ok Try.keyedS Try.underlying58 (Try.zeroB w) (R := selfElem) rfl (key_reads ho)
  rw [h2 o, hn] at hrun
  have h5 := Maps.atKey_of_not_has (D := M) (k := .string o) ((h2 o).trans hn)
  rw [h5] at hv
  simp only [selfElem, Option.some.injEq, Prod.mk.injEq, DataW.held.injEq] at hv
  rw [hrun, hv.1]

/-- The look-up of a name that has a key. -/
theorem MapAt.look {D : Nat → Prop} {w : World} {mb : Nat} {l : List KeyB} (h : MapAt D w mb l) {o : List UInt8} (ho : o.length ≤ 9223372036854775807) (hn : hasWho l o = true) :
    ∃ ao cap, BytesAt D w (.slice ao (keyOf l o).length cap) (keyOf l o) ∧ ∀ w', w'.heap[mb]? = w.heap[mb]? →
      (Instr.lookup 58 (.map (some mb)) (.string ⟨o.toArray⟩) true).run Try.prog w' = .ok (.tuple #[.slice ao (keyOf l o).length cap, .bool true]) w' := by
  obtain ⟨⟨M, h1, h2, h3⟩, _⟩ := h
  obtain ⟨v, hat, hb⟩ := h3 o hn
  obtain ⟨ao, cap, rfl⟩ := hb.shape
  refine ⟨ao, cap, hb, fun w' hw => ?_⟩
  have h1' : w'.ownsMap Try.prog 9 selfElem mb l.length M := by
    obtain ⟨es, clock, hb, r⟩ := h1
    exact ⟨es, clock, hw.trans hb, r⟩
  obtain ⟨v, ps, hrun, hv⟩ := h1'.look_ok Try.keyedS Try.underlying58 (Try.zeroB w') (R := selfElem) rfl (key_reads ho)
  rw [h2 o, hn] at hrun
  rw [hat] at hv
  simp only [selfElem, Option.some.injEq, Prod.mk.injEq, DataW.held.injEq] at hv
  rw [hrun, hv.1]

theorem isKey (o : List UInt8) : WideAt.IsKeyLit (.string o) := trivial

theorem hasWho_snoc (l : List KeyB) (k : KeyB) (o : List UInt8) : hasWho (l ++ [k]) o = (hasWho l o || k.who == o) := by simp [hasWho]
theorem keyOf_old {l : List KeyB} {k : KeyB} {o : List UInt8} (h : hasWho l o = true) : keyOf (l ++ [k]) o = keyOf l o := by
  unfold keyOf keyAt
  rw [List.find?_append]
  unfold hasWho at h
  obtain ⟨x, hx, hxo⟩ := List.any_eq_true.1 h
  cases hf : l.find? (·.who == o) with
  | none => exact absurd hxo (by simpa using List.find?_eq_none.1 hf x hx)
  | some y => rfl
theorem keyOf_new {l : List KeyB} {k : KeyB} (h : hasWho l k.who = false) : keyOf (l ++ [k]) k.who = k.key := by
  unfold keyOf keyAt
  rw [List.find?_append, List.find?_eq_none.2 (fun x hx => by
    have := List.any_eq_false.1 h x hx
    simpa using this)]
  simp

/-- A slice of bytes doesn't lie in a map's block. -/
theorem BytesAt.notMap {D : Nat → Prop} {w : World} {v : Value} {l : List UInt8} {mb : Nat} {es : Array MapEntry} {cl : Nat} (h : BytesAt D w v l) (hm : w.heap[mb]? = some (.map es cl)) : BytesAt (fun i => D i ∧ i ≠ mb) w v l := by
  rcases h with h | ⟨b, off, cap, h1, h2, h3, h4, h5⟩
  · exact .inl h
  · by_cases hl : l = []
    · subst hl
      exact .inl ⟨_, _, h1, rfl, fun e => by cases e⟩
    · refine .inr ⟨b, off, cap, h1, h2, h3, ⟨h4, fun e => ?_⟩, h5⟩
      subst e
      have hpos := List.length_pos_iff.2 hl
      have := h5 0 hpos
      simp [World.cell?, hm] at this

/-- A key that is added. -/
theorem MapAt.add {D E : Nat → Prop} {w : World} {mb : Nat} {l : List KeyB} (h : MapAt D w mb l) {k : KeyB} {ao : Option Addr} {cap : Nat} (ho : k.who.length ≤ 9223372036854775807) (hl : l.length < 9223372036854775807) (hn : hasWho l k.who = false)
    (hD : ∀ i, D i → E i) (hb0 : BytesAt E w (.slice ao k.key.length cap) k.key) :
    ∃ w', (Instr.mapUpdate 58 (.map (some mb)) (.string ⟨k.who.toArray⟩) (.slice ao k.key.length cap)).run Try.prog w = .ok () w' ∧ MapAt E w' mb (l ++ [k]) ∧ Chg (· = mb) w w' := by
  obtain ⟨⟨M, h1, h2, h3⟩, h4⟩ := h
  obtain ⟨w', hrun, hown, hg⟩ := h1.update Try.keyedS Try.underlying58 (by unfold maxLen; omega) (key_reads ho) (val := .slice ao k.key.length cap) (d := .held (.slice ao k.key.length cap)) (ps := []) rfl
  have hc : Chg (· = mb) w w' := (Chg.refl (· = mb) w).grown hg (fun k hk _ => by simpa using hk.symm)
  have hM := h1.isMap
  obtain ⟨es, cl, hmo, _⟩ := id h1
  have hb := hb0.notMap hmo
  refine ⟨w', hrun, ⟨⟨_, by rw [List.length_append]; exact hown, fun o => ?_, fun o hov => ?_⟩, ?_⟩, hc⟩
  · rw [hasWho_snoc]
    by_cases e : k.who = o
    · subst e
      rw [Maps.has_put_same hM (isKey _)]
      simp
    · rw [Maps.has_put_other (fun e' => e (by simpa using e'.symm)), h2 o]
      have : (k.who == o) = false := by simpa using e
      rw [this, Bool.or_false]
  · by_cases e : k.who = o
    · subst e
      refine ⟨.slice ao k.key.length cap, fun z => Maps.atKey_put_same hM (isKey _) _ z, ?_⟩
      rw [keyOf_new hn]
      exact (hb.keep hc (fun i hi e => hi.2 e)).mono (fun i hi => hi.1)
    · have hov' : hasWho l o = true := by
        rw [hasWho_snoc] at hov
        have : (k.who == o) = false := by simpa using e
        rwa [this, Bool.or_false] at hov
      obtain ⟨v, hat, hbv⟩ := h3 o hov'
      refine ⟨v, fun z => by rw [Maps.atKey_put_other (fun e' => e (by simpa using e'.symm))]; exact hat z, ?_⟩
      rw [keyOf_old hov']
      exact ((hbv.notMap hmo).keep hc (fun i hi e => hi.2 e)).mono (fun i hi => hD i hi.1)
  · rw [List.map_append, List.nodup_append]
    refine ⟨h4, by simp, fun a ha b hb => ?_⟩
    simp only [List.map_cons, List.map_nil, List.mem_singleton] at hb
    subst hb
    intro e
    subst e
    obtain ⟨x, hx, hxe⟩ := List.mem_map.1 ha
    have := List.any_eq_false.1 hn x hx
    simp [hxe] at this

/-- The keys' names, as the map's own words have them. -/
theorem MapAt.names {D : Nat → Prop} {w : World} {mb : Nat} {l : List KeyB} (h : MapAt D w mb l) :
    ∃ M : DataW Value, w.ownsMap Try.prog 9 selfElem mb l.length M ∧ (l.map (·.who)).Perm (strKeys M) ∧ Maps.size M ≤ l.length := by
  obtain ⟨⟨M, h1, h2, _⟩, h4⟩ := h
  refine ⟨M, h1, ?_, h1.size_le⟩
  obtain ⟨es, rfl, hp⟩ := h1.tidy Try.keyedS
  obtain ⟨es', he', hk⟩ := h1.keysOf
  cases he'
  refine perm_strKeys hp (fun p hp' => ?_) h4 (fun x => ?_)
  · obtain ⟨v, hv⟩ := hk p hp'
    obtain ⟨x, _, hx, _⟩ := Maps.keyOf_str Try.underlying9 hv
    exact ⟨x, hx⟩
  · rw [h2 x, hasWho, List.any_eq_true, List.mem_map]
    exact ⟨fun ⟨k, hk, e⟩ => ⟨k, hk, by simpa using e⟩, fun ⟨k, hk, e⟩ => ⟨k, hk, by simpa using e⟩⟩

/-- The registry in the block g has the keys l; it and they lie in blocks of D. -/
structure RegAt (D : Nat → Prop) (w : World) (g : Nat) (l : List KeyB) : Prop where
  ex : ∃ mb, w.heap[g]? = some (.cells #[.map (some mb)] 60 (0, 0)) ∧ D mb ∧ MapAt D w mb l
  dg : D g

theorem RegAt.keep {D S : Nat → Prop} {w w' : World} {g : Nat} {l : List KeyB} (h : RegAt D w g l) (hc : Chg S w w') (hD : ∀ i, D i → ¬ S i) : RegAt D w' g l := by
  obtain ⟨⟨mb, h1, h2, h3⟩, h4⟩ := h
  exact ⟨⟨mb, blk_keep h1 hc (hD g h4), h2, h3.keep hc (hD mb h2) hD⟩, h4⟩

theorem RegAt.mono {D E : Nat → Prop} {w : World} {g : Nat} {l : List KeyB} (h : RegAt D w g l) (hD : ∀ i, D i → E i) : RegAt E w g l := by
  obtain ⟨⟨mb, h1, h2, h3⟩, h4⟩ := h
  exact ⟨⟨mb, h1, hD mb h2, h3.mono hD⟩, hD g h4⟩
end Go.Proofs.Ytjflmhncgkbdmaa
