/- Texts that the proof leans on, in one: KeyMath, KeyCells, RefKey, TagRef, RefCheck, RefSign, RefCredStep. -/
import Derived.Test.YtmmkopdcbiiedaaKb8
import Derived.Test.YtmmkopdcbiiedaaKb20
import Derived.Test.YtmmkopdcbiiedaaKb10
import Derived.Test.YtmmkopdcbiiedaaKb12
import Derived.Test.YtmmkopdcbiiedaaKb5
import Derived.Test.YtmmkopdcbiiedaaKb2
import Derived.Test.YtmmkopdcbiiedaaKb9
/- Keys and signed credentials: plain words. -/
namespace Go.Proofs.Ytmmkopdcbiiedaa
open Go.RowKit

/-- Somebody's key. -/
structure KeyB where
  who : List UInt8
  key : List UInt8
  deriving DecidableEq, Inhabited

/-- A credential with its tag. -/
structure SignB where
  c : CredB
  tag : List UInt8
  deriving DecidableEq, Inhabited

def noSign : SignB := ⟨noCred, []⟩

/-- Has somebody a key already? -/
def hasWho (l : List KeyB) (o : List UInt8) : Bool := l.any (·.who == o)
/-- The first key of somebody's. -/
def keyAt (l : List KeyB) (o : List UInt8) : Option (List UInt8) := (l.find? (·.who == o)).map (·.key)
def keyOf (l : List KeyB) (o : List UInt8) : List UInt8 := (keyAt l o).getD []
/-- What Sign tells, and what it makes. -/
def signErr (l : List KeyB) (c : CredB) : Nat := if isCred c then (if hasWho l c.head.1 then 0 else 21) else 11
def signTag (l : List KeyB) (c : CredB) : List UInt8 := tagOf (keyOf l c.head.1) (credEnc c)
def signed (l : List KeyB) (c : CredB) : SignB := if signErr l c = 0 then ⟨c, signTag l c⟩ else noSign
end Go.Proofs.Ytmmkopdcbiiedaa

/- Keys and signed credentials, as they lie in memory. -/
namespace Go.Proofs.Ytmmkopdcbiiedaa
open Go.RowKit

/-- The key k lies at two cells from o on; its bytes can be read from blocks of D. -/
structure KeyAt (D : Nat → Prop) (w : World) (b o : Nat) (k : KeyB) : Prop where
  k0 : w.cell? ⟨b, o, none⟩ = some (.string ⟨k.who.toArray⟩)
  k1 : ∃ ka cap, w.cell? ⟨b, o + 1, none⟩ = some (.slice ka k.key.length cap) ∧ BytesAt D w (.slice ka k.key.length cap) k.key
  l0 : k.who.length ≤ 9223372036854775807
  l1 : k.key.length ≤ 9223372036854775807

theorem KeyAt.keep {D S : Nat → Prop} {w w' : World} {b o : Nat} {k : KeyB} (h : KeyAt D w b o k) (hc : Chg S w w') (hb : ¬ S b) (hD : ∀ i, D i → ¬ S i) : KeyAt D w' b o k := by
  obtain ⟨ka, cap, h1, h2⟩ := h.k1
  exact ⟨hc.cell h.k0 hb, ⟨ka, cap, hc.cell h1 hb, h2.keep hc hD⟩, h.l0, h.l1⟩

theorem KeyAt.mono {D E : Nat → Prop} {w : World} {b o : Nat} {k : KeyB} (h : KeyAt D w b o k) (hD : ∀ i, D i → E i) : KeyAt E w b o k := by
  obtain ⟨ka, cap, h1, h2⟩ := h.k1
  exact ⟨h.k0, ⟨ka, cap, h1, h2.mono hD⟩, h.l0, h.l1⟩

/-- The keys ls can be read from the address ao on. -/
def KeysAt (D : Nat → Prop) (w : World) (ao : Option Addr) (ls : List KeyB) : Prop :=
  ∀ i (h : i < ls.length), ∃ b off, ao = some ⟨b, off, none⟩ ∧ D b ∧ KeyAt D w b (off + i * 2) ls[i]

theorem KeysAt.keep {S D : Nat → Prop} {w w' : World} {ao : Option Addr} {ls : List KeyB} (h : KeysAt D w ao ls) (hc : Chg S w w') (hS : ∀ i, D i → ¬ S i) : KeysAt D w' ao ls := fun i hi =>
  let ⟨b, off, h1, h2, h3⟩ := h i hi
  ⟨b, off, h1, h2, h3.keep hc (hS b h2) hS⟩

theorem KeysAt.mono {D D' : Nat → Prop} {w : World} {ao : Option Addr} {ls : List KeyB} (h : KeysAt D w ao ls) (hD : ∀ i, D i → D' i) : KeysAt D' w ao ls := fun i hi =>
  let ⟨b, off, h1, h2, h3⟩ := h i hi
  ⟨b, off, h1, hD b h2, h3.mono hD⟩

theorem KeysAt.nil (D : Nat → Prop) (w : World) (ao : Option Addr) : KeysAt D w ao [] := fun i hi => by simp at hi

/-- The signed credential s lies at ten cells from o on; its tag's bytes can be read from blocks of D. -/
structure SignAt (D : Nat → Prop) (w : World) (b o : Nat) (s : SignB) : Prop where
  cr : CredAt w b o s.c
  tg : ∃ ta cap, w.cell? ⟨b, o + 9, none⟩ = some (.slice ta s.tag.length cap) ∧ BytesAt D w (.slice ta s.tag.length cap) s.tag
  sh : credShort s.c 9223372036854775807
  ln : s.tag.length ≤ 9223372036854775807

theorem SignAt.keep {D S : Nat → Prop} {w w' : World} {b o : Nat} {s : SignB} (h : SignAt D w b o s) (hc : Chg S w w') (hb : ¬ S b) (hD : ∀ i, D i → ¬ S i) : SignAt D w' b o s := by
  obtain ⟨ta, cap, h1, h2⟩ := h.tg
  exact ⟨h.cr.keep hc hb, ⟨ta, cap, hc.cell h1 hb, h2.keep hc hD⟩, h.sh, h.ln⟩

theorem SignAt.mono {D E : Nat → Prop} {w : World} {b o : Nat} {s : SignB} (h : SignAt D w b o s) (hD : ∀ i, D i → E i) : SignAt E w b o s := by
  obtain ⟨ta, cap, h1, h2⟩ := h.tg
  exact ⟨h.cr, ⟨ta, cap, h1, h2.mono hD⟩, h.sh, h.ln⟩

/-- The signed credentials ls can be read from the address ao on. -/
def SignsAt (D : Nat → Prop) (w : World) (ao : Option Addr) (ls : List SignB) : Prop :=
  ∀ i (h : i < ls.length), ∃ b off, ao = some ⟨b, off, none⟩ ∧ D b ∧ SignAt D w b (off + i * 10) ls[i]

theorem SignsAt.keep {S D : Nat → Prop} {w w' : World} {ao : Option Addr} {ls : List SignB} (h : SignsAt D w ao ls) (hc : Chg S w w') (hS : ∀ i, D i → ¬ S i) : SignsAt D w' ao ls := fun i hi =>
  let ⟨b, off, h1, h2, h3⟩ := h i hi
  ⟨b, off, h1, h2, h3.keep hc (hS b h2) hS⟩

theorem SignsAt.mono {D D' : Nat → Prop} {w : World} {ao : Option Addr} {ls : List SignB} (h : SignsAt D w ao ls) (hD : ∀ i, D i → D' i) : SignsAt D' w ao ls := fun i hi =>
  let ⟨b, off, h1, h2, h3⟩ := h i hi
  ⟨b, off, h1, hD b h2, h3.mono hD⟩

theorem SignsAt.nil (D : Nat → Prop) (w : World) (ao : Option Addr) : SignsAt D w ao [] := fun i hi => by simp at hi

/-- A signed credential's ten cells, the tag being the slice v. -/
def signBox (c : CredB) (v : Value) : Array Value :=
  #[.int .i64 c.kind, .string ⟨c.head.1.toArray⟩, .string ⟨c.head.2.toArray⟩, .string ⟨c.who.toArray⟩, .string ⟨c.b.1.toArray⟩, .string ⟨c.b.2.toArray⟩, .string ⟨c.c.1.toArray⟩, .string ⟨c.c.2.toArray⟩, .string ⟨c.w2.toArray⟩, v]
def signV (c : CredB) (v : Value) : Value := .agg (signBox c v)

/-- v is a signed credential's value: its tag can be read. -/
def SignVal (D : Nat → Prop) (w : World) (v : Value) (s : SignB) : Prop :=
  ∃ ta cap, v = signV s.c (.slice ta s.tag.length cap) ∧ BytesAt D w (.slice ta s.tag.length cap) s.tag

theorem SignVal.keep {D S : Nat → Prop} {w w' : World} {v : Value} {s : SignB} (h : SignVal D w v s) (hc : Chg S w w') (hD : ∀ i, D i → ¬ S i) : SignVal D w' v s := by
  obtain ⟨ta, cap, h1, h2⟩ := h
  exact ⟨ta, cap, h1, h2.keep hc hD⟩

end Go.Proofs.Ytmmkopdcbiiedaa

/- Whose key signs: the contract of the document's key, of layer 6. -/
namespace Go.Proofs.Ytmmkopdcbiiedaa
open Go.RowKit

end Go.Proofs.Ytmmkopdcbiiedaa

/- The contract of the document's Make. -/
namespace Go.Proofs.Ytmmkopdcbiiedaa
open Go.RowKit

end Go.Proofs.Ytmmkopdcbiiedaa

/- The contract of the document's Check, of layer 6. -/
namespace Go.Proofs.Ytmmkopdcbiiedaa
open Go.RowKit

end Go.Proofs.Ytmmkopdcbiiedaa

/- The contract of the document's Sign, of layer 6. -/
namespace Go.Proofs.Ytmmkopdcbiiedaa
open Go.RowKit

end Go.Proofs.Ytmmkopdcbiiedaa

/- The document's Get of a role and of a name, of a tape in whatever state; what follows for a credential. -/
namespace Go.Proofs.Ytmmkopdcbiiedaa
open Go.RowKit

set_option maxRecDepth 100000 in
theorem rget_bad (X : Nat) (l : List UInt8) (e : Int) (w : World) (he : e ≠ 0) (hX : TapeAt w X l e) :
    Calls Try.prog 76 #[.pointer (some ⟨X, 0, none⟩)] w fun en w' => en = .returned (roleV noRole) ∧ TapeAt w' X l e ∧ Chg (· = X) w w' := by
  go_enter Try.func76, Try.ntmps76
  have hc0 : Chg (fun _ => False) w (w.alloc (.cells #[.string ⟨#[]⟩, .string ⟨#[]⟩] 25)) := (Chg.refl _ w).alloc _
  have hC := heap_alloc_new w (.cells #[.string ⟨#[]⟩, .string ⟨#[]⟩] 25)
  have hX0 : TapeAt _ X l e := blk_keep hX hc0 id
  have hXC : X < w.heap.size := lt_blk hX
  go_wp2_with fail
  generalize w.alloc (.cells #[.string ⟨#[]⟩, .string ⟨#[]⟩] 25) = w1 at *
  generalize hCC : w.heap.size = C at *
  refine (nget_bad X l e w1 he hX0).mono ?_
  rintro en w' ⟨rfl, rfl⟩
  go_wp2_with fail
  refine (nget_bad X l e w1 he hX0).mono ?_
  rintro en w' ⟨rfl, rfl⟩
  have hs1 := setCell_chg w1 C 0 (.string ⟨#[]⟩)
  have hs2 := setCell_chg (w1.setCell ⟨C, 0, none⟩ (.string ⟨#[]⟩)) C 1 (.string ⟨#[]⟩)
  have hD := set_blk (set_blk hC 0 (.string ⟨#[]⟩)) 1 (.string ⟨#[]⟩)
  have hT : TapeAt ((w1.setCell ⟨C, 0, none⟩ (.string ⟨#[]⟩)).setCell ⟨C, 1, none⟩ (.string ⟨#[]⟩)) X l e := blk_keep (blk_keep hX0 hs1 (by omega)) hs2 (by omega)
  have hch : Chg (· = X) w ((w1.setCell ⟨C, 0, none⟩ (.string ⟨#[]⟩)).setCell ⟨C, 1, none⟩ (.string ⟨#[]⟩)) := ((hc0.mono (fun _ _ h => h.elim)).trans hs1 (fun i hi h => by omega)).trans hs2 (fun i hi h => by omega)
  have HH := hid (And.intro hD (And.intro hT hch))
  have x1 := cell_blk hX0 1
  have q0 := cell_blk hC 0
  have q1 := cell_blk hC 1
  have f0 := froz_blk hC 0
  have f1 := froz_blk hC 1
  have z2 : (e != 0) = true := by rw [bne_iff_ne]; exact he
  simp only [List.getElem?_toArray, List.getElem?_cons_zero, List.getElem?_cons_succ] at x1 q0 q1
  clear hs1 hs2 hD hT hch hX0 hc0 hC he hX
  go_wp2
  refine bodyPost_ret (results_cell_row (P := Try.prog) rfl _ _ C 25 _ (0, 0) _ rfl HH.out.1 Try.underlying25 rfl (by kernel_rfl)) rfl ?_
  exact ⟨rfl, HH.out.2⟩

/-- How a tape goes on, when a role is read of it; when a name is. -/
def RStep (l : List UInt8) (e : Int) (r : RoleB) (l' : List UInt8) (e' : Int) : Prop :=
  (e = 0 ∧ roleOk l = true ∧ r = roleOf l ∧ l' = roleRest l ∧ e' = 0) ∨ (e = 0 ∧ roleOk l = false ∧ e' = roleBad l) ∨ (e ≠ 0 ∧ e' = e)
def NStep (l : List UInt8) (e : Int) (s : List UInt8) (l' : List UInt8) (e' : Int) : Prop :=
  (e = 0 ∧ nameOk l = true ∧ s = nameOf l ∧ l' = nameRest l ∧ e' = 0) ∨ (e = 0 ∧ nameOk l = false ∧ e' = nameBad l) ∨ (e ≠ 0 ∧ e' = e)

theorem roleRest_len (l : List UInt8) : (roleRest l).length ≤ l.length := by
  have h1 := nameRest_len l
  have h2 := nameRest_len (nameRest l)
  unfold roleRest
  omega

theorem rget_step (X : Nat) (l : List UInt8) (e : Int) (w : World) (hl : e = 0 → l.length ≤ 9223372036854775807) (hX : TapeAt w X l e) :
    Calls Try.prog 76 #[.pointer (some ⟨X, 0, none⟩)] w fun en w' => ∃ r l' e', en = .returned (roleV r) ∧ TapeAt w' X l' e' ∧ RStep l e r l' e' ∧ (e' = 0 → l'.length ≤ 9223372036854775807 ∧ r.1.length ≤ 16 ∧ r.2.length ≤ 16) ∧ Chg (· = X) w w' := by
  by_cases he : e = 0
  · subst he
    have hl' := hl rfl
    cases hok : roleOk l with
    | true =>
      refine (rget_ok X l w hl' hX hok).mono ?_
      rintro en w' ⟨rfl, h1, h2⟩
      have hr : isName (nameOf l) = true ∧ isName (nameOf (nameRest l)) = true := by
        simp only [roleOk, nameOk, Bool.and_eq_true] at hok
        exact ⟨hok.1.2, hok.2.2⟩
      have := roleRest_len l
      exact ⟨_, _, _, rfl, h1, .inl ⟨rfl, hok, rfl, rfl, rfl⟩, fun _ => ⟨by omega, (isName_len hr.1).2, (isName_len hr.2).2⟩, h2⟩
    | false =>
      refine (rget_no X l w hl' hX hok).mono ?_
      rintro en w' ⟨rfl, ⟨l', h1⟩, h2⟩
      exact ⟨_, _, _, rfl, h1, .inr (.inl ⟨rfl, hok, rfl⟩), fun h => absurd h (roleBad_ne l), h2⟩
  · refine (rget_bad X l e w he hX).mono ?_
    rintro en w' ⟨rfl, h1, h2⟩
    exact ⟨_, _, _, rfl, h1, .inr (.inr ⟨he, rfl⟩), fun h => absurd h he, h2⟩

theorem nget_step (X : Nat) (l : List UInt8) (e : Int) (w : World) (hl : e = 0 → l.length ≤ 9223372036854775807) (hX : TapeAt w X l e) :
    Calls Try.prog 58 #[.pointer (some ⟨X, 0, none⟩)] w fun en w' => ∃ s l' e', en = .returned (.string ⟨s.toArray⟩) ∧ TapeAt w' X l' e' ∧ NStep l e s l' e' ∧ (e' = 0 → l'.length ≤ 9223372036854775807 ∧ s.length ≤ 16) ∧ Chg (· = X) w w' := by
  by_cases he : e = 0
  · subst he
    have hl' := hl rfl
    cases hok : nameOk l with
    | true =>
      refine (nget_ok X l w hl' hX hok).mono ?_
      rintro en w' ⟨rfl, h1, h2⟩
      have hr : isName (nameOf l) = true := by
        simp only [nameOk, Bool.and_eq_true] at hok
        exact hok.2
      have := nameRest_len l
      exact ⟨_, _, _, rfl, h1, .inl ⟨rfl, hok, rfl, rfl, rfl⟩, fun _ => ⟨by omega, (isName_len hr).2⟩, h2⟩
    | false =>
      refine (nget_no X l w hl' hX hok).mono ?_
      rintro en w' ⟨rfl, ⟨l', h1⟩, h2⟩
      exact ⟨[], _, _, rfl, h1, .inr (.inl ⟨rfl, hok, rfl⟩), fun h => absurd h (nameBad_ne l), h2⟩
  · refine (nget_bad X l e w he hX).mono ?_
    rintro en w' ⟨rfl, rfl⟩
    exact ⟨[], _, _, rfl, hX, .inr (.inr ⟨he, rfl⟩), fun h => absurd h he, Chg.refl _ _⟩

theorem RStep.ok {l r l' e'} (h : RStep l 0 r l' e') (he : e' = 0) : roleOk l = true ∧ r = roleOf l ∧ l' = roleRest l := by
  rcases h with ⟨_, h1, h2, h3, _⟩ | ⟨_, _, h1⟩ | ⟨h1, _⟩
  · exact ⟨h1, h2, h3⟩
  · exact absurd (h1.symm.trans he) (roleBad_ne l)
  · exact absurd rfl h1
theorem RStep.bad {l r l' e'} (h : RStep l 0 r l' e') (he : e' ≠ 0) : roleOk l = false ∧ e' = roleBad l := by
  rcases h with ⟨_, _, _, _, h1⟩ | ⟨_, h1, h2⟩ | ⟨h1, _⟩
  · exact absurd h1 he
  · exact ⟨h1, h2⟩
  · exact absurd rfl h1
theorem RStep.from0 {l e r l' e'} (h : RStep l e r l' e') (he : e' = 0) : e = 0 := by
  rcases h with ⟨h1, _⟩ | ⟨h1, _⟩ | ⟨h1, h2⟩
  · exact h1
  · exact h1
  · exact absurd (h2.symm.trans he) h1
theorem RStep.same {l e r l' e'} (h : RStep l e r l' e') (he : e ≠ 0) : e' = e := by
  rcases h with ⟨h1, _⟩ | ⟨h1, _⟩ | ⟨_, h2⟩
  · exact absurd h1 he
  · exact absurd h1 he
  · exact h2
theorem NStep.ok {l s l' e'} (h : NStep l 0 s l' e') (he : e' = 0) : nameOk l = true ∧ s = nameOf l ∧ l' = nameRest l := by
  rcases h with ⟨_, h1, h2, h3, _⟩ | ⟨_, _, h1⟩ | ⟨h1, _⟩
  · exact ⟨h1, h2, h3⟩
  · exact absurd (h1.symm.trans he) (nameBad_ne l)
  · exact absurd rfl h1
theorem NStep.bad {l s l' e'} (h : NStep l 0 s l' e') (he : e' ≠ 0) : nameOk l = false ∧ e' = nameBad l := by
  rcases h with ⟨_, _, _, _, h1⟩ | ⟨_, h1, h2⟩ | ⟨h1, _⟩
  · exact absurd h1 he
  · exact ⟨h1, h2⟩
  · exact absurd rfl h1
theorem NStep.from0 {l e s l' e'} (h : NStep l e s l' e') (he : e' = 0) : e = 0 := by
  rcases h with ⟨h1, _⟩ | ⟨h1, _⟩ | ⟨h1, h2⟩
  · exact h1
  · exact h1
  · exact absurd (h2.symm.trans he) h1
theorem NStep.same {l e s l' e'} (h : NStep l e s l' e') (he : e ≠ 0) : e' = e := by
  rcases h with ⟨h1, _⟩ | ⟨h1, _⟩ | ⟨_, h2⟩
  · exact absurd h1 he
  · exact absurd h1 he
  · exact h2

/-- What comes of it: a credential's end, or an error that is told. -/
def GetOr (l : List UInt8) (c : CredB) (l' : List UInt8) (e' : Int) : Prop := (e' = 0 → credGet l = getEnd c l') ∧ (e' ≠ 0 → ∃ n : Nat, e' = n ∧ credGet l = .bad n)

theorem getOr_head {l : List UInt8} (h0 : numBad l = 0) {k : Nat} (hk : numOf l = k) (h1 : 1 ≤ k ∧ k ≤ 4) : credGet l = getHead k (numRest l) := by
  rw [credGet, if_pos h0, hk, if_pos h1]

theorem getOr1 {l hd l2 e2 who l3 e3} (hg : credGet l = getHead 1 (numRest l)) (h1 : RStep (numRest l) 0 hd l2 e2) (h2 : NStep l2 e2 who l3 e3) : GetOr l ⟨1, hd, who, noneR, noneR, []⟩ l3 e3 := by
  refine ⟨fun he => ?_, fun he => ?_⟩
  · have e0 := h2.from0 he
    subst e0
    obtain ⟨a1, a2, a3⟩ := h1.ok rfl
    obtain ⟨b1, b2, b3⟩ := h2.ok he
    rw [hg, getHead, if_pos a1, if_pos rfl, ← a3, ← a2, getWho, if_pos b1, ← b2, ← b3]
    rfl
  · by_cases e0 : e2 = 0
    · subst e0
      obtain ⟨a1, a2, a3⟩ := h1.ok rfl
      obtain ⟨b1, b2⟩ := h2.bad he
      exact ⟨_, b2, by rw [hg, getHead, if_pos a1, if_pos rfl, ← a3, getWho, if_neg (by rw [b1]; decide)]⟩
    · obtain ⟨a1, a2⟩ := h1.bad e0
      exact ⟨_, (h2.same e0).trans a2, by rw [hg, getHead, if_neg (by rw [a1]; decide)]⟩

theorem getOr2 {l hd l2 e2 b l3 e3} (hg : credGet l = getHead 2 (numRest l)) (h1 : RStep (numRest l) 0 hd l2 e2) (h2 : RStep l2 e2 b l3 e3) : GetOr l ⟨2, hd, [], b, noneR, []⟩ l3 e3 := by
  refine ⟨fun he => ?_, fun he => ?_⟩
  · have e0 := h2.from0 he
    subst e0
    obtain ⟨a1, a2, a3⟩ := h1.ok rfl
    obtain ⟨b1, b2, b3⟩ := h2.ok he
    rw [hg, getHead, if_pos a1, if_neg (by decide), ← a3, ← a2, getB, if_pos b1, ← b2, ← b3]
    rw [if_neg (show ¬ (2 : Int) = 3 by decide), if_neg (show ¬ (2 : Int) = 4 by decide)]
    rfl
  · by_cases e0 : e2 = 0
    · subst e0
      obtain ⟨a1, a2, a3⟩ := h1.ok rfl
      obtain ⟨b1, b2⟩ := h2.bad he
      exact ⟨_, b2, by rw [hg, getHead, if_pos a1, if_neg (by decide), ← a3, getB, if_neg (by rw [b1]; decide)]⟩
    · obtain ⟨a1, a2⟩ := h1.bad e0
      exact ⟨_, (h2.same e0).trans a2, by rw [hg, getHead, if_neg (by rw [a1]; decide)]⟩

theorem getOr3 {l hd l2 e2 b l3 e3 w2 l4 e4} (hg : credGet l = getHead 3 (numRest l)) (h1 : RStep (numRest l) 0 hd l2 e2) (h2 : RStep l2 e2 b l3 e3) (h3 : NStep l3 e3 w2 l4 e4) : GetOr l ⟨3, hd, [], b, noneR, w2⟩ l4 e4 := by
  refine ⟨fun he => ?_, fun he => ?_⟩
  · have e1 := h3.from0 he
    subst e1
    have e0 := h2.from0 rfl
    subst e0
    obtain ⟨a1, a2, a3⟩ := h1.ok rfl
    obtain ⟨b1, b2, b3⟩ := h2.ok rfl
    obtain ⟨c1, c2, c3⟩ := h3.ok he
    rw [hg, getHead, if_pos a1, if_neg (by decide), ← a3, ← a2, getB, if_pos b1, ← b2, ← b3]
    rw [if_pos rfl, getWord, if_pos c1, ← c2, ← c3]
    rfl
  · by_cases e1 : e3 = 0
    · subst e1
      have e0 := h2.from0 rfl
      subst e0
      obtain ⟨a1, a2, a3⟩ := h1.ok rfl
      obtain ⟨b1, b2, b3⟩ := h2.ok rfl
      obtain ⟨c1, c2⟩ := h3.bad he
      exact ⟨_, c2, by rw [hg, getHead, if_pos a1, if_neg (by decide), ← a3, getB, if_pos b1, if_pos rfl, ← b3, getWord, if_neg (by rw [c1]; decide)]⟩
    · have ee := h3.same e1
      by_cases e0 : e2 = 0
      · subst e0
        obtain ⟨a1, a2, a3⟩ := h1.ok rfl
        obtain ⟨b1, b2⟩ := h2.bad e1
        exact ⟨_, ee.trans b2, by rw [hg, getHead, if_pos a1, if_neg (by decide), ← a3, getB, if_neg (by rw [b1]; decide)]⟩
      · obtain ⟨a1, a2⟩ := h1.bad e0
        exact ⟨_, (ee.trans (h2.same e0)).trans a2, by rw [hg, getHead, if_neg (by rw [a1]; decide)]⟩

theorem getOr4 {l hd l2 e2 b l3 e3 cc l4 e4} (hg : credGet l = getHead 4 (numRest l)) (h1 : RStep (numRest l) 0 hd l2 e2) (h2 : RStep l2 e2 b l3 e3) (h3 : RStep l3 e3 cc l4 e4) : GetOr l ⟨4, hd, [], b, cc, []⟩ l4 e4 := by
  refine ⟨fun he => ?_, fun he => ?_⟩
  · have e1 := h3.from0 he
    subst e1
    have e0 := h2.from0 rfl
    subst e0
    obtain ⟨a1, a2, a3⟩ := h1.ok rfl
    obtain ⟨b1, b2, b3⟩ := h2.ok rfl
    obtain ⟨c1, c2, c3⟩ := h3.ok he
    rw [hg, getHead, if_pos a1, if_neg (by decide), ← a3, ← a2, getB, if_pos b1, ← b2, ← b3]
    rw [if_neg (show ¬ (4 : Int) = 3 by decide), if_pos rfl, getC, if_pos c1, ← c2, ← c3]
    rfl
  · by_cases e1 : e3 = 0
    · subst e1
      have e0 := h2.from0 rfl
      subst e0
      obtain ⟨a1, a2, a3⟩ := h1.ok rfl
      obtain ⟨b1, b2, b3⟩ := h2.ok rfl
      obtain ⟨c1, c2⟩ := h3.bad he
      exact ⟨_, c2, by rw [hg, getHead, if_pos a1, if_neg (by decide), ← a3, getB, if_pos b1, if_neg (show ¬ (4 : Int) = 3 by decide), if_pos rfl, ← b3, getC, if_neg (by rw [c1]; decide)]⟩
    · have ee := h3.same e1
      by_cases e0 : e2 = 0
      · subst e0
        obtain ⟨a1, a2, a3⟩ := h1.ok rfl
        obtain ⟨b1, b2⟩ := h2.bad e1
        exact ⟨_, ee.trans b2, by rw [hg, getHead, if_pos a1, if_neg (by decide), ← a3, getB, if_neg (by rw [b1]; decide)]⟩
      · obtain ⟨a1, a2⟩ := h1.bad e0
        exact ⟨_, (ee.trans (h2.same e0)).trans a2, by rw [hg, getHead, if_neg (by rw [a1]; decide)]⟩
end Go.Proofs.Ytmmkopdcbiiedaa
