/- Texts that the proof leans on, in one: PmMath, FactCells, StepCells, RoleEqL, RefFIn, RefFStep, DrewN, RefSameS, OwnS. -/
import Derived.Test.YtjaplnainlbldaaFc5
import Derived.Test.YtjaplnainlbldaaFc1
import Derived.Test.YtjaplnainlbldaaFc2
import Derived.Deep.QuietTactic
import Derived.BigQuiet
import Derived.Test.YtjaplnainlbldaaProg
import Derived.Test.YtjaplnainlbldaaChecked
import Derived.Maps.AppendAt
/- How the program's model grows: plain words, nothing of the program's text. -/
namespace Go.Proofs.Ytjaplnainlbldaa
open Go.RowKit

/-- What a credential brings, if A says which facts are there. -/
def Brings (c : CredB) (A : FactB → Prop) (f : FactB) : Prop :=
 f.1 = c.head ∧ ((c.kind = 1 ∧ f.2 = c.who) ∨ (c.kind = 2 ∧ A (c.b, f.2)) ∨ (c.kind = 3 ∧ ∃ b, A (c.b, b) ∧ A ((b, c.w2), f.2)) ∨ (c.kind = 4 ∧ A (c.b, f.2) ∧ A (c.c, f.2)))

theorem Brings.mono {c : CredB} {A B : FactB → Prop} (h : ∀ f, A f → B f) {f : FactB} (hb : Brings c A f) : Brings c B f := by
 obtain ⟨h1, h2⟩ := hb
 refine ⟨h1, ?_⟩
 rcases h2 with ⟨k, h2⟩ | ⟨k, h2⟩ | ⟨k, b, h2, h3⟩ | ⟨k, h2, h3⟩
 ·exact .inl ⟨k, h2⟩
 ·exact .inr (.inl ⟨k, h _ h2⟩)
 ·exact .inr (.inr (.inl ⟨k, b, h _ h2, h _ h3⟩))
 ·exact .inr (.inr (.inr ⟨k, h _ h2, h _ h3⟩))

theorem Brings.der {ls : List CredB} {c : CredB} {A : FactB → Prop} (hc : c ∈ ls) (hr : isCred c = true) (hA : ∀ f, A f → Der ls f) {f : FactB} (hb : Brings c A f) : Der ls f := by
 obtain ⟨r, s⟩ := f
 obtain ⟨h1, h2⟩ := hb
 simp only at h1 h2
 subst h1
 rcases h2 with ⟨k, rfl⟩ | ⟨k, h2⟩ | ⟨k, b, h2, h3⟩ | ⟨k, h2, h3⟩
 ·exact .mem hc hr k
 ·exact .inc hc hr k (hA _ h2)
 ·exact .link hc hr k (hA _ h2) (hA _ h3)
 ·exact .both hc hr k (hA _ h2) (hA _ h3)

theorem brings_all {ls : List CredB} {A : FactB → Prop} (h : ∀ c ∈ ls, isCred c = true → ∀ f, Brings c A f → A f) {f : FactB} (hd : Der ls f) : A f := by
 induction hd with
 | mem hc hr k => exact h _ hc hr _ ⟨rfl, .inl ⟨k, rfl⟩⟩
 | inc hc hr k _ ih => exact h _ hc hr _ ⟨rfl, .inr (.inl ⟨k, ih⟩)⟩
 | link hc hr k _ _ ih1 ih2 => exact h _ hc hr _ ⟨rfl, .inr (.inr (.inl ⟨k, _, ih1, ih2⟩))⟩
 | both hc hr k _ _ ih1 ih2 => exact h _ hc hr _ ⟨rfl, .inr (.inr (.inr ⟨k, ih1, ih2⟩))⟩

/-- What one step brings because w is in a role that c leans on. -/
def StepOf (F : List FactB) (c : CredB) (w : List UInt8) (g : FactB) : Prop :=
 g.1 = c.head ∧ ((c.kind = 2 ∧ g.2 = w) ∨ (c.kind = 3 ∧ ((w, c.w2), g.2) ∈ F) ∨ (c.kind = 4 ∧ g.2 = w ∧ (c.b, w) ∈ F ∧ (c.c, w) ∈ F))

/-- The credentials by the roles that they lean on. -/
def leanR (T : List CredB) (r : RoleB) (c : CredB) : Prop := c ∈ T ∧ isCred c = true ∧ c.kind ≠ 1 ∧ (c.b = r ∨ (c.kind = 4 ∧ c.c = r))
def linkR (T : List CredB) (v : List UInt8) (c : CredB) : Prop := c ∈ T ∧ isCred c = true ∧ c.kind = 3 ∧ c.w2 = v

/-- What is there when f has been followed. -/
def FollowedF (T : List CredB) (F F' : List FactB) (f : FactB) : Prop :=
 ∀ c ∈ T, isCred c = true → ∀ P : FactB → Prop, (∀ x, P x → x ∈ F) → ∀ g, Brings c (fun x => P x ∨ x = f) g → Brings c P g ∨ g ∈ F'

theorem followed_of_steps {T : List CredB} {F F' : List FactB} {f : FactB} (hf : f ∈ F) (h1 : ∀ c, leanR T f.1 c → ∀ g, StepOf F c f.2 g → g ∈ F') (h2 : ∀ c, linkR T f.1.2 c → (c.b, f.1.1) ∈ F → (c.head, f.2) ∈ F') : FollowedF T F F' f := by
 intro c hc hr P hP g hb
 obtain ⟨⟨o, v⟩, s⟩ := f
 obtain ⟨g1, g2⟩ := g
 obtain ⟨e1, hb⟩ := hb
 simp only at e1 hb h1 h2
 subst e1
 rcases hb with ⟨k, hb⟩ | ⟨k, hb⟩ | ⟨k, b, hb, hb2⟩ | ⟨k, hb, hb2⟩
 ·exact .inl ⟨rfl, .inl ⟨k, hb⟩⟩
 ·rcases hb with hb | hb
  ·exact .inl ⟨rfl, .inr (.inl ⟨k, hb⟩)⟩
  ·simp only [Prod.mk.injEq] at hb
   exact .inr (h1 c ⟨hc, hr, by omega, .inl hb.1⟩ _ ⟨rfl, .inl ⟨k, hb.2⟩⟩)
 ·have hb2F : ((b, c.w2), g2) ∈ F := by
   rcases hb2 with hb2 | hb2
   ·exact hP _ hb2
   ·rw [hb2]; exact hf
  rcases hb with hb | hb
  ·rcases hb2 with hb2 | hb2
   ·exact .inl ⟨rfl, .inr (.inr (.inl ⟨k, b, hb, hb2⟩))⟩
   ·simp only [Prod.mk.injEq] at hb2
    obtain ⟨⟨rfl, rfl⟩, rfl⟩ := hb2
    exact .inr (h2 c ⟨hc, hr, k, rfl⟩ (hP _ hb))
  ·simp only [Prod.mk.injEq] at hb
   obtain ⟨hb, rfl⟩ := hb
   exact .inr (h1 c ⟨hc, hr, by omega, .inl hb⟩ _ ⟨rfl, .inr (.inl ⟨k, hb2F⟩)⟩)
 ·have hbF : (c.b, g2) ∈ F := by
   rcases hb with hb | hb
   ·exact hP _ hb
   ·rw [hb]; exact hf
  have hb2F : (c.c, g2) ∈ F := by
   rcases hb2 with hb2 | hb2
   ·exact hP _ hb2
   ·rw [hb2]; exact hf
  rcases hb with hb | hb
  ·rcases hb2 with hb2 | hb2
   ·exact .inl ⟨rfl, .inr (.inr (.inr ⟨k, hb, hb2⟩))⟩
   ·simp only [Prod.mk.injEq] at hb2
    obtain ⟨hb2, rfl⟩ := hb2
    exact .inr (h1 c ⟨hc, hr, by omega, .inr ⟨k, hb2⟩⟩ _ ⟨rfl, .inr (.inr ⟨k, rfl, hbF, hb2F⟩)⟩)
  ·simp only [Prod.mk.injEq] at hb
   obtain ⟨hb, rfl⟩ := hb
   exact .inr (h1 c ⟨hc, hr, by omega, .inl hb⟩ _ ⟨rfl, .inr (.inr ⟨k, rfl, hbF, hb2F⟩)⟩)

/-- Between two of Add's calls: F are the facts that are there, P those that need not be followed any more, T the credentials that have been taken. -/
structure AddI (ls T : List CredB) (F P : List FactB) : Prop where
 nd : F.Nodup
 der : ∀ f ∈ F, Der ls f
 sub : ∀ f ∈ P, f ∈ F
 step : ∀ c ∈ T, isCred c = true → ∀ g, Brings c (· ∈ P) g → g ∈ F

theorem AddI.follow {ls T : List CredB} {F P F' : List FactB} (h : AddI ls T F P) {f : FactB} (hf : f ∈ F) (hnd : F'.Nodup) (hd : ∀ f ∈ F', Der ls f) (hsub : ∀ f ∈ F, f ∈ F') (hF : FollowedF T F F' f) : AddI ls T F' (P ++ [f]) :=
 ⟨hnd, hd, fun x hx => by
  rcases List.mem_append.1 hx with hx | hx
  ·exact hsub x (h.sub x hx)
  ·rw [List.mem_singleton] at hx; subst hx; exact hsub _ hf, fun c hc hr g hg => by
  rcases hF c hc hr (· ∈ P) (fun x hx => h.sub x hx) g (hg.mono (fun x hx => by simpa using hx)) with h1 | h1
  ·exact hsub g (h.step c hc hr g h1)
  ·exact h1⟩

theorem AddI.done {ls T : List CredB} {F P : List FactB} (h : AddI ls T F P) (hP : ∀ f ∈ F, f ∈ P) (hT : ∀ c ∈ ls, isCred c = true → c ∈ T) : ∀ f, f ∈ F ↔ Der ls f := fun f =>
 ⟨h.der f, fun hd => brings_all (A := (· ∈ F)) (fun c hc hr g hg => h.step c (hT c hc hr) hr g (hg.mono (fun x hx => hP x hx))) hd⟩

theorem der_few {ls : List CredB} {F : List FactB} (hnd : F.Nodup) (hd : ∀ f ∈ F, Der ls f) (hl : ls.length ≤ 1000) : F.length ≤ 4000000 := by
 have := facts_le (rs := ls.map (·.head)) (ns := whosOf ls) hnd (fun f hf => by
  refine ⟨?_, ?_⟩
  ·obtain ⟨c, hc, _, e⟩ := (hd f hf).head
   exact List.mem_map.2 ⟨c, hc, e⟩
  ·obtain ⟨c, hc, hr, hk, e⟩ := (hd f hf).who
   rw [← e]
   exact whosOf_who hc)
 rw [List.length_map, whosOf_len] at this
 exact Nat.le_trans this (Nat.le_trans (Nat.mul_le_mul hl (Nat.mul_le_mul_right 4 hl)) (by decide))

theorem der_short {ls : List CredB} {f : FactB} (hd : Der ls f) : f.1.1.length ≤ 16 ∧ f.1.2.length ≤ 16 ∧ f.2.length ≤ 16 := by
 obtain ⟨c, _, hr, e⟩ := hd.head
 obtain ⟨c2, _, hr2, hk2, e2⟩ := hd.who
 have h1 := isCred_short hr
 refine ⟨?_, ?_, ?_⟩
 ·rw [← e]; exact h1.1
 ·rw [← e]; exact h1.2.1
 ·rw [← e2]; exact (isCred_short hr2).2.2.1
end Go.Proofs.Ytjaplnainlbldaa

/- Facts, as they lie in memory; lists of them of the call's own. -/
namespace Go.Proofs.Ytjaplnainlbldaa
open Go.RowKit

def factCells (f : FactB) : List Value := [.string ⟨f.1.1.toArray⟩, .string ⟨f.1.2.toArray⟩, .string ⟨f.2.toArray⟩]
def factBox (f : FactB) : Array Value := #[.string ⟨f.1.1.toArray⟩, .string ⟨f.1.2.toArray⟩, .string ⟨f.2.toArray⟩]
def factV (f : FactB) : Value := .agg (factBox f)

/-- The fact f lies at the three cells from o on. -/
structure FactAt (w : World) (b o : Nat) (f : FactB) : Prop where
 k0 : w.cell? ⟨b, o, none⟩ = some (.string ⟨f.1.1.toArray⟩)
 k1 : w.cell? ⟨b, o + 1, none⟩ = some (.string ⟨f.1.2.toArray⟩)
 k2 : w.cell? ⟨b, o + 2, none⟩ = some (.string ⟨f.2.toArray⟩)

/-- No text of it is greater than n. -/
def factShort (f : FactB) (n : Nat) : Prop := f.1.1.length ≤ n ∧ f.1.2.length ≤ n ∧ f.2.length ≤ n

theorem factShort.mono {f : FactB} {n m : Nat} (h : factShort f n) (hm : n ≤ m) : factShort f m := ⟨Nat.le_trans h.1 hm, Nat.le_trans h.2.1 hm, Nat.le_trans h.2.2 hm⟩

theorem FactAt.keep {S : Nat → Prop} {w w' : World} {b o : Nat} {f : FactB} (h : FactAt w b o f) (hc : Chg S w w') (hS : ¬ S b) : FactAt w' b o f :=
 ⟨hc.cell h.k0 hS, hc.cell h.k1 hS, hc.cell h.k2 hS⟩

/-- The facts ls can be read from the address ao on. -/
def FactsAt (D : Nat → Prop) (w : World) (ao : Option Addr) (ls : List FactB) : Prop :=
 ∀ i (h : i < ls.length), ∃ b off, ao = some ⟨b, off, none⟩ ∧ D b ∧ FactAt w b (off + i * 3) ls[i]

theorem FactsAt.keep {S D : Nat → Prop} {w w' : World} {ao : Option Addr} {ls : List FactB} (h : FactsAt D w ao ls) (hc : Chg S w w') (hS : ∀ i, D i → ¬ S i) : FactsAt D w' ao ls := fun i hi =>
 let ⟨b, off, h1, h2, h3⟩ := h i hi
 ⟨b, off, h1, h2, h3.keep hc (hS b h2)⟩

theorem FactsAt.mono {D D' : Nat → Prop} {w : World} {ao : Option Addr} {ls : List FactB} (h : FactsAt D w ao ls) (hD : ∀ i, D i → D' i) : FactsAt D' w ao ls := fun i hi =>
 let ⟨b, off, h1, h2, h3⟩ := h i hi
 ⟨b, off, h1, hD b h2, h3⟩

theorem FactsAt.nil (D : Nat → Prop) (w : World) (ao : Option Addr) : FactsAt D w ao [] := fun i hi => by simp at hi

theorem fact_at_blk {w : World} {g : Nat} {f : FactB} {ty : TypeId} {z : Nat × Nat} (h : w.heap[g]? = some (.cells (factBox f) ty z)) : FactAt w g 0 f :=
 ⟨cell_blk h 0, cell_blk h 1, cell_blk h 2⟩

theorem Try.info26 : (Try.prog.info? 26).map (fun i => (i.zero, i.size, i.bytes)) = some (some (.agg #[.string ⟨#[]⟩, .string ⟨#[]⟩, .string ⟨#[]⟩]), 3, 48) := by kernel_rfl

def factRow (ls : List FactB) : List Value := ls.flatMap factCells
theorem factRow_snoc (ls : List FactB) (x : FactB) : factRow (ls ++ [x]) = factRow ls ++ factCells x := by simp [factRow]
theorem factRow_get : ∀ (ls : List FactB) (i j : Nat) (h : i < ls.length) (_ : j < 3), (factRow ls)[i * 3 + j]? = (factCells ls[i])[j]?
 | x :: l, 0, j, _, hj => by
  rw [Nat.zero_mul, Nat.zero_add, factRow, List.flatMap_cons, List.getElem?_append_left (by simpa [factCells] using hj)]
  rfl
 | x :: l, i + 1, j, h, hj => by
  have hl : (factCells x).length = 3 := rfl
  have := factRow_get l i j (by simpa using h) hj
  rw [factRow, List.flatMap_cons, List.getElem?_append_right (by rw [hl, Nat.add_mul]; omega), hl]
  rw [show (i + 1) * 3 + j - 3 = i * 3 + j by rw [Nat.add_mul]; omega]
  exact this

/-- A list of facts of the call's own. -/
def OwnF (B : Nat) (w : World) (v : Value) (ls : List FactB) : Prop := w.ownsRow B 26 3 v ls.length (factRow ls)

theorem OwnF.keep {S : Nat → Prop} {B : Nat} {w w' : World} {v : Value} {ls : List FactB} (h : OwnF B w v ls) (hc : Chg S w w') (hr : ∀ k, v.ownBlock = some k → ¬ S k) : OwnF B w' v ls := ownsRow_keep h hc hr

theorem OwnF.shape {B : Nat} {w : World} {v : Value} {ls : List FactB} (h : OwnF B w v ls) : ∃ ao cap, v = .slice ao ls.length cap := by
 rcases h.2 with ⟨rfl, h0⟩ | ⟨g, cap, cur, rfl, _⟩
 ·exact ⟨none, 0, by rw [h0]⟩
 ·exact ⟨_, _, rfl⟩

theorem OwnF.low {B A : Nat} {w : World} {v : Value} {ls : List FactB} (h : OwnF B w v ls) (hA : A ≤ B) : OwnF A w v ls := by
 rcases h with ⟨h1, h2 | ⟨g, cap, cur, h3, h4, h5⟩⟩
 ·exact ⟨h1, .inl h2⟩
 ·exact ⟨h1, .inr ⟨g, cap, cur, h3, Nat.le_trans hA h4, h5⟩⟩

theorem OwnF.facts {B : Nat} {w : World} {v : Value} {ls : List FactB} (h : OwnF B w v ls) :
  ∃ ao cap, v = .slice ao ls.length cap ∧ FactsAt (fun k => B ≤ k ∧ k < w.heap.size) w ao ls ∧ (ao = none → cap = 0) := by
 have hall := h
 rcases h.2 with ⟨rfl, h0⟩ | ⟨g, cap, cur, rfl, hg, hh, h1, h2, h3, h4⟩
 ·have : ls = [] := List.eq_nil_of_length_eq_zero h0
  subst this
  exact ⟨none, 0, rfl, FactsAt.nil _ _ _, fun _ => rfl⟩
 ·have at_ : ∀ i (hi : i < ls.length) j (hj : j < 3), w.cell? ⟨g, 0 + i * 3 + j, none⟩ = (factCells ls[i])[j]? := fun i hi j hj => by
   have hget := factRow_get ls i j hi hj
   have hs : j < (factCells ls[i]).length := hj
   rw [List.getElem?_eq_getElem hs] at hget ⊢
   have := hall.cells (g := g) rfl (i * 3 + j) _ hget
   rw [add_off, Nat.zero_add] at this
   rw [Nat.zero_add]
   exact this
  exact ⟨_, _, rfl, fun i hi => ⟨g, 0, rfl, ⟨hg, lt_blk hh⟩, at_ i hi 0 (by decide), at_ i hi 1 (by decide), at_ i hi 2 (by decide)⟩, fun e => by cases e⟩

theorem fact_cells_new (w : World) (x : FactB) (j : Nat) (u : Value) (h : (factCells x)[j]? = some u) : (w.alloc (.cells (factBox x) 26)).cell? ((⟨w.heap.size, 0, none⟩ : Addr).add j) = some u := by
 rw [add_off, cell_blk (heap_alloc_new w _), Nat.zero_add]
 have : factBox x = (factCells x).toArray := rfl
 rw [this, List.getElem?_toArray]
 exact h

theorem fact_one (x : FactB) : ∀ u ∈ factCells x, u.oneCell' = true := by
 intro u hu
 simp only [factCells, List.mem_cons, List.not_mem_nil, or_false] at hu
 rcases hu with rfl | rfl | rfl <;> rfl
end Go.Proofs.Ytjaplnainlbldaa

/- Steps of chains as they lie in memory. -/
namespace Go.Proofs.Ytjaplnainlbldaa
open Go.RowKit

/-- A step: its credential, its fact. -/
structure StepB where
 c : CredB
 f : FactB
deriving DecidableEq

def stepCells (s : StepB) : List Value := [.int .i64 s.c.kind, .string ⟨s.c.head.1.toArray⟩, .string ⟨s.c.head.2.toArray⟩, .string ⟨s.c.who.toArray⟩, .string ⟨s.c.b.1.toArray⟩, .string ⟨s.c.b.2.toArray⟩, .string ⟨s.c.c.1.toArray⟩, .string ⟨s.c.c.2.toArray⟩, .string ⟨s.c.w2.toArray⟩, .string ⟨s.f.1.1.toArray⟩, .string ⟨s.f.1.2.toArray⟩, .string ⟨s.f.2.toArray⟩]
def stepBox (s : StepB) : Array Value := #[.int .i64 s.c.kind, .string ⟨s.c.head.1.toArray⟩, .string ⟨s.c.head.2.toArray⟩, .string ⟨s.c.who.toArray⟩, .string ⟨s.c.b.1.toArray⟩, .string ⟨s.c.b.2.toArray⟩, .string ⟨s.c.c.1.toArray⟩, .string ⟨s.c.c.2.toArray⟩, .string ⟨s.c.w2.toArray⟩, .string ⟨s.f.1.1.toArray⟩, .string ⟨s.f.1.2.toArray⟩, .string ⟨s.f.2.toArray⟩]
/-- The step s lies at the twelve cells from o on. -/
structure StepAt (w : World) (b o : Nat) (s : StepB) : Prop where
 c : CredAt w b o s.c
 f : FactAt w b (o + 9) s.f

def stepShort (s : StepB) (n : Nat) : Prop := credShort s.c n ∧ factShort s.f n

theorem StepAt.keep {S : Nat → Prop} {w w' : World} {b o : Nat} {s : StepB} (h : StepAt w b o s) (hc : Chg S w w') (hS : ¬ S b) : StepAt w' b o s := ⟨h.c.keep hc hS, h.f.keep hc hS⟩

/-- The steps ls can be read from the address ao on. -/
def StepsAt (D : Nat → Prop) (w : World) (ao : Option Addr) (ls : List StepB) : Prop :=
 ∀ i (h : i < ls.length), ∃ b off, ao = some ⟨b, off, none⟩ ∧ D b ∧ StepAt w b (off + i * 12) ls[i] ∧ stepShort ls[i] 9223372036854775807

theorem StepsAt.keep {S D : Nat → Prop} {w w' : World} {ao : Option Addr} {ls : List StepB} (h : StepsAt D w ao ls) (hc : Chg S w w') (hS : ∀ i, D i → ¬ S i) : StepsAt D w' ao ls := fun i hi =>
 let ⟨b, off, h1, h2, h3, h4⟩ := h i hi
 ⟨b, off, h1, h2, h3.keep hc (hS b h2), h4⟩
theorem StepsAt.mono {D D' : Nat → Prop} {w : World} {ao : Option Addr} {ls : List StepB} (h : StepsAt D w ao ls) (hD : ∀ i, D i → D' i) : StepsAt D' w ao ls := fun i hi =>
 let ⟨b, off, h1, h2, h3⟩ := h i hi
 ⟨b, off, h1, hD b h2, h3⟩
theorem StepsAt.nil (D : Nat → Prop) (w : World) (ao : Option Addr) : StepsAt D w ao [] := fun i h => absurd h (by simp)
/-- The first k of them. -/
theorem StepsAt.take {D : Nat → Prop} {w : World} {ao : Option Addr} {ls : List StepB} (h : StepsAt D w ao ls) (k : Nat) : StepsAt D w ao (ls.take k) := fun i hi => by
 have hi2 : i < ls.length := by rw [List.length_take] at hi; omega
 obtain ⟨b, off, h1, h2, h3⟩ := h i hi2
 refine ⟨b, off, h1, h2, ?_⟩
 rw [List.getElem_take]
 exact h3
/-- Those from k on. -/
theorem StepsAt.drop {D : Nat → Prop} {w : World} {b off : Nat} {ls : List StepB} (h : StepsAt D w (some ⟨b, off, none⟩) ls) (k : Nat) : StepsAt D w (some ⟨b, off + k * 12, none⟩) (ls.drop k) := fun i hi => by
 have hi2 : k + i < ls.length := by rw [List.length_drop] at hi; omega
 obtain ⟨b2, off2, h1, h2, h3⟩ := h (k + i) hi2
 cases h1
 refine ⟨b, off + k * 12, rfl, h2, ?_⟩
 rw [List.getElem_drop, show off + k * 12 + i * 12 = off + (k + i) * 12 by rw [Nat.add_mul]; omega]
 exact h3

theorem step_at_blk {w : World} {g : Nat} {s : StepB} {ty : TypeId} {z : Nat × Nat} (h : w.heap[g]? = some (.cells (stepBox s) ty z)) : StepAt w g 0 s :=
 ⟨⟨cell_blk h 0, cell_blk h 1, cell_blk h 2, cell_blk h 3, cell_blk h 4, cell_blk h 5, cell_blk h 6, cell_blk h 7, cell_blk h 8⟩, ⟨cell_blk h 9, cell_blk h 10, cell_blk h 11⟩⟩

theorem Try.info43 : (Try.prog.info? 43).map (fun i => (i.zero, i.size, i.bytes)) = some (some (.agg #[.int .i64 0, .string ⟨#[]⟩, .string ⟨#[]⟩, .string ⟨#[]⟩, .string ⟨#[]⟩, .string ⟨#[]⟩, .string ⟨#[]⟩, .string ⟨#[]⟩, .string ⟨#[]⟩, .string ⟨#[]⟩, .string ⟨#[]⟩, .string ⟨#[]⟩]), 12, 184) := by kernel_rfl

def stepRow (ls : List StepB) : List Value := ls.flatMap stepCells
theorem stepRow_snoc (ls : List StepB) (x : StepB) : stepRow (ls ++ [x]) = stepRow ls ++ stepCells x := by simp [stepRow]
theorem stepRow_append (a b : List StepB) : stepRow (a ++ b) = stepRow a ++ stepRow b := by simp [stepRow]
theorem stepRow_len (ls : List StepB) : (stepRow ls).length = ls.length * 12 := by
 unfold stepRow
 induction ls with
 | nil => rfl
 | cons x l ih => rw [List.flatMap_cons, List.length_append, ih, List.length_cons]; simp [stepCells]; omega
theorem stepRow_get : ∀ (ls : List StepB) (i j : Nat) (h : i < ls.length) (_ : j < 12), (stepRow ls)[i * 12 + j]? = (stepCells ls[i])[j]?
 | x :: l, 0, j, _, hj => by
  rw [Nat.zero_mul, Nat.zero_add, stepRow, List.flatMap_cons, List.getElem?_append_left (by simpa [stepCells] using hj)]
  rfl
 | x :: l, i + 1, j, h, hj => by
  have hl : (stepCells x).length = 12 := rfl
  have := stepRow_get l i j (by simpa using h) hj
  rw [stepRow, List.flatMap_cons, List.getElem?_append_right (by rw [hl, Nat.add_mul]; omega), hl]
  rw [show (i + 1) * 12 + j - 12 = i * 12 + j by rw [Nat.add_mul]; omega]
  exact this

/-- A list of steps of the call's own. -/
def OwnSt (B : Nat) (w : World) (v : Value) (ls : List StepB) : Prop := w.ownsRow B 43 12 v ls.length (stepRow ls)

theorem OwnSt.keep {S : Nat → Prop} {B : Nat} {w w' : World} {v : Value} {ls : List StepB} (h : OwnSt B w v ls) (hc : Chg S w w') (hr : ∀ k, v.ownBlock = some k → ¬ S k) : OwnSt B w' v ls := ownsRow_keep h hc hr

theorem OwnSt.shape {B : Nat} {w : World} {v : Value} {ls : List StepB} (h : OwnSt B w v ls) : ∃ ao cap, v = .slice ao ls.length cap := by
 rcases h.2 with ⟨rfl, h0⟩ | ⟨g, cap, cur, rfl, _⟩
 ·exact ⟨none, 0, by rw [h0]⟩
 ·exact ⟨_, _, rfl⟩

theorem OwnSt.steps {B : Nat} {w : World} {v : Value} {ls : List StepB} (h : OwnSt B w v ls) (hb : ∀ x ∈ ls, stepShort x 9223372036854775807) :
  ∃ ao cap, v = .slice ao ls.length cap ∧ StepsAt (fun k => B ≤ k ∧ k < w.heap.size) w ao ls ∧ (ao = none → cap = 0) := by
 have hall := h
 rcases h.2 with ⟨rfl, h0⟩ | ⟨g, cap, cur, rfl, hg, hh, h1, h2, h3, h4⟩
 ·have : ls = [] := List.eq_nil_of_length_eq_zero h0
  subst this
  exact ⟨none, 0, rfl, StepsAt.nil _ _ _, fun _ => rfl⟩
 ·have at_ : ∀ i (hi : i < ls.length) j (hj : j < 12), w.cell? ⟨g, 0 + i * 12 + j, none⟩ = (stepCells ls[i])[j]? := fun i hi j hj => by
   have hget := stepRow_get ls i j hi hj
   have hs : j < (stepCells ls[i]).length := hj
   rw [List.getElem?_eq_getElem hs] at hget ⊢
   have := hall.cells (g := g) rfl (i * 12 + j) _ hget
   rw [add_off, Nat.zero_add] at this
   rw [Nat.zero_add]
   exact this
  exact ⟨_, _, rfl, fun i hi => ⟨g, 0, rfl, ⟨hg, lt_blk hh⟩, ⟨⟨at_ i hi 0 (by decide), at_ i hi 1 (by decide), at_ i hi 2 (by decide), at_ i hi 3 (by decide), at_ i hi 4 (by decide), at_ i hi 5 (by decide), at_ i hi 6 (by decide), at_ i hi 7 (by decide), at_ i hi 8 (by decide)⟩, ⟨at_ i hi 9 (by decide), at_ i hi 10 (by decide), at_ i hi 11 (by decide)⟩⟩, hb _ (List.getElem_mem hi)⟩, fun e => by cases e⟩

theorem step_one (x : StepB) : ∀ u ∈ stepCells x, u.oneCell' = true := by
 intro u hu
 simp only [stepCells, List.mem_cons, List.not_mem_nil, or_false] at hu
 rcases hu with rfl | rfl | rfl | rfl | rfl | rfl | rfl | rfl | rfl | rfl | rfl | rfl <;> rfl

/-- The facts of steps. -/
def factsK (ls : List StepB) : List FactB := ls.map (·.f)
theorem factsK_snoc (ls : List StepB) (x : StepB) : factsK (ls ++ [x]) = factsK ls ++ [x.f] := by simp [factsK]
theorem factsK_len (ls : List StepB) : (factsK ls).length = ls.length := by simp [factsK]
end Go.Proofs.Ytjaplnainlbldaa

/- Go's == at roles whose cells are told. -/
namespace Go.Proofs.Ytjaplnainlbldaa
open Go.RowKit

theorem run_eqg_role (x y : Operand) (a b : RoleB) (w : World) : Sem.run Try.prog (eqGuard BinOp.eql 24 x y (.agg #[.string ⟨a.1.toArray⟩, .string ⟨a.2.toArray⟩]) (.agg #[.string ⟨b.1.toArray⟩, .string ⟨b.2.toArray⟩])) w = .ok () w := by
 go_simp

theorem run_eql_role (a b : RoleB) (w : World) : Sem.run Try.prog (binOp BinOp.eql 24 (.agg #[.string ⟨a.1.toArray⟩, .string ⟨a.2.toArray⟩]) (.agg #[.string ⟨b.1.toArray⟩, .string ⟨b.2.toArray⟩])) w = .ok (.bool (decide (a = b))) w := by
 have : decide (a = b) = decide (a.1 = b.1 ∧ a.2 = b.2) := by simp only [Prod.ext_iff]
 rw [this]
 go_simp
 repeat' split
 all_goals simp_all
end Go.Proofs.Ytjaplnainlbldaa

/- The contract of the document's In, of layer 8. -/
namespace Go.Proofs.Ytjaplnainlbldaa
open Go.RowKit
attribute [local go_sem ↓ high] run_eqg_role run_eql_role

theorem inF_take {ls : List FactB} {k : Nat} (h : k < ls.length) {r : RoleB} {s : List UInt8} (h0 : inF (ls.take k) r s = false) (h1 : (ls[k].1 == r && ls[k].2 == s) = false) : inF (ls.take (k + 1)) r s = false := by
 rw [List.take_succ_eq_append_getElem h]
 unfold inF at *
 rw [List.any_append, h0]
 simpa using h1
theorem inF_at {ls : List FactB} {k : Nat} (h : k < ls.length) {r : RoleB} {s : List UInt8} (h1 : (ls[k].1 == r && ls[k].2 == s) = true) : inF ls r s = true := by
 unfold inF
 rw [List.any_eq_true]
 exact ⟨_, List.getElem_mem h, h1⟩

set_option maxRecDepth 100000 in
set_option maxHeartbeats 2000000 in
theorem rfin {D : Nat → Prop} (ao : Option Addr) (cp : Nat) (ls : List FactB) (r : RoleB) (s : List UInt8) (w : World) (hn : ls.length ≤ 4611686018427387904) (h : FactsAt D w ao ls) :
  Calls Try.prog 10 #[.slice ao ls.length cp, .agg #[.string ⟨r.1.toArray⟩, .string ⟨r.2.toArray⟩], .string ⟨s.toArray⟩] w fun e w' => e = .returned (.bool (inF ls r s)) ∧ Chg (fun _ => False) w w' := by
 have hc : Chg (fun _ => False) w (w.alloc (.cells #[.string ⟨r.1.toArray⟩, .string ⟨r.2.toArray⟩] 24)) := (Chg.refl _ w).alloc _
 have hA := heap_alloc_new w (.cells #[.string ⟨r.1.toArray⟩, .string ⟨r.2.toArray⟩] 24)
 have HH := hid (And.intro hA (And.intro hc (h.keep hc (fun _ _ => id))))
 clear hc hA h
 go_enter Try.func10, Try.ntmps10
 go_wp2
 obtain ⟨hA, hc, h⟩ := HH.out
 clear HH
 generalize (w.alloc (.cells #[.string ⟨r.1.toArray⟩, .string ⟨r.2.toArray⟩] 24)) = w1 at *
 generalize w.heap.size = A at *
 have HX := hid (And.intro hA (And.intro hc h))
 clear hA hc h
 go_loopw [11] (fun i wr => ∃ k : Nat, k ≤ ls.length ∧ i = .int .i64 k ∧ Hid (inF (ls.take k) r s = false) ∧ Chg (fun _ => False) w1 wr) (fun i _ => ls.length - (intOf i).toNat)
 case atStart => exact ⟨0, Nat.zero_le _, rfl, by rw [List.take_zero]; rfl, Chg.refl _ _⟩
 case round =>
  obtain ⟨k, hk, rfl, hf, hc1⟩ := hrel
  have hA1 := blk_keep HX.out.1 hc1 id
  by_cases hlt : k < ls.length
  ·obtain ⟨b, off, hao, _, ⟨a0, a1, a2⟩⟩ := (HX.out.2.2.keep hc1 (fun _ _ => id)) k hlt
   have HY : Hid (((ls[k].1 == r && ls[k].2 == s) = true → inF ls r s = true) ∧ ((ls[k].1 == r && ls[k].2 == s) = false → inF (ls.take (k + 1)) r s = false)) := hid ⟨inF_at hlt, inF_take hlt hf.out⟩
   generalize ls[k] = q at *
   have hA2 := blk_keep hA1 ((Chg.refl (fun _ => False) wr).alloc (.cells #[.string ⟨q.1.1.toArray⟩, .string ⟨q.1.2.toArray⟩, .string ⟨q.2.toArray⟩] 26)) id
   have q0 := cell_blk hA2 0
   have q1 := cell_blk hA2 1
   simp only [List.getElem?_toArray, List.getElem?_cons_zero, List.getElem?_cons_succ] at q0 q1
   have HC := hid hc1
   subst hao
   clear hA1 hA2 hc1 hf
   by_cases hr : q.1 = r
   ·have d1 : decide (q.1 = r) = true := decide_eq_true hr
    have HR := hid hr
    clear hr
    go_wp2
    ·have hs : (q.2 == s) = true := by assumption
     have hres := HY.out.1 (by rw [HR.out, hs]; simp)
     have HE := hid hres
     go_ret
     exact ⟨by rw [HE.out]; rfl, (HX.out.2.1.trans HC.out (fun _ _ h => h)).alloc _⟩
    ·have hs : (q.2 == s) = false := by assumption
     have HE := hid (HY.out.2 (by rw [hs]; simp))
     go_roundw
     case rel => exact ⟨k + 1, by omega, by go_num, HE, HC.out.alloc _⟩
     case measure => simp [intOf]; omega
   ·have d1 : decide (q.1 = r) = false := decide_eq_false hr
    have HE := hid (HY.out.2 (by simp [hr]))
    clear hr
    go_wp2
    go_roundw
    case rel => exact ⟨k + 1, by omega, by go_num, HE, HC.out.alloc _⟩
    case measure => simp [intOf]; omega
  ·have hk2 : k = ls.length := by omega
   have hh : Hid (inF ls r s = false) := hid (by have := hf.out; rwa [hk2, List.take_length] at this)
   have HC := hid (HX.out.2.1.trans hc1 (fun _ _ h => h))
   clear hc1 hA1 hk2 hf
   go_wp2
   go_ret
   exact ⟨by rw [hh.out]; rfl, HC.out⟩
end Go.Proofs.Ytjaplnainlbldaa

/- The contract of the document's Step, of layer 8. -/
namespace Go.Proofs.Ytjaplnainlbldaa
open Go.RowKit

/-- Whether one by the names so far brings s. -/
def linkF (xs : List FactB) (c : CredB) (names : List (List UInt8)) (s : List UInt8) : Bool := names.any (fun b => inF xs c.b b && inF xs (b, c.w2) s)

theorem linkF_take {xs : List FactB} {c : CredB} {names : List (List UInt8)} {s : List UInt8} {k : Nat} (h : k < names.length) (h0 : linkF xs c (names.take k) s = false) (h1 : (inF xs c.b names[k] && inF xs (names[k], c.w2) s) = false) : linkF xs c (names.take (k + 1)) s = false := by
 rw [List.take_succ_eq_append_getElem h]
 unfold linkF at *
 rw [List.any_append, h0]
 simpa using h1
theorem linkF_at {xs : List FactB} {c : CredB} {names : List (List UInt8)} {s : List UInt8} {k : Nat} (h : k < names.length) (h1 : (inF xs c.b names[k] && inF xs (names[k], c.w2) s) = true) : linkF xs c names s = true := by
 unfold linkF
 rw [List.any_eq_true]
 exact ⟨_, List.getElem_mem h, h1⟩

set_option maxRecDepth 100000 in
set_option maxHeartbeats 4000000 in
theorem rfstep {D E : Nat → Prop} (ao no : Option Addr) (cp np : Nat) (xs : List FactB) (c : CredB) (names : List (List UInt8)) (s : List UInt8) (w : World) (hn : xs.length ≤ 4611686018427387904) (hm : names.length ≤ 4611686018427387904) (h : FactsAt D w ao xs) (hs : StrsAt E w no names) :
  Calls Try.prog 41 #[.slice ao xs.length cp, credV c, .slice no names.length np, .string ⟨s.toArray⟩] w fun e w' => e = .returned (.bool (stepF xs c names s)) ∧ Chg (fun _ => False) w w' := by
 have hA := heap_alloc_new w (.cells (credBox c) 36)
 have hc1 : Chg (fun _ => False) w (w.alloc (.cells (credBox c) 36)) := (Chg.refl _ w).alloc _
 have HIN : Hid (∀ (W : World) (r : RoleB) (x : List UInt8), Chg (fun _ => False) w W → Calls Try.prog 10 #[.slice ao xs.length cp, .agg #[.string ⟨r.1.toArray⟩, .string ⟨r.2.toArray⟩], .string ⟨x.toArray⟩] W fun e w' => e = .returned (.bool (inF xs r x)) ∧ Chg (fun _ => False) W w') := hid (fun W r x hW => rfin ao cp xs r x W hn (h.keep hW (fun _ _ => id)))
 have HA := hid hA
 have HC : Hid (Chg (fun _ => False) w (w.alloc (.cells #[.int .i64 c.kind, .string ⟨c.head.1.toArray⟩, .string ⟨c.head.2.toArray⟩, .string ⟨c.who.toArray⟩, .string ⟨c.b.1.toArray⟩, .string ⟨c.b.2.toArray⟩, .string ⟨c.c.1.toArray⟩, .string ⟨c.c.2.toArray⟩, .string ⟨c.w2.toArray⟩] 36))) := hid hc1
 have HNS := hid hs
 clear hA hc1 h hs
 unfold credV credBox
 by_cases k1 : c.kind = 1
 ·have z1 : (c.kind == 1) = true := by rw [k1]; rfl
  have HST : Hid (stepF xs c names s = (c.who == s)) := hid (by unfold stepF; rw [if_pos k1])
  clear k1
  go_enter Try.func41, Try.ntmps41
  go_wp2
  go_ret
  exact ⟨by rw [HST.out]; rfl, HC.out⟩
 ·have z1 : (c.kind == 1) = false := by simpa using k1
  by_cases k2 : c.kind = 2
  ·have z2 : (c.kind == 2) = true := by rw [k2]; rfl
   have HST : Hid (stepF xs c names s = inF xs c.b s) := hid (by unfold stepF; rw [if_neg k1, if_pos k2])
   clear k1 k2
   go_enter Try.func41, Try.ntmps41
   go_wp2_with fail
   refine (HIN.out _ c.b s HC.out).mono ?_
   rintro e w2 ⟨rfl, hc2⟩
   have HC2 := hid (HC.out.trans hc2 (fun _ _ h => h))
   clear hc2
   go_wp2
   go_ret
   exact ⟨by rw [HST.out]; rfl, HC2.out⟩
  ·have z2 : (c.kind == 2) = false := by simpa using k2
   by_cases k4 : c.kind = 4
   ·have z4 : (c.kind == 4) = true := by rw [k4]; rfl
    have HST : Hid (stepF xs c names s = (inF xs c.b s && inF xs c.c s)) := hid (by unfold stepF; rw [if_neg k1, if_neg k2, if_pos k4])
    clear k1 k2 k4
    go_enter Try.func41, Try.ntmps41
    go_wp2_with fail
    refine (HIN.out _ c.b s HC.out).mono ?_
    rintro e w2 ⟨rfl, hc2⟩
    have HC2 := hid (HC.out.trans hc2 (fun _ _ h => h))
    have hb2 := cred_at_blk (blk_keep HA.out hc2 id)
    obtain ⟨y0, y1, y2, y3, y4, y5, y6, y7, y8⟩ := hb2
    simp only [Nat.zero_add] at y0 y1 y2 y3 y4 y5 y6 y7 y8
    clear hc2
    cases hb : inF xs c.b s with
    | false =>
     have HB := hid hb
     clear hb
     go_wp2
     go_ret
     exact ⟨by rw [HST.out, HB.out]; rfl, HC2.out⟩
    | true =>
     have HB := hid hb
     clear hb
     go_wp2_with fail
     refine (HIN.out _ c.c s HC2.out).mono ?_
     rintro e w3 ⟨rfl, hc3⟩
     have HC3 := hid (HC2.out.trans hc3 (fun _ _ h => h))
     clear hc3
     go_wp2
     go_ret
     exact ⟨by rw [HST.out, HB.out]; rfl, HC3.out⟩
   ·have z4 : (c.kind == 4) = false := by simpa using k4
    have HST : Hid (stepF xs c names s = linkF xs c names s) := hid (by unfold stepF linkF; rw [if_neg k1, if_neg k2, if_neg k4])
    clear k1 k2 k4
    go_enter Try.func41, Try.ntmps41
    go_wp2
    have HA1 : Hid ((w.alloc (.cells #[.int .i64 c.kind, .string ⟨c.head.1.toArray⟩, .string ⟨c.head.2.toArray⟩, .string ⟨c.who.toArray⟩, .string ⟨c.b.1.toArray⟩, .string ⟨c.b.2.toArray⟩, .string ⟨c.c.1.toArray⟩, .string ⟨c.c.2.toArray⟩, .string ⟨c.w2.toArray⟩] 36)).heap[w.heap.size]? = some (.cells (credBox c) 36 (0, 0))) := HA
    clear HA
    generalize (w.alloc (.cells #[.int .i64 c.kind, .string ⟨c.head.1.toArray⟩, .string ⟨c.head.2.toArray⟩, .string ⟨c.who.toArray⟩, .string ⟨c.b.1.toArray⟩, .string ⟨c.b.2.toArray⟩, .string ⟨c.c.1.toArray⟩, .string ⟨c.c.2.toArray⟩, .string ⟨c.w2.toArray⟩] 36)) = w1 at *
    generalize w.heap.size = A at *
    go_loopw [43] (fun i wr => ∃ k : Nat, k ≤ names.length ∧ i = .int .i64 k ∧ Hid (linkF xs c (names.take k) s = false) ∧ Chg (fun _ => False) w1 wr) (fun i _ => names.length - (intOf i).toNat)
    case atStart => exact ⟨0, Nat.zero_le _, rfl, hid rfl, Chg.refl _ _⟩
    case round =>
     obtain ⟨k, hk, rfl, hf, hc2⟩ := hrel
     have hcw := HC.out.trans hc2 (fun _ _ h => h)
     have hb2 := cred_at_blk (blk_keep HA1.out hc2 id)
     obtain ⟨y0, y1, y2, y3, y4, y5, y6, y7, y8⟩ := hb2
     simp only [Nat.zero_add] at y0 y1 y2 y3 y4 y5 y6 y7 y8
     by_cases hlt : k < names.length
     ·obtain ⟨b, off, hno, _, c0, _⟩ := (HNS.out.keep hcw (fun _ _ => id)) k hlt
      have HY : Hid (((inF xs c.b names[k] && inF xs (names[k], c.w2) s) = true → linkF xs c names s = true) ∧ ((inF xs c.b names[k] && inF xs (names[k], c.w2) s) = false → linkF xs c (names.take (k + 1)) s = false)) := hid ⟨linkF_at hlt, linkF_take hlt hf.out⟩
      generalize names[k] = q at *
      have HCW := hid hcw
      have HC2 := hid hc2
      subst hno
      clear hf hcw hc2
      go_wp2_with fail
      refine (HIN.out _ c.b q HCW.out).mono ?_
      rintro e w3 ⟨rfl, hc3⟩
      have HCW3 := hid (HCW.out.trans hc3 (fun _ _ h => h))
      have HC3 := hid (HC2.out.trans hc3 (fun _ _ h => h))
      clear hc3 y0 y1 y2 y3 y4 y5 y6 y7 y8 c0
      have hb3 := cred_at_blk (blk_keep HA1.out HC3.out id)
      obtain ⟨y0, y1, y2, y3, y4, y5, y6, y7, y8⟩ := hb3
      simp only [Nat.zero_add] at y0 y1 y2 y3 y4 y5 y6 y7 y8
      cases hb : inF xs c.b q with
      | false =>
       have HE := hid (HY.out.2 (by rw [hb]; rfl))
       clear hb
       go_wp2
       go_roundw
       case rel => exact ⟨k + 1, by omega, by go_num, HE, HC3.out⟩
       case measure => simp [intOf]; omega
      | true =>
       have HB := hid hb
       clear hb
       go_wp2_with fail
       refine (HIN.out _ (q, c.w2) s HCW3.out).mono ?_
       rintro e w4 ⟨rfl, hc4⟩
       have HCW4 := hid (HCW3.out.trans hc4 (fun _ _ h => h))
       have HC4 := hid (HC3.out.trans hc4 (fun _ _ h => h))
       clear hc4
       cases hb2 : inF xs (q, c.w2) s with
       | false =>
        have HE := hid (HY.out.2 (by rw [HB.out, hb2]; rfl))
        clear hb2
        go_wp2
        go_roundw
        case rel => exact ⟨k + 1, by omega, by go_num, HE, HC4.out⟩
        case measure => simp [intOf]; omega
       | true =>
        have HE := hid (HY.out.1 (by rw [HB.out, hb2]; rfl))
        clear hb2
        go_wp2
        go_ret
        exact ⟨by rw [HST.out, HE.out]; rfl, HCW4.out⟩
     ·have hk2 : k = names.length := by omega
      have HE : Hid (linkF xs c names s = false) := hid (by have := hf.out; rwa [hk2, List.take_length] at this)
      have HCW := hid hcw
      clear hk2 hf hcw hc2
      go_wp2
      go_ret
      exact ⟨by rw [HST.out, HE.out]; rfl, HCW.out⟩
end Go.Proofs.Ytjaplnainlbldaa

/- Draws add up. -/
namespace Go.Proofs.Ytjaplnainlbldaa
open Go.RowKit

end Go.Proofs.Ytjaplnainlbldaa

/- The contract of the document's Same, of lists of texts. -/
namespace Go.Proofs.Ytjaplnainlbldaa
open Go.RowKit

end Go.Proofs.Ytjaplnainlbldaa

/- Lists of texts of the call's own. -/
namespace Go.Proofs.Ytjaplnainlbldaa
open Go.RowKit

def strV (l : List UInt8) : Value := .string ⟨l.toArray⟩
theorem Try.info9 : (Try.prog.info? 9).map (fun i => (i.zero, i.size, i.bytes)) = some (some (.string ⟨#[]⟩), 1, 16) := by kernel_rfl

/-- A list of texts of the call's own. -/
def OwnS (B : Nat) (w : World) (v : Value) (ls : List (List UInt8)) : Prop := w.ownsRow B 9 1 v ls.length (ls.map strV)

theorem OwnS.strs {B : Nat} {w : World} {v : Value} {ls : List (List UInt8)} (h : OwnS B w v ls) (hb : ∀ x ∈ ls, x.length ≤ 9223372036854775807) : ∃ ao cap, v = .slice ao ls.length cap ∧ StrsAt (fun k => B ≤ k ∧ k < w.heap.size) w ao ls := by
 rcases h.2 with ⟨rfl, h0⟩ | ⟨g, cap, cur, rfl, hg, hh, h1, h2, h3, h4⟩
 ·have : ls = [] := List.eq_nil_of_length_eq_zero h0
  subst this
  exact ⟨none, 0, rfl, StrsAt.nil _ _ _⟩
 ·refine ⟨_, _, rfl, fun i hi => ⟨g, 0, rfl, ⟨hg, lt_blk hh⟩, ?_, hb _ (List.getElem_mem hi)⟩⟩
  have hcell := h.cells (g := g) rfl i (strV ls[i]) (by simp [hi])
  rw [add_off] at hcell
  exact hcell

def lenOf : Value → Nat
 | .slice _ n _ => n
 | _ => 0
end Go.Proofs.Ytjaplnainlbldaa
