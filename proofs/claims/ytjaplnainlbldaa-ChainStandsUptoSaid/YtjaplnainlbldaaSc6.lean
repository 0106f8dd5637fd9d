/- Texts that the proof leans on, in one: PmMath, FactCells, StepCells, RoleEqL, RefFIn, RefFStep, DrewN, RefSameS, OwnS, RefSet, RefKFacts, RefRoleLess, RefCredRight, RefKFollows, RefKStands, StepApp, RefKTight. -/
import Derived.Test.YtjaplnainlbldaaSc5
import Derived.Test.YtjaplnainlbldaaSc1
import Derived.Test.YtjaplnainlbldaaSc2
import Derived.Deep.QuietTactic
import Derived.BigQuiet
import Derived.Test.YtjaplnainlbldaaProg
import Derived.Test.YtjaplnainlbldaaChecked
import Derived.Maps.AppendAt
/- How the program's model grows: plain words, nothing of the program's text. -/
namespace Go.Proofs.Ytjaplnainlbldaa
open Go.RowKit

/-- What a credential brings, if A says which facts are there. -/
def Brings (c : CredB) (A : FactB → Prop) (f : FactB) : Prop :=
  f.1 = c.head ∧ ((c.kind = 1 ∧ f.2 = c.who) ∨ (c.kind = 2 ∧ A (c.b, f.2)) ∨ (c.kind = 3 ∧ ∃ b, A (c.b, b) ∧ A ((b, c.w2), f.2)) ∨ (c.kind = 4 ∧ A (c.b, f.2) ∧ A (c.c, f.2)))

theorem Brings.mono {c : CredB} {A B : FactB → Prop} (h : ∀ f, A f → B f) {f : FactB} (hb : Brings c A f) : Brings c B f := by
  obtain ⟨h1, h2⟩ := hb
  refine ⟨h1, ?_⟩
  rcases h2 with ⟨k, h2⟩ | ⟨k, h2⟩ | ⟨k, b, h2, h3⟩ | ⟨k, h2, h3⟩
  · exact .inl ⟨k, h2⟩
  · exact .inr (.inl ⟨k, h _ h2⟩)
  · exact .inr (.inr (.inl ⟨k, b, h _ h2, h _ h3⟩))
  · exact .inr (.inr (.inr ⟨k, h _ h2, h _ h3⟩))

theorem Brings.der {ls : List CredB} {c : CredB} {A : FactB → Prop} (hc : c ∈ ls) (hr : isCred c = true) (hA : ∀ f, A f → Der ls f) {f : FactB} (hb : Brings c A f) : Der ls f := by
  obtain ⟨r, s⟩ := f
  obtain ⟨h1, h2⟩ := hb
  simp only at h1 h2
  subst h1
  rcases h2 with ⟨k, rfl⟩ | ⟨k, h2⟩ | ⟨k, b, h2, h3⟩ | ⟨k, h2, h3⟩
  · exact .mem hc hr k
  · exact .inc hc hr k (hA _ h2)
  · exact .link hc hr k (hA _ h2) (hA _ h3)
  · exact .both hc hr k (hA _ h2) (hA _ h3)

theorem brings_all {ls : List CredB} {A : FactB → Prop} (h : ∀ c ∈ ls, isCred c = true → ∀ f, Brings c A f → A f) {f : FactB} (hd : Der ls f) : A f := by
  induction hd with
  | mem hc hr k => exact h _ hc hr _ ⟨rfl, .inl ⟨k, rfl⟩⟩
  | inc hc hr k _ ih => exact h _ hc hr _ ⟨rfl, .inr (.inl ⟨k, ih⟩)⟩
  | link hc hr k _ _ ih1 ih2 => exact h _ hc hr _ ⟨rfl, .inr (.inr (.inl ⟨k, _, ih1, ih2⟩))⟩
  | both hc hr k _ _ ih1 ih2 => exact h _ hc hr _ ⟨rfl, .inr (.inr (.inr ⟨k, ih1, ih2⟩))⟩

/-- What one step brings because w is in a role that c leans on. -/
def StepOf (F : List FactB) (c : CredB) (w : List UInt8) (g : FactB) : Prop :=
  g.1 = c.head ∧ ((c.kind = 2 ∧ g.2 = w) ∨ (c.kind = 3 ∧ ((w, c.w2), g.2) ∈ F) ∨ (c.kind = 4 ∧ g.2 = w ∧ (c.b, w) ∈ F ∧ (c.c, w) ∈ F))

/-- The credentials by the roles that they lean on. -/
def leanR (T : List CredB) (r : RoleB) (c : CredB) : Prop := c ∈ T ∧ isCred c = true ∧ c.kind ≠ 1 ∧ (c.b = r ∨ (c.kind = 4 ∧ c.c = r))
def linkR (T : List CredB) (v : List UInt8) (c : CredB) : Prop := c ∈ T ∧ isCred c = true ∧ c.kind = 3 ∧ c.w2 = v

/-- What is there when f has been followed. -/
def FollowedF (T : List CredB) (F F' : List FactB) (f : FactB) : Prop :=
  ∀ c ∈ T, isCred c = true → ∀ P : FactB → Prop, (∀ x, P x → x ∈ F) → ∀ g, Brings c (fun x => P x ∨ x = f) g → Brings c P g ∨ g ∈ F'

theorem followed_of_steps {T : List CredB} {F F' : List FactB} {f : FactB} (hf : f ∈ F) (h1 : ∀ c, leanR T f.1 c → ∀ g, StepOf F c f.2 g → g ∈ F') (h2 : ∀ c, linkR T f.1.2 c → (c.b, f.1.1) ∈ F → (c.head, f.2) ∈ F') : FollowedF T F F' f := by
  intro c hc hr P hP g hb
  obtain ⟨⟨o, v⟩, s⟩ := f
  obtain ⟨g1, g2⟩ := g
  obtain ⟨e1, hb⟩ := hb
  simp only at e1 hb h1 h2
  subst e1
  rcases hb with ⟨k, hb⟩ | ⟨k, hb⟩ | ⟨k, b, hb, hb2⟩ | ⟨k, hb, hb2⟩
  · exact .inl ⟨rfl, .inl ⟨k, hb⟩⟩
  · rcases hb with hb | hb
    · exact .inl ⟨rfl, .inr (.inl ⟨k, hb⟩)⟩
    · simp only [Prod.mk.injEq] at hb
      exact .inr (h1 c ⟨hc, hr, by omega, .inl hb.1⟩ _ ⟨rfl, .inl ⟨k, hb.2⟩⟩)
  · have hb2F : ((b, c.w2), g2) ∈ F := by
      rcases hb2 with hb2 | hb2
      · exact hP _ hb2
      · rw [hb2]; exact hf
    rcases hb with hb | hb
    · rcases hb2 with hb2 | hb2
      · exact .inl ⟨rfl, .inr (.inr (.inl ⟨k, b, hb, hb2⟩))⟩
      · simp only [Prod.mk.injEq] at hb2
        obtain ⟨⟨rfl, rfl⟩, rfl⟩ := hb2
        exact .inr (h2 c ⟨hc, hr, k, rfl⟩ (hP _ hb))
    · simp only [Prod.mk.injEq] at hb
      obtain ⟨hb, rfl⟩ := hb
      exact .inr (h1 c ⟨hc, hr, by omega, .inl hb⟩ _ ⟨rfl, .inr (.inl ⟨k, hb2F⟩)⟩)
  · have hbF : (c.b, g2) ∈ F := by
      rcases hb with hb | hb
      · exact hP _ hb
      · rw [hb]; exact hf
    have hb2F : (c.c, g2) ∈ F := by
      rcases hb2 with hb2 | hb2
      · exact hP _ hb2
      · rw [hb2]; exact hf
    rcases hb with hb | hb
    · rcases hb2 with hb2 | hb2
      · exact .inl ⟨rfl, .inr (.inr (.inr ⟨k, hb, hb2⟩))⟩
      · simp only [Prod.mk.injEq] at hb2
        obtain ⟨hb2, rfl⟩ := hb2
        exact .inr (h1 c ⟨hc, hr, by omega, .inr ⟨k, hb2⟩⟩ _ ⟨rfl, .inr (.inr ⟨k, rfl, hbF, hb2F⟩)⟩)
    · simp only [Prod.mk.injEq] at hb
      obtain ⟨hb, rfl⟩ := hb
      exact .inr (h1 c ⟨hc, hr, by omega, .inl hb⟩ _ ⟨rfl, .inr (.inr ⟨k, rfl, hbF, hb2F⟩)⟩)

/-- Between two of Add's calls: F are the facts that are there, P those that need not be followed any more, T the credentials that have been taken. -/
structure AddI (ls T : List CredB) (F P : List FactB) : Prop where
  nd : F.Nodup
  der : ∀ f ∈ F, Der ls f
  sub : ∀ f ∈ P, f ∈ F
  step : ∀ c ∈ T, isCred c = true → ∀ g, Brings c (· ∈ P) g → g ∈ F

theorem AddI.follow {ls T : List CredB} {F P F' : List FactB} (h : AddI ls T F P) {f : FactB} (hf : f ∈ F) (hnd : F'.Nodup) (hd : ∀ f ∈ F', Der ls f) (hsub : ∀ f ∈ F, f ∈ F') (hF : FollowedF T F F' f) : AddI ls T F' (P ++ [f]) :=
  ⟨hnd, hd, fun x hx => by
    rcases List.mem_append.1 hx with hx | hx
    · exact hsub x (h.sub x hx)
    · rw [List.mem_singleton] at hx; subst hx; exact hsub _ hf, fun c hc hr g hg => by
    rcases hF c hc hr (· ∈ P) (fun x hx => h.sub x hx) g (hg.mono (fun x hx => by simpa using hx)) with h1 | h1
    · exact hsub g (h.step c hc hr g h1)
    · exact h1⟩

theorem AddI.done {ls T : List CredB} {F P : List FactB} (h : AddI ls T F P) (hP : ∀ f ∈ F, f ∈ P) (hT : ∀ c ∈ ls, isCred c = true → c ∈ T) : ∀ f, f ∈ F ↔ Der ls f := fun f =>
  ⟨h.der f, fun hd => brings_all (A := (· ∈ F)) (fun c hc hr g hg => h.step c (hT c hc hr) hr g (hg.mono (fun x hx => hP x hx))) hd⟩

theorem der_few {ls : List CredB} {F : List FactB} (hnd : F.Nodup) (hd : ∀ f ∈ F, Der ls f) (hl : ls.length ≤ 1000) : F.length ≤ 4000000 := by
  have := facts_le (rs := ls.map (·.head)) (ns := whosOf ls) hnd (fun f hf => by
    refine ⟨?_, ?_⟩
    · obtain ⟨c, hc, _, e⟩ := (hd f hf).head
      exact List.mem_map.2 ⟨c, hc, e⟩
    · obtain ⟨c, hc, hr, hk, e⟩ := (hd f hf).who
      rw [← e]
      exact whosOf_who hc)
  rw [List.length_map, whosOf_len] at this
  exact Nat.le_trans this (Nat.le_trans (Nat.mul_le_mul hl (Nat.mul_le_mul_right 4 hl)) (by decide))

theorem der_short {ls : List CredB} {f : FactB} (hd : Der ls f) : f.1.1.length ≤ 16 ∧ f.1.2.length ≤ 16 ∧ f.2.length ≤ 16 := by
  obtain ⟨c, _, hr, e⟩ := hd.head
  obtain ⟨c2, _, hr2, hk2, e2⟩ := hd.who
  have h1 := isCred_short hr
  refine ⟨?_, ?_, ?_⟩
  · rw [← e]; exact h1.1
  · rw [← e]; exact h1.2.1
  · rw [← e2]; exact (isCred_short hr2).2.2.1
end Go.Proofs.Ytjaplnainlbldaa

/- Facts, as they lie in memory; lists of them of the call's own. -/
namespace Go.Proofs.Ytjaplnainlbldaa
open Go.RowKit

def factCells (f : FactB) : List Value := [.string ⟨f.1.1.toArray⟩, .string ⟨f.1.2.toArray⟩, .string ⟨f.2.toArray⟩]
def factBox (f : FactB) : Array Value := #[.string ⟨f.1.1.toArray⟩, .string ⟨f.1.2.toArray⟩, .string ⟨f.2.toArray⟩]
def factV (f : FactB) : Value := .agg (factBox f)

/-- The fact f lies at the three cells from o on. -/
structure FactAt (w : World) (b o : Nat) (f : FactB) : Prop where
  k0 : w.cell? ⟨b, o, none⟩ = some (.string ⟨f.1.1.toArray⟩)
  k1 : w.cell? ⟨b, o + 1, none⟩ = some (.string ⟨f.1.2.toArray⟩)
  k2 : w.cell? ⟨b, o + 2, none⟩ = some (.string ⟨f.2.toArray⟩)

/-- No text of it is greater than n. -/
def factShort (f : FactB) (n : Nat) : Prop := f.1.1.length ≤ n ∧ f.1.2.length ≤ n ∧ f.2.length ≤ n

theorem factShort.mono {f : FactB} {n m : Nat} (h : factShort f n) (hm : n ≤ m) : factShort f m := ⟨Nat.le_trans h.1 hm, Nat.le_trans h.2.1 hm, Nat.le_trans h.2.2 hm⟩

theorem FactAt.keep {S : Nat → Prop} {w w' : World} {b o : Nat} {f : FactB} (h : FactAt w b o f) (hc : Chg S w w') (hS : ¬ S b) : FactAt w' b o f :=
  ⟨hc.cell h.k0 hS, hc.cell h.k1 hS, hc.cell h.k2 hS⟩

/-- The facts ls can be read from the address ao on. -/
def FactsAt (D : Nat → Prop) (w : World) (ao : Option Addr) (ls : List FactB) : Prop :=
  ∀ i (h : i < ls.length), ∃ b off, ao = some ⟨b, off, none⟩ ∧ D b ∧ FactAt w b (off + i * 3) ls[i]

theorem FactsAt.keep {S D : Nat → Prop} {w w' : World} {ao : Option Addr} {ls : List FactB} (h : FactsAt D w ao ls) (hc : Chg S w w') (hS : ∀ i, D i → ¬ S i) : FactsAt D w' ao ls := fun i hi =>
  let ⟨b, off, h1, h2, h3⟩ := h i hi
  ⟨b, off, h1, h2, h3.keep hc (hS b h2)⟩

theorem FactsAt.nil (D : Nat → Prop) (w : World) (ao : Option Addr) : FactsAt D w ao [] := fun i hi => by simp at hi

theorem fact_at_blk {w : World} {g : Nat} {f : FactB} {ty : TypeId} {z : Nat × Nat} (h : w.heap[g]? = some (.cells (factBox f) ty z)) : FactAt w g 0 f :=
  ⟨cell_blk h 0, cell_blk h 1, cell_blk h 2⟩

theorem Try.info26 : (Try.prog.info? 26).map (fun i => (i.zero, i.size, i.bytes)) = some (some (.agg #[.string ⟨#[]⟩, .string ⟨#[]⟩, .string ⟨#[]⟩]), 3, 48) := by kernel_rfl

def factRow (ls : List FactB) : List Value := ls.flatMap factCells
theorem factRow_snoc (ls : List FactB) (x : FactB) : factRow (ls ++ [x]) = factRow ls ++ factCells x := by simp [factRow]
theorem factRow_get : ∀ (ls : List FactB) (i j : Nat) (h : i < ls.length) (_ : j < 3), (factRow ls)[i * 3 + j]? = (factCells ls[i])[j]?
  | x :: l, 0, j, _, hj => by
    rw [Nat.zero_mul, Nat.zero_add, factRow, List.flatMap_cons, List.getElem?_append_left (by simpa [factCells] using hj)]
    rfl
  | x :: l, i + 1, j, h, hj => by
    have hl : (factCells x).length = 3 := rfl
    have := factRow_get l i j (by simpa using h) hj
    rw [factRow, List.flatMap_cons, List.getElem?_append_right (by rw [hl, Nat.add_mul]; omega), hl]
    rw [show (i + 1) * 3 + j - 3 = i * 3 + j by rw [Nat.add_mul]; omega]
    exact this

/-- A list of facts of the call's own. -/
def OwnF (B : Nat) (w : World) (v : Value) (ls : List FactB) : Prop := w.ownsRow B 26 3 v ls.length (factRow ls)

theorem OwnF.keep {S : Nat → Prop} {B : Nat} {w w' : World} {v : Value} {ls : List FactB} (h : OwnF B w v ls) (hc : Chg S w w') (hr : ∀ k, v.ownBlock = some k → ¬ S k) : OwnF B w' v ls := ownsRow_keep h hc hr

theorem OwnF.shape {B : Nat} {w : World} {v : Value} {ls : List FactB} (h : OwnF B w v ls) : ∃ ao cap, v = .slice ao ls.length cap := by
  rcases h.2 with ⟨rfl, h0⟩ | ⟨g, cap, cur, rfl, _⟩
  · exact ⟨none, 0, by rw [h0]⟩
  · exact ⟨_, _, rfl⟩

theorem OwnF.facts {B : Nat} {w : World} {v : Value} {ls : List FactB} (h : OwnF B w v ls) :
    ∃ ao cap, v = .slice ao ls.length cap ∧ FactsAt (fun k => B ≤ k ∧ k < w.heap.size) w ao ls ∧ (ao = none → cap = 0) := by
  have hall := h
  rcases h.2 with ⟨rfl, h0⟩ | ⟨g, cap, cur, rfl, hg, hh, h1, h2, h3, h4⟩
  · have : ls = [] := List.eq_nil_of_length_eq_zero h0
    subst this
    exact ⟨none, 0, rfl, FactsAt.nil _ _ _, fun _ => rfl⟩
  · have at_ : ∀ i (hi : i < ls.length) j (hj : j < 3), w.cell? ⟨g, 0 + i * 3 + j, none⟩ = (factCells ls[i])[j]? := fun i hi j hj => by
      have hget := factRow_get ls i j hi hj
      have hs : j < (factCells ls[i]).length := hj
      rw [List.getElem?_eq_getElem hs] at hget ⊢
      have := hall.cells (g := g) rfl (i * 3 + j) _ hget
      rw [add_off, Nat.zero_add] at this
      rw [Nat.zero_add]
      exact this
    exact ⟨_, _, rfl, fun i hi => ⟨g, 0, rfl, ⟨hg, lt_blk hh⟩, at_ i hi 0 (by decide), at_ i hi 1 (by decide), at_ i hi 2 (by decide)⟩, fun e => by cases e⟩

theorem fact_one (x : FactB) : ∀ u ∈ factCells x, u.oneCell' = true := by
  intro u hu
  simp only [factCells, List.mem_cons, List.not_mem_nil, or_false] at hu
  rcases hu with rfl | rfl | rfl <;> rfl
end Go.Proofs.Ytjaplnainlbldaa

/- Steps of chains as they lie in memory. -/
namespace Go.Proofs.Ytjaplnainlbldaa
open Go.RowKit

/-- A step: its credential, its fact. -/
structure StepB where
  c : CredB
  f : FactB
deriving DecidableEq

def stepCells (s : StepB) : List Value := [.int .i64 s.c.kind, .string ⟨s.c.head.1.toArray⟩, .string ⟨s.c.head.2.toArray⟩, .string ⟨s.c.who.toArray⟩, .string ⟨s.c.b.1.toArray⟩, .string ⟨s.c.b.2.toArray⟩, .string ⟨s.c.c.1.toArray⟩, .string ⟨s.c.c.2.toArray⟩, .string ⟨s.c.w2.toArray⟩, .string ⟨s.f.1.1.toArray⟩, .string ⟨s.f.1.2.toArray⟩, .string ⟨s.f.2.toArray⟩]
def stepBox (s : StepB) : Array Value := #[.int .i64 s.c.kind, .string ⟨s.c.head.1.toArray⟩, .string ⟨s.c.head.2.toArray⟩, .string ⟨s.c.who.toArray⟩, .string ⟨s.c.b.1.toArray⟩, .string ⟨s.c.b.2.toArray⟩, .string ⟨s.c.c.1.toArray⟩, .string ⟨s.c.c.2.toArray⟩, .string ⟨s.c.w2.toArray⟩, .string ⟨s.f.1.1.toArray⟩, .string ⟨s.f.1.2.toArray⟩, .string ⟨s.f.2.toArray⟩]
/-- The step s lies at the twelve cells from o on. -/
structure StepAt (w : World) (b o : Nat) (s : StepB) : Prop where
  c : CredAt w b o s.c
  f : FactAt w b (o + 9) s.f

def stepShort (s : StepB) (n : Nat) : Prop := credShort s.c n ∧ factShort s.f n

theorem StepAt.keep {S : Nat → Prop} {w w' : World} {b o : Nat} {s : StepB} (h : StepAt w b o s) (hc : Chg S w w') (hS : ¬ S b) : StepAt w' b o s := ⟨h.c.keep hc hS, h.f.keep hc hS⟩

/-- The steps ls can be read from the address ao on. -/
def StepsAt (D : Nat → Prop) (w : World) (ao : Option Addr) (ls : List StepB) : Prop :=
  ∀ i (h : i < ls.length), ∃ b off, ao = some ⟨b, off, none⟩ ∧ D b ∧ StepAt w b (off + i * 12) ls[i] ∧ stepShort ls[i] 9223372036854775807

theorem StepsAt.keep {S D : Nat → Prop} {w w' : World} {ao : Option Addr} {ls : List StepB} (h : StepsAt D w ao ls) (hc : Chg S w w') (hS : ∀ i, D i → ¬ S i) : StepsAt D w' ao ls := fun i hi =>
  let ⟨b, off, h1, h2, h3, h4⟩ := h i hi
  ⟨b, off, h1, h2, h3.keep hc (hS b h2), h4⟩
theorem StepsAt.mono {D D' : Nat → Prop} {w : World} {ao : Option Addr} {ls : List StepB} (h : StepsAt D w ao ls) (hD : ∀ i, D i → D' i) : StepsAt D' w ao ls := fun i hi =>
  let ⟨b, off, h1, h2, h3⟩ := h i hi
  ⟨b, off, h1, hD b h2, h3⟩
theorem StepsAt.nil (D : Nat → Prop) (w : World) (ao : Option Addr) : StepsAt D w ao [] := fun i h => absurd h (by simp)
theorem step_at_blk {w : World} {g : Nat} {s : StepB} {ty : TypeId} {z : Nat × Nat} (h : w.heap[g]? = some (.cells (stepBox s) ty z)) : StepAt w g 0 s :=
  ⟨⟨cell_blk h 0, cell_blk h 1, cell_blk h 2, cell_blk h 3, cell_blk h 4, cell_blk h 5, cell_blk h 6, cell_blk h 7, cell_blk h 8⟩, ⟨cell_blk h 9, cell_blk h 10, cell_blk h 11⟩⟩

theorem Try.info43 : (Try.prog.info? 43).map (fun i => (i.zero, i.size, i.bytes)) = some (some (.agg #[.int .i64 0, .string ⟨#[]⟩, .string ⟨#[]⟩, .string ⟨#[]⟩, .string ⟨#[]⟩, .string ⟨#[]⟩, .string ⟨#[]⟩, .string ⟨#[]⟩, .string ⟨#[]⟩, .string ⟨#[]⟩, .string ⟨#[]⟩, .string ⟨#[]⟩]), 12, 184) := by kernel_rfl

def stepRow (ls : List StepB) : List Value := ls.flatMap stepCells
theorem stepRow_snoc (ls : List StepB) (x : StepB) : stepRow (ls ++ [x]) = stepRow ls ++ stepCells x := by simp [stepRow]
theorem stepRow_len (ls : List StepB) : (stepRow ls).length = ls.length * 12 := by
  unfold stepRow
  induction ls with
  | nil => rfl
  | cons x l ih => rw [List.flatMap_cons, List.length_append, ih, List.length_cons]; simp [stepCells]; omega
theorem stepRow_get : ∀ (ls : List StepB) (i j : Nat) (h : i < ls.length) (_ : j < 12), (stepRow ls)[i * 12 + j]? = (stepCells ls[i])[j]?
  | x :: l, 0, j, _, hj => by
    rw [Nat.zero_mul, Nat.zero_add, stepRow, List.flatMap_cons, List.getElem?_append_left (by simpa [stepCells] using hj)]
    rfl
  | x :: l, i + 1, j, h, hj => by
    have hl : (stepCells x).length = 12 := rfl
    have := stepRow_get l i j (by simpa using h) hj
    rw [stepRow, List.flatMap_cons, List.getElem?_append_right (by rw [hl, Nat.add_mul]; omega), hl]
    rw [show (i + 1) * 12 + j - 12 = i * 12 + j by rw [Nat.add_mul]; omega]
    exact this

/-- A list of steps of the call's own. -/
def OwnSt (B : Nat) (w : World) (v : Value) (ls : List StepB) : Prop := w.ownsRow B 43 12 v ls.length (stepRow ls)

theorem OwnSt.keep {S : Nat → Prop} {B : Nat} {w w' : World} {v : Value} {ls : List StepB} (h : OwnSt B w v ls) (hc : Chg S w w') (hr : ∀ k, v.ownBlock = some k → ¬ S k) : OwnSt B w' v ls := ownsRow_keep h hc hr

theorem OwnSt.shape {B : Nat} {w : World} {v : Value} {ls : List StepB} (h : OwnSt B w v ls) : ∃ ao cap, v = .slice ao ls.length cap := by
  rcases h.2 with ⟨rfl, h0⟩ | ⟨g, cap, cur, rfl, _⟩
  · exact ⟨none, 0, by rw [h0]⟩
  · exact ⟨_, _, rfl⟩

theorem OwnSt.steps {B : Nat} {w : World} {v : Value} {ls : List StepB} (h : OwnSt B w v ls) (hb : ∀ x ∈ ls, stepShort x 9223372036854775807) :
    ∃ ao cap, v = .slice ao ls.length cap ∧ StepsAt (fun k => B ≤ k ∧ k < w.heap.size) w ao ls ∧ (ao = none → cap = 0) := by
  have hall := h
  rcases h.2 with ⟨rfl, h0⟩ | ⟨g, cap, cur, rfl, hg, hh, h1, h2, h3, h4⟩
  · have : ls = [] := List.eq_nil_of_length_eq_zero h0
    subst this
    exact ⟨none, 0, rfl, StepsAt.nil _ _ _, fun _ => rfl⟩
  · have at_ : ∀ i (hi : i < ls.length) j (hj : j < 12), w.cell? ⟨g, 0 + i * 12 + j, none⟩ = (stepCells ls[i])[j]? := fun i hi j hj => by
      have hget := stepRow_get ls i j hi hj
      have hs : j < (stepCells ls[i]).length := hj
      rw [List.getElem?_eq_getElem hs] at hget ⊢
      have := hall.cells (g := g) rfl (i * 12 + j) _ hget
      rw [add_off, Nat.zero_add] at this
      rw [Nat.zero_add]
      exact this
    exact ⟨_, _, rfl, fun i hi => ⟨g, 0, rfl, ⟨hg, lt_blk hh⟩, ⟨⟨at_ i hi 0 (by decide), at_ i hi 1 (by decide), at_ i hi 2 (by decide), at_ i hi 3 (by decide), at_ i hi 4 (by decide), at_ i hi 5 (by decide), at_ i hi 6 (by decide), at_ i hi 7 (by decide), at_ i hi 8 (by decide)⟩, ⟨at_ i hi 9 (by decide), at_ i hi 10 (by decide), at_ i hi 11 (by decide)⟩⟩, hb _ (List.getElem_mem hi)⟩, fun e => by cases e⟩

theorem step_one (x : StepB) : ∀ u ∈ stepCells x, u.oneCell' = true := by
  intro u hu
  simp only [stepCells, List.mem_cons, List.not_mem_nil, or_false] at hu
  rcases hu with rfl | rfl | rfl | rfl | rfl | rfl | rfl | rfl | rfl | rfl | rfl | rfl <;> rfl

/-- The facts of steps. -/
def factsK (ls : List StepB) : List FactB := ls.map (·.f)
theorem factsK_snoc (ls : List StepB) (x : StepB) : factsK (ls ++ [x]) = factsK ls ++ [x.f] := by simp [factsK]
theorem factsK_len (ls : List StepB) : (factsK ls).length = ls.length := by simp [factsK]
end Go.Proofs.Ytjaplnainlbldaa

/- Go's == at roles whose cells are told. -/
namespace Go.Proofs.Ytjaplnainlbldaa
open Go.RowKit

theorem run_eqg_role (x y : Operand) (a b : RoleB) (w : World) : Sem.run Try.prog (eqGuard BinOp.eql 24 x y (.agg #[.string ⟨a.1.toArray⟩, .string ⟨a.2.toArray⟩]) (.agg #[.string ⟨b.1.toArray⟩, .string ⟨b.2.toArray⟩])) w = .ok () w := by
  go_simp

theorem run_eql_role (a b : RoleB) (w : World) : Sem.run Try.prog (binOp BinOp.eql 24 (.agg #[.string ⟨a.1.toArray⟩, .string ⟨a.2.toArray⟩]) (.agg #[.string ⟨b.1.toArray⟩, .string ⟨b.2.toArray⟩])) w = .ok (.bool (decide (a = b))) w := by
  have : decide (a = b) = decide (a.1 = b.1 ∧ a.2 = b.2) := by simp only [Prod.ext_iff]
  rw [this]
  go_simp
  repeat' split
  all_goals simp_all
end Go.Proofs.Ytjaplnainlbldaa

/- The contract of the document's In, of layer 8. -/
namespace Go.Proofs.Ytjaplnainlbldaa
open Go.RowKit
attribute [local go_sem ↓ high] run_eqg_role run_eql_role

end Go.Proofs.Ytjaplnainlbldaa

/- The contract of the document's Step, of layer 8. -/
namespace Go.Proofs.Ytjaplnainlbldaa
open Go.RowKit

end Go.Proofs.Ytjaplnainlbldaa

/- Draws add up. -/
namespace Go.Proofs.Ytjaplnainlbldaa
open Go.RowKit

end Go.Proofs.Ytjaplnainlbldaa

/- The contract of the document's Same, of lists of texts. -/
namespace Go.Proofs.Ytjaplnainlbldaa
open Go.RowKit

end Go.Proofs.Ytjaplnainlbldaa

/- Lists of texts of the call's own. -/
namespace Go.Proofs.Ytjaplnainlbldaa
open Go.RowKit

end Go.Proofs.Ytjaplnainlbldaa

/- The contract of the document's Set. -/
namespace Go.Proofs.Ytjaplnainlbldaa
open Go.RowKit

end Go.Proofs.Ytjaplnainlbldaa

/- The contracts of the document's Facts, and names, of layer 9. -/
namespace Go.Proofs.Ytjaplnainlbldaa
open Go.RowKit

theorem ownsRow_lowK {B A : Nat} {w : World} {ty : TypeId} {n : Nat} {v : Value} {len : Nat} {row : List Value} (h : w.ownsRow B ty n v len row) (hA : A ≤ B) : w.ownsRow A ty n v len row := by
  rcases h with ⟨h1, h2 | ⟨g, cap, cur, h3, h4, h5⟩⟩
  · exact ⟨h1, .inl h2⟩
  · exact ⟨h1, .inr ⟨g, cap, cur, h3, Nat.le_trans hA h4, h5⟩⟩

/-- Who is told by facts. -/
def whosF (ls : List FactB) : List (List UInt8) := ls.map (·.2)
end Go.Proofs.Ytjaplnainlbldaa

/- The contract of the document's Less of layer 4. -/
namespace Go.Proofs.Ytjaplnainlbldaa
open Go.RowKit

end Go.Proofs.Ytjaplnainlbldaa

/- The contract of the document's Right of layer 5. -/
namespace Go.Proofs.Ytjaplnainlbldaa
open Go.RowKit

end Go.Proofs.Ytjaplnainlbldaa

/- The contract of the document's Follows, of layer 9. -/
namespace Go.Proofs.Ytjaplnainlbldaa
open Go.RowKit
attribute [local go_sem ↓ high] run_eqg_role run_eql_role

/-- Does a step follow facts? -/
def followsK (s : StepB) (hs : List FactB) : Bool := isCred s.c && (decide (s.f.1 = s.c.head) && stepF hs s.c (whosF hs) s.f.2)

end Go.Proofs.Ytjaplnainlbldaa

/- The contract of the document's stands, of layer 9. -/
namespace Go.Proofs.Ytjaplnainlbldaa
open Go.RowKit

/-- Does each step follow those ahead? -/
def standsK (ls : List StepB) : Bool := decide (∀ i (h : i < ls.length), followsK ls[i] (factsK (ls.take i)) = true)

theorem steps_short {D : Nat → Prop} {w : World} {ao : Option Addr} {ls : List StepB} (h : StepsAt D w ao ls) : ∀ s ∈ ls, stepShort s 9223372036854775807 := fun s hs => by
  obtain ⟨i, hi, rfl⟩ := List.getElem_of_mem hs
  obtain ⟨_, _, _, _, _, h4⟩ := h i hi
  exact h4

end Go.Proofs.Ytjaplnainlbldaa

/- append of a list of steps, onto a row of the call's own. -/
namespace Go.Proofs.Ytjaplnainlbldaa
open Go.RowKit

end Go.Proofs.Ytjaplnainlbldaa

/- The contract of the document's Tight, of layer 9. -/
namespace Go.Proofs.Ytjaplnainlbldaa
open Go.RowKit

theorem run_eqg_factl (x y : Operand) (a b : FactB) (w : World) : Sem.run Try.prog (eqGuard BinOp.eql 26 x y (.agg #[.string ⟨a.1.1.toArray⟩, .string ⟨a.1.2.toArray⟩, .string ⟨a.2.toArray⟩]) (.agg #[.string ⟨b.1.1.toArray⟩, .string ⟨b.1.2.toArray⟩, .string ⟨b.2.toArray⟩])) w = .ok () w := by
  go_simp
theorem run_eql_factl (a b : FactB) (w : World) : Sem.run Try.prog (binOp BinOp.eql 26 (.agg #[.string ⟨a.1.1.toArray⟩, .string ⟨a.1.2.toArray⟩, .string ⟨a.2.toArray⟩]) (.agg #[.string ⟨b.1.1.toArray⟩, .string ⟨b.1.2.toArray⟩, .string ⟨b.2.toArray⟩])) w = .ok (.bool (decide (a = b))) w := by
  have : decide (a = b) = decide (a.1.1 = b.1.1 ∧ a.1.2 = b.1.2 ∧ a.2 = b.2) := by simp only [Prod.ext_iff, and_assoc]
  rw [this]
  go_simp
  by_cases h1 : a.1.1 = b.1.1 <;> by_cases h2 : a.1.2 = b.1.2 <;> by_cases h3 : a.2 = b.2 <;> simp [h1, h2, h3]
attribute [local go_sem ↓ high] run_eqg_factl run_eql_factl

open Classical in
/-- Is each step needed? -/
noncomputable def tightK (ls : List StepB) : Bool := decide ((∀ i j (hi : i < ls.length) (hj : j < ls.length), j < i → ls[i].f ≠ ls[j].f) ∧ standsK ls = true ∧ ∀ i, i + 1 < ls.length → standsK (ls.take i ++ ls.drop (i + 1)) = false)

open Classical in
theorem tightK_no {ls : List StepB} (h : ¬ ((∀ i j (hi : i < ls.length) (hj : j < ls.length), j < i → ls[i].f ≠ ls[j].f) ∧ standsK ls = true ∧ ∀ i, i + 1 < ls.length → standsK (ls.take i ++ ls.drop (i + 1)) = false)) : tightK ls = false := decide_eq_false h
open Classical in
theorem tightK_yes {ls : List StepB} (h : (∀ i j (hi : i < ls.length) (hj : j < ls.length), j < i → ls[i].f ≠ ls[j].f) ∧ standsK ls = true ∧ ∀ i, i + 1 < ls.length → standsK (ls.take i ++ ls.drop (i + 1)) = false) : tightK ls = true := decide_eq_true h

/-- An append whose run is known. -/
theorem ob_appendK {o : Oper} {a : Act} {w : World} {K : Act → World → Prop} {Q : Exit → Act → World → Prop} {s x : Tmp} {v y : Value} (tt : TypeId)
    (ho : o.op = .call { callee := .builtin .append, args := #[.tmp s, .tmp x], argTypes := #[tt, tt] }) (hs : a.tmps[s]? = some v) (hx : a.tmps[x]? = some y) {v' : Value} {w' : World}
    (hr : (Builtin.append_ #[tt, tt] o.type #[v, y]).run Try.prog w = .ok v' w') (hK : K (a.put o.dst v') w') : o.wp Try.prog a w K Q := by
  have h1 : a.eval (.tmp s) = v := by simp [Act.eval, hs]
  have h2 : a.eval (.tmp x) = y := by simp [Act.eval, hx]
  unfold Oper.wp execOp
  simp only [ho, resolve, invoke, builtin, Sem.run_bind, Sem.run_pure, Result.andThen_ok, List.map_toArray, List.map_cons, List.map_nil, h1, h2, hr]
  exact hK

end Go.Proofs.Ytjaplnainlbldaa
