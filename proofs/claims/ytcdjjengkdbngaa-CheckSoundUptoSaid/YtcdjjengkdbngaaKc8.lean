/- Texts that the proof leans on, in one: CredOwn, FactCells, StepCells, RoleEqL, RefFIn, RefFStep, DrewN, RefSameS, OwnS, RefSet, RefKFacts, RefRoleLess, RefCredRight, RefKFollows, RefKStands, RefCredGreat, RefCredHas, RefKCheck, StepApp. -/
import Derived.Test.YtcdjjengkdbngaaKc7
import Derived.Test.YtcdjjengkdbngaaKc1
import Derived.Test.YtcdjjengkdbngaaKc5
import Derived.Deep.QuietTactic
import Derived.BigQuiet
import Derived.Test.YtcdjjengkdbngaaKc4
import Derived.Test.YtcdjjengkdbngaaProg
import Derived.Test.YtcdjjengkdbngaaChecked
import Derived.Maps.AppendAt
/- Lists of credentials of the call's own. -/
namespace Go.Proofs.Ytcdjjengkdbngaa
open Go.RowKit

def credRow (ls : List CredB) : List Value := ls.flatMap credCells

/-- A list of credentials of the call's own. -/
def OwnC (B : Nat) (w : World) (v : Value) (ls : List CredB) : Prop := w.ownsRow B 32 9 v ls.length (credRow ls)

theorem OwnC.shape {B : Nat} {w : World} {v : Value} {ls : List CredB} (h : OwnC B w v ls) : ∃ ao cap, v = .slice ao ls.length cap := by
  rcases h.2 with ⟨rfl, h0⟩ | ⟨g, cap, cur, rfl, _⟩
  · exact ⟨none, 0, by rw [h0]⟩
  · exact ⟨_, _, rfl⟩

theorem OwnC.keep {S : Nat → Prop} {B : Nat} {w w' : World} {v : Value} {ls : List CredB} (h : OwnC B w v ls) (hc : Chg S w w') (hr : ∀ k, v.ownBlock = some k → ¬ S k) : OwnC B w' v ls := ownsRow_keep h hc hr

theorem isCred_short {c : CredB} (h : isCred c = true) : credShort c 16 := by
  have hh := isCred_head h
  simp only [isRole, Bool.and_eq_true] at hh
  have l1 := (isName_len hh.1).2
  have l2 := (isName_len hh.2).2
  have hr : ∀ r : RoleB, isRole r = true → r.1.length ≤ 16 ∧ r.2.length ≤ 16 := fun r hr => by
    simp only [isRole, Bool.and_eq_true] at hr
    exact ⟨(isName_len hr.1).2, (isName_len hr.2).2⟩
  rcases isCred_kind h with k | k | k | k
  · obtain ⟨a1, a2, a3, a4⟩ := isCred_one h k
    exact ⟨l1, l2, (isName_len a1).2, by rw [a2]; simp [noneR], by rw [a2]; simp [noneR], by rw [a3]; simp [noneR], by rw [a3]; simp [noneR], by rw [a4]; simp⟩
  · obtain ⟨a1, a2, a3, a4⟩ := isCred_two h k
    exact ⟨l1, l2, by rw [a1]; simp, (hr _ a2).1, (hr _ a2).2, by rw [a3]; simp [noneR], by rw [a3]; simp [noneR], by rw [a4]; simp⟩
  · obtain ⟨a1, a2, a3, a4, a5⟩ := isCred_three h k
    exact ⟨l1, l2, by rw [a1]; simp, (hr _ a2).1, (hr _ a2).2, by rw [a3]; simp [noneR], by rw [a3]; simp [noneR], (isName_len a5).2⟩
  · obtain ⟨a1, a2, a3, a4, a5⟩ := isCred_four h k
    exact ⟨l1, l2, by rw [a1]; simp, (hr _ a2).1, (hr _ a2).2, (hr _ a4).1, (hr _ a4).2, by rw [a3]; simp⟩
end Go.Proofs.Ytcdjjengkdbngaa

/- Facts, as they lie in memory; lists of them of the call's own. -/
namespace Go.Proofs.Ytcdjjengkdbngaa
open Go.RowKit

def factCells (f : FactB) : List Value := [.string ⟨f.1.1.toArray⟩, .string ⟨f.1.2.toArray⟩, .string ⟨f.2.toArray⟩]
def factBox (f : FactB) : Array Value := #[.string ⟨f.1.1.toArray⟩, .string ⟨f.1.2.toArray⟩, .string ⟨f.2.toArray⟩]
def factV (f : FactB) : Value := .agg (factBox f)

/-- The fact f lies at the three cells from o on. -/
structure FactAt (w : World) (b o : Nat) (f : FactB) : Prop where
  k0 : w.cell? ⟨b, o, none⟩ = some (.string ⟨f.1.1.toArray⟩)
  k1 : w.cell? ⟨b, o + 1, none⟩ = some (.string ⟨f.1.2.toArray⟩)
  k2 : w.cell? ⟨b, o + 2, none⟩ = some (.string ⟨f.2.toArray⟩)

/-- No text of it is greater than n. -/
def factShort (f : FactB) (n : Nat) : Prop := f.1.1.length ≤ n ∧ f.1.2.length ≤ n ∧ f.2.length ≤ n

theorem factShort.mono {f : FactB} {n m : Nat} (h : factShort f n) (hm : n ≤ m) : factShort f m := ⟨Nat.le_trans h.1 hm, Nat.le_trans h.2.1 hm, Nat.le_trans h.2.2 hm⟩

theorem FactAt.keep {S : Nat → Prop} {w w' : World} {b o : Nat} {f : FactB} (h : FactAt w b o f) (hc : Chg S w w') (hS : ¬ S b) : FactAt w' b o f :=
  ⟨hc.cell h.k0 hS, hc.cell h.k1 hS, hc.cell h.k2 hS⟩

/-- The facts ls can be read from the address ao on. -/
def FactsAt (D : Nat → Prop) (w : World) (ao : Option Addr) (ls : List FactB) : Prop :=
  ∀ i (h : i < ls.length), ∃ b off, ao = some ⟨b, off, none⟩ ∧ D b ∧ FactAt w b (off + i * 3) ls[i]

theorem FactsAt.keep {S D : Nat → Prop} {w w' : World} {ao : Option Addr} {ls : List FactB} (h : FactsAt D w ao ls) (hc : Chg S w w') (hS : ∀ i, D i → ¬ S i) : FactsAt D w' ao ls := fun i hi =>
  let ⟨b, off, h1, h2, h3⟩ := h i hi
  ⟨b, off, h1, h2, h3.keep hc (hS b h2)⟩

theorem FactsAt.mono {D D' : Nat → Prop} {w : World} {ao : Option Addr} {ls : List FactB} (h : FactsAt D w ao ls) (hD : ∀ i, D i → D' i) : FactsAt D' w ao ls := fun i hi =>
  let ⟨b, off, h1, h2, h3⟩ := h i hi
  ⟨b, off, h1, hD b h2, h3⟩

theorem FactsAt.nil (D : Nat → Prop) (w : World) (ao : Option Addr) : FactsAt D w ao [] := fun i hi => by simp at hi

theorem fact_at_blk {w : World} {g : Nat} {f : FactB} {ty : TypeId} {z : Nat × Nat} (h : w.heap[g]? = some (.cells (factBox f) ty z)) : FactAt w g 0 f :=
  ⟨cell_blk h 0, cell_blk h 1, cell_blk h 2⟩

theorem Try.info34 : (Try.prog.info? 34).map (fun i => (i.zero, i.size, i.bytes)) = some (some (.agg #[.string ⟨#[]⟩, .string ⟨#[]⟩, .string ⟨#[]⟩]), 3, 48) := by kernel_rfl

def factRow (ls : List FactB) : List Value := ls.flatMap factCells
theorem factRow_snoc (ls : List FactB) (x : FactB) : factRow (ls ++ [x]) = factRow ls ++ factCells x := by simp [factRow]
theorem factRow_get : ∀ (ls : List FactB) (i j : Nat) (h : i < ls.length) (_ : j < 3), (factRow ls)[i * 3 + j]? = (factCells ls[i])[j]?
  | x :: l, 0, j, _, hj => by
    rw [Nat.zero_mul, Nat.zero_add, factRow, List.flatMap_cons, List.getElem?_append_left (by simpa [factCells] using hj)]
    rfl
  | x :: l, i + 1, j, h, hj => by
    have hl : (factCells x).length = 3 := rfl
    have := factRow_get l i j (by simpa using h) hj
    rw [factRow, List.flatMap_cons, List.getElem?_append_right (by rw [hl, Nat.add_mul]; omega), hl]
    rw [show (i + 1) * 3 + j - 3 = i * 3 + j by rw [Nat.add_mul]; omega]
    exact this

/-- A list of facts of the call's own. -/
def OwnF (B : Nat) (w : World) (v : Value) (ls : List FactB) : Prop := w.ownsRow B 34 3 v ls.length (factRow ls)

theorem OwnF.keep {S : Nat → Prop} {B : Nat} {w w' : World} {v : Value} {ls : List FactB} (h : OwnF B w v ls) (hc : Chg S w w') (hr : ∀ k, v.ownBlock = some k → ¬ S k) : OwnF B w' v ls := ownsRow_keep h hc hr

theorem OwnF.shape {B : Nat} {w : World} {v : Value} {ls : List FactB} (h : OwnF B w v ls) : ∃ ao cap, v = .slice ao ls.length cap := by
  rcases h.2 with ⟨rfl, h0⟩ | ⟨g, cap, cur, rfl, _⟩
  · exact ⟨none, 0, by rw [h0]⟩
  · exact ⟨_, _, rfl⟩

theorem OwnF.low {B A : Nat} {w : World} {v : Value} {ls : List FactB} (h : OwnF B w v ls) (hA : A ≤ B) : OwnF A w v ls := by
  rcases h with ⟨h1, h2 | ⟨g, cap, cur, h3, h4, h5⟩⟩
  · exact ⟨h1, .inl h2⟩
  · exact ⟨h1, .inr ⟨g, cap, cur, h3, Nat.le_trans hA h4, h5⟩⟩

theorem OwnF.facts {B : Nat} {w : World} {v : Value} {ls : List FactB} (h : OwnF B w v ls) :
    ∃ ao cap, v = .slice ao ls.length cap ∧ FactsAt (fun k => B ≤ k ∧ k < w.heap.size) w ao ls ∧ (ao = none → cap = 0) := by
  have hall := h
  rcases h.2 with ⟨rfl, h0⟩ | ⟨g, cap, cur, rfl, hg, hh, h1, h2, h3, h4⟩
  · have : ls = [] := List.eq_nil_of_length_eq_zero h0
    subst this
    exact ⟨none, 0, rfl, FactsAt.nil _ _ _, fun _ => rfl⟩
  · have at_ : ∀ i (hi : i < ls.length) j (hj : j < 3), w.cell? ⟨g, 0 + i * 3 + j, none⟩ = (factCells ls[i])[j]? := fun i hi j hj => by
      have hget := factRow_get ls i j hi hj
      have hs : j < (factCells ls[i]).length := hj
      rw [List.getElem?_eq_getElem hs] at hget ⊢
      have := hall.cells (g := g) rfl (i * 3 + j) _ hget
      rw [add_off, Nat.zero_add] at this
      rw [Nat.zero_add]
      exact this
    exact ⟨_, _, rfl, fun i hi => ⟨g, 0, rfl, ⟨hg, lt_blk hh⟩, at_ i hi 0 (by decide), at_ i hi 1 (by decide), at_ i hi 2 (by decide)⟩, fun e => by cases e⟩

theorem fact_one (x : FactB) : ∀ u ∈ factCells x, u.oneCell' = true := by
  intro u hu
  simp only [factCells, List.mem_cons, List.not_mem_nil, or_false] at hu
  rcases hu with rfl | rfl | rfl <;> rfl
end Go.Proofs.Ytcdjjengkdbngaa

/- Steps of chains as they lie in memory. -/
namespace Go.Proofs.Ytcdjjengkdbngaa
open Go.RowKit

/-- A step: its credential, its fact. -/
structure StepB where
  c : CredB
  f : FactB
deriving DecidableEq

def stepCells (s : StepB) : List Value := [.int .i64 s.c.kind, .string ⟨s.c.head.1.toArray⟩, .string ⟨s.c.head.2.toArray⟩, .string ⟨s.c.who.toArray⟩, .string ⟨s.c.b.1.toArray⟩, .string ⟨s.c.b.2.toArray⟩, .string ⟨s.c.c.1.toArray⟩, .string ⟨s.c.c.2.toArray⟩, .string ⟨s.c.w2.toArray⟩, .string ⟨s.f.1.1.toArray⟩, .string ⟨s.f.1.2.toArray⟩, .string ⟨s.f.2.toArray⟩]
def stepBox (s : StepB) : Array Value := #[.int .i64 s.c.kind, .string ⟨s.c.head.1.toArray⟩, .string ⟨s.c.head.2.toArray⟩, .string ⟨s.c.who.toArray⟩, .string ⟨s.c.b.1.toArray⟩, .string ⟨s.c.b.2.toArray⟩, .string ⟨s.c.c.1.toArray⟩, .string ⟨s.c.c.2.toArray⟩, .string ⟨s.c.w2.toArray⟩, .string ⟨s.f.1.1.toArray⟩, .string ⟨s.f.1.2.toArray⟩, .string ⟨s.f.2.toArray⟩]
/-- The step s lies at the twelve cells from o on. -/
structure StepAt (w : World) (b o : Nat) (s : StepB) : Prop where
  c : CredAt w b o s.c
  f : FactAt w b (o + 9) s.f

def stepShort (s : StepB) (n : Nat) : Prop := credShort s.c n ∧ factShort s.f n

theorem StepAt.keep {S : Nat → Prop} {w w' : World} {b o : Nat} {s : StepB} (h : StepAt w b o s) (hc : Chg S w w') (hS : ¬ S b) : StepAt w' b o s := ⟨h.c.keep hc hS, h.f.keep hc hS⟩

/-- The steps ls can be read from the address ao on. -/
def StepsAt (D : Nat → Prop) (w : World) (ao : Option Addr) (ls : List StepB) : Prop :=
  ∀ i (h : i < ls.length), ∃ b off, ao = some ⟨b, off, none⟩ ∧ D b ∧ StepAt w b (off + i * 12) ls[i] ∧ stepShort ls[i] 9223372036854775807

theorem StepsAt.keep {S D : Nat → Prop} {w w' : World} {ao : Option Addr} {ls : List StepB} (h : StepsAt D w ao ls) (hc : Chg S w w') (hS : ∀ i, D i → ¬ S i) : StepsAt D w' ao ls := fun i hi =>
  let ⟨b, off, h1, h2, h3, h4⟩ := h i hi
  ⟨b, off, h1, h2, h3.keep hc (hS b h2), h4⟩
theorem StepsAt.mono {D D' : Nat → Prop} {w : World} {ao : Option Addr} {ls : List StepB} (h : StepsAt D w ao ls) (hD : ∀ i, D i → D' i) : StepsAt D' w ao ls := fun i hi =>
  let ⟨b, off, h1, h2, h3⟩ := h i hi
  ⟨b, off, h1, hD b h2, h3⟩
theorem StepsAt.nil (D : Nat → Prop) (w : World) (ao : Option Addr) : StepsAt D w ao [] := fun i h => absurd h (by simp)
/-- The first k of them. -/
theorem StepsAt.take {D : Nat → Prop} {w : World} {ao : Option Addr} {ls : List StepB} (h : StepsAt D w ao ls) (k : Nat) : StepsAt D w ao (ls.take k) := fun i hi => by
  have hi2 : i < ls.length := by rw [List.length_take] at hi; omega
  obtain ⟨b, off, h1, h2, h3⟩ := h i hi2
  refine ⟨b, off, h1, h2, ?_⟩
  rw [List.getElem_take]
  exact h3
/-- Those from k on. -/
theorem StepsAt.drop {D : Nat → Prop} {w : World} {b off : Nat} {ls : List StepB} (h : StepsAt D w (some ⟨b, off, none⟩) ls) (k : Nat) : StepsAt D w (some ⟨b, off + k * 12, none⟩) (ls.drop k) := fun i hi => by
  have hi2 : k + i < ls.length := by rw [List.length_drop] at hi; omega
  obtain ⟨b2, off2, h1, h2, h3⟩ := h (k + i) hi2
  cases h1
  refine ⟨b, off + k * 12, rfl, h2, ?_⟩
  rw [List.getElem_drop, show off + k * 12 + i * 12 = off + (k + i) * 12 by rw [Nat.add_mul]; omega]
  exact h3

theorem step_at_blk {w : World} {g : Nat} {s : StepB} {ty : TypeId} {z : Nat × Nat} (h : w.heap[g]? = some (.cells (stepBox s) ty z)) : StepAt w g 0 s :=
  ⟨⟨cell_blk h 0, cell_blk h 1, cell_blk h 2, cell_blk h 3, cell_blk h 4, cell_blk h 5, cell_blk h 6, cell_blk h 7, cell_blk h 8⟩, ⟨cell_blk h 9, cell_blk h 10, cell_blk h 11⟩⟩

theorem Try.info36 : (Try.prog.info? 36).map (fun i => (i.zero, i.size, i.bytes)) = some (some (.agg #[.int .i64 0, .string ⟨#[]⟩, .string ⟨#[]⟩, .string ⟨#[]⟩, .string ⟨#[]⟩, .string ⟨#[]⟩, .string ⟨#[]⟩, .string ⟨#[]⟩, .string ⟨#[]⟩, .string ⟨#[]⟩, .string ⟨#[]⟩, .string ⟨#[]⟩]), 12, 184) := by kernel_rfl

def stepRow (ls : List StepB) : List Value := ls.flatMap stepCells
theorem stepRow_append (a b : List StepB) : stepRow (a ++ b) = stepRow a ++ stepRow b := by simp [stepRow]
theorem stepRow_get : ∀ (ls : List StepB) (i j : Nat) (h : i < ls.length) (_ : j < 12), (stepRow ls)[i * 12 + j]? = (stepCells ls[i])[j]?
  | x :: l, 0, j, _, hj => by
    rw [Nat.zero_mul, Nat.zero_add, stepRow, List.flatMap_cons, List.getElem?_append_left (by simpa [stepCells] using hj)]
    rfl
  | x :: l, i + 1, j, h, hj => by
    have hl : (stepCells x).length = 12 := rfl
    have := stepRow_get l i j (by simpa using h) hj
    rw [stepRow, List.flatMap_cons, List.getElem?_append_right (by rw [hl, Nat.add_mul]; omega), hl]
    rw [show (i + 1) * 12 + j - 12 = i * 12 + j by rw [Nat.add_mul]; omega]
    exact this

/-- A list of steps of the call's own. -/
def OwnSt (B : Nat) (w : World) (v : Value) (ls : List StepB) : Prop := w.ownsRow B 36 12 v ls.length (stepRow ls)

theorem OwnSt.keep {S : Nat → Prop} {B : Nat} {w w' : World} {v : Value} {ls : List StepB} (h : OwnSt B w v ls) (hc : Chg S w w') (hr : ∀ k, v.ownBlock = some k → ¬ S k) : OwnSt B w' v ls := ownsRow_keep h hc hr

theorem OwnSt.shape {B : Nat} {w : World} {v : Value} {ls : List StepB} (h : OwnSt B w v ls) : ∃ ao cap, v = .slice ao ls.length cap := by
  rcases h.2 with ⟨rfl, h0⟩ | ⟨g, cap, cur, rfl, _⟩
  · exact ⟨none, 0, by rw [h0]⟩
  · exact ⟨_, _, rfl⟩

theorem OwnSt.steps {B : Nat} {w : World} {v : Value} {ls : List StepB} (h : OwnSt B w v ls) (hb : ∀ x ∈ ls, stepShort x 9223372036854775807) :
    ∃ ao cap, v = .slice ao ls.length cap ∧ StepsAt (fun k => B ≤ k ∧ k < w.heap.size) w ao ls ∧ (ao = none → cap = 0) := by
  have hall := h
  rcases h.2 with ⟨rfl, h0⟩ | ⟨g, cap, cur, rfl, hg, hh, h1, h2, h3, h4⟩
  · have : ls = [] := List.eq_nil_of_length_eq_zero h0
    subst this
    exact ⟨none, 0, rfl, StepsAt.nil _ _ _, fun _ => rfl⟩
  · have at_ : ∀ i (hi : i < ls.length) j (hj : j < 12), w.cell? ⟨g, 0 + i * 12 + j, none⟩ = (stepCells ls[i])[j]? := fun i hi j hj => by
      have hget := stepRow_get ls i j hi hj
      have hs : j < (stepCells ls[i]).length := hj
      rw [List.getElem?_eq_getElem hs] at hget ⊢
      have := hall.cells (g := g) rfl (i * 12 + j) _ hget
      rw [add_off, Nat.zero_add] at this
      rw [Nat.zero_add]
      exact this
    exact ⟨_, _, rfl, fun i hi => ⟨g, 0, rfl, ⟨hg, lt_blk hh⟩, ⟨⟨at_ i hi 0 (by decide), at_ i hi 1 (by decide), at_ i hi 2 (by decide), at_ i hi 3 (by decide), at_ i hi 4 (by decide), at_ i hi 5 (by decide), at_ i hi 6 (by decide), at_ i hi 7 (by decide), at_ i hi 8 (by decide)⟩, ⟨at_ i hi 9 (by decide), at_ i hi 10 (by decide), at_ i hi 11 (by decide)⟩⟩, hb _ (List.getElem_mem hi)⟩, fun e => by cases e⟩

theorem step_one (x : StepB) : ∀ u ∈ stepCells x, u.oneCell' = true := by
  intro u hu
  simp only [stepCells, List.mem_cons, List.not_mem_nil, or_false] at hu
  rcases hu with rfl | rfl | rfl | rfl | rfl | rfl | rfl | rfl | rfl | rfl | rfl | rfl <;> rfl

/-- The facts of steps. -/
def factsK (ls : List StepB) : List FactB := ls.map (·.f)
theorem factsK_snoc (ls : List StepB) (x : StepB) : factsK (ls ++ [x]) = factsK ls ++ [x.f] := by simp [factsK]
theorem factsK_len (ls : List StepB) : (factsK ls).length = ls.length := by simp [factsK]
end Go.Proofs.Ytcdjjengkdbngaa

/- Go's == at roles whose cells are told. -/
namespace Go.Proofs.Ytcdjjengkdbngaa
open Go.RowKit

theorem run_eqg_role (x y : Operand) (a b : RoleB) (w : World) : Sem.run Try.prog (eqGuard BinOp.eql 30 x y (.agg #[.string ⟨a.1.toArray⟩, .string ⟨a.2.toArray⟩]) (.agg #[.string ⟨b.1.toArray⟩, .string ⟨b.2.toArray⟩])) w = .ok () w := by
  go_simp

theorem run_eql_role (a b : RoleB) (w : World) : Sem.run Try.prog (binOp BinOp.eql 30 (.agg #[.string ⟨a.1.toArray⟩, .string ⟨a.2.toArray⟩]) (.agg #[.string ⟨b.1.toArray⟩, .string ⟨b.2.toArray⟩])) w = .ok (.bool (decide (a = b))) w := by
  have : decide (a = b) = decide (a.1 = b.1 ∧ a.2 = b.2) := by simp only [Prod.ext_iff]
  rw [this]
  go_simp
  repeat' split
  all_goals simp_all
end Go.Proofs.Ytcdjjengkdbngaa

/- The contract of the document's In, of layer 8. -/
namespace Go.Proofs.Ytcdjjengkdbngaa
open Go.RowKit
attribute [local go_sem ↓ high] run_eqg_role run_eql_role

end Go.Proofs.Ytcdjjengkdbngaa

/- The contract of the document's Step, of layer 8. -/
namespace Go.Proofs.Ytcdjjengkdbngaa
open Go.RowKit

end Go.Proofs.Ytcdjjengkdbngaa

/- Draws add up. -/
namespace Go.Proofs.Ytcdjjengkdbngaa
open Go.RowKit

end Go.Proofs.Ytcdjjengkdbngaa

/- The contract of the document's Same, of lists of texts. -/
namespace Go.Proofs.Ytcdjjengkdbngaa
open Go.RowKit

end Go.Proofs.Ytcdjjengkdbngaa

/- Lists of texts of the call's own. -/
namespace Go.Proofs.Ytcdjjengkdbngaa
open Go.RowKit

def strV (l : List UInt8) : Value := .string ⟨l.toArray⟩
/-- A list of texts of the call's own. -/
def OwnS (B : Nat) (w : World) (v : Value) (ls : List (List UInt8)) : Prop := w.ownsRow B 9 1 v ls.length (ls.map strV)

theorem OwnS.strs {B : Nat} {w : World} {v : Value} {ls : List (List UInt8)} (h : OwnS B w v ls) (hb : ∀ x ∈ ls, x.length ≤ 9223372036854775807) : ∃ ao cap, v = .slice ao ls.length cap ∧ StrsAt (fun k => B ≤ k ∧ k < w.heap.size) w ao ls := by
  rcases h.2 with ⟨rfl, h0⟩ | ⟨g, cap, cur, rfl, hg, hh, h1, h2, h3, h4⟩
  · have : ls = [] := List.eq_nil_of_length_eq_zero h0
    subst this
    exact ⟨none, 0, rfl, StrsAt.nil _ _ _⟩
  · refine ⟨_, _, rfl, fun i hi => ⟨g, 0, rfl, ⟨hg, lt_blk hh⟩, ?_, hb _ (List.getElem_mem hi)⟩⟩
    have hcell := h.cells (g := g) rfl i (strV ls[i]) (by simp [hi])
    rw [add_off] at hcell
    exact hcell

end Go.Proofs.Ytcdjjengkdbngaa

/- The contract of the document's Set. -/
namespace Go.Proofs.Ytcdjjengkdbngaa
open Go.RowKit

end Go.Proofs.Ytcdjjengkdbngaa

/- The contracts of the document's Facts, and names, of layer 9. -/
namespace Go.Proofs.Ytcdjjengkdbngaa
open Go.RowKit

/-- Who is told by facts. -/
def whosF (ls : List FactB) : List (List UInt8) := ls.map (·.2)
end Go.Proofs.Ytcdjjengkdbngaa

/- The contract of the document's Less of layer 4. -/
namespace Go.Proofs.Ytcdjjengkdbngaa
open Go.RowKit

end Go.Proofs.Ytcdjjengkdbngaa

/- The contract of the document's Right of layer 5. -/
namespace Go.Proofs.Ytcdjjengkdbngaa
open Go.RowKit

end Go.Proofs.Ytcdjjengkdbngaa

/- The contract of the document's Follows, of layer 9. -/
namespace Go.Proofs.Ytcdjjengkdbngaa
open Go.RowKit
attribute [local go_sem ↓ high] run_eqg_role run_eql_role

/-- Does a step follow facts? -/
def followsK (s : StepB) (hs : List FactB) : Bool := isCred s.c && (decide (s.f.1 = s.c.head) && stepF hs s.c (whosF hs) s.f.2)

end Go.Proofs.Ytcdjjengkdbngaa

/- The contract of the document's stands, of layer 9. -/
namespace Go.Proofs.Ytcdjjengkdbngaa
open Go.RowKit

/-- Does each step follow those ahead? -/
def standsK (ls : List StepB) : Bool := decide (∀ i (h : i < ls.length), followsK ls[i] (factsK (ls.take i)) = true)

def Spec.factsK (xs : List FactB) : Spec := ⟨fun v w => ∃ ao cap, v = .slice ao xs.length cap ∧ FactsAt (fun _ => True) w ao xs, fun _ _ _ hc ⟨a, c, h1, h2⟩ => ⟨a, c, h1, h2.keep hc (fun _ _ => id)⟩⟩

theorem steps_short {D : Nat → Prop} {w : World} {ao : Option Addr} {ls : List StepB} (h : StepsAt D w ao ls) : ∀ s ∈ ls, stepShort s 9223372036854775807 := fun s hs => by
  obtain ⟨i, hi, rfl⟩ := List.getElem_of_mem hs
  obtain ⟨_, _, _, _, _, h4⟩ := h i hi
  exact h4

end Go.Proofs.Ytcdjjengkdbngaa

/- How great credentials are: the contract of the law's Great. -/
namespace Go.Proofs.Ytcdjjengkdbngaa
open Go.RowKit

/-- How great credentials are. -/
def sizeC (c : CredB) : Nat := 20 + c.head.1.length + c.head.2.length + c.who.length + c.b.1.length + c.b.2.length + c.c.1.length + c.c.2.length + c.w2.length
def totalC : List CredB → Nat
  | [] => 0
  | c :: l => sizeC c + totalC l

theorem totalC_append (a b : List CredB) : totalC (a ++ b) = totalC a + totalC b := by
  induction a with
  | nil => simp [totalC]
  | cons x l ih => rw [List.cons_append, totalC, totalC, ih]; omega

theorem totalC_len (a : List CredB) : a.length ≤ totalC a := by
  induction a with
  | nil => simp [totalC]
  | cons x l ih => rw [totalC, List.length_cons, sizeC]; omega

theorem totalC_mem {a : List CredB} {x : CredB} (h : x ∈ a) : sizeC x ≤ totalC a := by
  induction a with
  | nil => simp at h
  | cons y l ih =>
    rw [totalC]
    rcases List.mem_cons.1 h with rfl | h
    · omega
    · have := ih h; omega

theorem totalC_take (ls : List CredB) (k : Nat) (h : k < ls.length) : totalC (ls.take (k + 1)) = totalC (ls.take k) + sizeC ls[k] := by
  rw [List.take_succ_eq_append_getElem h, totalC_append]; simp [totalC]

theorem totalC_take_le (ls : List CredB) (k : Nat) : totalC (ls.take k) ≤ totalC ls := by
  conv => rhs; rw [← List.take_append_drop k ls]
  rw [totalC_append]; omega

theorem sizeC_short {c : CredB} {n : Nat} (h : sizeC c ≤ n) : credShort c n := by
  unfold sizeC at h
  exact ⟨by omega, by omega, by omega, by omega, by omega, by omega, by omega, by omega⟩

set_option maxRecDepth 100000 in
set_option maxHeartbeats 2000000 in
theorem great_any {D : Nat → Prop} (ao : Option Addr) (cp : Nat) (ls : List CredB) (w : World) (hn : totalC ls ≤ 4503599627370496) (h : CredsAt D w ao ls) :
    Calls Try.prog 9 #[.slice ao ls.length cp] w fun e w' => e = .returned (.int .i64 (totalC ls)) ∧ Chg (fun _ => False) w w' := by
  have hl := totalC_len ls
  go_enter Try.func9, Try.ntmps9
  go_wp2
  go_loopw [3, 8] (fun n i wr => ∃ k m : Nat, k ≤ ls.length ∧ i = .int .i64 k ∧ n = .int .i64 m ∧ Hid (m = totalC (ls.take k)) ∧ m ≤ 4503599627370496 ∧ Chg (fun _ => False) w wr) (fun _ i _ => ls.length - (intOf i).toNat)
  case atStart => exact ⟨0, 0, Nat.zero_le _, rfl, rfl, rfl, by omega, Chg.refl _ _⟩
  case round =>
    obtain ⟨k, m, hk, rfl, rfl, hm, hml, hc⟩ := hrel
    by_cases hlt : k < ls.length
    · obtain ⟨b, off, rfl, _, hat, hs⟩ := (h.keep hc (fun _ _ => id)) k hlt
      have ht := totalC_take ls k hlt
      have hle := totalC_take_le ls (k + 1)
      rw [ht, ← hm.out] at hle
      have hx : Hid (m + sizeC ls[k] = totalC (ls.take (k + 1))) := hid (by rw [ht, hm.out])
      clear h ht
      have hsl2 : m + sizeC ls[k] ≤ 4503599627370496 := by omega
      clear hle
      generalize ls[k] = s at *
      obtain ⟨kk, ⟨ho, hw⟩, who, ⟨bo, bw⟩, ⟨co, cw⟩, w2⟩ := s
      obtain ⟨a0, a1, a2, a3, a4, a5, a6, a7, a8⟩ := hat
      obtain ⟨s1, s2, s3, s4, s5, s6, s7, s8⟩ := hs
      simp only [sizeC] at a0 a1 a2 a3 a4 a5 a6 a7 a8 s1 s2 s3 s4 s5 s6 s7 s8 hx hsl2
      have HC := hid hc
      clear hc
      go_wp2
      go_roundw
      case rel => exact ⟨k + 1, m + (20 + ho.length + hw.length + who.length + bo.length + bw.length + co.length + cw.length + w2.length), by omega, by go_num, by go_num, hx, hsl2, HC.out.alloc _⟩
      case measure => simp [intOf]; omega
    · have hk2 : k = ls.length := by omega
      have hx : m = totalC ls := by have := hm.out; rwa [List.take_of_length_le (by omega)] at this
      subst hx
      have HC := hid hc
      clear h hc
      go_wp2
      go_ret
      exact ⟨rfl, HC.out⟩

end Go.Proofs.Ytcdjjengkdbngaa

/- The contract of the document's Has of layer 5. -/
namespace Go.Proofs.Ytcdjjengkdbngaa
open Go.RowKit

end Go.Proofs.Ytcdjjengkdbngaa

/- The contract of the document's Check, of layer 9. -/
namespace Go.Proofs.Ytcdjjengkdbngaa
open Go.RowKit

/-- Does the step at i follow those ahead, and is its credential told? -/
def goodK (ls : List StepB) (cs : List CredB) (i : Nat) : Prop := ∀ h : i < ls.length, hasC cs ls[i].c = true ∧ followsK ls[i] (factsK (ls.take i)) = true

/-- What Check tells. -/
def CheckIs (ls : List StepB) (cs : List CredB) (wf : FactB) (n : Nat) (e : Int) : Prop :=
  (n < ls.length ∧ (∀ i, i < n → goodK ls cs i) ∧ ¬ goodK ls cs n ∧ e = 50) ∨ (n = ls.length ∧ (∀ i, i < n → goodK ls cs i) ∧ e = if inF (factsK ls) wf.1 wf.2 then 0 else 42)

theorem CheckIs.one {ls : List StepB} {cs : List CredB} {wf : FactB} {n m : Nat} {e f : Int} (h : CheckIs ls cs wf n e) (k : CheckIs ls cs wf m f) : n = m ∧ e = f := by
  rcases h with ⟨h1, h2, h3, h4⟩ | ⟨h1, h2, h4⟩ <;> rcases k with ⟨k1, k2, k3, k4⟩ | ⟨k1, k2, k4⟩
  · have e1 : n = m := by
      rcases Nat.lt_trichotomy n m with h | h | h
      · exact absurd (k2 n h) h3
      · exact h
      · exact absurd (h2 m h) k3
    exact ⟨e1, by rw [h4, k4]⟩
  · exact absurd (k2 n (by omega)) h3
  · exact absurd (h2 m (by omega)) k3
  · exact ⟨by omega, by rw [h4, k4]⟩

end Go.Proofs.Ytcdjjengkdbngaa

/- append of a list of steps, onto a row of the call's own. -/
namespace Go.Proofs.Ytcdjjengkdbngaa
open Go.RowKit

/-- Rows of n credentials and fewer, and those that hold full, from the block B on, are kept. -/
def RowsSt (B n : Nat) (full : List StepB) (w w' : World) : Prop := ∀ v zs, (zs.length ≤ n ∨ zs = full) → OwnSt B w v zs → OwnSt B w' v zs
theorem RowsSt.refl (B n : Nat) (full : List StepB) (w : World) : RowsSt B n full w w := fun _ _ _ h => h
theorem RowsSt.trans {B n : Nat} {full : List StepB} {a b c : World} (h : RowsSt B n full a b) (k : RowsSt B n full b c) : RowsSt B n full a c := fun v zs hz ho => k v zs hz (h v zs hz ho)
theorem RowsSt.of_chg {B n : Nat} {full : List StepB} {a b : World} (h : Chg (fun _ => False) a b) : RowsSt B n full a b := fun _ _ _ ho => ho.keep h (fun _ _ => id)

end Go.Proofs.Ytcdjjengkdbngaa
