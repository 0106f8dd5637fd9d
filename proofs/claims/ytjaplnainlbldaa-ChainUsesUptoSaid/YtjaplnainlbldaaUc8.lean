/- Texts that the proof leans on, in one: StepCells, RoleEqL, RefFIn, RefFStep, DrewN, RefSameS, OwnS, RefSet, RefKFacts, RefRoleLess, RefCredRight, RefKFollows, RefKStands, StepApp, RefKTight. -/
import Derived.Test.YtjaplnainlbldaaUc7
import Derived.Test.YtjaplnainlbldaaUc1
import Derived.Test.YtjaplnainlbldaaUc3
import Derived.Deep.QuietTactic
import Derived.BigQuiet
import Derived.Test.YtjaplnainlbldaaUc2
import Derived.Test.YtjaplnainlbldaaProg
import Derived.Test.YtjaplnainlbldaaChecked
import Derived.Maps.AppendAt
import Derived.Test.YtjaplnainlbldaaUc6
/- Steps of chains as they lie in memory. -/
namespace Go.Proofs.Ytjaplnainlbldaa
open Go.RowKit

/-- A step: its credential, its fact. -/
structure StepB where
  c : CredB
  f : FactB
deriving DecidableEq

def stepCells (s : StepB) : List Value := [.int .i64 s.c.kind, .string ⟨s.c.head.1.toArray⟩, .string ⟨s.c.head.2.toArray⟩, .string ⟨s.c.who.toArray⟩, .string ⟨s.c.b.1.toArray⟩, .string ⟨s.c.b.2.toArray⟩, .string ⟨s.c.c.1.toArray⟩, .string ⟨s.c.c.2.toArray⟩, .string ⟨s.c.w2.toArray⟩, .string ⟨s.f.1.1.toArray⟩, .string ⟨s.f.1.2.toArray⟩, .string ⟨s.f.2.toArray⟩]
def stepBox (s : StepB) : Array Value := #[.int .i64 s.c.kind, .string ⟨s.c.head.1.toArray⟩, .string ⟨s.c.head.2.toArray⟩, .string ⟨s.c.who.toArray⟩, .string ⟨s.c.b.1.toArray⟩, .string ⟨s.c.b.2.toArray⟩, .string ⟨s.c.c.1.toArray⟩, .string ⟨s.c.c.2.toArray⟩, .string ⟨s.c.w2.toArray⟩, .string ⟨s.f.1.1.toArray⟩, .string ⟨s.f.1.2.toArray⟩, .string ⟨s.f.2.toArray⟩]
/-- The step s lies at the twelve cells from o on. -/
structure StepAt (w : World) (b o : Nat) (s : StepB) : Prop where
  c : CredAt w b o s.c
  f : FactAt w b (o + 9) s.f

def stepShort (s : StepB) (n : Nat) : Prop := credShort s.c n ∧ factShort s.f n

theorem StepAt.keep {S : Nat → Prop} {w w' : World} {b o : Nat} {s : StepB} (h : StepAt w b o s) (hc : Chg S w w') (hS : ¬ S b) : StepAt w' b o s := ⟨h.c.keep hc hS, h.f.keep hc hS⟩

/-- The steps ls can be read from the address ao on. -/
def StepsAt (D : Nat → Prop) (w : World) (ao : Option Addr) (ls : List StepB) : Prop :=
  ∀ i (h : i < ls.length), ∃ b off, ao = some ⟨b, off, none⟩ ∧ D b ∧ StepAt w b (off + i * 12) ls[i] ∧ stepShort ls[i] 9223372036854775807

theorem StepsAt.keep {S D : Nat → Prop} {w w' : World} {ao : Option Addr} {ls : List StepB} (h : StepsAt D w ao ls) (hc : Chg S w w') (hS : ∀ i, D i → ¬ S i) : StepsAt D w' ao ls := fun i hi =>
  let ⟨b, off, h1, h2, h3, h4⟩ := h i hi
  ⟨b, off, h1, h2, h3.keep hc (hS b h2), h4⟩
theorem StepsAt.mono {D D' : Nat → Prop} {w : World} {ao : Option Addr} {ls : List StepB} (h : StepsAt D w ao ls) (hD : ∀ i, D i → D' i) : StepsAt D' w ao ls := fun i hi =>
  let ⟨b, off, h1, h2, h3⟩ := h i hi
  ⟨b, off, h1, hD b h2, h3⟩
theorem StepsAt.nil (D : Nat → Prop) (w : World) (ao : Option Addr) : StepsAt D w ao [] := fun i h => absurd h (by simp)
/-- The first k of them. -/
theorem StepsAt.take {D : Nat → Prop} {w : World} {ao : Option Addr} {ls : List StepB} (h : StepsAt D w ao ls) (k : Nat) : StepsAt D w ao (ls.take k) := fun i hi => by
  have hi2 : i < ls.length := by rw [List.length_take] at hi; omega
  obtain ⟨b, off, h1, h2, h3⟩ := h i hi2
  refine ⟨b, off, h1, h2, ?_⟩
  rw [List.getElem_take]
  exact h3
/-- Those from k on. -/
theorem StepsAt.drop {D : Nat → Prop} {w : World} {b off : Nat} {ls : List StepB} (h : StepsAt D w (some ⟨b, off, none⟩) ls) (k : Nat) : StepsAt D w (some ⟨b, off + k * 12, none⟩) (ls.drop k) := fun i hi => by
  have hi2 : k + i < ls.length := by rw [List.length_drop] at hi; omega
  obtain ⟨b2, off2, h1, h2, h3⟩ := h (k + i) hi2
  cases h1
  refine ⟨b, off + k * 12, rfl, h2, ?_⟩
  rw [List.getElem_drop, show off + k * 12 + i * 12 = off + (k + i) * 12 by rw [Nat.add_mul]; omega]
  exact h3

theorem step_at_blk {w : World} {g : Nat} {s : StepB} {ty : TypeId} {z : Nat × Nat} (h : w.heap[g]? = some (.cells (stepBox s) ty z)) : StepAt w g 0 s :=
  ⟨⟨cell_blk h 0, cell_blk h 1, cell_blk h 2, cell_blk h 3, cell_blk h 4, cell_blk h 5, cell_blk h 6, cell_blk h 7, cell_blk h 8⟩, ⟨cell_blk h 9, cell_blk h 10, cell_blk h 11⟩⟩

theorem Try.info43 : (Try.prog.info? 43).map (fun i => (i.zero, i.size, i.bytes)) = some (some (.agg #[.int .i64 0, .string ⟨#[]⟩, .string ⟨#[]⟩, .string ⟨#[]⟩, .string ⟨#[]⟩, .string ⟨#[]⟩, .string ⟨#[]⟩, .string ⟨#[]⟩, .string ⟨#[]⟩, .string ⟨#[]⟩, .string ⟨#[]⟩, .string ⟨#[]⟩]), 12, 184) := by kernel_rfl

def stepRow (ls : List StepB) : List Value := ls.flatMap stepCells
theorem stepRow_snoc (ls : List StepB) (x : StepB) : stepRow (ls ++ [x]) = stepRow ls ++ stepCells x := by simp [stepRow]
theorem stepRow_append (a b : List StepB) : stepRow (a ++ b) = stepRow a ++ stepRow b := by simp [stepRow]
theorem stepRow_len (ls : List StepB) : (stepRow ls).length = ls.length * 12 := by
  unfold stepRow
  induction ls with
  | nil => rfl
  | cons x l ih => rw [List.flatMap_cons, List.length_append, ih, List.length_cons]; simp [stepCells]; omega
theorem stepRow_get : ∀ (ls : List StepB) (i j : Nat) (h : i < ls.length) (_ : j < 12), (stepRow ls)[i * 12 + j]? = (stepCells ls[i])[j]?
  | x :: l, 0, j, _, hj => by
    rw [Nat.zero_mul, Nat.zero_add, stepRow, List.flatMap_cons, List.getElem?_append_left (by simpa [stepCells] using hj)]
    rfl
  | x :: l, i + 1, j, h, hj => by
    have hl : (stepCells x).length = 12 := rfl
    have := stepRow_get l i j (by simpa using h) hj
    rw [stepRow, List.flatMap_cons, List.getElem?_append_right (by rw [hl, Nat.add_mul]; omega), hl]
    rw [show (i + 1) * 12 + j - 12 = i * 12 + j by rw [Nat.add_mul]; omega]
    exact this

/-- A list of steps of the call's own. -/
def OwnSt (B : Nat) (w : World) (v : Value) (ls : List StepB) : Prop := w.ownsRow B 43 12 v ls.length (stepRow ls)

theorem OwnSt.keep {S : Nat → Prop} {B : Nat} {w w' : World} {v : Value} {ls : List StepB} (h : OwnSt B w v ls) (hc : Chg S w w') (hr : ∀ k, v.ownBlock = some k → ¬ S k) : OwnSt B w' v ls := ownsRow_keep h hc hr

theorem OwnSt.shape {B : Nat} {w : World} {v : Value} {ls : List StepB} (h : OwnSt B w v ls) : ∃ ao cap, v = .slice ao ls.length cap := by
  rcases h.2 with ⟨rfl, h0⟩ | ⟨g, cap, cur, rfl, _⟩
  · exact ⟨none, 0, by rw [h0]⟩
  · exact ⟨_, _, rfl⟩

theorem OwnSt.steps {B : Nat} {w : World} {v : Value} {ls : List StepB} (h : OwnSt B w v ls) (hb : ∀ x ∈ ls, stepShort x 9223372036854775807) :
    ∃ ao cap, v = .slice ao ls.length cap ∧ StepsAt (fun k => B ≤ k ∧ k < w.heap.size) w ao ls ∧ (ao = none → cap = 0) := by
  have hall := h
  rcases h.2 with ⟨rfl, h0⟩ | ⟨g, cap, cur, rfl, hg, hh, h1, h2, h3, h4⟩
  · have : ls = [] := List.eq_nil_of_length_eq_zero h0
    subst this
    exact ⟨none, 0, rfl, StepsAt.nil _ _ _, fun _ => rfl⟩
  · have at_ : ∀ i (hi : i < ls.length) j (hj : j < 12), w.cell? ⟨g, 0 + i * 12 + j, none⟩ = (stepCells ls[i])[j]? := fun i hi j hj => by
      have hget := stepRow_get ls i j hi hj
      have hs : j < (stepCells ls[i]).length := hj
      rw [List.getElem?_eq_getElem hs] at hget ⊢
      have := hall.cells (g := g) rfl (i * 12 + j) _ hget
      rw [add_off, Nat.zero_add] at this
      rw [Nat.zero_add]
      exact this
    exact ⟨_, _, rfl, fun i hi => ⟨g, 0, rfl, ⟨hg, lt_blk hh⟩, ⟨⟨at_ i hi 0 (by decide), at_ i hi 1 (by decide), at_ i hi 2 (by decide), at_ i hi 3 (by decide), at_ i hi 4 (by decide), at_ i hi 5 (by decide), at_ i hi 6 (by decide), at_ i hi 7 (by decide), at_ i hi 8 (by decide)⟩, ⟨at_ i hi 9 (by decide), at_ i hi 10 (by decide), at_ i hi 11 (by decide)⟩⟩, hb _ (List.getElem_mem hi)⟩, fun e => by cases e⟩

theorem step_one (x : StepB) : ∀ u ∈ stepCells x, u.oneCell' = true := by
  intro u hu
  simp only [stepCells, List.mem_cons, List.not_mem_nil, or_false] at hu
  rcases hu with rfl | rfl | rfl | rfl | rfl | rfl | rfl | rfl | rfl | rfl | rfl | rfl <;> rfl

/-- The facts of steps. -/
def factsK (ls : List StepB) : List FactB := ls.map (·.f)
theorem factsK_snoc (ls : List StepB) (x : StepB) : factsK (ls ++ [x]) = factsK ls ++ [x.f] := by simp [factsK]
theorem factsK_len (ls : List StepB) : (factsK ls).length = ls.length := by simp [factsK]
end Go.Proofs.Ytjaplnainlbldaa

/- Go's == at roles whose cells are told. -/
namespace Go.Proofs.Ytjaplnainlbldaa
open Go.RowKit

theorem run_eqg_role (x y : Operand) (a b : RoleB) (w : World) : Sem.run Try.prog (eqGuard BinOp.eql 24 x y (.agg #[.string ⟨a.1.toArray⟩, .string ⟨a.2.toArray⟩]) (.agg #[.string ⟨b.1.toArray⟩, .string ⟨b.2.toArray⟩])) w = .ok () w := by
  go_simp

theorem run_eql_role (a b : RoleB) (w : World) : Sem.run Try.prog (binOp BinOp.eql 24 (.agg #[.string ⟨a.1.toArray⟩, .string ⟨a.2.toArray⟩]) (.agg #[.string ⟨b.1.toArray⟩, .string ⟨b.2.toArray⟩])) w = .ok (.bool (decide (a = b))) w := by
  have : decide (a = b) = decide (a.1 = b.1 ∧ a.2 = b.2) := by simp only [Prod.ext_iff]
  rw [this]
  go_simp
  repeat' split
  all_goals simp_all
end Go.Proofs.Ytjaplnainlbldaa

/- The contract of the document's In, of layer 8. -/
namespace Go.Proofs.Ytjaplnainlbldaa
open Go.RowKit
attribute [local go_sem ↓ high] run_eqg_role run_eql_role

end Go.Proofs.Ytjaplnainlbldaa

/- The contract of the document's Step, of layer 8. -/
namespace Go.Proofs.Ytjaplnainlbldaa
open Go.RowKit

end Go.Proofs.Ytjaplnainlbldaa

/- Draws add up. -/
namespace Go.Proofs.Ytjaplnainlbldaa
open Go.RowKit

theorem drewN_add (w : World) (n m : Nat) : (w.drewN n).drewN m = w.drewN (n + m) := by
  simp only [World.drewN, Nat.add_assoc]
end Go.Proofs.Ytjaplnainlbldaa

/- The contract of the document's Same, of lists of texts. -/
namespace Go.Proofs.Ytjaplnainlbldaa
open Go.RowKit

end Go.Proofs.Ytjaplnainlbldaa

/- Lists of texts of the call's own. -/
namespace Go.Proofs.Ytjaplnainlbldaa
open Go.RowKit

end Go.Proofs.Ytjaplnainlbldaa

/- The contract of the document's Set. -/
namespace Go.Proofs.Ytjaplnainlbldaa
open Go.RowKit

end Go.Proofs.Ytjaplnainlbldaa

/- The contracts of the document's Facts, and names, of layer 9. -/
namespace Go.Proofs.Ytjaplnainlbldaa
open Go.RowKit

theorem ownsRow_lowK {B A : Nat} {w : World} {ty : TypeId} {n : Nat} {v : Value} {len : Nat} {row : List Value} (h : w.ownsRow B ty n v len row) (hA : A ≤ B) : w.ownsRow A ty n v len row := by
  rcases h with ⟨h1, h2 | ⟨g, cap, cur, h3, h4, h5⟩⟩
  · exact ⟨h1, .inl h2⟩
  · exact ⟨h1, .inr ⟨g, cap, cur, h3, Nat.le_trans hA h4, h5⟩⟩

/-- Who is told by facts. -/
def whosF (ls : List FactB) : List (List UInt8) := ls.map (·.2)
end Go.Proofs.Ytjaplnainlbldaa

/- The contract of the document's Less of layer 4. -/
namespace Go.Proofs.Ytjaplnainlbldaa
open Go.RowKit

theorem less_ref (a b : RoleB) (w : World) :
    Calls Try.prog 88 #[roleV a, roleV b] w fun e w' => e = .returned (.bool (ltR a b)) ∧ Chg (fun _ => False) w w' := by
  obtain ⟨o, x⟩ := a
  obtain ⟨p, y⟩ := b
  have hc : Chg (fun _ => False) w ((w.alloc (.cells #[.string ⟨o.toArray⟩, .string ⟨x.toArray⟩] 24)).alloc (.cells #[.string ⟨p.toArray⟩, .string ⟨y.toArray⟩] 24)) := ((Chg.refl _ w).alloc _).alloc _
  have HC := hid hc
  clear hc
  show Calls Try.prog 88 #[.agg #[.string ⟨o.toArray⟩, .string ⟨x.toArray⟩], .agg #[.string ⟨p.toArray⟩, .string ⟨y.toArray⟩]] w _
  cases h1 : Op.bytesLess o p with
  | true =>
    have hh : Hid (ltR (o, x) (p, y) = true) := hid (by rw [ltR_def]; simp [ltS, h1])
    go_enter Try.func88, Try.ntmps88
    go_wp2
    go_ret
    exact ⟨by rw [hh.out]; rfl, HC.out⟩
  | false =>
    by_cases h2 : o = p
    · subst h2
      have e1 : (o == o) = true := by simp
      have hh : Hid (ltR (o, x) (o, y) = Op.bytesLess x y) := hid (by rw [ltR_def]; simp [ltS, h1])
      go_enter Try.func88, Try.ntmps88
      go_wp2
      go_ret
      exact ⟨by rw [hh.out]; rfl, HC.out⟩
    · have e1 : (o == p) = false := by simpa using h2
      have hh : Hid (ltR (o, x) (p, y) = false) := hid (by rw [ltR_def]; simp [ltS, h1, h2])
      clear h2
      go_enter Try.func88, Try.ntmps88
      go_wp2
      go_ret
      exact ⟨by rw [hh.out]; rfl, HC.out⟩
end Go.Proofs.Ytjaplnainlbldaa

/- The contract of the document's Right of layer 5. -/
namespace Go.Proofs.Ytjaplnainlbldaa
open Go.RowKit

theorem isCred_not1 {c : CredB} (k : c.kind ≠ 1) (h : (c.who == [] && isRole c.b) = false) : isCred c = false := by
  unfold isCred
  rw [if_neg k, h]
  simp

set_option maxRecDepth 100000 in
set_option maxHeartbeats 2000000 in
theorem cright_ref (c : CredB) (w : World) (hs : credShort c 9223372036854775807) :
    Calls Try.prog 46 #[credV c] w fun e w' => e = .returned (.bool (isCred c)) ∧ Chg (fun _ => False) w w' := by
  have hc0 : Chg (fun _ => False) w ((w.alloc (.cells (credBox c) 36)).alloc (.cells #[.string ⟨#[]⟩, .string ⟨#[]⟩] 24)) := ((Chg.refl _ w).alloc _).alloc _
  have hA := blk_keep (heap_alloc_new w (.cells (credBox c) 36)) ((Chg.refl (fun _ => False) _).alloc (.cells #[.string ⟨#[]⟩, .string ⟨#[]⟩] 24)) id
  have hN := heap_alloc_new (w.alloc (.cells (credBox c) 36)) (.cells #[.string ⟨#[]⟩, .string ⟨#[]⟩] 24)
  rw [show (w.alloc (.cells (credBox c) 36)).heap.size = w.heap.size + 1 by simp] at hN
  obtain ⟨k, ⟨ho, hw⟩, who, ⟨bo, bw⟩, ⟨co, cw⟩, w2⟩ := c
  obtain ⟨s1, s2, s3, s4, s5, s6, s7, s8⟩ := hs
  dsimp only at s1 s2 s3 s4 s5 s6 s7 s8
  have hd := cred_at_blk hA
  have n0 := cell_blk hN 0
  have n1 := cell_blk hN 1
  simp only [List.getElem?_toArray, List.getElem?_cons_zero, List.getElem?_cons_succ] at n0 n1
  obtain ⟨a0, a1, a2, a3, a4, a5, a6, a7, a8⟩ := hd
  simp only [Nat.zero_add] at a0 a1 a2 a3 a4 a5 a6 a7 a8
  show Calls Try.prog 46 #[.agg #[.int .i64 k, .string ⟨ho.toArray⟩, .string ⟨hw.toArray⟩, .string ⟨who.toArray⟩, .string ⟨bo.toArray⟩, .string ⟨bw.toArray⟩, .string ⟨co.toArray⟩, .string ⟨cw.toArray⟩, .string ⟨w2.toArray⟩]] w _
  clear hA hN
  cases hr : isRole (ho, hw) with
  | false =>
    have hh : Hid (isCred ⟨k, (ho, hw), who, (bo, bw), (co, cw), w2⟩ = false) := hid (by simp [isCred, hr])
    go_enter Try.func46, Try.ntmps46
    go_wp2_with fail
    refine (rright_ref (ho, hw) _ s1 s2).mono ?_
    rintro e w1 ⟨rfl, hc1⟩
    rw [hr]
    have HC := hid (hc0.trans hc1 (fun _ _ h => h))
    clear hc0 hc1
    go_wp2
    go_ret
    exact ⟨by rw [hh.out]; rfl, HC.out⟩
  | true =>
    go_enter Try.func46, Try.ntmps46
    go_wp2_with fail
    refine (rright_ref (ho, hw) _ s1 s2).mono ?_
    rintro e w1 ⟨rfl, hc1⟩
    rw [hr]
    have hcw := hc0.trans hc1 (fun _ _ h => h)
    replace a0 := hc1.cell a0 id
    replace a1 := hc1.cell a1 id
    replace a2 := hc1.cell a2 id
    replace a3 := hc1.cell a3 id
    replace a4 := hc1.cell a4 id
    replace a5 := hc1.cell a5 id
    replace a6 := hc1.cell a6 id
    replace a7 := hc1.cell a7 id
    replace a8 := hc1.cell a8 id
    replace n0 := hc1.cell n0 id
    replace n1 := hc1.cell n1 id
    have HC := hid hcw
    clear hc0 hc1 hcw
    by_cases k1 : k = 1
    · subst k1
      have hh : Hid (isCred ⟨1, (ho, hw), who, (bo, bw), (co, cw), w2⟩ = (isName who && ((bo == [] && bw == []) && ((co == [] && cw == []) && w2 == [])))) := hid (by
        simp only [isCred, hr, if_true, Bool.true_and]
        rfl)
      go_wp2_with fail
      refine (refright_any who _ s3).mono ?_
      rintro e w2 ⟨rfl, rfl⟩
      cases hx : isName who <;> clear s1 s2 s3 s4 s5 s6 s7 s8 <;> go_wp2 <;> (go_ret; refine ⟨congrArg (fun b => Ending.returned (.bool b)) ?_, HC.out⟩; rw [hh.out, hx]; simp [*])
    · by_cases hw0 : who = []
      · subst hw0
        have z1 : (k == 1) = false := beq_eq_false_iff_ne.2 k1
        go_wp2_with fail
        refine (rright_ref (bo, bw) _ s4 s5).mono ?_
        rintro e w3 ⟨rfl, hc3⟩
        replace a0 := hc3.cell a0 id
        replace a1 := hc3.cell a1 id
        replace a4 := hc3.cell a4 id
        replace a5 := hc3.cell a5 id
        replace a6 := hc3.cell a6 id
        replace a7 := hc3.cell a7 id
        replace a8 := hc3.cell a8 id
        replace n0 := hc3.cell n0 id
        replace n1 := hc3.cell n1 id
        have HC2 := hid (HC.out.trans hc3 (fun _ _ h => h))
        clear HC hc3 a2 a3
        cases hb : isRole (bo, bw) with
        | false =>
          have hh : Hid (isCred ⟨k, (ho, hw), [], (bo, bw), (co, cw), w2⟩ = false) := hid (isCred_not1 k1 (by simp [hb]))
          go_wp2
          go_ret
          exact ⟨by rw [hh.out]; rfl, HC2.out⟩
        | true =>
          have hh : Hid (isCred ⟨k, (ho, hw), [], (bo, bw), (co, cw), w2⟩ = (if k = 2 then (co == [] && cw == []) && w2 == [] else if k = 3 then (co == [] && cw == []) && (bo == ho && isName w2) else k == 4 && (w2 == [] && (isRole (co, cw) && ltR (bo, bw) (co, cw))))) := hid (by
            simp only [isCred, hr, hb, if_neg k1, Bool.true_and, Bool.and_true]
            rfl)
          by_cases k2 : k = 2
          · subst k2
            clear s1 s2 s3 s4 s5 s6 s7 s8
            go_wp2 <;> (go_ret; refine ⟨congrArg (fun b => Ending.returned (.bool b)) ?_, HC2.out⟩; rw [hh.out]; simp [*])
          · have z2 : (k == 2) = false := beq_eq_false_iff_ne.2 k2
            by_cases k3 : k = 3
            · subst k3
              clear s1 s2 s3 s4 s5 s6 s7
              go_wp2_with fail
              · refine (refright_any w2 _ s8).mono ?_
                rintro e w4 ⟨rfl, rfl⟩
                generalize isName w2 = nw at *
                go_wp2
                go_ret
                exact ⟨congrArg (fun b => Ending.returned (.bool b)) (by rw [hh.out]; simp [*]), HC2.out⟩
              all_goals (go_ret; exact ⟨congrArg (fun b => Ending.returned (.bool b)) (by rw [hh.out]; simp [*]), HC2.out⟩)
            · have z3 : (k == 3) = false := beq_eq_false_iff_ne.2 k3
              by_cases k4 : k = 4
              · subst k4
                by_cases hz : w2 = []
                · subst hz
                  go_wp2_with fail
                  refine (rright_ref (co, cw) _ s6 s7).mono ?_
                  rintro e w4 ⟨rfl, hc4⟩
                  replace a4 := hc4.cell a4 id
                  replace a5 := hc4.cell a5 id
                  replace a6 := hc4.cell a6 id
                  replace a7 := hc4.cell a7 id
                  have HC3 := hid (HC2.out.trans hc4 (fun _ _ h => h))
                  clear HC2 hc4 a0 a1 a8 n0 n1
                  cases hcr : isRole (co, cw) with
                  | false =>
                    rw [hcr] at hh
                    go_wp2
                    go_ret
                    exact ⟨by rw [hh.out]; rfl, HC3.out⟩
                  | true =>
                    rw [hcr] at hh
                    go_wp2_with fail
                    refine (less_ref (bo, bw) (co, cw) _).mono ?_
                    rintro e w5 ⟨rfl, hc5⟩
                    have HC4 := hid (HC3.out.trans hc5 (fun _ _ h => h))
                    clear HC3 hc5
                    generalize ltR (bo, bw) (co, cw) = lt at *
                    go_wp2
                    go_ret
                    exact ⟨by rw [hh.out]; rfl, HC4.out⟩
                · clear s1 s2 s3 s4 s5 s6 s7 s8
                  go_wp2
                  go_ret
                  exact ⟨congrArg (fun b => Ending.returned (.bool b)) (by rw [hh.out]; simp [*]), HC2.out⟩
              · have z4 : (k == 4) = false := beq_eq_false_iff_ne.2 k4
                clear s1 s2 s3 s4 s5 s6 s7 s8
                go_wp2
                go_ret
                exact ⟨congrArg (fun b => Ending.returned (.bool b)) (by rw [hh.out]; simp [*]), HC2.out⟩
      · have hh : Hid (isCred ⟨k, (ho, hw), who, (bo, bw), (co, cw), w2⟩ = false) := hid (isCred_not1 k1 (by simp [hw0]))
        have z1 : (k == 1) = false := beq_eq_false_iff_ne.2 k1
        have z0 : (who != []) = true := by simp [hw0]
        clear s1 s2 s3 s4 s5 s6 s7 s8
        go_wp2
        go_ret
        exact ⟨by rw [hh.out]; rfl, HC.out⟩
end Go.Proofs.Ytjaplnainlbldaa

/- The contract of the document's Follows, of layer 9. -/
namespace Go.Proofs.Ytjaplnainlbldaa
open Go.RowKit
attribute [local go_sem ↓ high] run_eqg_role run_eql_role

/-- Does a step follow facts? -/
def followsK (s : StepB) (hs : List FactB) : Bool := isCred s.c && (decide (s.f.1 = s.c.head) && stepF hs s.c (whosF hs) s.f.2)

end Go.Proofs.Ytjaplnainlbldaa

/- The contract of the document's stands, of layer 9. -/
namespace Go.Proofs.Ytjaplnainlbldaa
open Go.RowKit

def Spec.factsK (xs : List FactB) : Spec := ⟨fun v w => ∃ ao cap, v = .slice ao xs.length cap ∧ FactsAt (fun _ => True) w ao xs, fun _ _ _ hc ⟨a, c, h1, h2⟩ => ⟨a, c, h1, h2.keep hc (fun _ _ => id)⟩⟩

theorem steps_short {D : Nat → Prop} {w : World} {ao : Option Addr} {ls : List StepB} (h : StepsAt D w ao ls) : ∀ s ∈ ls, stepShort s 9223372036854775807 := fun s hs => by
  obtain ⟨i, hi, rfl⟩ := List.getElem_of_mem hs
  obtain ⟨_, _, _, _, _, h4⟩ := h i hi
  exact h4

end Go.Proofs.Ytjaplnainlbldaa

/- append of a list of steps, onto a row of the call's own. -/
namespace Go.Proofs.Ytjaplnainlbldaa
open Go.RowKit

theorem stepRow_one8 (ls : List StepB) : ∀ u ∈ stepRow ls, u.oneCell' = true := by
  intro u hu
  unfold stepRow at hu
  rw [List.mem_flatMap] at hu
  obtain ⟨x, _, hx⟩ := hu
  exact step_one x u hx

theorem stepAt_cells {w : World} {b o : Nat} {s : StepB} (h : StepAt w b o s) : ∀ j, j < 12 → w.cell? ⟨b, o + j, none⟩ = (stepCells s)[j]?
  | 0, _ => h.c.k0
  | 1, _ => h.c.k1
  | 2, _ => h.c.k2
  | 3, _ => h.c.k3
  | 4, _ => h.c.k4
  | 5, _ => h.c.k5
  | 6, _ => h.c.k6
  | 7, _ => h.c.k7
  | 8, _ => h.c.k8
  | 9, _ => h.f.k0
  | 10, _ => h.f.k1
  | 11, _ => h.f.k2
  | j + 12, h => absurd h (by omega)

theorem stepsAt_row {D : Nat → Prop} {w : World} {ad : Addr} {ls : List StepB} (hst : StepsAt D w (some ad) ls) (j : Nat) (u : Value) (hj : (stepRow ls)[j]? = some u) : w.cell? (ad.add j) = some u := by
  have hjl : j < (stepRow ls).length := (List.getElem?_eq_some_iff.1 hj).1
  rw [stepRow_len] at hjl
  have hq : j / 12 < ls.length := by omega
  obtain ⟨b, off, e, _, h3, _⟩ := hst (j / 12) hq
  cases e
  have h4 := stepAt_cells h3 (j % 12) (by omega)
  have h5 := stepRow_get ls (j / 12) (j % 12) hq (by omega)
  have h6 : j / 12 * 12 + j % 12 = j := by omega
  rw [h6] at h5
  rw [add_off, show off + j = off + j / 12 * 12 + j % 12 by omega, h4, ← h5]
  exact hj

theorem stepsAt_none {D : Nat → Prop} {w : World} {ls : List StepB} (hst : StepsAt D w none ls) : ls = [] := by
  cases ls with
  | nil => rfl
  | cons y l => obtain ⟨_, _, e, _⟩ := hst 0 (by simp); cases e

theorem ownSt_chg8 {B : Nat} {w wm w' : World} {v : Value} {n : Nat} {row : List Value} (hown : wm.ownsRow B 43 12 v n row) (hgr : w.grownBy w' v.ownBlock) (S : Nat → Prop) (hS : ∀ k, B ≤ k → S k) : Chg S w w' := by
  refine (Chg.refl S w).grown hgr fun k e _ => ?_
  rcases hown.2 with ⟨hx', _⟩ | ⟨g, cap', cur, hx', hg, _⟩
  · rw [hx'] at e; cases e
  · rw [hx'] at e; cases e; exact hS _ hg

theorem run_append_steps {D : Nat → Prop} {B : Nat} {w : World} {v : Value} {zs : List StepB} (ty : TypeId) (hown : OwnSt B w v zs)
    {ao : Option Addr} {cp : Nat} {ls : List StepB} (hst : StepsAt D w ao ls) (h0 : ao = none → cp = 0) (hlen : zs.length + ls.length ≤ 33554432) (hB : B ≤ w.heap.size) :
    ∃ v' w', (Builtin.append_ #[29, 29] ty #[v, .slice ao ls.length cp]).run Try.prog w = .ok v' w' ∧ OwnSt B w' v' (zs ++ ls) ∧ (∀ S : Nat → Prop, (∀ k, B ≤ k → S k) → Chg S w w') := by
  obtain ⟨i0, hi, hz0, hz1, hz2⟩ := info_parts Try.info43
  cases ao with
  | none =>
    have hl := stepsAt_none hst
    subst hl
    have hcp := h0 rfl
    subst hcp
    exact ⟨v, w, run_append_owned_none (P := Try.prog) (w := w) B 29 ty 43 i0 12 Try.underlying29 hi v _ _ hown, by rw [List.append_nil]; exact hown, fun S _ => Chg.refl S w⟩
  | some ad =>
    obtain ⟨v', w', h1, h2, h3, _⟩ := run_append_own_at (P := Try.prog) w B 29 ty 43 i0 (.agg #[.int .i64 0, .string ⟨#[]⟩, .string ⟨#[]⟩, .string ⟨#[]⟩, .string ⟨#[]⟩, .string ⟨#[]⟩, .string ⟨#[]⟩, .string ⟨#[]⟩, .string ⟨#[]⟩, .string ⟨#[]⟩, .string ⟨#[]⟩, .string ⟨#[]⟩]) 12 184 Try.underlying29 hi hz0 hz1 hz2 rfl (by decide) v _ _ hown ad ls.length cp (stepRow ls) (by rw [stepRow_len])
      (fun j u hj => stepsAt_row hst j u hj) (fun u hu => stepRow_one8 ls u hu) (by unfold maxLen; omega) (by omega) hB
    exact ⟨v', w', h1, by unfold OwnSt; rw [stepRow_append, List.length_append]; exact h2, fun S hS => ownSt_chg8 hown h3 S hS⟩

/-- Rows of n credentials and fewer, and those that hold full, from the block B on, are kept. -/
def RowsSt (B n : Nat) (full : List StepB) (w w' : World) : Prop := ∀ v zs, (zs.length ≤ n ∨ zs = full) → OwnSt B w v zs → OwnSt B w' v zs
theorem RowsSt.refl (B n : Nat) (full : List StepB) (w : World) : RowsSt B n full w w := fun _ _ _ h => h
theorem RowsSt.trans {B n : Nat} {full : List StepB} {a b c : World} (h : RowsSt B n full a b) (k : RowsSt B n full b c) : RowsSt B n full a c := fun v zs hz ho => k v zs hz (h v zs hz ho)
theorem RowsSt.of_chg {B n : Nat} {full : List StepB} {a b : World} (h : Chg (fun _ => False) a b) : RowsSt B n full a b := fun _ _ _ ho => ho.keep h (fun _ _ => id)

end Go.Proofs.Ytjaplnainlbldaa

/- The contract of the document's Tight, of layer 9. -/
namespace Go.Proofs.Ytjaplnainlbldaa
open Go.RowKit

theorem run_eqg_factl (x y : Operand) (a b : FactB) (w : World) : Sem.run Try.prog (eqGuard BinOp.eql 26 x y (.agg #[.string ⟨a.1.1.toArray⟩, .string ⟨a.1.2.toArray⟩, .string ⟨a.2.toArray⟩]) (.agg #[.string ⟨b.1.1.toArray⟩, .string ⟨b.1.2.toArray⟩, .string ⟨b.2.toArray⟩])) w = .ok () w := by
  go_simp
theorem run_eql_factl (a b : FactB) (w : World) : Sem.run Try.prog (binOp BinOp.eql 26 (.agg #[.string ⟨a.1.1.toArray⟩, .string ⟨a.1.2.toArray⟩, .string ⟨a.2.toArray⟩]) (.agg #[.string ⟨b.1.1.toArray⟩, .string ⟨b.1.2.toArray⟩, .string ⟨b.2.toArray⟩])) w = .ok (.bool (decide (a = b))) w := by
  have : decide (a = b) = decide (a.1.1 = b.1.1 ∧ a.1.2 = b.1.2 ∧ a.2 = b.2) := by simp only [Prod.ext_iff, and_assoc]
  rw [this]
  go_simp
  by_cases h1 : a.1.1 = b.1.1 <;> by_cases h2 : a.1.2 = b.1.2 <;> by_cases h3 : a.2 = b.2 <;> simp [h1, h2, h3]
attribute [local go_sem ↓ high] run_eqg_factl run_eql_factl

/-- What may change amid the joining. -/
def AppSt (B n : Nat) (full : List StepB) (w w' : World) : Prop := Chg (fun i => B ≤ i) w w' ∧ RowsSt B n full w w'
theorem AppSt.refl (B n : Nat) (full : List StepB) (w : World) : AppSt B n full w w := ⟨Chg.refl _ _, RowsSt.refl _ _ _ _⟩
theorem AppSt.trans {B n : Nat} {full : List StepB} {a b c : World} (h : AppSt B n full a b) (k : AppSt B n full b c) : AppSt B n full a c := ⟨h.1.trans k.1 (fun _ _ h => h), h.2.trans k.2⟩
theorem AppSt.of_chg {B n : Nat} {full : List StepB} {a b : World} (h : Chg (fun _ => False) a b) : AppSt B n full a b := ⟨h.mono (fun _ _ h => h.elim), RowsSt.of_chg h⟩

/-- An append whose run is known. -/
theorem ob_appendK {o : Oper} {a : Act} {w : World} {K : Act → World → Prop} {Q : Exit → Act → World → Prop} {s x : Tmp} {v y : Value} (tt : TypeId)
    (ho : o.op = .call { callee := .builtin .append, args := #[.tmp s, .tmp x], argTypes := #[tt, tt] }) (hs : a.tmps[s]? = some v) (hx : a.tmps[x]? = some y) {v' : Value} {w' : World}
    (hr : (Builtin.append_ #[tt, tt] o.type #[v, y]).run Try.prog w = .ok v' w') (hK : K (a.put o.dst v') w') : o.wp Try.prog a w K Q := by
  have h1 : a.eval (.tmp s) = v := by simp [Act.eval, hs]
  have h2 : a.eval (.tmp x) = y := by simp [Act.eval, hx]
  unfold Oper.wp execOp
  simp only [ho, resolve, invoke, builtin, Sem.run_bind, Sem.run_pure, Result.andThen_ok, List.map_toArray, List.map_cons, List.map_nil, h1, h2, hr]
  exact hK

end Go.Proofs.Ytjaplnainlbldaa
