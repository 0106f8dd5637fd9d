/- The state of the region in which a step that has been got is taken up. -/
import Derived.Test.YtcdjjengkdbngaaKc39
import Derived.Test.YtcdjjengkdbngaaKc11
import Derived.Test.YtcdjjengkdbngaaKc40
import Derived.Test.YtcdjjengkdbngaaKc8
import Derived.Test.YtcdjjengkdbngaaKc12
import Derived.Test.YtcdjjengkdbngaaKc9
import Derived.Test.YtcdjjengkdbngaaKc24
namespace Go.Proofs.Ytcdjjengkdbngaa
open Go.RowKit

theorem run_append_step1 {B : Nat} {w : World} {v : Value} {ls : List StepB} {x : StepB} (ty : TypeId) (hown : OwnSt B w v ls) {b : Nat} (hb : w.heap[b]? = some (.cells (stepBox x) 36 (0, 0))) (hlen : ls.length ≤ 1000000) (hB : B ≤ w.heap.size) :
    ∃ v' w', (Builtin.append_ #[22, 22] ty #[v, .slice (some ⟨b, 0, none⟩) 1 1]).run Try.prog w = .ok v' w' ∧ OwnSt B w' v' (ls ++ [x]) ∧ Chg (fun i => v.ownBlock = some i) w w' := by
  obtain ⟨i0, hi, hz0, hz1, hz2⟩ := info_parts Try.info36
  obtain ⟨v', w', hr, h2, h3, _⟩ := run_append_own_at (P := Try.prog) w B 22 ty 36 i0 (.agg #[.int .i64 0, .string ⟨#[]⟩, .string ⟨#[]⟩, .string ⟨#[]⟩, .string ⟨#[]⟩, .string ⟨#[]⟩, .string ⟨#[]⟩, .string ⟨#[]⟩, .string ⟨#[]⟩, .string ⟨#[]⟩, .string ⟨#[]⟩, .string ⟨#[]⟩]) 12 184 Try.underlying22 hi hz0 hz1 hz2 rfl (by decide) v ls.length (stepRow ls) hown ⟨b, 0, none⟩ 1 1 (stepCells x) rfl
    (fun j u hj => by rw [add_off, Nat.zero_add, cell_blk hb j]; have : stepBox x = (stepCells x).toArray := rfl; rw [this, List.getElem?_toArray]; exact hj) (step_one x) (by unfold maxLen; omega) (by omega) hB
  refine ⟨v', w', hr, ?_, (Chg.refl _ _).grown h3 (fun k hk _ => hk)⟩
  have e : stepRow (ls ++ [x]) = stepRow ls ++ stepCells x := by rw [stepRow_append]; simp [stepRow]
  unfold OwnSt
  rw [e, List.length_append]
  exact h2

/-- A new row of one step, that is none of these. -/
def SpecR.exSt (R : Nat) (vo : Value) (x : StepB) : SpecR (Chg (fun b => b = R ∨ vo.ownBlock = some b)) :=
  ⟨fun v w => ∃ b, v = .slice (some ⟨b, 0, none⟩) 1 1 ∧ w.heap[b]? = some (.cells (stepBox x) 36 (0, 0)) ∧ ¬ (b = R ∨ vo.ownBlock = some b), fun _ _ _ hc ⟨b, h1, h2, h3⟩ => ⟨b, h1, blk_keep h2 hc h3, h3⟩⟩

def NameGot (D : Nat → Prop) (R : Nat) (r : List UInt8) (w0 w : World) : Prop := nameOk r = true ∧ (∃ vb, BytesAt D w vb (nameRest r) ∧ ReaderAt w R true vb 0) ∧ Chg (· = R) w0 w
def StepGot (D : Nat → Prop) (B R : Nat) (vo : Value) (out : List StepB) (c : CredB) (r : List UInt8) (w0 : World) (v : Value) (w : World) : Prop :=
  OwnSt B w v (out ++ [⟨c, (c.head, nameOf r)⟩]) ∧ nameOk r = true ∧ (∃ vb, BytesAt D w vb (nameRest r) ∧ ReaderAt w R true vb 0) ∧ Chg (fun b => b = R ∨ vo.ownBlock = some b) w0 w
theorem NameGot.quiet {D : Nat → Prop} {R : Nat} {r : List UInt8} {w0 w w' : World} (h : NameGot D R r w0 w) (hc : Chg (fun _ => False) w w') : NameGot D R r w0 w' := by
  obtain ⟨h1, ⟨vb, h2, h3⟩, h4⟩ := h
  exact ⟨h1, ⟨vb, h2.keep hc (fun _ _ => id), blk_keep h3 hc id⟩, h4.trans hc (fun _ _ h => h.elim)⟩
theorem StepGot.quiet {D : Nat → Prop} {B R : Nat} {vo v : Value} {out : List StepB} {c : CredB} {r : List UInt8} {w0 w w' : World} (h : StepGot D B R vo out c r w0 v w) (hc : Chg (fun _ => False) w w') : StepGot D B R vo out c r w0 v w' := by
  obtain ⟨h0, h1, ⟨vb, h2, h3⟩, h4⟩ := h
  exact ⟨h0.keep hc (fun _ _ => id), h1, ⟨vb, h2.keep hc (fun _ _ => id), blk_keep h3 hc id⟩, h4.trans hc (fun _ _ h => h.elim)⟩

structure GetW (D : Nat → Prop) (B R : Nat) (vo : Value) (out : List StepB) (c : CredB) (r : List UInt8) (w0 : World) (L : Nat → Bool) (a : Act) (w : World) : Prop where
  s5 : 5 < a.tmps.size
  s23 : 23 < a.tmps.size
  all : L 9 = true → ∀ j, j < 9 → L j = true
  al : L 10 = true → L 9 = true
  o5 : L 10 = false → a.tmps[5]? = some vo
  p0 : L 5 = false → Chg (fun _ => False) w0 w
  p1 : L 5 = true → L 9 = false → NameGot D R r w0 w
  df : a.defers = []
  p2 : L 9 = true → ∃ v, a.tmps[23]? = some v ∧ StepGot D B R vo out c r w0 v w ∧ (L 10 = true → a.tmps[5]? = some v)

section
variable {D : Nat → Prop} {B R : Nat} {vo : Value} {out : List StepB} {c : CredB} {r : List UInt8} {w0 : World} {L : Nat → Bool} {a : Act} {w w' : World}
theorem put_defers (a : Act) (d : Option Tmp) (v : Value) : (a.put d v).defers = a.defers := by cases d <;> rfl
theorem GetW.start (h1 : 5 < a.tmps.size) (h2 : 23 < a.tmps.size) (h3 : a.tmps[5]? = some vo) (h4 : Chg (fun _ => False) w0 w) (h5 : a.defers = []) : GetW D B R vo out c r w0 (fun _ => false) a w :=
  ⟨h1, h2, fun h => (by cases h), fun h => (by cases h), fun _ => h3, fun _ => h4, fun h => (by cases h), h5, fun h => (by cases h)⟩
theorem GetW.not9 (h : GetW D B R vo out c r w0 L a w) {j : Nat} (hj : j < 9) (hl : L j = false) : L 9 = false := by
  cases hn : L 9 with
  | false => rfl
  | true => rw [h.all hn j hj] at hl; cases hl
theorem GetW.not10 (h : GetW D B R vo out c r w0 L a w) (hl : L 9 = false) : L 10 = false := by
  cases hn : L 10 with
  | false => rfl
  | true => rw [h.al hn] at hl; cases hl
theorem GetW.early (h : GetW D B R vo out c r w0 L a w) {j : Nat} (hj : j < 9) (hl : L j = false) : Chg (· = R) w0 w := by
  cases hm : L 5 with
  | false => exact (h.p0 hm).mono (fun _ _ h => h.elim)
  | true => exact (h.p1 hm (h.not9 hj hl)).2.2
theorem GetW.old (h : GetW D B R vo out c r w0 L a w) {j : Nat} (hj : j < 9) (hl : L j = false) : a.tmps[5]? = some vo := h.o5 (h.not10 (h.not9 hj hl))
theorem GetW.step (h : GetW D B R vo out c r w0 L a w) {j : Nat} {d : Option Tmp} (v : Value) (hj : (j ≠ 5 ∧ j ≠ 9 ∧ j ≠ 10) ∧ d ≠ some 5 ∧ d ≠ some 23) (hc : Chg (fun _ => False) w w') : GetW D B R vo out c r w0 (upd L j) (a.put d v) w' := by
  obtain ⟨⟨j5, j9, j10⟩, d5, d23⟩ := hj
  have e5 : upd L j 5 = L 5 := upd_ne (fun e => j5 e.symm)
  have e9 : upd L j 9 = L 9 := upd_ne (fun e => j9 e.symm)
  have e10 : upd L j 10 = L 10 := upd_ne (fun e => j10 e.symm)
  refine ⟨by rw [put_size]; exact h.s5, by rw [put_size]; exact h.s23, fun hn i hi => upd_mono (h.all (by rw [← e9]; exact hn) i hi), fun hn => by rw [e9]; exact h.al (by rw [← e10]; exact hn), fun hn => put_tmps (h.o5 (by rw [← e10]; exact hn)) d5, fun hn => (h.p0 (by rw [← e5]; exact hn)).trans hc (fun _ _ h => h), fun hn hm => (h.p1 (by rw [← e5]; exact hn) (by rw [← e9]; exact hm)).quiet hc, (put_defers _ _ _).trans h.df, fun hn => ?_⟩
  obtain ⟨u, h1, h2, h3⟩ := h.p2 (by rw [← e9]; exact hn)
  exact ⟨u, put_tmps h1 d23, h2.quiet hc, fun hm => put_tmps (h3 (by rw [← e10]; exact hm)) d5⟩
theorem GetW.name (h : GetW D B R vo out c r w0 L a w) (hl : L 5 = false) {v : Value} (hF : NameGot D R r w0 w') : GetW D B R vo out c r w0 (upd L 5) (a.put (some 19) v) w' := by
  have n9 := h.not9 (by omega) hl
  have n10 := h.not10 n9
  have e9 : upd L 5 9 = L 9 := upd_ne (by omega)
  have e10 : upd L 5 10 = L 10 := upd_ne (by omega)
  exact ⟨by rw [put_size]; exact h.s5, by rw [put_size]; exact h.s23, fun hn => (by rw [e9, n9] at hn; cases hn), fun hn => (by rw [e10, n10] at hn; cases hn), fun _ => put_tmps (h.o5 n10) (by decide), fun hn => (by rw [upd_self] at hn; cases hn), fun _ _ => hF, (put_defers _ _ _).trans h.df, fun hn => (by rw [e9, n9] at hn; cases hn)⟩
theorem GetW.app (h : GetW D B R vo out c r w0 L a w) (hl : L 9 = false) (hall : ∀ j, j < 9 → L j = true) {v : Value} (hF : StepGot D B R vo out c r w0 v w') : GetW D B R vo out c r w0 (upd L 9) (a.put (some 23) v) w' := by
  have n10 := h.not10 hl
  have e10 : upd L 9 10 = L 10 := upd_ne (by omega)
  refine ⟨by rw [put_size]; exact h.s5, by rw [put_size]; exact h.s23, fun _ i hi => upd_mono (hall i hi), fun hn => (by rw [e10, n10] at hn; cases hn), fun _ => put_tmps (h.o5 n10) (by decide), fun hn => ?_, fun _ hn => (by rw [upd_self] at hn; cases hn), (put_defers _ _ _).trans h.df, fun _ => ⟨v, ?_, hF, fun hn => (by rw [e10, n10] at hn; cases hn)⟩⟩
  · rw [upd_mono (hall 5 (by omega))] at hn; cases hn
  · simp [Act.put, h.s23]
theorem GetW.asg (h : GetW D B R vo out c r w0 L a w) (h9 : L 9 = true) {v : Value} (hv : a.tmps[23]? = some v) : GetW D B R vo out c r w0 (upd L 10) (a.put (some 5) v) w := by
  have e5 : upd L 10 5 = L 5 := upd_ne (by omega)
  have e9 : upd L 10 9 = L 9 := upd_ne (by omega)
  obtain ⟨u, h1, h2, h3⟩ := h.p2 h9
  rw [h1] at hv
  cases hv
  refine ⟨by rw [put_size]; exact h.s5, by rw [put_size]; exact h.s23, fun _ i hi => upd_mono (h.all h9 i hi), fun _ => by rw [e9]; exact h9, fun hn => (by rw [upd_self] at hn; cases hn), fun hn => ?_, fun _ hn => (by rw [e9, h9] at hn; cases hn), (put_defers _ _ _).trans h.df, fun _ => ⟨_, put_tmps h1 (by decide), h2, fun _ => ?_⟩⟩
  · rw [e5, h.all h9 5 (by omega)] at hn; cases hn
  · simp [Act.put, h.s5]
end
end Go.Proofs.Ytcdjjengkdbngaa
