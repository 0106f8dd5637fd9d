/- Words for law 9's first. -/
import Derived.Test.YtcdjjengkdbngaaKc3
import Derived.Test.YtcdjjengkdbngaaKc7
import Derived.Test.YtcdjjengkdbngaaKc10
import Derived.Test.YtcdjjengkdbngaaKc12
namespace Go.Proofs.Ytcdjjengkdbngaa
open Go.RowKit

def cI9 : CredB := ⟨2, ([97], [114]), [], ([98], [115]), noneR, []⟩
def cM9 : CredB := ⟨1, ([98], [115]), [100], noneR, noneR, []⟩
def fA9 : FactB := (([97], [114]), [100])
def fB9 : FactB := (([98], [115]), [100])

theorem cI9_ok : isCred cI9 = true := by decide +kernel
theorem cM9_ok : isCred cM9 = true := by decide +kernel
theorem short_I9 : credShort cI9 16 := isCred_short cI9_ok
theorem short_M9 : credShort cM9 16 := isCred_short cM9_ok

theorem upd_ne9 {L : Nat → Bool} {i j : Nat} (h : i ≠ j) : upd L i j = L j := if_neg (Ne.symm h)
theorem upd_eq9 {L : Nat → Bool} {i : Nat} : upd L i i = true := if_pos rfl

def stX : StepB := ⟨cM9, fB9⟩
def stY : StepB := ⟨cI9, fA9⟩
def noStep : StepB := ⟨noCred, (([], []), [])⟩

def setStep (w : World) (b : Nat) (s : StepB) : World := (((((((((((w.setCell ⟨b, 0, none⟩ (.int .i64 s.c.kind)).setCell ⟨b, 1, none⟩ (.string ⟨s.c.head.1.toArray⟩)).setCell ⟨b, 2, none⟩ (.string ⟨s.c.head.2.toArray⟩)).setCell ⟨b, 3, none⟩ (.string ⟨s.c.who.toArray⟩)).setCell ⟨b, 4, none⟩ (.string ⟨s.c.b.1.toArray⟩)).setCell ⟨b, 5, none⟩ (.string ⟨s.c.b.2.toArray⟩)).setCell ⟨b, 6, none⟩ (.string ⟨s.c.c.1.toArray⟩)).setCell ⟨b, 7, none⟩ (.string ⟨s.c.c.2.toArray⟩)).setCell ⟨b, 8, none⟩ (.string ⟨s.c.w2.toArray⟩)).setCell ⟨b, 9, none⟩ (.string ⟨s.f.1.1.toArray⟩)).setCell ⟨b, 10, none⟩ (.string ⟨s.f.1.2.toArray⟩)).setCell ⟨b, 11, none⟩ (.string ⟨s.f.2.toArray⟩)
theorem setStep_chg (w : World) (b : Nat) (s : StepB) : Chg (· = b) w (setStep w b s) := by
  unfold setStep
  exact ((((((((((((setCell_chg _ b 0 _).trans (setCell_chg _ b 1 _) (fun _ _ h => h)).trans (setCell_chg _ b 2 _) (fun _ _ h => h)).trans (setCell_chg _ b 3 _) (fun _ _ h => h)).trans (setCell_chg _ b 4 _) (fun _ _ h => h)).trans (setCell_chg _ b 5 _) (fun _ _ h => h)).trans (setCell_chg _ b 6 _) (fun _ _ h => h)).trans (setCell_chg _ b 7 _) (fun _ _ h => h)).trans (setCell_chg _ b 8 _) (fun _ _ h => h)).trans (setCell_chg _ b 9 _) (fun _ _ h => h)).trans (setCell_chg _ b 10 _) (fun _ _ h => h)).trans (setCell_chg _ b 11 _) (fun _ _ h => h))
theorem stepBox_set (s0 s : StepB) : (((((((((((((stepBox s0).setIfInBounds 0 (.int .i64 s.c.kind)).setIfInBounds 1 (.string ⟨s.c.head.1.toArray⟩)).setIfInBounds 2 (.string ⟨s.c.head.2.toArray⟩)).setIfInBounds 3 (.string ⟨s.c.who.toArray⟩)).setIfInBounds 4 (.string ⟨s.c.b.1.toArray⟩)).setIfInBounds 5 (.string ⟨s.c.b.2.toArray⟩)).setIfInBounds 6 (.string ⟨s.c.c.1.toArray⟩)).setIfInBounds 7 (.string ⟨s.c.c.2.toArray⟩)).setIfInBounds 8 (.string ⟨s.c.w2.toArray⟩)).setIfInBounds 9 (.string ⟨s.f.1.1.toArray⟩)).setIfInBounds 10 (.string ⟨s.f.1.2.toArray⟩)).setIfInBounds 11 (.string ⟨s.f.2.toArray⟩)) = stepBox s := by
  simp [stepBox]
theorem setStep_blk {w : World} {b : Nat} {s0 : StepB} (s : StepB) {ty : TypeId} {f : Nat × Nat} (h : w.heap[b]? = some (.cells (stepBox s0) ty f)) : (setStep w b s).heap[b]? = some (.cells (stepBox s) ty f) := by
  have h0 := set_blk h 0 (.int .i64 s.c.kind)
  have h1 := set_blk h0 1 (.string ⟨s.c.head.1.toArray⟩)
  have h2 := set_blk h1 2 (.string ⟨s.c.head.2.toArray⟩)
  have h3 := set_blk h2 3 (.string ⟨s.c.who.toArray⟩)
  have h4 := set_blk h3 4 (.string ⟨s.c.b.1.toArray⟩)
  have h5 := set_blk h4 5 (.string ⟨s.c.b.2.toArray⟩)
  have h6 := set_blk h5 6 (.string ⟨s.c.c.1.toArray⟩)
  have h7 := set_blk h6 7 (.string ⟨s.c.c.2.toArray⟩)
  have h8 := set_blk h7 8 (.string ⟨s.c.w2.toArray⟩)
  have h9 := set_blk h8 9 (.string ⟨s.f.1.1.toArray⟩)
  have h10 := set_blk h9 10 (.string ⟨s.f.1.2.toArray⟩)
  have h11 := set_blk h10 11 (.string ⟨s.f.2.toArray⟩)
  rw [stepBox_set] at h11
  exact h11

theorem good_X : goodK [stX, stY] [cI9, cM9] 0 := fun _ => ⟨(by decide +kernel : hasC [cI9, cM9] stX.c = true), (by decide +kernel : followsK stX (factsK []) = true)⟩
theorem good_Y : goodK [stX, stY] [cI9, cM9] 1 := fun _ => ⟨(by decide +kernel : hasC [cI9, cM9] stY.c = true), (by decide +kernel : followsK stY (factsK [stX]) = true)⟩
theorem check_one : CheckIs [stX, stY] [cI9, cM9] fA9 2 0 := .inr ⟨rfl, fun i hi => by
  rcases (show i = 0 ∨ i = 1 by omega) with rfl | rfl
  · exact good_X
  · exact good_Y, by decide +kernel⟩
theorem check_two : CheckIs [stY] [cI9, cM9] fA9 0 50 := .inl ⟨by decide, fun i hi => absurd hi (by omega), fun h => by
  have h2 := (h (by decide)).2
  exact absurd h2 (by decide +kernel), rfl⟩
theorem check_three : CheckIs [stX] [cI9, cM9] fA9 1 42 := .inr ⟨rfl, fun i hi => by
  rcases (show i = 0 by omega) with rfl
  exact fun _ => ⟨(by decide +kernel : hasC [cI9, cM9] stX.c = true), (by decide +kernel : followsK stX (factsK []) = true)⟩, by decide +kernel⟩
theorem follows_X : followsK stX [] = true := by decide +kernel
theorem follows_Y : followsK stY [] = false := by decide +kernel
theorem tight_XY : tightK [stX, stY] = true := tightK_yes ⟨fun i j hi hj hji => by
  have e : i = 1 ∧ j = 0 := by simp at hi hj; omega
  obtain ⟨rfl, rfl⟩ := e
  exact (by decide +kernel : stY.f ≠ stX.f), by decide +kernel, fun i hi => by
  have e : i = 0 := by simp at hi; omega
  subst e
  decide +kernel⟩
theorem bytes_XY : chainBytes [stX, stY] ≠ [] := by decide +kernel
theorem get_XY : chainGet (chainBytes [stX, stY]) 9 = .ok [stX, stY] [] := by kernel_rfl
theorem short_X : stepShort stX 9223372036854775807 := ⟨short_M9.mono (by omega), by simp [factShort, stX, fB9]⟩
theorem short_Y : stepShort stY 9223372036854775807 := ⟨short_I9.mono (by omega), by simp [factShort, stY, fA9]⟩

/-- What is so amid the making of the two credentials: 5 and 6 make blocks, 7 and 8 write them. -/
structure TwoC (B : Nat) (w1 : World) (L : Nat → Bool) (a : Act) (w : World) : Prop where
  ch : Chg (fun i => B ≤ i) w1 w
  lo : B ≤ w.heap.size
  sz : 4 < a.tmps.size
  p3 : L 5 = true → ∃ b, a.tmps[3]? = some (.pointer (some ⟨b, 0, none⟩)) ∧ B ≤ b ∧ w.heap[b]? = some (.cells (credBox (if L 7 then cI9 else noCred)) 32 (0, 0))
  p4 : L 6 = true → ∃ b, a.tmps[4]? = some (.pointer (some ⟨b, 0, none⟩)) ∧ B ≤ b ∧ w.heap[b]? = some (.cells (credBox (if L 8 then cM9 else noCred)) 32 (0, 0))
  ne : L 5 = true → L 6 = true → a.tmps[3]? ≠ a.tmps[4]?
  o7 : L 7 = true → L 5 = true
  o8 : L 8 = true → L 6 = true

theorem put_other9 {a : Act} {d t : Nat} (v : Value) (h : d ≠ t) : (a.put (some d) v).tmps[t]? = a.tmps[t]? := by
  simp [Act.put, Array.getElem?_setIfInBounds_ne h]
theorem put_same9 {a : Act} {d : Nat} (v : Value) (h : d < a.tmps.size) : (a.put (some d) v).tmps[d]? = some v := by
  simp [Act.put, h]

theorem TwoC.quiet {B : Nat} {w1 w : World} {L : Nat → Bool} {a : Act} {i : Nat} (h : TwoC B w1 L a w) (hi : i < 5) (d : Nat) (v : Value) (hd : 4 < d) : TwoC B w1 (upd L i) (a.put (some d) v) w := by
  have e5 : upd L i 5 = L 5 := upd_ne9 (by omega)
  have e6 : upd L i 6 = L 6 := upd_ne9 (by omega)
  have e7 : upd L i 7 = L 7 := upd_ne9 (by omega)
  have e8 : upd L i 8 = L 8 := upd_ne9 (by omega)
  refine ⟨h.ch, h.lo, by simpa [Act.put] using h.sz, ?_, ?_, ?_, by rw [e5, e7]; exact h.o7, by rw [e6, e8]; exact h.o8⟩
  · rw [e5, e7, put_other9 v (by omega)]; exact h.p3
  · rw [e6, e8, put_other9 v (by omega)]; exact h.p4
  · rw [e5, e6, put_other9 v (by omega), put_other9 v (by omega)]; exact h.ne

theorem TwoC.make3 {B : Nat} {w1 w : World} {L : Nat → Bool} {a : Act} (h : TwoC B w1 L a w) (hL : L 5 = false) : TwoC B w1 (upd L 5) (a.put (some 3) (.pointer (some ⟨w.heap.size, 0, none⟩))) (w.alloc (.cells (credBox noCred) 32)) := by
  have h7 : L 7 = false := by
    cases h7 : L 7 with
    | false => rfl
    | true => rw [h.o7 h7] at hL; cases hL
  have hal : Chg (fun _ => False) w (w.alloc (.cells (credBox noCred) 32)) := (Chg.refl _ w).alloc _
  have e6 : upd L 5 6 = L 6 := upd_ne9 (by omega)
  have e7 : upd L 5 7 = L 7 := upd_ne9 (by omega)
  have e8 : upd L 5 8 = L 8 := upd_ne9 (by omega)
  refine ⟨h.ch.trans hal (fun _ _ h => h.elim), Nat.le_trans h.lo hal.size, by simpa [Act.put] using h.sz, fun _ => ⟨_, put_same9 _ (by have := h.sz; omega), h.lo, ?_⟩, ?_, ?_, fun _ => upd_eq9, by rw [e6, e8]; exact h.o8⟩
  · rw [e7, h7]; exact heap_alloc_new w _
  · rw [e6, e8, put_other9 _ (by omega)]
    intro h6
    obtain ⟨b, p1, p2, p3⟩ := h.p4 h6
    exact ⟨b, p1, p2, blk_keep p3 hal id⟩
  · intro _ h6
    rw [e6] at h6
    obtain ⟨b, p1, p2, p3⟩ := h.p4 h6
    rw [put_same9 _ (by have := h.sz; omega), put_other9 _ (by omega), p1]
    intro e
    injection e with e; injection e with e; injection e with e; injection e with e
    have := lt_blk p3
    omega

theorem TwoC.make4 {B : Nat} {w1 w : World} {L : Nat → Bool} {a : Act} (h : TwoC B w1 L a w) (hL : L 6 = false) : TwoC B w1 (upd L 6) (a.put (some 4) (.pointer (some ⟨w.heap.size, 0, none⟩))) (w.alloc (.cells (credBox noCred) 32)) := by
  have h8 : L 8 = false := by
    cases h8 : L 8 with
    | false => rfl
    | true => rw [h.o8 h8] at hL; cases hL
  have hal : Chg (fun _ => False) w (w.alloc (.cells (credBox noCred) 32)) := (Chg.refl _ w).alloc _
  have e5 : upd L 6 5 = L 5 := upd_ne9 (by omega)
  have e7 : upd L 6 7 = L 7 := upd_ne9 (by omega)
  have e8 : upd L 6 8 = L 8 := upd_ne9 (by omega)
  refine ⟨h.ch.trans hal (fun _ _ h => h.elim), Nat.le_trans h.lo hal.size, by simpa [Act.put] using h.sz, ?_, fun _ => ⟨_, put_same9 _ (by have := h.sz; omega), h.lo, ?_⟩, ?_, by rw [e5, e7]; exact h.o7, fun _ => upd_eq9⟩
  · rw [e5, e7, put_other9 _ (by omega)]
    intro h5
    obtain ⟨b, p1, p2, p3⟩ := h.p3 h5
    exact ⟨b, p1, p2, blk_keep p3 hal id⟩
  · rw [e8, h8]; exact heap_alloc_new w _
  · intro h5 _
    rw [e5] at h5
    obtain ⟨b, p1, p2, p3⟩ := h.p3 h5
    rw [put_same9 _ (by have := h.sz; omega), put_other9 _ (by omega), p1]
    intro e
    injection e with e; injection e with e; injection e with e; injection e with e
    have := lt_blk p3
    omega

theorem TwoC.set3 {B : Nat} {w1 w : World} {L : Nat → Bool} {a : Act} (h : TwoC B w1 L a w) (hL : L 7 = false) {b : Nat} (h3 : a.tmps[3]? = some (.pointer (some ⟨b, 0, none⟩))) (h5 : L 5 = true) :
    TwoC B w1 (upd L 7) a (setCred w b cI9) ∧ Chg (fun i => B ≤ i) w (setCred w b cI9) ∧ w.heap[b]? = some (.cells (credBox noCred) 32 (0, 0)) := by
  obtain ⟨b', p1, p2, p3⟩ := h.p3 h5
  rw [h3] at p1
  injection p1 with p1; injection p1 with p1; injection p1 with p1; injection p1 with p1
  subst p1
  rw [hL] at p3
  have hcs := setCred_chg w b cI9
  have hc : Chg (fun i => B ≤ i) w (setCred w b cI9) := hcs.mono (fun i _ e => by have e : i = b := e; subst e; exact p2)
  have e5 : upd L 7 5 = L 5 := upd_ne9 (by omega)
  have e6 : upd L 7 6 = L 6 := upd_ne9 (by omega)
  have e8 : upd L 7 8 = L 8 := upd_ne9 (by omega)
  refine ⟨⟨h.ch.trans hc (fun _ _ h => h), Nat.le_trans h.lo hcs.size, h.sz, fun _ => ⟨b, h3, p2, ?_⟩, ?_, by rw [e5, e6]; exact h.ne, fun _ => e5.trans h5, by rw [e6, e8]; exact h.o8⟩, hc, p3⟩
  · rw [upd_eq9]; exact setCred_blk cI9 p3
  · rw [e6, e8]
    intro h6
    obtain ⟨b4, q1, q2, q3⟩ := h.p4 h6
    refine ⟨b4, q1, q2, blk_keep q3 hcs (fun e => ?_)⟩
    have e : b4 = b := e
    exact h.ne h5 h6 (by rw [h3, q1, e])

theorem TwoC.set4 {B : Nat} {w1 w : World} {L : Nat → Bool} {a : Act} (h : TwoC B w1 L a w) (hL : L 8 = false) {b : Nat} (h4 : a.tmps[4]? = some (.pointer (some ⟨b, 0, none⟩))) (h6 : L 6 = true) :
    TwoC B w1 (upd L 8) a (setCred w b cM9) ∧ Chg (fun i => B ≤ i) w (setCred w b cM9) ∧ w.heap[b]? = some (.cells (credBox noCred) 32 (0, 0)) := by
  obtain ⟨b', p1, p2, p3⟩ := h.p4 h6
  rw [h4] at p1
  injection p1 with p1; injection p1 with p1; injection p1 with p1; injection p1 with p1
  subst p1
  rw [hL] at p3
  have hcs := setCred_chg w b cM9
  have hc : Chg (fun i => B ≤ i) w (setCred w b cM9) := hcs.mono (fun i _ e => by have e : i = b := e; subst e; exact p2)
  have e5 : upd L 8 5 = L 5 := upd_ne9 (by omega)
  have e6 : upd L 8 6 = L 6 := upd_ne9 (by omega)
  have e7 : upd L 8 7 = L 7 := upd_ne9 (by omega)
  refine ⟨⟨h.ch.trans hc (fun _ _ h => h), Nat.le_trans h.lo hcs.size, h.sz, ?_, fun _ => ⟨b, h4, p2, ?_⟩, by rw [e5, e6]; exact h.ne, by rw [e5, e7]; exact h.o7, fun _ => e6.trans h6⟩, hc, p3⟩
  · rw [e5, e7]
    intro h5
    obtain ⟨b3, q1, q2, q3⟩ := h.p3 h5
    refine ⟨b3, q1, q2, blk_keep q3 hcs (fun e => ?_)⟩
    have e : b3 = b := e
    exact h.ne h5 h6 (by rw [q1, h4, e])
  · rw [upd_eq9]; exact setCred_blk cM9 p3

/-- What is so amid the making of the two steps: 8 and 9 make blocks, 10 and 11 write them. -/
structure TwoS (B : Nat) (w1 : World) (L : Nat → Bool) (a : Act) (w : World) : Prop where
  ch : Chg (fun i => B ≤ i) w1 w
  lo : B ≤ w.heap.size
  sz : 6 < a.tmps.size
  p3 : L 8 = true → ∃ b, a.tmps[5]? = some (.pointer (some ⟨b, 0, none⟩)) ∧ B ≤ b ∧ w.heap[b]? = some (.cells (stepBox (if L 10 then stX else noStep)) 36 (0, 0))
  p4 : L 9 = true → ∃ b, a.tmps[6]? = some (.pointer (some ⟨b, 0, none⟩)) ∧ B ≤ b ∧ w.heap[b]? = some (.cells (stepBox (if L 11 then stY else noStep)) 36 (0, 0))
  ne : L 8 = true → L 9 = true → a.tmps[5]? ≠ a.tmps[6]?
  o7 : L 10 = true → L 8 = true
  o8 : L 11 = true → L 9 = true

theorem TwoS.quiet {B : Nat} {w1 w : World} {L : Nat → Bool} {a : Act} {i : Nat} (h : TwoS B w1 L a w) (hi : i < 8) (d : Nat) (v : Value) (hd : 6 < d) : TwoS B w1 (upd L i) (a.put (some d) v) w := by
  have e5 : upd L i 8 = L 8 := upd_ne9 (by omega)
  have e6 : upd L i 9 = L 9 := upd_ne9 (by omega)
  have e7 : upd L i 10 = L 10 := upd_ne9 (by omega)
  have e8 : upd L i 11 = L 11 := upd_ne9 (by omega)
  refine ⟨h.ch, h.lo, by simpa [Act.put] using h.sz, ?_, ?_, ?_, by rw [e5, e7]; exact h.o7, by rw [e6, e8]; exact h.o8⟩
  · rw [e5, e7, put_other9 v (by omega)]; exact h.p3
  · rw [e6, e8, put_other9 v (by omega)]; exact h.p4
  · rw [e5, e6, put_other9 v (by omega), put_other9 v (by omega)]; exact h.ne

theorem TwoS.make3 {B : Nat} {w1 w : World} {L : Nat → Bool} {a : Act} (h : TwoS B w1 L a w) (hL : L 8 = false) : TwoS B w1 (upd L 8) (a.put (some 5) (.pointer (some ⟨w.heap.size, 0, none⟩))) (w.alloc (.cells (stepBox noStep) 36)) := by
  have h7 : L 10 = false := by
    cases h7 : L 10 with
    | false => rfl
    | true => rw [h.o7 h7] at hL; cases hL
  have hal : Chg (fun _ => False) w (w.alloc (.cells (stepBox noStep) 36)) := (Chg.refl _ w).alloc _
  have e6 : upd L 8 9 = L 9 := upd_ne9 (by omega)
  have e7 : upd L 8 10 = L 10 := upd_ne9 (by omega)
  have e8 : upd L 8 11 = L 11 := upd_ne9 (by omega)
  refine ⟨h.ch.trans hal (fun _ _ h => h.elim), Nat.le_trans h.lo hal.size, by simpa [Act.put] using h.sz, fun _ => ⟨_, put_same9 _ (by have := h.sz; omega), h.lo, ?_⟩, ?_, ?_, fun _ => upd_eq9, by rw [e6, e8]; exact h.o8⟩
  · rw [e7, h7]; exact heap_alloc_new w _
  · rw [e6, e8, put_other9 _ (by omega)]
    intro h6
    obtain ⟨b, p1, p2, p3⟩ := h.p4 h6
    exact ⟨b, p1, p2, blk_keep p3 hal id⟩
  · intro _ h6
    rw [e6] at h6
    obtain ⟨b, p1, p2, p3⟩ := h.p4 h6
    rw [put_same9 _ (by have := h.sz; omega), put_other9 _ (by omega), p1]
    intro e
    injection e with e; injection e with e; injection e with e; injection e with e
    have := lt_blk p3
    omega

theorem TwoS.make4 {B : Nat} {w1 w : World} {L : Nat → Bool} {a : Act} (h : TwoS B w1 L a w) (hL : L 9 = false) : TwoS B w1 (upd L 9) (a.put (some 6) (.pointer (some ⟨w.heap.size, 0, none⟩))) (w.alloc (.cells (stepBox noStep) 36)) := by
  have h8 : L 11 = false := by
    cases h8 : L 11 with
    | false => rfl
    | true => rw [h.o8 h8] at hL; cases hL
  have hal : Chg (fun _ => False) w (w.alloc (.cells (stepBox noStep) 36)) := (Chg.refl _ w).alloc _
  have e5 : upd L 9 8 = L 8 := upd_ne9 (by omega)
  have e7 : upd L 9 10 = L 10 := upd_ne9 (by omega)
  have e8 : upd L 9 11 = L 11 := upd_ne9 (by omega)
  refine ⟨h.ch.trans hal (fun _ _ h => h.elim), Nat.le_trans h.lo hal.size, by simpa [Act.put] using h.sz, ?_, fun _ => ⟨_, put_same9 _ (by have := h.sz; omega), h.lo, ?_⟩, ?_, by rw [e5, e7]; exact h.o7, fun _ => upd_eq9⟩
  · rw [e5, e7, put_other9 _ (by omega)]
    intro h5
    obtain ⟨b, p1, p2, p3⟩ := h.p3 h5
    exact ⟨b, p1, p2, blk_keep p3 hal id⟩
  · rw [e8, h8]; exact heap_alloc_new w _
  · intro h5 _
    rw [e5] at h5
    obtain ⟨b, p1, p2, p3⟩ := h.p3 h5
    rw [put_same9 _ (by have := h.sz; omega), put_other9 _ (by omega), p1]
    intro e
    injection e with e; injection e with e; injection e with e; injection e with e
    have := lt_blk p3
    omega

theorem TwoS.set3 {B : Nat} {w1 w : World} {L : Nat → Bool} {a : Act} (h : TwoS B w1 L a w) (hL : L 10 = false) {b : Nat} (h3 : a.tmps[5]? = some (.pointer (some ⟨b, 0, none⟩))) (h5 : L 8 = true) :
    TwoS B w1 (upd L 10) a (setStep w b stX) ∧ Chg (fun i => B ≤ i) w (setStep w b stX) ∧ w.heap[b]? = some (.cells (stepBox noStep) 36 (0, 0)) := by
  obtain ⟨b', p1, p2, p3⟩ := h.p3 h5
  rw [h3] at p1
  injection p1 with p1; injection p1 with p1; injection p1 with p1; injection p1 with p1
  subst p1
  rw [hL] at p3
  have hcs := setStep_chg w b stX
  have hc : Chg (fun i => B ≤ i) w (setStep w b stX) := hcs.mono (fun i _ e => by have e : i = b := e; subst e; exact p2)
  have e5 : upd L 10 8 = L 8 := upd_ne9 (by omega)
  have e6 : upd L 10 9 = L 9 := upd_ne9 (by omega)
  have e8 : upd L 10 11 = L 11 := upd_ne9 (by omega)
  refine ⟨⟨h.ch.trans hc (fun _ _ h => h), Nat.le_trans h.lo hcs.size, h.sz, fun _ => ⟨b, h3, p2, ?_⟩, ?_, by rw [e5, e6]; exact h.ne, fun _ => e5.trans h5, by rw [e6, e8]; exact h.o8⟩, hc, p3⟩
  · rw [upd_eq9]; exact setStep_blk stX p3
  · rw [e6, e8]
    intro h6
    obtain ⟨b4, q1, q2, q3⟩ := h.p4 h6
    refine ⟨b4, q1, q2, blk_keep q3 hcs (fun e => ?_)⟩
    have e : b4 = b := e
    exact h.ne h5 h6 (by rw [h3, q1, e])

theorem TwoS.set4 {B : Nat} {w1 w : World} {L : Nat → Bool} {a : Act} (h : TwoS B w1 L a w) (hL : L 11 = false) {b : Nat} (h4 : a.tmps[6]? = some (.pointer (some ⟨b, 0, none⟩))) (h6 : L 9 = true) :
    TwoS B w1 (upd L 11) a (setStep w b stY) ∧ Chg (fun i => B ≤ i) w (setStep w b stY) ∧ w.heap[b]? = some (.cells (stepBox noStep) 36 (0, 0)) := by
  obtain ⟨b', p1, p2, p3⟩ := h.p4 h6
  rw [h4] at p1
  injection p1 with p1; injection p1 with p1; injection p1 with p1; injection p1 with p1
  subst p1
  rw [hL] at p3
  have hcs := setStep_chg w b stY
  have hc : Chg (fun i => B ≤ i) w (setStep w b stY) := hcs.mono (fun i _ e => by have e : i = b := e; subst e; exact p2)
  have e5 : upd L 11 8 = L 8 := upd_ne9 (by omega)
  have e6 : upd L 11 9 = L 9 := upd_ne9 (by omega)
  have e7 : upd L 11 10 = L 10 := upd_ne9 (by omega)
  refine ⟨⟨h.ch.trans hc (fun _ _ h => h), Nat.le_trans h.lo hcs.size, h.sz, ?_, fun _ => ⟨b, h4, p2, ?_⟩, by rw [e5, e6]; exact h.ne, by rw [e5, e7]; exact h.o7, fun _ => e6.trans h6⟩, hc, p3⟩
  · rw [e5, e7]
    intro h5
    obtain ⟨b3, q1, q2, q3⟩ := h.p3 h5
    refine ⟨b3, q1, q2, blk_keep q3 hcs (fun e => ?_)⟩
    have e : b3 = b := e
    exact h.ne h5 h6 (by rw [q1, h4, e])
  · rw [upd_eq9]; exact setStep_blk stY p3
end Go.Proofs.Ytcdjjengkdbngaa
