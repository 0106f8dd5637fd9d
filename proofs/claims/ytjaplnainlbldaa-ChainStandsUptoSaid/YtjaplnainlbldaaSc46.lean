/- A range over an iterator that hands its rounds rows which were laid just then: the round is told what lies there. -/
import Derived.RangeFuncNested
import Derived.RangeFuncBound
import Derived.RangeFuncCalls
import Derived.RangeFuncLeaves
import Derived.Shelf.Abstract
import Derived.Shelf.RegionOpen
import Derived.WalkKit
import Derived.OwnWalkIn
import Derived.TacticsInMore
import Derived.LoopNIn
import Derived.LoopIn
import Derived.Test.YtjaplnainlbldaaSc7
namespace Go.Proofs.Ytjaplnainlbldaa
open Go.RowKit

theorem qgrown {w w' : World} (h : Chg (fun _ => False) w w') : w.grownBy w' none := ⟨h.os, h.tape, h.output, h.size, fun k hk _ => h.block k hk id⟩
theorem qbelow {w w' : World} {n : Nat} (h : Chg (fun _ => False) w w') (hn : n ≤ w.heap.size) : Below n w w' := h.below hn (fun _ _ => id)
theorem below_q {w w' : World} (h : Below w.heap.size w w') : Chg (fun _ => False) w w' := ⟨h.os, h.tape, h.output, h.size, fun k hk _ => h.block k hk⟩
theorem chg_putObj (w : World) (l : Nat) (o : Obj) : Chg (· = l) w (w.putObj l o) := (Chg.refl (· = l) w).grown (grownBy_putObj' w l o) (fun k hk _ => by simpa using hk.symm)

/-- What abides new blocks, and the turn of a block from B on that is no cells. -/
abbrev StaysFrom (B : Nat) (I : World → Prop) : Prop := OwnFrom B (fun (_ : Unit) W => I W)

theorem StaysFrom.chg {B : Nat} {I : World → Prop} (h : StaysFrom B I) {w w' : World} (hi : I w) (hc : Chg (fun _ => False) w w') : I w' := h () w w' none hi (qgrown hc) (fun r e => by cases e)
theorem StaysFrom.put {B : Nat} {I : World → Prop} (h : StaysFrom B I) {w : World} {l : Nat} {o : Obj} (o' : Obj) (hi : I w) (hB : B ≤ l) (hl : w.heap[l]? = some o) (ho : o.isCells = false) : I (w.putObj l o') := OwnFrom.putObj (s := ()) h o' hi hB hl ho

/-- The iterator's contract. U: blocks that a round may change; Rb x: x's own. C x m W: what lies in W where x is handed over, in blocks from m on, when the world had m blocks as the last round ended. -/
def SeqC {α : Type} (g : Nat) (lb : Array Value) (encs : α → Array Value) (U : Nat → Prop) (Rb : α → Nat → Prop) (C : α → Nat → World → Prop) (S Sp : List α → Prop) (N : Nat) (w : World) : Prop :=
  ∀ (l : Nat) (J Jx : List α → World → Prop) (W : World) (n : Nat), Chg (fun _ => False) w W →
    (∀ s A B, J s A → Chg (fun _ => False) A B → J s B) → (∀ s A B, Jx s A → Chg (fun _ => False) A B → Jx s B) →
    (∀ (m : Nat) (pre : List α) (x : α) (W0 W1 : World), J pre W0 → Chg (fun _ => False) W0 W1 → C x W0.heap.size W1 → pre.length < N → YieldAt Fence.wide m Try.prog l (encs x) W1 fun e W' =>
      (e = .returned (.bool true) ∧ J (pre ++ [x]) W' ∧ Chg (fun i => U i ∨ (w.heap.size ≤ i ∧ i < W.heap.size) ∨ ∃ y ∈ pre ++ [x], Rb y i) W1 W') ∨ (e = .returned (.bool false) ∧ Jx (pre ++ [x]) W')) →
    J [] W → CallsIn Fence.wide n Try.prog g (#[.func (.yield l) #[] #[]] ++ lb) W fun e W' => (∃ v, e = .returned v) ∧ ((∃ xs, S xs ∧ J xs W') ∨ (∃ pre, Sp pre ∧ Jx pre W'))

/-- How a round's body may be left. -/
def postC {α : Type} (B : Nat) (V : Nat → Prop) (I : Nat → List α → World → Prop) (Ix : List α → World → Prop) (xs : List α) (W : World) : Exit → Act → World → Prop
  | .normal, _, W' => KeepsFrom B W W' ∧ Chg V W W' ∧ ∃ m, m ≤ W'.heap.size ∧ I m xs W'
  | .ret, _, W' => KeepsFrom B W W' ∧ Ix xs W'
  | .exit _, _, _ => False
  | .goto _, _, _ => False
  | .panic _, _, _ => False
  | .outgrown, _, _ => False

/-- The statement's law. -/
theorem wpIn_rangeC {α : Type} {n k : Nat} {g : Operand} {ps : Array Tmp} {assign body : Code} {Q : Exit → Act → World → Prop} {a : Act} {w w0 : World} {gf : Nat} {lb : Array Value}
    (hg : a.eval g = .func (.func gf) #[] lb) (eg : ∀ args w, (callFunc gf args).run Try.prog w = .ok (.enter gf args) w)
    {encs : α → Array Value} {U : Nat → Prop} {Rb : α → Nat → Prop} {C : α → Nat → World → Prop} {S Sp : List α → Prop} {N : Nat} (hseq : SeqC gf lb encs U Rb C S Sp N w0) (hb0 : Chg (fun _ => False) w0 w) (hps : ∀ x, (encs x).size = ps.size)
    (hC : ∀ x m, StaysFrom w.heap.size (C x m)) (hCm : ∀ x m m' W, m ≤ m' → C x m' W → C x m W)
    (I : Nat → List α → World → Prop) (Ix : List α → World → Prop) (hI : ∀ m pre, StaysFrom w.heap.size (I m pre)) (hIx : ∀ pre, StaysFrom w.heap.size (Ix pre)) (h0 : I w.heap.size [] w)
    (Ax : α → Act → World → Prop) (hAx : ∀ x a', StaysFrom w.heap.size (Ax x a'))
    (hassign : ∀ (l : Nat) (x : α) (W : World) (K : Act → World → Prop), w.heap.size ≤ W.heap.size → (∀ a' W', Chg (fun _ => False) W W' → Ax x a' W' → K a' W') →
      assign.wpIn (Fence.wide.inRound l) k Try.prog (Exit.then K (fun _ _ _ => False)) { tmps := (ps.zip (encs x)).foldl (fun t (p, v) => t.setIfInBounds p v) a.tmps, defers := [] } W)
    (hbody : ∀ (l m : Nat) (pre : List α) (x : α) (a' : Act) (W : World), w.heap.size ≤ l → (∃ r, W.heap[l]? = some (.loop r)) → m ≤ W.heap.size → w.heap.size ≤ W.heap.size → I m pre W → C x m W → Ax x a' W → pre.length < N →
      body.wpIn (Fence.wide.inRound l) k Try.prog (postC w.heap.size (fun i => U i ∨ ∃ y ∈ pre ++ [x], Rb y i) I Ix (pre ++ [x]) W) a' W)
    (hdone : ∀ (D m : Nat) (xs : List α) (W : World), w.heap.size ≤ D → S xs → I m xs W → W.heap[D]? = some (.deferred (some [])) → Q .normal { a with defers := { target := .collected D, args := #[] } :: a.defers } W)
    (hstop : ∀ (D : Nat) (pre : List α) (W : World), w.heap.size ≤ D → Sp pre → Ix pre W → W.heap[D]? = some (.deferred (some [])) → Code.ret.wpIn Fence.wide n Try.prog Q { a with defers := { target := .collected D, args := #[] } :: a.defers } W) :
    (Code.rangeFunc g ps assign body).wpIn Fence.wide n Try.prog Q a w := by
  refine wpIn_rangeFunc fun fn hfn => ?_
  obtain ⟨D, hD⟩ : ∃ D, D = w.heap.size := ⟨_, rfl⟩
  obtain ⟨rec, hrec⟩ : ∃ rec : LoopState → Option Code → Loop, rec = fun st pe => { state := st, pending := pe, fn, tmps := a.tmps, params := ps, assign, body, defers := D } := ⟨_, rfl⟩
  have hent := run_enterLoop_outer (P := Try.prog) (w := w) fn a.tmps ps assign body
  rw [← hD] at hent
  have hl1 : ((w.alloc (.deferred (some []))).alloc (.loop (rec .ready none))).heap[D + 1]? = some (.loop (rec .ready none)) := by
    have := World.alloc_heap_new (w.alloc (.deferred (some []))) (.loop (rec .ready none))
    rwa [World.size_alloc, ← hD] at this
  have hk1 : ((w.alloc (.deferred (some []))).alloc (.loop (rec .ready none))).heap[D]? = some (.deferred (some [])) := by
    rw [hD]
    exact (Below.heap_alloc _ _ _ (by simp)).trans (World.alloc_heap_new w _)
  have hq1 : Chg (fun _ => False) w ((w.alloc (.deferred (some []))).alloc (.loop (rec .ready none))) := ((Chg.refl _ w).alloc _).alloc _
  have hsz : w.heap.size ≤ ((w.alloc (.deferred (some []))).alloc (.loop (rec .ready none))).heap.size := hq1.size
  have hent2 : (Instr.enterLoop fn a.tmps ps assign body Fence.wide.round).run Try.prog w = .ok (D + 1, [{ target := .collected D, args := #[] }]) ((w.alloc (.deferred (some []))).alloc (.loop (rec .ready none))) := by
    rw [hrec]; exact hent
  revert hent2 hl1 hk1 hq1 hsz
  generalize (w.alloc (.deferred (some []))).alloc (.loop (rec .ready none)) = W1
  intro hl1 hk1 hq1 hsz hent2
  refine ⟨D + 1, _, W1, { target := .fn (.func gf) lb, args := #[.func (.yield (D + 1)) #[] #[]] }, W1, gf, #[.func (.yield (D + 1)) #[] #[]] ++ lb, W1, hent2, ?_, fun _ _ => trivial, ?_, fun h => (by cases h), ?_⟩
  · simp only [resolve, hg]
    simp [go_sem]
  · simp [invoke, go_sem, eg]
  refine (hseq (D + 1)
    (fun pre W => ∃ m, m ≤ W.heap.size ∧ w.heap.size ≤ W.heap.size ∧ I m pre W ∧ W.heap[D + 1]? = some (.loop (rec .ready none)) ∧ W.heap[D]? = some (.deferred (some [])))
    (fun pre W => Ix pre W ∧ W.heap[D + 1]? = some (.loop (rec .done (some .ret))) ∧ W.heap[D]? = some (.deferred (some [])))
    W1 (n - 1) (hb0.trans hq1 (fun _ _ h => h))
    (fun s A B ⟨m, h1, h2, h3, h4, h5⟩ hc => ⟨m, Nat.le_trans h1 hc.size, Nat.le_trans h2 hc.size, (hI m s).chg h3 hc, blk_keep h4 hc id, blk_keep h5 hc id⟩)
    (fun s A B ⟨h3, h4, h5⟩ hc => ⟨(hIx s).chg h3 hc, blk_keep h4 hc id, blk_keep h5 hc id⟩)
    ?_ ⟨w.heap.size, hsz, hsz, (hI _ _).chg h0 hq1, hl1, hk1⟩).mono ?_
  · rintro mm pre x W0 W ⟨m, e1, e2, e3, e4, e5⟩ hc hx hlen
    have q1 := (hI m pre).chg e3 hc
    have q2 := blk_keep e4 hc id
    have q3 := blk_keep e5 hc id
    have q4 := hCm x _ _ W e1 hx
    have hw : w.heap.size ≤ W.heap.size := Nat.le_trans e2 hc.size
    have hmW : m ≤ W.heap.size := Nat.le_trans e1 hc.size
    have hy := run_yield (P := Try.prog) (args := encs x) q2 (by rw [hrec]; exact hps x)
    rw [hrec] at hy
    refine ⟨fn, _, assign, body, hy, ?_⟩
    have hR : RoundIn Fence.wide k Try.prog (D + 1) fn ((ps.zip (encs x)).foldl (fun t (p, v) => t.setIfInBounds p v) a.tmps) assign body W (fun e W' =>
        (e = .returned (.bool true) ∧ (∃ m, m ≤ W'.heap.size ∧ w.heap.size ≤ W'.heap.size ∧ I m (pre ++ [x]) W' ∧ W'.heap[D + 1]? = some (.loop (rec .ready none)) ∧ W'.heap[D]? = some (.deferred (some []))) ∧ Chg (fun i => U i ∨ (w0.heap.size ≤ i ∧ i < W1.heap.size) ∨ ∃ y ∈ pre ++ [x], Rb y i) W W') ∨
        (e = .returned (.bool false) ∧ Ix (pre ++ [x]) W' ∧ W'.heap[D + 1]? = some (.loop (rec .done (some .ret))) ∧ W'.heap[D]? = some (.deferred (some [])))) := by
      refine roundIn_of_wpIn hfn (hassign _ x W _ hw fun a' Wa hca hax => ?_)
      have p2 := blk_keep q2 hca id
      have p3 := blk_keep q3 hca id
      have lt2 := lt_blk p2
      refine ⟨_, run_beginRound p2 (by rw [hrec]), ?_⟩
      have cb := chg_putObj Wa (D + 1) (.loop { rec .ready none with state := .busy })
      have b2 : (Wa.putObj (D + 1) (.loop { rec .ready none with state := .busy })).heap[D + 1]? = some (.loop { rec .ready none with state := .busy }) := World.putObj_heap_same lt2
      have b3 := blk_keep p3 cb (by omega)
      have bI := (hI m pre).put (.loop { rec .ready none with state := .busy }) ((hI m pre).chg q1 hca) (by omega) p2 rfl
      have bC := (hC x m).put (.loop { rec .ready none with state := .busy }) ((hC x m).chg q4 hca) (by omega) p2 rfl
      have bA := (hAx x a').put (.loop { rec .ready none with state := .busy }) hax (by omega) p2 rfl
      have hsa := hca.size
      have hsb := cb.size
      revert b2 b3 bI bC bA cb hsb
      generalize Wa.putObj (D + 1) (.loop { rec .ready none with state := .busy }) = Wb
      intro cb b2 b3 bI bC bA hsb
      have hD1 : w0.heap.size ≤ D + 1 ∧ D + 1 < W1.heap.size := ⟨by have := hb0.size; omega, lt_blk hl1⟩
      have c0 : Chg (fun i => U i ∨ (w0.heap.size ≤ i ∧ i < W1.heap.size) ∨ ∃ y ∈ pre ++ [x], Rb y i) W Wb := (hca.mono (fun _ _ h => h.elim)).trans (cb.mono (fun i _ h => .inr (.inl (by rw [h]; exact hD1)))) (fun _ _ h => h)
      refine wpIn_mono (hbody _ m pre x a' Wb (by omega) ⟨_, b2⟩ (by omega) (by omega) bI bC bA hlen) ?_
      intro e a3 W3 hp
      cases e with
      | normal =>
        obtain ⟨hk3, hc3, m3, hm3, hi3⟩ := hp
        have r2 := hk3.same _ _ (by omega) b2 rfl
        have r3 := hk3.same _ _ (by omega) b3 rfl
        have cc := chg_putObj W3 (D + 1) (.loop (rec .ready none))
        have hend := run_endRound (P := Try.prog) none r2
        rw [hrec] at hend
        refine ⟨_, _, hend, .inl ⟨rfl, ⟨m3, ?_, ?_, ?_, ?_, ?_⟩, ?_⟩⟩
        · have := cc.size; rw [hrec] at this; exact Nat.le_trans hm3 this
        · have h1 := cc.size; rw [hrec] at h1; exact Nat.le_trans (Nat.le_trans (by omega) hk3.size) h1
        · exact (hI _ _).put _ hi3 (by omega) r2 rfl
        · rw [hrec]; exact World.putObj_heap_same (lt_blk r2)
        · have := blk_keep r3 cc (by omega); rw [hrec] at this; exact this
        · have h1 := c0.trans ((hc3.mono (fun i _ h => h.elim .inl (fun h => .inr (.inr h)))).trans (cc.mono (fun i _ h => .inr (.inl (by rw [h]; exact hD1)))) (fun _ _ h => h)) (fun _ _ h => h)
          rw [hrec] at h1
          exact h1
      | ret =>
        obtain ⟨hk3, hi3⟩ := hp
        have r2 := hk3.same _ _ (by omega) b2 rfl
        have r3 := hk3.same _ _ (by omega) b3 rfl
        have cc := chg_putObj W3 (D + 1) (.loop (rec .done (some .ret)))
        have hend := run_endRound (P := Try.prog) (some .ret) r2
        rw [hrec] at hend
        refine ⟨_, _, hend, .inr ⟨rfl, ?_, ?_, ?_⟩⟩
        · exact (hIx _).put _ hi3 (by omega) r2 rfl
        · rw [hrec]; exact World.putObj_heap_same (lt_blk r2)
        · have := blk_keep r3 cc (by omega); rw [hrec] at this; exact this
      | exit id => exact hp.elim
      | goto t => exact hp.elim
      | panic ch => exact hp.elim
      | outgrown => exact hp.elim
    exact ⟨hR.1, fun c cs _ => hR.2 c cs (room_wide _)⟩
  · rintro e W2 ⟨⟨v, rfl⟩, (⟨xs, hS, m, h1, h2, h3, h4, h5⟩ | ⟨pre, hSp, h3, h4, h5⟩)⟩
    · subst hrec
      have hend := run_endLoop (P := Try.prog) h4 (by simp)
      have cc := chg_putObj W2 (D + 1) (.loop { state := .exhausted, pending := none, fn := fn, tmps := a.tmps, params := ps, assign := assign, body := body, defers := D })
      refine ⟨none, _, hend, hdone D m xs _ (by omega) hS ((hI _ _).put _ h3 (by omega) h4 rfl) ?_⟩
      have r5 := blk_keep h5 cc (by omega)
      exact r5
    · subst hrec
      have hend := run_endLoop (P := Try.prog) h4 (by simp)
      have cc := chg_putObj W2 (D + 1) (.loop { state := .exhausted, pending := some .ret, fn := fn, tmps := a.tmps, params := ps, assign := assign, body := body, defers := D })
      refine ⟨some .ret, _, hend, hstop D pre _ (by omega) hSp ((hIx _).put _ h3 (by omega) h4 rfl) ?_⟩
      have r5 := blk_keep h5 cc (by omega)
      exact r5
end Go.Proofs.Ytjaplnainlbldaa
