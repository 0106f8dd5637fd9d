/- Law 8's first, over the contracts of ModelK. -/
import Derived.Test.YtanompfdjfgfbaaGreatMb11
namespace Go.Proofs.YtanompfdjfgfbaaGreat
open Go.RowKit

theorem strs_two (w : World) : StrsAt (fun k => k = w.heap.size) (w.alloc (.cells #[.string ⟨#[97]⟩, .string ⟨#[100]⟩] 9)) (some ⟨w.heap.size, 0, none⟩) [[97], [100]] := fun i hi => by
  have h := heap_alloc_new w (.cells #[.string ⟨#[97]⟩, .string ⟨#[100]⟩] 9)
  rcases i with _ | _ | i
  · exact ⟨_, 0, rfl, rfl, cell_blk h 0, by simp⟩
  · exact ⟨_, 0, rfl, rfl, cell_blk h 1, by simp⟩
  · simp at hi; omega

/-- Which operation comes ahead of which, on the way to the one that adds (36). -/
def pre6 : Nat → Option Nat
  | 1 => some 0
  | 2 => some 1
  | 5 => some 2
  | 6 => some 5
  | 7 => some 6
  | 10 => some 7
  | 11 => some 10
  | 12 => some 11
  | 13 => some 12
  | 16 => some 13
  | 17 => some 16
  | 18 => some 17
  | 19 => some 18
  | 20 => some 19
  | 22 => some 20
  | 23 => some 22
  | 24 => some 23
  | 25 => some 24
  | 26 => some 25
  | 28 => some 26
  | 29 => some 28
  | 30 => some 29
  | 31 => some 30
  | 32 => some 31
  | 36 => some 32
  | _ => none

/-- What is so amid the last line. -/
structure SixW (MA : (Nat → Prop) → World → Nat → List CredB → Prop) (O : Nat → Prop) (g B : Nat) (w5 : World) (L : Nat → Bool) (w : World) : Prop where
  ch : Chg O w5 w
  lo : B ≤ w.heap.size
  hlow : ∀ i, O i → i < B
  kk : MK MA
  ma : L 36 = false → MA O w g ([cI] ++ [cM])
  down : ∀ i p, pre6 i = some p → L i = true → L p = true

theorem SixW.hlo {MA : (Nat → Prop) → World → Nat → List CredB → Prop} {O : Nat → Prop} {g B : Nat} {w5 w : World} {L : Nat → Bool} (h : SixW MA O g B w5 L w) (i : Nat) (hi : B ≤ i) (ho : O i) : False := absurd (h.hlow i ho) (Nat.not_lt.2 hi)

theorem SixW.not36 {MA : (Nat → Prop) → World → Nat → List CredB → Prop} {O : Nat → Prop} {g B : Nat} {w5 w : World} {L : Nat → Bool} (h : SixW MA O g B w5 L w) {j : Nat} (hj : j = 5 ∨ j = 10 ∨ j = 16 ∨ j = 22 ∨ j = 28) (hl : L j = false) : L 36 = false := by
  cases l36 : L 36 with
  | false => rfl
  | true =>
    have l32 := h.down 36 32 rfl l36
    have l31 := h.down 32 31 rfl l32
    have l30 := h.down 31 30 rfl l31
    have l29 := h.down 30 29 rfl l30
    have l28 := h.down 29 28 rfl l29
    have l26 := h.down 28 26 rfl l28
    have l25 := h.down 26 25 rfl l26
    have l24 := h.down 25 24 rfl l25
    have l23 := h.down 24 23 rfl l24
    have l22 := h.down 23 22 rfl l23
    have l20 := h.down 22 20 rfl l22
    have l19 := h.down 20 19 rfl l20
    have l18 := h.down 19 18 rfl l19
    have l17 := h.down 18 17 rfl l18
    have l16 := h.down 17 16 rfl l17
    have l13 := h.down 16 13 rfl l16
    have l12 := h.down 13 12 rfl l13
    have l11 := h.down 12 11 rfl l12
    have l10 := h.down 11 10 rfl l11
    have l7 := h.down 10 7 rfl l10
    have l6 := h.down 7 6 rfl l7
    have l5 := h.down 6 5 rfl l6
    have l2 := h.down 5 2 rfl l5
    have l1 := h.down 2 1 rfl l2
    have l0 := h.down 1 0 rfl l1
    rcases hj with rfl | rfl | rfl | rfl | rfl
    · rw [l5] at hl; cases hl
    · rw [l10] at hl; cases hl
    · rw [l16] at hl; cases hl
    · rw [l22] at hl; cases hl
    · rw [l28] at hl; cases hl

theorem SixW.downU {MA : (Nat → Prop) → World → Nat → List CredB → Prop} {O : Nat → Prop} {g B : Nat} {w5 w : World} {L : Nat → Bool} {j : Nat} (h : SixW MA O g B w5 L w) (hp : ∀ p, pre6 j = some p → L p = true) : ∀ i p, pre6 i = some p → upd L j i = true → upd L j p = true := by
  intro i p hip hl
  unfold upd at hl ⊢
  by_cases e1 : p = j
  · rw [if_pos e1]
  · rw [if_neg e1]
    by_cases e2 : i = j
    · subst e2; exact hp p hip
    · rw [if_neg e2] at hl; exact h.down i p hip hl

theorem SixW.quiet {MA : (Nat → Prop) → World → Nat → List CredB → Prop} {O : Nat → Prop} {g B : Nat} {w5 w w' : World} {L : Nat → Bool} {j : Nat} (h : SixW MA O g B w5 L w) (hj : j ≠ 36) (hp : ∀ p, pre6 j = some p → L p = true) (hc : Chg (fun _ => False) w w') : SixW MA O g B w5 (upd L j) w' :=
  ⟨h.ch.trans hc (fun _ _ h => h.elim), Nat.le_trans h.lo hc.size, h.hlow, h.kk, fun hl => h.kk.keep (h.ma (by rw [upd_ne hj] at hl; exact hl)) hc (fun _ _ => id), h.downU hp⟩

theorem SixW.step {MA : (Nat → Prop) → World → Nat → List CredB → Prop} {O : Nat → Prop} {g B : Nat} {w5 w : World} {L : Nat → Bool} {i : Nat} (h : SixW MA O g B w5 L w) (hj : i ≠ 36) (hp : ∀ p, pre6 i = some p → L p = true) : SixW MA O g B w5 (upd L i) w := h.quiet hj hp (Chg.refl _ _)

theorem SixW.callN {MA : (Nat → Prop) → World → Nat → List CredB → Prop} {O : Nat → Prop} {g B : Nat} {w5 w : World} {L : Nat → Bool} {j : Nat} (h : SixW MA O g B w5 L w) (hj : j ≠ 36) (hp : ∀ p, pre6 j = some p → L p = true) (w' : World) (hc : Chg (fun _ => False) w w') : SixW MA O g B w5 (upd L j) w' := h.quiet hj hp hc

theorem SixW.added {MA : (Nat → Prop) → World → Nat → List CredB → Prop} {O : Nat → Prop} {g B : Nat} {w5 w : World} {L : Nat → Bool} (h : SixW MA O g B w5 L w) (hp : ∀ p, pre6 36 = some p → L p = true) (w' : World) (hc : Chg O w w') : SixW MA O g B w5 (upd L 36) w' :=
  ⟨h.ch.trans hc (fun _ _ h => h), Nat.le_trans h.lo hc.size, h.hlow, h.kk, fun hl => (by rw [upd_eq] at hl; cases hl), h.downU hp⟩

def SpecR.sliceN {O : Nat → Prop} (n : Nat) : SpecR (Chg O) := ⟨fun v _ => ∃ a c, v = .slice a n c, fun _ _ _ _ h => h⟩
def SpecR.credN {O : Nat → Prop} (B : Nat) (hB : ∀ i, B ≤ i → O i → False) (c : CredB) : SpecR (Chg O) :=
  ⟨fun v w => ∃ b, v = .slice (some ⟨b, 0, none⟩) 1 1 ∧ B ≤ b ∧ w.heap[b]? = some (.cells (credBox c) 47 (0, 0)), fun _ _ _ hc ⟨b, h1, h2, h3⟩ => ⟨b, h1, h2, blk_keep h3 hc (fun h => hB b h2 h)⟩⟩
def mfSpecs6 (O : Nat → Prop) (g X c hb ho ch B : Nat) (hB : ∀ i, B ≤ i → O i → False) : List (SpecR (Chg O)) := [.eq (.bool true), .eq (.pointer (some ⟨X, 0, none⟩)), .any, .eq (.pointer (some ⟨c, 0, none⟩)), .any, .eq (.pointer (some ⟨g, 0, none⟩)), .eq (.int .i64 2), .eq (.slice (some ⟨hb, ho, none⟩) 1 ch), .any, .any, .any, .any, .any, .any, .any, .any, .any, .any, .any, .any, .any, .any, .any, .any, .any, .any, .any, .eq (.int .i64 2), .eq (.bool true), .eq (.bool true), .eq (.pointer (some ⟨g, 0, none⟩)), .eq (.agg #[.string ⟨#[97]⟩, .string ⟨#[114]⟩]), .eq (.bool true), .eq (.bool true), .eq (.bool true), .eq (.pointer (some ⟨g, 0, none⟩)), .eq (.agg #[.string ⟨#[97]⟩, .string ⟨#[114]⟩]), .eq (.bool false), .eq (.bool true), .eq (.bool true), .eq (.bool true), .eq (.pointer (some ⟨g, 0, none⟩)), .eq (.agg #[.string ⟨#[97]⟩, .string ⟨#[114]⟩]), .sliceN 1, .eq (.int .i64 1), .eq (.bool true), .eq (.bool true), .eq (.bool true), .eq (.pointer (some ⟨g, 0, none⟩)), .sliceN 2, .eq (.int .i64 2), .eq (.bool true), .eq (.bool true), .eq (.bool true), .eq (.pointer (some ⟨g, 0, none⟩)), .sliceN 2, .eq (.int .i64 2), .eq (.bool true), .eq (.bool true), .eq (.bool true), .eq (.pointer (some ⟨g, 0, none⟩)), .eq (.agg #[.int .i64 2, .string ⟨#[97]⟩, .string ⟨#[114]⟩, .string ⟨#[]⟩, .string ⟨#[98]⟩, .string ⟨#[115]⟩, .string ⟨#[]⟩, .string ⟨#[]⟩, .string ⟨#[]⟩]), .credN B hB cI, .eq (.int .i64 0), .eq (.bool true), .eq (.bool true), .eq (.bool true), .eq (.slice (some ⟨hb, ho, none⟩) 1 ch), .eq (.int .i64 1), .eq (.bool true), .eq (.bool true), .eq (.bool true), .eq (.slice (some ⟨hb, ho, none⟩) 1 ch), .eq (.pointer (some ⟨hb, ho, none⟩)), .eq (.agg #[.string ⟨#[97]⟩, .string ⟨#[114]⟩, .string ⟨#[100]⟩]), .eq (.agg #[.string ⟨#[97]⟩, .string ⟨#[114]⟩]), .eq (.agg #[.string ⟨#[97]⟩, .string ⟨#[114]⟩, .string ⟨#[100]⟩]), .eq (.bool true), .eq (.bool true)]

def mfSpecs2 (X B : Nat) : List (SpecR (Chg (fun i => B ≤ i))) := [.any, .eq (.pointer (some ⟨X, 0, none⟩)), .eq (.pointer (some ⟨X + 1, 0, none⟩)), .any, .any, .any, .any, .any, .any, .any, .eq (.agg #[.string ⟨#[97]⟩, .string ⟨#[114]⟩]), .eq (.agg #[.string ⟨#[98]⟩, .string ⟨#[115]⟩]), .eq (.agg #[.int .i64 2, .string ⟨#[97]⟩, .string ⟨#[114]⟩, .string ⟨#[]⟩, .string ⟨#[98]⟩, .string ⟨#[115]⟩, .string ⟨#[]⟩, .string ⟨#[]⟩, .string ⟨#[]⟩]), .eq (.agg #[.string ⟨#[98]⟩, .string ⟨#[115]⟩]), .eq (.agg #[.int .i64 1, .string ⟨#[98]⟩, .string ⟨#[115]⟩, .string ⟨#[100]⟩, .string ⟨#[]⟩, .string ⟨#[]⟩, .string ⟨#[]⟩, .string ⟨#[]⟩, .string ⟨#[]⟩]), .any, .any, .any, .any, .any, .any, .any, .any, .any, .any, .any, .any, .any, .any, .any, .any, .any, .any, .any, .any, .any, .any, .any, .any, .any, .any, .any, .any, .any, .any, .any, .any, .any, .any, .any, .any, .any, .any, .any, .any, .any, .any, .any, .any, .any, .any, .any, .any, .any, .any, .any, .any, .any, .any, .any, .any, .any, .any, .any, .any, .any, .any, .any, .any]

set_option maxRecDepth 100000 in
set_option maxHeartbeats 8000000 in
theorem mfirst {MA : (Nat → Prop) → World → Nat → List CredB → Prop} (HK0 : MK MA) (w : World) : Calls Tryz.prog 6 #[] w fun e w' => e = .returned (.bool true) ∧ Chg (fun _ => False) w w' := by
  have HKH := hid HK0
  have hr1 : ((w.alloc (.cells #[.string ⟨#[97]⟩, .string ⟨#[114]⟩] 24)).alloc (.cells #[.string ⟨#[98]⟩, .string ⟨#[115]⟩] 24)).heap[w.heap.size]? = some (.cells #[.string ⟨#[97]⟩, .string ⟨#[114]⟩] 24 (0, 0)) := blk_keep (heap_alloc_new w _) ((Chg.refl (fun _ => False) _).alloc _) id
  have hr2 : ((w.alloc (.cells #[.string ⟨#[97]⟩, .string ⟨#[114]⟩] 24)).alloc (.cells #[.string ⟨#[98]⟩, .string ⟨#[115]⟩] 24)).heap[w.heap.size + 1]? = some (.cells #[.string ⟨#[98]⟩, .string ⟨#[115]⟩] 24 (0, 0)) := by
    have := heap_alloc_new (w.alloc (.cells #[.string ⟨#[97]⟩, .string ⟨#[114]⟩] 24)) (.cells #[.string ⟨#[98]⟩, .string ⟨#[115]⟩] 24)
    rw [World.size_alloc] at this
    exact this
  have hc1 : Chg (fun _ => False) w ((w.alloc (.cells #[.string ⟨#[97]⟩, .string ⟨#[114]⟩] 24)).alloc (.cells #[.string ⟨#[98]⟩, .string ⟨#[115]⟩] 24)) := ((Chg.refl _ w).alloc _).alloc _
  have H1 := hid (And.intro (And.intro hr1 hr2) hc1)
  clear HK0 hr1 hr2 hc1
  go_enter Tryz.func6, Tryz.ntmps6
  go_wp2_with fail
  have HX := hid H1.out.1
  have HC1 := hid H1.out.2
  clear H1
  generalize ((w.alloc (.cells #[.string ⟨#[97]⟩, .string ⟨#[114]⟩] 24)).alloc (.cells #[.string ⟨#[98]⟩, .string ⟨#[115]⟩] 24)) = w1 at *
  obtain ⟨X, hX⟩ : ∃ X, X = w.heap.size := ⟨_, rfl⟩
  rw [← hX] at HX ⊢
  have l1 : X < w1.heap.size := lt_blk HX.out.1
  have l2 : X + 1 < w1.heap.size := lt_blk HX.out.2
  have HXw := hid hX
  clear hX
  refine wp_region_stateA (Chg (fun i => w1.heap.size ≤ i)) (TwoW w1.heap.size w1) (specAtR (mfSpecs2 X w1.heap.size)) [10, 11, 12, 13, 14, 3, 4] [1, 2] (by kernel_rfl) (by kernel_rfl) ⟨(Chg.refl _ _).drew, Nat.le_refl _, (show (4 : Nat) < 79 by decide), (fun h => by cases h), (fun h => by cases h), (fun h => by cases h), (fun h => by cases h), (fun h => by cases h)⟩ (fun t v w w' hc h => specAtR_st _ t v w w' hc h) (by rfl) (by kernel_rfl) ?start ?obs ?fin
  case start =>
    simp only [List.forall_mem_cons]; exact ⟨⟨_, rfl, rfl⟩, ⟨_, rfl, rfl⟩, fun _ h => by cases h⟩
  case obs =>
    refine ObsA.cons none (by kernel_rfl) ?_ ?_
    · refine ObA.plain fun L a w hi he hW hk K k => ?_
      obtain ⟨_, e1, rfl⟩ := hk 1 (by decide)
      clear hk
      obtain ⟨q0, q1⟩ := (⟨cell_blk (blk_keep HX.out.1 hW.ch (fun h => absurd h (Nat.not_le.2 (by assumption)))) 0, cell_blk (blk_keep HX.out.1 hW.ch (fun h => absurd h (Nat.not_le.2 (by assumption)))) 1⟩ : _ ∧ _)
      simp only [List.getElem?_toArray, List.getElem?_cons_zero, List.getElem?_cons_succ] at q0 q1
      have hS := fun v => hW.quiet (i := 0) (by decide) 10 v (by decide)
      clear hi he hW
      go_simp
      exact k _ _ (Chg.refl _ _) (hS _) rfl
    refine ObsA.cons none (by kernel_rfl) ?_ ?_
    · refine ObA.plain fun L a w hi he hW hk K k => ?_
      obtain ⟨_, e2, rfl⟩ := hk 2 (by decide)
      clear hk
      obtain ⟨q0, q1⟩ := (⟨cell_blk (blk_keep HX.out.2 hW.ch (fun h => absurd h (Nat.not_le.2 (by assumption)))) 0, cell_blk (blk_keep HX.out.2 hW.ch (fun h => absurd h (Nat.not_le.2 (by assumption)))) 1⟩ : _ ∧ _)
      simp only [List.getElem?_toArray, List.getElem?_cons_zero, List.getElem?_cons_succ] at q0 q1
      have hS := fun v => hW.quiet (i := 1) (by decide) 11 v (by decide)
      clear hi he hW
      go_simp
      exact k _ _ (Chg.refl _ _) (hS _) rfl
    refine ObsA.cons none (by kernel_rfl) ?_ ?_
    · refine ObA.plain fun L a w hi he hW hk K k => ?_
      obtain ⟨_, e10, rfl⟩ := hk 10 (by decide)
      obtain ⟨_, e11, rfl⟩ := hk 11 (by decide)
      clear hk
      have hS := fun v => hW.quiet (i := 2) (by decide) 12 v (by decide)
      clear hi he hW
      go_simp
      exact k _ _ (Chg.refl _ _) (hS _) rfl
    refine ObsA.cons none (by kernel_rfl) ?_ ?_
    · refine ObA.plain fun L a w hi he hW hk K k => ?_
      obtain ⟨_, e2, rfl⟩ := hk 2 (by decide)
      clear hk
      obtain ⟨q0, q1⟩ := (⟨cell_blk (blk_keep HX.out.2 hW.ch (fun h => absurd h (Nat.not_le.2 (by assumption)))) 0, cell_blk (blk_keep HX.out.2 hW.ch (fun h => absurd h (Nat.not_le.2 (by assumption)))) 1⟩ : _ ∧ _)
      simp only [List.getElem?_toArray, List.getElem?_cons_zero, List.getElem?_cons_succ] at q0 q1
      have hS := fun v => hW.quiet (i := 3) (by decide) 13 v (by decide)
      clear hi he hW
      go_simp
      exact k _ _ (Chg.refl _ _) (hS _) rfl
    refine ObsA.cons none (by kernel_rfl) ?_ ?_
    · refine ObA.plain fun L a w hi he hW hk K k => ?_
      obtain ⟨_, e13, rfl⟩ := hk 13 (by decide)
      clear hk
      have hS := fun v => hW.quiet (i := 4) (by decide) 14 v (by decide)
      clear hi he hW
      go_simp
      exact k _ _ (Chg.refl _ _) (hS _) rfl
    refine ObsA.cons none (by kernel_rfl) ?_ ?_
    · refine ObA.plain fun L a w hi he hW hk K k => ?_
      clear hk
      have hS := hW.make3 hi
      clear hi he hW
      go_simp
      exact k _ _ ((Chg.refl _ _).alloc _) hS trivial
    refine ObsA.cons none (by kernel_rfl) ?_ ?_
    · refine ObA.plain fun L a w hi he hW hk K k => ?_
      clear hk
      have hS := hW.make4 hi
      clear hi he hW
      go_simp
      exact k _ _ ((Chg.refl _ _).alloc _) hS trivial
    refine ObsA.cons none (by kernel_rfl) ?_ ?_
    · refine ObA.plain fun L a w hi he hW hk K k => ?_
      obtain ⟨_, e3, f3⟩ := hk 3 (by decide)
      obtain ⟨_, e12, rfl⟩ := hk 12 (by decide)
      clear hk
      have l : L 5 = true := he ⟨5, Ground.data⟩ (by simp) (by decide)
      obtain ⟨b, p1, _, _⟩ := hW.p3 l
      have ez := e3.symm.trans p1
      injection ez with ez
      subst ez
      obtain ⟨hW2, hc2, hz⟩ := hW.set3 hi e3 l
      obtain ⟨y0, y1, y2, y3, y4, y5, y6, y7, y8⟩ := cred_at_blk hz
      simp only [Nat.zero_add, noCred, noneR] at y0 y1 y2 y3 y4 y5 y6 y7 y8
      have g0 := froz_blk hz 0
      have g1 := froz_blk hz 1
      have g2 := froz_blk hz 2
      have g3 := froz_blk hz 3
      have g4 := froz_blk hz 4
      have g5 := froz_blk hz 5
      have g6 := froz_blk hz 6
      have g7 := froz_blk hz 7
      have g8 := froz_blk hz 8
      have HB := hid (And.intro hW2 hc2)
      clear hi he hz hW2 hc2 hW p1 f3
      go_simp
      exact k undef _ HB.out.2 HB.out.1 trivial
    refine ObsA.cons none (by kernel_rfl) ?_ ?_
    · refine ObA.plain fun L a w hi he hW hk K k => ?_
      obtain ⟨_, e4, f4⟩ := hk 4 (by decide)
      obtain ⟨_, e14, rfl⟩ := hk 14 (by decide)
      clear hk
      have l : L 6 = true := he ⟨6, Ground.data⟩ (by simp) (by decide)
      obtain ⟨b, p1, _, _⟩ := hW.p4 l
      have ez := e4.symm.trans p1
      injection ez with ez
      subst ez
      obtain ⟨hW2, hc2, hz⟩ := hW.set4 hi e4 l
      obtain ⟨y0, y1, y2, y3, y4, y5, y6, y7, y8⟩ := cred_at_blk hz
      simp only [Nat.zero_add, noCred, noneR] at y0 y1 y2 y3 y4 y5 y6 y7 y8
      have g0 := froz_blk hz 0
      have g1 := froz_blk hz 1
      have g2 := froz_blk hz 2
      have g3 := froz_blk hz 3
      have g4 := froz_blk hz 4
      have g5 := froz_blk hz 5
      have g6 := froz_blk hz 6
      have g7 := froz_blk hz 7
      have g8 := froz_blk hz 8
      have HB := hid (And.intro hW2 hc2)
      clear hi he hz hW2 hc2 hW p1 f4
      go_simp
      exact k undef _ HB.out.2 HB.out.1 trivial
    exact ObsA.nil
  case fin =>
    intro L vals w2 hL hW hv
    have h3 : ∃ b, vals 3 = .pointer (some ⟨b, 0, none⟩) ∧ w1.heap.size ≤ b ∧ w2.heap[b]? = some (.cells (credBox cI) 47 (0, 0)) := by
      obtain ⟨b, p1, p2, p3⟩ := hW.p3 (hL 5 (by decide))
      rw [putAll_in _ _ _ 3 (by decide) (by decide) (by show (3 : Nat) < 79; decide)] at p1
      injection p1 with p1
      rw [hL 7 (by decide)] at p3
      exact ⟨b, p1, p2, p3⟩
    have h4 : ∃ b, vals 4 = .pointer (some ⟨b, 0, none⟩) ∧ w1.heap.size ≤ b ∧ w2.heap[b]? = some (.cells (credBox cM) 47 (0, 0)) := by
      obtain ⟨b, p1, p2, p3⟩ := hW.p4 (hL 6 (by decide))
      rw [putAll_in _ _ _ 4 (by decide) (by decide) (by show (4 : Nat) < 79; decide)] at p1
      injection p1 with p1
      rw [hL 8 (by decide)] at p3
      exact ⟨b, p1, p2, p3⟩
    obtain ⟨c, h3, hcl, hcb⟩ := h3
    obtain ⟨d, h4, hdl, hdb⟩ := h4
    have hc2 : Chg (fun _ => False) w1 w2 := hW.ch.mono (fun i hi h => absurd hi (Nat.not_lt.2 h))
    have H2 : Hid (w2.heap[c]? = some (.cells (credBox cI) 47 (0, 0)) ∧ w2.heap[d]? = some (.cells (credBox cM) 47 (0, 0)) ∧ w2.heap[X]? = some (.cells #[.string ⟨#[97]⟩, .string ⟨#[114]⟩] 24 (0, 0)) ∧ Chg (fun _ => False) w w2) := hid ⟨hcb, hdb, blk_keep HX.out.1 hc2 id, HC1.out.trans hc2 (fun _ _ h => h)⟩
    simp only [putAll, List.setIfInBounds_toArray, List.set_cons_zero, List.set_cons_succ, h3, h4]
    clear hL hW hv h3 h4 hcb hdb hc2 HX HC1
    have hcd := cred_at_blk H2.out.1
    obtain ⟨a0, a1, a2, a3, a4, a5, a6, a7, a8⟩ := hcd
    simp only [Nat.zero_add, cI, noneR] at a0 a1 a2 a3 a4 a5 a6 a7 a8
    change _ = some (Value.string ⟨#[97]⟩) at a1
    change _ = some (Value.string ⟨#[114]⟩) at a2
    change _ = some (Value.string ⟨#[]⟩) at a3
    change _ = some (Value.string ⟨#[98]⟩) at a4
    change _ = some (Value.string ⟨#[115]⟩) at a5
    change _ = some (Value.string ⟨#[]⟩) at a6
    change _ = some (Value.string ⟨#[]⟩) at a7
    change _ = some (Value.string ⟨#[]⟩) at a8
    have hL1 : (w2.alloc (.cells #[.int .i64 2, .string ⟨#[97]⟩, .string ⟨#[114]⟩, .string ⟨#[]⟩, .string ⟨#[98]⟩, .string ⟨#[115]⟩, .string ⟨#[]⟩, .string ⟨#[]⟩, .string ⟨#[]⟩] 47)).heap[w2.heap.size]? = some (.cells (credBox cI) 47 (0, 0)) := heap_alloc_new w2 _
    have hal : Chg (fun _ => False) w2 (w2.alloc (.cells #[.int .i64 2, .string ⟨#[97]⟩, .string ⟨#[114]⟩, .string ⟨#[]⟩, .string ⟨#[98]⟩, .string ⟨#[115]⟩, .string ⟨#[]⟩, .string ⟨#[]⟩, .string ⟨#[]⟩] 47)) := (Chg.refl _ w2).alloc _
    have HO := hid (HKH.out.of (D := fun k => k = w2.heap.size) (some ⟨w2.heap.size, 0, none⟩) 1 [cI] (w2.alloc (.cells #[.int .i64 2, .string ⟨#[97]⟩, .string ⟨#[114]⟩, .string ⟨#[]⟩, .string ⟨#[98]⟩, .string ⟨#[115]⟩, .string ⟨#[]⟩, .string ⟨#[]⟩, .string ⟨#[]⟩] 47)) (small_first (by simp) (fun c hc => .inl (List.mem_singleton.1 hc))) (creds_one8 hL1 (short_I.mono (by omega))) (fun e => by cases e) (fun i hi => by subst hi; exact lt_blk hL1))
    have HA1 := hid hal
    clear hL1 hal
    go_wp2_with fail
    refine HO.out.mono ?_
    clear HO a0 a1 a2 a3 a4 a5 a6 a7 a8
    rintro e w3 ⟨g, O, rfl, hma, hol, hc3⟩
    have hc23 := HA1.out.trans hc3 (fun _ _ h => h)
    have hol2 : ∀ i, O i → w2.heap.size ≤ i := fun i hi => Nat.le_trans HA1.out.size (hol i hi)
    have H3 : Hid (w3.heap[c]? = some (.cells (credBox cI) 47 (0, 0)) ∧ w3.heap[d]? = some (.cells (credBox cM) 47 (0, 0)) ∧ w3.heap[X]? = some (.cells #[.string ⟨#[97]⟩, .string ⟨#[114]⟩] 24 (0, 0)) ∧ Chg (fun _ => False) w w3 ∧ MA O w3 g [cI] ∧ (∀ i, O i → w.heap.size ≤ i ∧ i ≠ c ∧ i ≠ d ∧ i ≠ X)) := hid ⟨blk_keep H2.out.1 hc23 id, blk_keep H2.out.2.1 hc23 id, blk_keep H2.out.2.2.1 hc23 id, H2.out.2.2.2.trans hc23 (fun _ _ h => h), hma, fun i hi => by
      have k0 := hol2 i hi
      have k1 := lt_blk H2.out.1
      have k2 := lt_blk H2.out.2.1
      have k3 := H2.out.2.2.2.size
      omega⟩
    clear hma hol hc3 hc23 hol2 HA1 H2
    have hcd := cred_at_blk H3.out.2.1
    obtain ⟨a0, a1, a2, a3, a4, a5, a6, a7, a8⟩ := hcd
    simp only [Nat.zero_add, cM, noneR] at a0 a1 a2 a3 a4 a5 a6 a7 a8
    change _ = some (Value.string ⟨#[98]⟩) at a1
    change _ = some (Value.string ⟨#[115]⟩) at a2
    change _ = some (Value.string ⟨#[100]⟩) at a3
    change _ = some (Value.string ⟨#[]⟩) at a4
    change _ = some (Value.string ⟨#[]⟩) at a5
    change _ = some (Value.string ⟨#[]⟩) at a6
    change _ = some (Value.string ⟨#[]⟩) at a7
    change _ = some (Value.string ⟨#[]⟩) at a8
    have hL1 : (w3.alloc (.cells #[.int .i64 1, .string ⟨#[98]⟩, .string ⟨#[115]⟩, .string ⟨#[100]⟩, .string ⟨#[]⟩, .string ⟨#[]⟩, .string ⟨#[]⟩, .string ⟨#[]⟩, .string ⟨#[]⟩] 47)).heap[w3.heap.size]? = some (.cells (credBox cM) 47 (0, 0)) := heap_alloc_new w3 _
    have hal : Chg (fun _ => False) w3 (w3.alloc (.cells #[.int .i64 1, .string ⟨#[98]⟩, .string ⟨#[115]⟩, .string ⟨#[100]⟩, .string ⟨#[]⟩, .string ⟨#[]⟩, .string ⟨#[]⟩, .string ⟨#[]⟩, .string ⟨#[]⟩] 47)) := (Chg.refl _ w3).alloc _
    have HO := hid (HKH.out.add (D := fun k => k = w3.heap.size) g (some ⟨w3.heap.size, 0, none⟩) 1 [cI] [cM] (w3.alloc (.cells #[.int .i64 1, .string ⟨#[98]⟩, .string ⟨#[115]⟩, .string ⟨#[100]⟩, .string ⟨#[]⟩, .string ⟨#[]⟩, .string ⟨#[]⟩, .string ⟨#[]⟩, .string ⟨#[]⟩] 47)) (HKH.out.keep H3.out.2.2.2.2.1 hal (fun _ _ => id)) (small_first (by simp) (fun c hc => by simpa using hc)) (creds_one8 hL1 (short_M.mono (by omega))) (fun e => by cases e) (fun i hi => by subst hi; exact lt_blk hL1))
    have HA1 := hid hal
    clear hL1 hal
    go_wp2_with fail
    refine HO.out.mono ?_
    clear HO a0 a1 a2 a3 a4 a5 a6 a7 a8
    rintro e w4 ⟨O2, he, hma, hol, hc3⟩
    have he2 : e = .returned (.int .i64 2) := he _ _ model_I model_IM
    subst he2
    have hc34 : Chg O w3 w4 := (HA1.out.mono (fun _ _ h => h.elim)).trans hc3 (fun _ _ h => h)
    have H4 : Hid (w4.heap[c]? = some (.cells (credBox cI) 47 (0, 0)) ∧ w4.heap[X]? = some (.cells #[.string ⟨#[97]⟩, .string ⟨#[114]⟩] 24 (0, 0)) ∧ Chg (fun _ => False) w w4 ∧ MA O2 w4 g ([cI] ++ [cM]) ∧ (∀ i, O2 i → w.heap.size ≤ i ∧ i ≠ c ∧ i ≠ X)) := hid ⟨blk_keep H3.out.1 hc34 (fun h => (H3.out.2.2.2.2.2 _ h).2.1 rfl), blk_keep H3.out.2.2.1 hc34 (fun h => (H3.out.2.2.2.2.2 _ h).2.2.2 rfl), H3.out.2.2.2.1.trans hc34 (fun i hi h => absurd hi (Nat.not_lt.2 (H3.out.2.2.2.2.2 _ h).1)), hma, fun i hi => by
      rcases hol i hi with h | h
      · have := H3.out.2.2.2.2.2 i h; exact ⟨this.1, this.2.1, this.2.2.2⟩
      · have k0 := HA1.out.size
        have k1 := lt_blk H3.out.1
        have k2 := lt_blk H3.out.2.2.1
        have k3 := H3.out.2.2.2.1.size
        omega⟩
    clear he hma hol hc3 hc34 HA1 H3
    have hcd := cred_at_blk H4.out.1
    obtain ⟨a0, a1, a2, a3, a4, a5, a6, a7, a8⟩ := hcd
    simp only [Nat.zero_add, cI, noneR] at a0 a1 a2 a3 a4 a5 a6 a7 a8
    change _ = some (Value.string ⟨#[97]⟩) at a1
    change _ = some (Value.string ⟨#[114]⟩) at a2
    change _ = some (Value.string ⟨#[]⟩) at a3
    change _ = some (Value.string ⟨#[98]⟩) at a4
    change _ = some (Value.string ⟨#[115]⟩) at a5
    change _ = some (Value.string ⟨#[]⟩) at a6
    change _ = some (Value.string ⟨#[]⟩) at a7
    change _ = some (Value.string ⟨#[]⟩) at a8
    have hal : Chg (fun _ => False) w4 (w4.alloc (.cells #[.string ⟨#[97]⟩, .string ⟨#[100]⟩] 9)) := (Chg.refl _ w4).alloc _
    have hsm2 : SmallC ([cI] ++ [cM]) := small_first (by simp) (fun c hc => by simpa using hc)
    have HQ : Hid (Calls Tryz.prog 23 #[.agg #[.int .i64 2, .string ⟨#[97]⟩, .string ⟨#[114]⟩, .string ⟨#[]⟩, .string ⟨#[98]⟩, .string ⟨#[115]⟩, .string ⟨#[]⟩, .string ⟨#[]⟩, .string ⟨#[]⟩], .func (.func 12) #[.pointer (some ⟨g, 0, none⟩)] #[], .slice (some ⟨w4.heap.size, 0, none⟩) 2 2] (w4.alloc (.cells #[.string ⟨#[97]⟩, .string ⟨#[100]⟩] 9)) fun e w' => ∃ hs ao cp, e = .returned (.slice ao hs.length cp) ∧ FactsAt (fun i => (w4.alloc (.cells #[.string ⟨#[97]⟩, .string ⟨#[100]⟩] 9)).heap.size ≤ i ∧ i < w'.heap.size) w' ao hs ∧ HoldsOf (inF [fA, fB]) cI [[97], [100]] hs ∧ Chg (fun _ => False) (w4.alloc (.cells #[.string ⟨#[97]⟩, .string ⟨#[100]⟩] 9)) w') := hid (HKH.out.holds (D := fun k => k = w4.heap.size) 12 #[.pointer (some ⟨g, 0, none⟩)] #[] (inF [fA, fB]) cI (some ⟨w4.heap.size, 0, none⟩) 2 [[97], [100]] (w4.alloc (.cells #[.string ⟨#[97]⟩, .string ⟨#[100]⟩] 9)) (short_I.mono (by omega)) (by simp) (fun x hx => by rcases List.mem_cons.1 hx with rfl | hx <;> first | decide | (rw [List.mem_singleton.1 hx]; decide)) (strs_two w4) (fun i hi => by subst hi; simp) enters_in (ask_in HKH.out (HKH.out.keep H4.out.2.2.2.1 hal (fun _ _ => id)) hsm2 model_IM))
    have HA1 := hid (And.intro hal hsm2)
    clear hal hsm2
    go_wp2_with fail
    refine HQ.out.mono ?_
    clear HQ a0 a1 a2 a3 a4 a5 a6 a7 a8
    rintro e w5 ⟨hs, ah, ch, rfl, hfa, hho, hc5⟩
    have hs1 := hho.one holds_first
    subst hs1
    obtain ⟨hb, ho, rfl, hDb, hf⟩ := hfa 0 (by simp)
    have hc45 := HA1.out.1.trans hc5 (fun _ _ h => h)
    have H5 : Hid (w5.heap[c]? = some (.cells (credBox cI) 47 (0, 0)) ∧ w5.heap[X]? = some (.cells #[.string ⟨#[97]⟩, .string ⟨#[114]⟩] 24 (0, 0)) ∧ Chg (fun _ => False) w w5 ∧ MA O2 w5 g ([cI] ++ [cM]) ∧ (∀ i, O2 i → w.heap.size ≤ i ∧ i ≠ c ∧ i ≠ X) ∧ FactAt w5 hb ho fA ∧ ¬ O2 hb) := hid ⟨blk_keep H4.out.1 hc45 id, blk_keep H4.out.2.1 hc45 id, H4.out.2.2.1.trans hc45 (fun _ _ h => h), HKH.out.keep H4.out.2.2.2.1 hc45 (fun _ _ => id), H4.out.2.2.2.2, by simpa using hf, fun h => by
      have k1 := HKH.out.low H4.out.2.2.2.1 _ h
      have k2 := HA1.out.1.size
      have k3 := hDb.1
      omega⟩
    have HSM := hid HA1.out.2
    clear hfa hho hc5 hc45 hDb hf H4 HA1
    go_wp2_with fail
    obtain ⟨B, hB⟩ : ∃ B, B = w5.heap.size := ⟨_, rfl⟩
    have HV : Hid (w5.heap[c]? = some (.cells (credBox cI) 47 (0, 0)) ∧ w5.heap[X]? = some (.cells #[.string ⟨#[97]⟩, .string ⟨#[114]⟩] 24 (0, 0)) ∧ Chg (fun _ => False) w w5 ∧ (∀ i, O2 i → w.heap.size ≤ i ∧ i ≠ c ∧ i ≠ X) ∧ FactAt w5 hb ho fA ∧ ¬ O2 hb) := hid ⟨H5.out.1, H5.out.2.1, H5.out.2.2.1, H5.out.2.2.2.2⟩
    have hstart : SixW MA O2 g B w5 (fun _ => false) w5.drew := ⟨(Chg.refl _ _).drew, (by rw [hB]; exact Nat.le_refl _), (by rw [hB]; exact HKH.out.low H5.out.2.2.2.1), HKH.out, (fun _ => HKH.out.keep H5.out.2.2.2.1 ((Chg.refl (fun _ => False) w5).drew) (fun _ _ => id)), (fun _ _ _ h => by cases h)⟩
    clear hB H5
    refine wp_region_state (Chg O2) (SixW MA O2 g B w5) (specAtR (mfSpecs6 O2 g X c hb ho ch B (fun i hi h => hstart.hlo i hi h))) [27, 28, 29, 30, 31, 32, 33, 34, 35, 36, 37, 38, 39, 40, 41, 42, 43, 44, 45, 46, 47, 48, 49, 50, 51, 52, 53, 54, 55, 56, 57, 58, 59, 60, 61, 62, 63, 64, 65, 66, 67, 68, 69, 70, 71, 72, 73, 74, 75, 76, 77, 78, 0] [1, 3, 5, 6, 7] (by kernel_rfl) (by kernel_rfl) hstart (fun t v w w' hc h => specAtR_st _ t v w w' hc h) (by rfl) (by kernel_rfl) ?start ?obs ?fin
    case start =>
      simp only [List.forall_mem_cons]; exact ⟨⟨_, rfl, rfl⟩, ⟨_, rfl, rfl⟩, ⟨_, rfl, rfl⟩, ⟨_, rfl, rfl⟩, ⟨_, rfl, rfl⟩, fun _ h => by cases h⟩
    case obs =>
      refine ObsL.cons none (by kernel_rfl) ?_ ?_
      · refine ObL.plain fun L a w hi he hW hk K k => ?_
        obtain ⟨_, e6, f6⟩ := hk 6 (by decide)
        clear hk
        have hp : ∀ p, pre6 0 = some p → L p = true := fun p e => by cases e
        have hS := hW.step (i := 0) (by decide) hp
        clear hp
        clear hi he hW
        go_simp
        exact k _ _ (Chg.refl _ _) hS f6
      refine ObsL.cons none (by kernel_rfl) ?_ ?_
      · refine ObL.plain fun L a w hi he hW hk K k => ?_
        obtain ⟨_, e27, rfl⟩ := hk 27 (by decide)
        clear hk
        have lp : L 0 = true := he ⟨0, Ground.data⟩ (by simp) (by decide)
        have hp : ∀ p, pre6 1 = some p → L p = true := fun p e => by cases e; exact lp
        have hS := hW.step (i := 1) (by decide) hp
        clear hp
        clear hi he hW
        go_simp
        exact k _ _ (Chg.refl _ _) hS rfl
      refine ObsL.cons none (by kernel_rfl) ?_ ?_
      · refine ObL.plain fun L a w hi he hW hk K k => ?_
        obtain ⟨_, e28, f28⟩ := hk 28 (by decide)
        clear hk
        have lp : L 1 = true := he ⟨1, Ground.data⟩ (by simp) (by decide)
        have hp : ∀ p, pre6 2 = some p → L p = true := fun p e => by cases e; exact lp
        have hS := hW.step (i := 2) (by decide) hp
        clear hp
        clear hi he hW
        go_simp
        exact k _ _ (Chg.refl _ _) hS f28
      refine ObsL.cons (some (29, true)) (by kernel_rfl) ?_ ?_
      · refine ObL.yes (fun _ _ h => h) fun L a w hi he hW hk K k => ?_
        obtain ⟨_, e5, f5⟩ := hk 5 (by decide)
        clear hk
        have hp : ∀ p, pre6 3 = some p → L p = true := fun p e => by cases e
        have hS := hW.step (i := 3) (by decide) hp
        clear hp
        clear hi he hW
        go_simp
        exact k _ _ (Chg.refl _ _) hS f5
      refine ObsL.cons (some (29, true)) (by kernel_rfl) ?_ ?_
      · refine ObL.yes (fun _ _ h => h) fun L a w hi he hW hk K k => ?_
        obtain ⟨_, e1, rfl⟩ := hk 1 (by decide)
        clear hk
        obtain ⟨q0, q1⟩ := (⟨cell_blk (blk_keep HV.out.2.1 hW.ch (fun h => (HV.out.2.2.2.1 _ h).2.2 rfl)) 0, cell_blk (blk_keep HV.out.2.1 hW.ch (fun h => (HV.out.2.2.2.1 _ h).2.2 rfl)) 1⟩ : _ ∧ _)
        simp only [List.getElem?_toArray, List.getElem?_cons_zero, List.getElem?_cons_succ] at q0 q1
        have hp : ∀ p, pre6 4 = some p → L p = true := fun p e => by cases e
        have hS := hW.step (i := 4) (by decide) hp
        clear hp
        clear hi he hW
        go_simp
        exact k _ _ (Chg.refl _ _) hS rfl
      refine ObsL.cons (some (29, true)) (by kernel_rfl) ?_ ?_
      · refine ObL.yes (fun _ _ h => h) fun L a w hi he hW hk K k => ?_
        obtain ⟨_, e30, rfl⟩ := hk 30 (by decide)
        obtain ⟨_, e31, rfl⟩ := hk 31 (by decide)
        clear hk
        have hma := hW.ma (hW.not36 (j := 5) (by decide) hi)
        have lp : L 2 = true := he ⟨2, Ground.guard⟩ (by simp) (by decide)
        have hp : ∀ p, pre6 5 = some p → L p = true := fun p e => by cases e; exact lp
        have hE := hW.callN (j := 5) (by decide) hp
        have hq := HKH.out.inn g ([cI] ++ [cM]) [fA, fB] ([97], [114]) [100] w hma HSM.out model_IM (by decide) (by decide) (by decide)
        have HE := hid hE
        clear hi he hW hma hE hp
        go_simp
        refine hq.mono ?_
        rintro e w9 ⟨rfl, hc⟩
        exact k _ _ (hc.mono (fun _ _ h => h.elim)) (HE.out _ hc) rfl
      refine ObsL.cons none (by kernel_rfl) ?_ ?_
      · refine ObL.plain fun L a w hi he hW hk K k => ?_
        obtain ⟨_, e29, rfl⟩ := hk 29 (by decide)
        obtain ⟨_, e32, rfl⟩ := hk 32 (by decide)
        clear hk
        have lp : L 5 = true := he ⟨5, Ground.data⟩ (by simp) (by decide)
        have hp : ∀ p, pre6 6 = some p → L p = true := fun p e => by cases e; exact lp
        have hS := hW.step (i := 6) (by decide) hp
        clear hp
        clear hi he hW
        go_simp
        exact k _ _ (Chg.refl _ _) hS rfl
      refine ObsL.cons none (by kernel_rfl) ?_ ?_
      · refine ObL.plain fun L a w hi he hW hk K k => ?_
        obtain ⟨_, e33, f33⟩ := hk 33 (by decide)
        clear hk
        have lp : L 6 = true := he ⟨6, Ground.data⟩ (by simp) (by decide)
        have hp : ∀ p, pre6 7 = some p → L p = true := fun p e => by cases e; exact lp
        have hS := hW.step (i := 7) (by decide) hp
        clear hp
        clear hi he hW
        go_simp
        exact k _ _ (Chg.refl _ _) hS f33
      refine ObsL.cons (some (34, true)) (by kernel_rfl) ?_ ?_
      · refine ObL.yes (fun _ _ h => h) fun L a w hi he hW hk K k => ?_
        obtain ⟨_, e5, f5⟩ := hk 5 (by decide)
        clear hk
        have hp : ∀ p, pre6 8 = some p → L p = true := fun p e => by cases e
        have hS := hW.step (i := 8) (by decide) hp
        clear hp
        clear hi he hW
        go_simp
        exact k _ _ (Chg.refl _ _) hS f5
      refine ObsL.cons (some (34, true)) (by kernel_rfl) ?_ ?_
      · refine ObL.yes (fun _ _ h => h) fun L a w hi he hW hk K k => ?_
        obtain ⟨_, e1, rfl⟩ := hk 1 (by decide)
        clear hk
        obtain ⟨q0, q1⟩ := (⟨cell_blk (blk_keep HV.out.2.1 hW.ch (fun h => (HV.out.2.2.2.1 _ h).2.2 rfl)) 0, cell_blk (blk_keep HV.out.2.1 hW.ch (fun h => (HV.out.2.2.2.1 _ h).2.2 rfl)) 1⟩ : _ ∧ _)
        simp only [List.getElem?_toArray, List.getElem?_cons_zero, List.getElem?_cons_succ] at q0 q1
        have hp : ∀ p, pre6 9 = some p → L p = true := fun p e => by cases e
        have hS := hW.step (i := 9) (by decide) hp
        clear hp
        clear hi he hW
        go_simp
        exact k _ _ (Chg.refl _ _) hS rfl
      refine ObsL.cons (some (34, true)) (by kernel_rfl) ?_ ?_
      · refine ObL.yes (fun _ _ h => h) fun L a w hi he hW hk K k => ?_
        obtain ⟨_, e35, rfl⟩ := hk 35 (by decide)
        obtain ⟨_, e36, rfl⟩ := hk 36 (by decide)
        clear hk
        have hma := hW.ma (hW.not36 (j := 10) (by decide) hi)
        have lp : L 7 = true := he ⟨7, Ground.guard⟩ (by simp) (by decide)
        have hp : ∀ p, pre6 10 = some p → L p = true := fun p e => by cases e; exact lp
        have hE := hW.callN (j := 10) (by decide) hp
        have hq := HKH.out.inn g ([cI] ++ [cM]) [fA, fB] ([97], [114]) [97] w hma HSM.out model_IM (by decide) (by decide) (by decide)
        have HE := hid hE
        clear hi he hW hma hE hp
        go_simp
        refine hq.mono ?_
        rintro e w9 ⟨rfl, hc⟩
        exact k _ _ (hc.mono (fun _ _ h => h.elim)) (HE.out _ hc) rfl
      refine ObsL.cons (some (34, true)) (by kernel_rfl) ?_ ?_
      · refine ObL.yes (fun _ _ h => h) fun L a w hi he hW hk K k => ?_
        obtain ⟨_, e37, rfl⟩ := hk 37 (by decide)
        clear hk
        have lp : L 10 = true := he ⟨10, Ground.data⟩ (by simp) (by decide)
        have hp : ∀ p, pre6 11 = some p → L p = true := fun p e => by cases e; exact lp
        have hS := hW.step (i := 11) (by decide) hp
        clear hp
        clear hi he hW
        go_simp
        exact k _ _ (Chg.refl _ _) hS rfl
      refine ObsL.cons none (by kernel_rfl) ?_ ?_
      · refine ObL.plain fun L a w hi he hW hk K k => ?_
        obtain ⟨_, e34, rfl⟩ := hk 34 (by decide)
        obtain ⟨_, e38, rfl⟩ := hk 38 (by decide)
        clear hk
        have lp : L 11 = true := he ⟨11, Ground.data⟩ (by simp) (by decide)
        have hp : ∀ p, pre6 12 = some p → L p = true := fun p e => by cases e; exact lp
        have hS := hW.step (i := 12) (by decide) hp
        clear hp
        clear hi he hW
        go_simp
        exact k _ _ (Chg.refl _ _) hS rfl
      refine ObsL.cons none (by kernel_rfl) ?_ ?_
      · refine ObL.plain fun L a w hi he hW hk K k => ?_
        obtain ⟨_, e39, f39⟩ := hk 39 (by decide)
        clear hk
        have lp : L 12 = true := he ⟨12, Ground.data⟩ (by simp) (by decide)
        have hp : ∀ p, pre6 13 = some p → L p = true := fun p e => by cases e; exact lp
        have hS := hW.step (i := 13) (by decide) hp
        clear hp
        clear hi he hW
        go_simp
        exact k _ _ (Chg.refl _ _) hS f39
      refine ObsL.cons (some (40, true)) (by kernel_rfl) ?_ ?_
      · refine ObL.yes (fun _ _ h => h) fun L a w hi he hW hk K k => ?_
        obtain ⟨_, e5, f5⟩ := hk 5 (by decide)
        clear hk
        have hp : ∀ p, pre6 14 = some p → L p = true := fun p e => by cases e
        have hS := hW.step (i := 14) (by decide) hp
        clear hp
        clear hi he hW
        go_simp
        exact k _ _ (Chg.refl _ _) hS f5
      refine ObsL.cons (some (40, true)) (by kernel_rfl) ?_ ?_
      · refine ObL.yes (fun _ _ h => h) fun L a w hi he hW hk K k => ?_
        obtain ⟨_, e1, rfl⟩ := hk 1 (by decide)
        clear hk
        obtain ⟨q0, q1⟩ := (⟨cell_blk (blk_keep HV.out.2.1 hW.ch (fun h => (HV.out.2.2.2.1 _ h).2.2 rfl)) 0, cell_blk (blk_keep HV.out.2.1 hW.ch (fun h => (HV.out.2.2.2.1 _ h).2.2 rfl)) 1⟩ : _ ∧ _)
        simp only [List.getElem?_toArray, List.getElem?_cons_zero, List.getElem?_cons_succ] at q0 q1
        have hp : ∀ p, pre6 15 = some p → L p = true := fun p e => by cases e
        have hS := hW.step (i := 15) (by decide) hp
        clear hp
        clear hi he hW
        go_simp
        exact k _ _ (Chg.refl _ _) hS rfl
      refine ObsL.cons (some (40, true)) (by kernel_rfl) ?_ ?_
      · refine ObL.yes (fun _ _ h => h) fun L a w hi he hW hk K k => ?_
        obtain ⟨_, e41, rfl⟩ := hk 41 (by decide)
        obtain ⟨_, e42, rfl⟩ := hk 42 (by decide)
        clear hk
        have hma := hW.ma (hW.not36 (j := 16) (by decide) hi)
        have lp : L 13 = true := he ⟨13, Ground.guard⟩ (by simp) (by decide)
        have hp : ∀ p, pre6 16 = some p → L p = true := fun p e => by cases e; exact lp
        have hE := hW.callN (j := 16) (by decide) hp
        have hq := HKH.out.members g ([cI] ++ [cM]) [fA, fB] ([97], [114]) w hma HSM.out model_IM (by decide) (by decide)
        have HE := hid hE
        clear hi he hW hma hE hp
        go_simp
        refine hq.mono ?_
        rintro e w9 ⟨⟨a9, c9, rfl, _⟩, hc⟩
        exact k _ _ (hc.mono (fun _ _ h => h.elim)) (HE.out _ hc) ⟨a9, c9, rfl⟩
      refine ObsL.cons (some (40, true)) (by kernel_rfl) ?_ ?_
      · refine ObL.yes (fun _ _ h => h) fun L a w hi he hW hk K k => ?_
        obtain ⟨_, e43, f43⟩ := hk 43 (by decide)
        clear hk
        obtain ⟨a9, c9, rfl⟩ := f43
        have lp : L 16 = true := he ⟨16, Ground.data⟩ (by simp) (by decide)
        have hp : ∀ p, pre6 17 = some p → L p = true := fun p e => by cases e; exact lp
        have hS := hW.step (i := 17) (by decide) hp
        clear hp
        clear hi he hW
        go_simp
        exact k _ _ (Chg.refl _ _) hS rfl
      refine ObsL.cons (some (40, true)) (by kernel_rfl) ?_ ?_
      · refine ObL.yes (fun _ _ h => h) fun L a w hi he hW hk K k => ?_
        obtain ⟨_, e44, rfl⟩ := hk 44 (by decide)
        clear hk
        have lp : L 17 = true := he ⟨17, Ground.data⟩ (by simp) (by decide)
        have hp : ∀ p, pre6 18 = some p → L p = true := fun p e => by cases e; exact lp
        have hS := hW.step (i := 18) (by decide) hp
        clear hp
        clear hi he hW
        go_simp
        exact k _ _ (Chg.refl _ _) hS rfl
      refine ObsL.cons none (by kernel_rfl) ?_ ?_
      · refine ObL.plain fun L a w hi he hW hk K k => ?_
        obtain ⟨_, e40, rfl⟩ := hk 40 (by decide)
        obtain ⟨_, e45, rfl⟩ := hk 45 (by decide)
        clear hk
        have lp : L 18 = true := he ⟨18, Ground.data⟩ (by simp) (by decide)
        have hp : ∀ p, pre6 19 = some p → L p = true := fun p e => by cases e; exact lp
        have hS := hW.step (i := 19) (by decide) hp
        clear hp
        clear hi he hW
        go_simp
        exact k _ _ (Chg.refl _ _) hS rfl
      refine ObsL.cons none (by kernel_rfl) ?_ ?_
      · refine ObL.plain fun L a w hi he hW hk K k => ?_
        obtain ⟨_, e46, f46⟩ := hk 46 (by decide)
        clear hk
        have lp : L 19 = true := he ⟨19, Ground.data⟩ (by simp) (by decide)
        have hp : ∀ p, pre6 20 = some p → L p = true := fun p e => by cases e; exact lp
        have hS := hW.step (i := 20) (by decide) hp
        clear hp
        clear hi he hW
        go_simp
        exact k _ _ (Chg.refl _ _) hS f46
      refine ObsL.cons (some (47, true)) (by kernel_rfl) ?_ ?_
      · refine ObL.yes (fun _ _ h => h) fun L a w hi he hW hk K k => ?_
        obtain ⟨_, e5, f5⟩ := hk 5 (by decide)
        clear hk
        have hp : ∀ p, pre6 21 = some p → L p = true := fun p e => by cases e
        have hS := hW.step (i := 21) (by decide) hp
        clear hp
        clear hi he hW
        go_simp
        exact k _ _ (Chg.refl _ _) hS f5
      refine ObsL.cons (some (47, true)) (by kernel_rfl) ?_ ?_
      · refine ObL.yes (fun _ _ h => h) fun L a w hi he hW hk K k => ?_
        obtain ⟨_, e48, rfl⟩ := hk 48 (by decide)
        clear hk
        have hma := hW.ma (hW.not36 (j := 22) (by decide) hi)
        have lp : L 20 = true := he ⟨20, Ground.guard⟩ (by simp) (by decide)
        have hp : ∀ p, pre6 22 = some p → L p = true := fun p e => by cases e; exact lp
        have hE := hW.callN (j := 22) (by decide) hp
        have hq := HKH.out.roles g ([cI] ++ [cM]) [fA, fB] [100] w hma HSM.out model_IM (by decide)
        have HE := hid hE
        clear hi he hW hma hE hp
        go_simp
        refine hq.mono ?_
        rintro e w9 ⟨⟨a9, c9, rfl, _⟩, hc⟩
        exact k _ _ (hc.mono (fun _ _ h => h.elim)) (HE.out _ hc) ⟨a9, c9, rfl⟩
      refine ObsL.cons (some (47, true)) (by kernel_rfl) ?_ ?_
      · refine ObL.yes (fun _ _ h => h) fun L a w hi he hW hk K k => ?_
        obtain ⟨_, e49, f49⟩ := hk 49 (by decide)
        clear hk
        obtain ⟨a9, c9, rfl⟩ := f49
        have lp : L 22 = true := he ⟨22, Ground.data⟩ (by simp) (by decide)
        have hp : ∀ p, pre6 23 = some p → L p = true := fun p e => by cases e; exact lp
        have hS := hW.step (i := 23) (by decide) hp
        clear hp
        clear hi he hW
        go_simp
        exact k _ _ (Chg.refl _ _) hS rfl
      refine ObsL.cons (some (47, true)) (by kernel_rfl) ?_ ?_
      · refine ObL.yes (fun _ _ h => h) fun L a w hi he hW hk K k => ?_
        obtain ⟨_, e50, rfl⟩ := hk 50 (by decide)
        clear hk
        have lp : L 23 = true := he ⟨23, Ground.data⟩ (by simp) (by decide)
        have hp : ∀ p, pre6 24 = some p → L p = true := fun p e => by cases e; exact lp
        have hS := hW.step (i := 24) (by decide) hp
        clear hp
        clear hi he hW
        go_simp
        exact k _ _ (Chg.refl _ _) hS rfl
      refine ObsL.cons none (by kernel_rfl) ?_ ?_
      · refine ObL.plain fun L a w hi he hW hk K k => ?_
        obtain ⟨_, e47, rfl⟩ := hk 47 (by decide)
        obtain ⟨_, e51, rfl⟩ := hk 51 (by decide)
        clear hk
        have lp : L 24 = true := he ⟨24, Ground.data⟩ (by simp) (by decide)
        have hp : ∀ p, pre6 25 = some p → L p = true := fun p e => by cases e; exact lp
        have hS := hW.step (i := 25) (by decide) hp
        clear hp
        clear hi he hW
        go_simp
        exact k _ _ (Chg.refl _ _) hS rfl
      refine ObsL.cons none (by kernel_rfl) ?_ ?_
      · refine ObL.plain fun L a w hi he hW hk K k => ?_
        obtain ⟨_, e52, f52⟩ := hk 52 (by decide)
        clear hk
        have lp : L 25 = true := he ⟨25, Ground.data⟩ (by simp) (by decide)
        have hp : ∀ p, pre6 26 = some p → L p = true := fun p e => by cases e; exact lp
        have hS := hW.step (i := 26) (by decide) hp
        clear hp
        clear hi he hW
        go_simp
        exact k _ _ (Chg.refl _ _) hS f52
      refine ObsL.cons (some (53, true)) (by kernel_rfl) ?_ ?_
      · refine ObL.yes (fun _ _ h => h) fun L a w hi he hW hk K k => ?_
        obtain ⟨_, e5, f5⟩ := hk 5 (by decide)
        clear hk
        have hp : ∀ p, pre6 27 = some p → L p = true := fun p e => by cases e
        have hS := hW.step (i := 27) (by decide) hp
        clear hp
        clear hi he hW
        go_simp
        exact k _ _ (Chg.refl _ _) hS f5
      refine ObsL.cons (some (53, true)) (by kernel_rfl) ?_ ?_
      · refine ObL.yes (fun _ _ h => h) fun L a w hi he hW hk K k => ?_
        obtain ⟨_, e54, rfl⟩ := hk 54 (by decide)
        clear hk
        have hma := hW.ma (hW.not36 (j := 28) (by decide) hi)
        have lp : L 26 = true := he ⟨26, Ground.guard⟩ (by simp) (by decide)
        have hp : ∀ p, pre6 28 = some p → L p = true := fun p e => by cases e; exact lp
        have hE := hW.callN (j := 28) (by decide) hp
        have hq := HKH.out.facts g ([cI] ++ [cM]) [fA, fB] w hma HSM.out model_IM
        have HE := hid hE
        clear hi he hW hma hE hp
        go_simp
        refine hq.mono ?_
        rintro e w9 ⟨⟨a9, c9, rfl, _⟩, hc⟩
        exact k _ _ (hc.mono (fun _ _ h => h.elim)) (HE.out _ hc) ⟨a9, c9, rfl⟩
      refine ObsL.cons (some (53, true)) (by kernel_rfl) ?_ ?_
      · refine ObL.yes (fun _ _ h => h) fun L a w hi he hW hk K k => ?_
        obtain ⟨_, e55, f55⟩ := hk 55 (by decide)
        clear hk
        obtain ⟨a9, c9, rfl⟩ := f55
        have lp : L 28 = true := he ⟨28, Ground.data⟩ (by simp) (by decide)
        have hp : ∀ p, pre6 29 = some p → L p = true := fun p e => by cases e; exact lp
        have hS := hW.step (i := 29) (by decide) hp
        clear hp
        clear hi he hW
        go_simp
        exact k _ _ (Chg.refl _ _) hS rfl
      refine ObsL.cons (some (53, true)) (by kernel_rfl) ?_ ?_
      · refine ObL.yes (fun _ _ h => h) fun L a w hi he hW hk K k => ?_
        obtain ⟨_, e56, rfl⟩ := hk 56 (by decide)
        clear hk
        have lp : L 29 = true := he ⟨29, Ground.data⟩ (by simp) (by decide)
        have hp : ∀ p, pre6 30 = some p → L p = true := fun p e => by cases e; exact lp
        have hS := hW.step (i := 30) (by decide) hp
        clear hp
        clear hi he hW
        go_simp
        exact k _ _ (Chg.refl _ _) hS rfl
      refine ObsL.cons none (by kernel_rfl) ?_ ?_
      · refine ObL.plain fun L a w hi he hW hk K k => ?_
        obtain ⟨_, e53, rfl⟩ := hk 53 (by decide)
        obtain ⟨_, e57, rfl⟩ := hk 57 (by decide)
        clear hk
        have lp : L 30 = true := he ⟨30, Ground.data⟩ (by simp) (by decide)
        have hp : ∀ p, pre6 31 = some p → L p = true := fun p e => by cases e; exact lp
        have hS := hW.step (i := 31) (by decide) hp
        clear hp
        clear hi he hW
        go_simp
        exact k _ _ (Chg.refl _ _) hS rfl
      refine ObsL.cons none (by kernel_rfl) ?_ ?_
      · refine ObL.plain fun L a w hi he hW hk K k => ?_
        obtain ⟨_, e58, f58⟩ := hk 58 (by decide)
        clear hk
        have lp : L 31 = true := he ⟨31, Ground.data⟩ (by simp) (by decide)
        have hp : ∀ p, pre6 32 = some p → L p = true := fun p e => by cases e; exact lp
        have hS := hW.step (i := 32) (by decide) hp
        clear hp
        clear hi he hW
        go_simp
        exact k _ _ (Chg.refl _ _) hS f58
      refine ObsL.cons (some (59, true)) (by kernel_rfl) ?_ ?_
      · refine ObL.yes (fun _ _ h => h) fun L a w hi he hW hk K k => ?_
        obtain ⟨_, e5, f5⟩ := hk 5 (by decide)
        clear hk
        have hp : ∀ p, pre6 33 = some p → L p = true := fun p e => by cases e
        have hS := hW.step (i := 33) (by decide) hp
        clear hp
        clear hi he hW
        go_simp
        exact k _ _ (Chg.refl _ _) hS f5
      refine ObsL.cons (some (59, true)) (by kernel_rfl) ?_ ?_
      · refine ObL.yes (fun _ _ h => h) fun L a w hi he hW hk K k => ?_
        obtain ⟨_, e3, rfl⟩ := hk 3 (by decide)
        clear hk
        obtain ⟨a0, a1, a2, a3, a4, a5, a6, a7, a8⟩ := cred_at_blk (blk_keep HV.out.1 hW.ch (fun h => (HV.out.2.2.2.1 _ h).2.1 rfl))
        simp only [Nat.zero_add, cI, noneR] at a0 a1 a2 a3 a4 a5 a6 a7 a8
        change _ = some (Value.string ⟨#[97]⟩) at a1
        change _ = some (Value.string ⟨#[114]⟩) at a2
        change _ = some (Value.string ⟨#[]⟩) at a3
        change _ = some (Value.string ⟨#[98]⟩) at a4
        change _ = some (Value.string ⟨#[115]⟩) at a5
        change _ = some (Value.string ⟨#[]⟩) at a6
        change _ = some (Value.string ⟨#[]⟩) at a7
        change _ = some (Value.string ⟨#[]⟩) at a8
        have hp : ∀ p, pre6 34 = some p → L p = true := fun p e => by cases e
        have hS := hW.step (i := 34) (by decide) hp
        clear hp
        clear hi he hW
        go_simp
        exact k _ _ (Chg.refl _ _) hS rfl
      refine ObsL.cons (some (59, true)) (by kernel_rfl) ?_ ?_
      · refine ObL.yes (fun _ _ h => h) fun L a w hi he hW hk K k => ?_
        obtain ⟨_, e61, rfl⟩ := hk 61 (by decide)
        clear hk
        have hb := heap_alloc_new w (.cells #[.int .i64 2, .string ⟨#[97]⟩, .string ⟨#[114]⟩, .string ⟨#[]⟩, .string ⟨#[98]⟩, .string ⟨#[115]⟩, .string ⟨#[]⟩, .string ⟨#[]⟩, .string ⟨#[]⟩] 47)
        have hp : ∀ p, pre6 35 = some p → L p = true := fun p e => by cases e
        have hS := hW.quiet (j := 35) (by decide) hp ((Chg.refl (fun _ => False) w).alloc (.cells #[.int .i64 2, .string ⟨#[97]⟩, .string ⟨#[114]⟩, .string ⟨#[]⟩, .string ⟨#[98]⟩, .string ⟨#[115]⟩, .string ⟨#[]⟩, .string ⟨#[]⟩, .string ⟨#[]⟩] 47))
        have hlow := hW.lo
        clear hi he hW
        go_simp
        exact k _ _ ((Chg.refl _ _).alloc _) hS ⟨_, rfl, hlow, hb⟩
      refine ObsL.cons (some (59, true)) (by kernel_rfl) ?_ ?_
      · refine ObL.yes (fun _ _ h => h) fun L a w hi he hW hk K k => ?_
        obtain ⟨_, e60, rfl⟩ := hk 60 (by decide)
        obtain ⟨_, e62, f62⟩ := hk 62 (by decide)
        clear hk
        obtain ⟨b9, rfl, hb9, hbk⟩ := f62
        have hma := hW.ma hi
        have hq := HKH.out.add (D := fun k => k = b9) g (some ⟨b9, 0, none⟩) 1 ([cI] ++ [cM]) [cI] w hma (small_first (by simp) (fun c hc => by simp at hc; rcases hc with h | h | h <;> simp [h])) (creds_one8 hbk (short_I.mono (by omega))) (fun e => by cases e) (fun i hi => by subst hi; exact lt_blk hbk)
        have lp : L 32 = true := he ⟨32, Ground.guard⟩ (by simp) (by decide)
        have hp : ∀ p, pre6 36 = some p → L p = true := fun p e => by cases e; exact lp
        have hE := hW.added hp
        have HE := hid hE
        clear hi he hW hma hE hbk hp
        go_simp
        refine hq.mono ?_
        rintro e w9 ⟨O9, he9, hma9, hO9, hc⟩
        have he0 : e = .returned (.int .i64 0) := he9 _ _ model_IM model_IMI
        subst he0
        exact k _ _ hc (HE.out _ hc) rfl
      refine ObsL.cons (some (59, true)) (by kernel_rfl) ?_ ?_
      · refine ObL.yes (fun _ _ h => h) fun L a w hi he hW hk K k => ?_
        obtain ⟨_, e63, rfl⟩ := hk 63 (by decide)
        clear hk
        have hp : ∀ p, pre6 37 = some p → L p = true := fun p e => by cases e
        have hS := hW.step (i := 37) (by decide) hp
        clear hp
        clear hi he hW
        go_simp
        exact k _ _ (Chg.refl _ _) hS rfl
      refine ObsL.cons none (by kernel_rfl) ?_ ?_
      · refine ObL.plain fun L a w hi he hW hk K k => ?_
        obtain ⟨_, e59, rfl⟩ := hk 59 (by decide)
        obtain ⟨_, e64, rfl⟩ := hk 64 (by decide)
        clear hk
        have hp : ∀ p, pre6 38 = some p → L p = true := fun p e => by cases e
        have hS := hW.step (i := 38) (by decide) hp
        clear hp
        clear hi he hW
        go_simp
        exact k _ _ (Chg.refl _ _) hS rfl
      refine ObsL.cons none (by kernel_rfl) ?_ ?_
      · refine ObL.plain fun L a w hi he hW hk K k => ?_
        obtain ⟨_, e65, f65⟩ := hk 65 (by decide)
        clear hk
        have hp : ∀ p, pre6 39 = some p → L p = true := fun p e => by cases e
        have hS := hW.step (i := 39) (by decide) hp
        clear hp
        clear hi he hW
        go_simp
        exact k _ _ (Chg.refl _ _) hS f65
      refine ObsL.cons (some (66, true)) (by kernel_rfl) ?_ ?_
      · refine ObL.yes (fun _ _ h => h) fun L a w hi he hW hk K k => ?_
        obtain ⟨_, e7, f7⟩ := hk 7 (by decide)
        clear hk
        have hp : ∀ p, pre6 40 = some p → L p = true := fun p e => by cases e
        have hS := hW.step (i := 40) (by decide) hp
        clear hp
        clear hi he hW
        go_simp
        exact k _ _ (Chg.refl _ _) hS f7
      refine ObsL.cons (some (66, true)) (by kernel_rfl) ?_ ?_
      · refine ObL.yes (fun _ _ h => h) fun L a w hi he hW hk K k => ?_
        obtain ⟨_, e67, rfl⟩ := hk 67 (by decide)
        clear hk
        have hp : ∀ p, pre6 41 = some p → L p = true := fun p e => by cases e
        have hS := hW.step (i := 41) (by decide) hp
        clear hp
        clear hi he hW
        go_simp
        exact k _ _ (Chg.refl _ _) hS rfl
      refine ObsL.cons (some (66, true)) (by kernel_rfl) ?_ ?_
      · refine ObL.yes (fun _ _ h => h) fun L a w hi he hW hk K k => ?_
        obtain ⟨_, e68, rfl⟩ := hk 68 (by decide)
        clear hk
        have hp : ∀ p, pre6 42 = some p → L p = true := fun p e => by cases e
        have hS := hW.step (i := 42) (by decide) hp
        clear hp
        clear hi he hW
        go_simp
        exact k _ _ (Chg.refl _ _) hS rfl
      refine ObsL.cons none (by kernel_rfl) ?_ ?_
      · refine ObL.plain fun L a w hi he hW hk K k => ?_
        obtain ⟨_, e66, rfl⟩ := hk 66 (by decide)
        obtain ⟨_, e69, rfl⟩ := hk 69 (by decide)
        clear hk
        have hp : ∀ p, pre6 43 = some p → L p = true := fun p e => by cases e
        have hS := hW.step (i := 43) (by decide) hp
        clear hp
        clear hi he hW
        go_simp
        exact k _ _ (Chg.refl _ _) hS rfl
      refine ObsL.cons none (by kernel_rfl) ?_ ?_
      · refine ObL.plain fun L a w hi he hW hk K k => ?_
        obtain ⟨_, e70, f70⟩ := hk 70 (by decide)
        clear hk
        have hp : ∀ p, pre6 44 = some p → L p = true := fun p e => by cases e
        have hS := hW.step (i := 44) (by decide) hp
        clear hp
        clear hi he hW
        go_simp
        exact k _ _ (Chg.refl _ _) hS f70
      refine ObsL.cons (some (71, true)) (by kernel_rfl) ?_ ?_
      · refine ObL.yes (fun _ _ h => h) fun L a w hi he hW hk K k => ?_
        obtain ⟨_, e7, f7⟩ := hk 7 (by decide)
        clear hk
        have hp : ∀ p, pre6 45 = some p → L p = true := fun p e => by cases e
        have hS := hW.step (i := 45) (by decide) hp
        clear hp
        clear hi he hW
        go_simp
        exact k _ _ (Chg.refl _ _) hS f7
      refine ObsL.cons (some (71, true)) (by kernel_rfl) ?_ ?_
      · refine ObL.yes (fun _ _ h => h) fun L a w hi he hW hk K k => ?_
        obtain ⟨_, e72, rfl⟩ := hk 72 (by decide)
        clear hk
        have hp : ∀ p, pre6 46 = some p → L p = true := fun p e => by cases e
        have hS := hW.step (i := 46) (by decide) hp
        clear hp
        clear hi he hW
        go_simp
        exact k _ _ (Chg.refl _ _) hS rfl
      refine ObsL.cons (some (71, true)) (by kernel_rfl) ?_ ?_
      · refine ObL.yes (fun _ _ h => h) fun L a w hi he hW hk K k => ?_
        obtain ⟨_, e73, rfl⟩ := hk 73 (by decide)
        clear hk
        obtain ⟨y0, y1, y2⟩ := HV.out.2.2.2.2.1.keep hW.ch HV.out.2.2.2.2.2
        change _ = some (Value.string ⟨#[97]⟩) at y0
        change _ = some (Value.string ⟨#[114]⟩) at y1
        change _ = some (Value.string ⟨#[100]⟩) at y2
        have hp : ∀ p, pre6 47 = some p → L p = true := fun p e => by cases e
        have hS := hW.step (i := 47) (by decide) hp
        clear hp
        clear hi he hW
        go_simp
        exact k _ _ (Chg.refl _ _) hS rfl
      refine ObsL.cons (some (71, true)) (by kernel_rfl) ?_ ?_
      · refine ObL.yes (fun _ _ h => h) fun L a w hi he hW hk K k => ?_
        obtain ⟨_, e1, rfl⟩ := hk 1 (by decide)
        clear hk
        obtain ⟨q0, q1⟩ := (⟨cell_blk (blk_keep HV.out.2.1 hW.ch (fun h => (HV.out.2.2.2.1 _ h).2.2 rfl)) 0, cell_blk (blk_keep HV.out.2.1 hW.ch (fun h => (HV.out.2.2.2.1 _ h).2.2 rfl)) 1⟩ : _ ∧ _)
        simp only [List.getElem?_toArray, List.getElem?_cons_zero, List.getElem?_cons_succ] at q0 q1
        have hp : ∀ p, pre6 48 = some p → L p = true := fun p e => by cases e
        have hS := hW.step (i := 48) (by decide) hp
        clear hp
        clear hi he hW
        go_simp
        exact k _ _ (Chg.refl _ _) hS rfl
      refine ObsL.cons (some (71, true)) (by kernel_rfl) ?_ ?_
      · refine ObL.yes (fun _ _ h => h) fun L a w hi he hW hk K k => ?_
        obtain ⟨_, e75, rfl⟩ := hk 75 (by decide)
        clear hk
        have hp : ∀ p, pre6 49 = some p → L p = true := fun p e => by cases e
        have hS := hW.step (i := 49) (by decide) hp
        clear hp
        clear hi he hW
        go_simp
        exact k _ _ (Chg.refl _ _) hS rfl
      refine ObsL.cons (some (71, true)) (by kernel_rfl) ?_ ?_
      · refine ObL.yes (fun _ _ h => h) fun L a w hi he hW hk K k => ?_
        obtain ⟨_, e74, rfl⟩ := hk 74 (by decide)
        obtain ⟨_, e76, rfl⟩ := hk 76 (by decide)
        clear hk
        have hp : ∀ p, pre6 50 = some p → L p = true := fun p e => by cases e
        have hS := hW.step (i := 50) (by decide) hp
        clear hp
        clear hi he hW
        go_simp
        exact k _ _ (Chg.refl _ _) hS rfl
      refine ObsL.cons none (by kernel_rfl) ?_ ?_
      · refine ObL.plain fun L a w hi he hW hk K k => ?_
        obtain ⟨_, e71, rfl⟩ := hk 71 (by decide)
        obtain ⟨_, e77, rfl⟩ := hk 77 (by decide)
        clear hk
        have hp : ∀ p, pre6 51 = some p → L p = true := fun p e => by cases e
        have hS := hW.step (i := 51) (by decide) hp
        clear hp
        clear hi he hW
        go_simp
        exact k _ _ (Chg.refl _ _) hS rfl
      refine ObsL.cons none (by kernel_rfl) ?_ ?_
      · refine ObL.plain fun L a w hi he hW hk K k => ?_
        obtain ⟨_, e78, f78⟩ := hk 78 (by decide)
        clear hk
        have hp : ∀ p, pre6 52 = some p → L p = true := fun p e => by cases e
        have hS := hW.step (i := 52) (by decide) hp
        clear hp
        clear hi he hW
        go_simp
        exact k _ _ (Chg.refl _ _) hS f78
      exact ObsL.nil
    case fin =>
      intro L vals w9 hL hW hv
      have h0 : vals 0 = .bool true := hv 0 (by decide)
      simp only [putAll, List.setIfInBounds_toArray, List.set_cons_zero, List.set_cons_succ, h0]
      have hfin : Chg (fun _ => False) w w9 := HV.out.2.2.1.trans hW.ch (fun i hi h => absurd hi (Nat.not_lt.2 (HV.out.2.2.2.1 i h).1))
      clear hv hL hW h0
      go_wp2
      go_ret
      exact ⟨rfl, hfin⟩
end Go.Proofs.YtanompfdjfgfbaaGreat
