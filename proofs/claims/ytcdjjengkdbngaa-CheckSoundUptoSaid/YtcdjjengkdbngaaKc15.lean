/- Law 9's first, over the contracts of CheckK and CheckG. -/
import Derived.Test.YtcdjjengkdbngaaKc14
namespace Go.Proofs.Ytcdjjengkdbngaa
open Go.RowKit

def cfSp2 (X B : Nat) : List (SpecR (Chg (fun i => B ≤ i))) := [.any, .eq (.pointer (some ⟨X, 0, none⟩)), .eq (.pointer (some ⟨X + 1, 0, none⟩)), .any, .any, .any, .any, .any, .any, .any, .any, .any, .any, .any, .any, .any, .any, .any, .any, .eq (.agg #[.string ⟨#[97]⟩, .string ⟨#[114]⟩]), .eq (.agg #[.string ⟨#[98]⟩, .string ⟨#[115]⟩]), .eq (.agg #[.int .i64 2, .string ⟨#[97]⟩, .string ⟨#[114]⟩, .string ⟨#[]⟩, .string ⟨#[98]⟩, .string ⟨#[115]⟩, .string ⟨#[]⟩, .string ⟨#[]⟩, .string ⟨#[]⟩]), .eq (.agg #[.string ⟨#[98]⟩, .string ⟨#[115]⟩]), .eq (.agg #[.int .i64 1, .string ⟨#[98]⟩, .string ⟨#[115]⟩, .string ⟨#[100]⟩, .string ⟨#[]⟩, .string ⟨#[]⟩, .string ⟨#[]⟩, .string ⟨#[]⟩, .string ⟨#[]⟩]), .any, .any, .any, .any, .any, .any, .any, .any, .any, .any, .any, .any, .any, .any, .any, .any, .any, .any, .any, .any, .any, .any, .any, .any, .any, .any, .any, .any, .any, .any, .any, .any, .any, .any, .any, .any, .any, .any, .any, .any, .any, .any, .any, .any, .any, .any, .any, .any, .any, .any, .any, .any, .any, .any, .any, .any, .any, .any, .any, .any, .any, .any, .any, .any, .any, .any, .any, .any, .any, .any, .any, .any, .any, .any, .any, .any, .any, .any, .any, .any, .any, .any, .any, .any, .any, .any, .any, .any, .any, .any, .any, .any, .any, .any, .any, .any, .any, .any, .any, .any, .any, .any, .any, .any, .any]
def cfSp3 (X c d B : Nat) : List (SpecR (Chg (fun i => B ≤ i))) := [.any, .eq (.pointer (some ⟨X, 0, none⟩)), .eq (.pointer (some ⟨X + 1, 0, none⟩)), .eq (.pointer (some ⟨c, 0, none⟩)), .eq (.pointer (some ⟨d, 0, none⟩)), .any, .any, .any, .any, .any, .any, .any, .any, .any, .any, .any, .any, .any, .any, .any, .any, .any, .any, .any, .eq (.agg #[.int .i64 1, .string ⟨#[98]⟩, .string ⟨#[115]⟩, .string ⟨#[100]⟩, .string ⟨#[]⟩, .string ⟨#[]⟩, .string ⟨#[]⟩, .string ⟨#[]⟩, .string ⟨#[]⟩]), .eq (.agg #[.string ⟨#[98]⟩, .string ⟨#[115]⟩]), .eq (.agg #[.string ⟨#[98]⟩, .string ⟨#[115]⟩, .string ⟨#[100]⟩]), .eq (.agg #[.int .i64 1, .string ⟨#[98]⟩, .string ⟨#[115]⟩, .string ⟨#[100]⟩, .string ⟨#[]⟩, .string ⟨#[]⟩, .string ⟨#[]⟩, .string ⟨#[]⟩, .string ⟨#[]⟩, .string ⟨#[98]⟩, .string ⟨#[115]⟩, .string ⟨#[100]⟩]), .eq (.agg #[.int .i64 2, .string ⟨#[97]⟩, .string ⟨#[114]⟩, .string ⟨#[]⟩, .string ⟨#[98]⟩, .string ⟨#[115]⟩, .string ⟨#[]⟩, .string ⟨#[]⟩, .string ⟨#[]⟩]), .eq (.agg #[.string ⟨#[97]⟩, .string ⟨#[114]⟩]), .eq (.agg #[.string ⟨#[97]⟩, .string ⟨#[114]⟩, .string ⟨#[100]⟩]), .eq (.agg #[.int .i64 2, .string ⟨#[97]⟩, .string ⟨#[114]⟩, .string ⟨#[]⟩, .string ⟨#[98]⟩, .string ⟨#[115]⟩, .string ⟨#[]⟩, .string ⟨#[]⟩, .string ⟨#[]⟩, .string ⟨#[97]⟩, .string ⟨#[114]⟩, .string ⟨#[100]⟩]), .any, .any, .any, .any, .any, .any, .any, .any, .any, .any, .any, .any, .any, .any, .any, .any, .any, .any, .any, .any, .any, .any, .any, .any, .any, .any, .any, .any, .any, .any, .any, .any, .any, .any, .any, .any, .any, .any, .any, .any, .any, .any, .any, .any, .any, .any, .any, .any, .any, .any, .any, .any, .any, .any, .any, .any, .any, .any, .any, .any, .any, .any, .any, .any, .any, .any, .any, .any, .any, .any, .any, .any, .any, .any, .any, .any, .any, .any, .any, .any, .any, .any, .any, .any, .any, .any, .any, .any, .any, .any, .any, .any, .any, .any, .any, .any, .any]

def Spec.twoS9 : Spec := ⟨fun v w => ∃ b, v = .slice (some ⟨b, 0, none⟩) 2 2 ∧ StepsAt (fun k => k = b) w (some ⟨b, 0, none⟩) [stX, stY] ∧ b < w.heap.size, fun _ _ _ hc ⟨b, h1, h2, h3⟩ => ⟨b, h1, h2.keep hc (fun _ _ => id), Nat.lt_of_lt_of_le h3 hc.size⟩⟩
def cfSp11 (x y V vb vo u cap : Nat) : List Spec := [.eq (.bool true), .any, .any, .any, .any, .eq (.pointer (some ⟨x, 0, none⟩)), .eq (.pointer (some ⟨y, 0, none⟩)), .eq (.int .i64 2), .eq (.int .i64 0), .eq (.int .i64 0), .eq (.int .i64 50), .any, .eq (.int .i64 42), .any, .eq (.bool true), .eq (.pointer (some ⟨V, 0, none⟩)), .eq (.int .i64 0), .any, .any, .any, .any, .any, .any, .any, .any, .any, .any, .any, .any, .any, .any, .any, .any, .any, .any, .any, .any, .any, .any, .any, .any, .any, .any, .any, .any, .any, .any, .any, .any, .any, .any, .any, .any, .any, .any, .any, .any, .any, .any, .any, .any, .any, .any, .any, .any, .any, .any, .any, .any, .any, .any, .any, .any, .any, .any, .any, .any, .eq (.int .i64 2), .eq (.bool true), .eq (.bool true), .eq (.int .i64 0), .eq (.bool true), .eq (.bool true), .eq (.bool true), .eq (.int .i64 0), .eq (.bool true), .eq (.bool true), .eq (.bool true), .eq (.int .i64 50), .eq (.bool true), .eq (.bool true), .eq (.bool true), .eq (.int .i64 42), .eq (.bool true), .eq (.bool true), .eq (.bool true), .eq (.agg #[.int .i64 1, .string ⟨#[98]⟩, .string ⟨#[115]⟩, .string ⟨#[100]⟩, .string ⟨#[]⟩, .string ⟨#[]⟩, .string ⟨#[]⟩, .string ⟨#[]⟩, .string ⟨#[]⟩, .string ⟨#[98]⟩, .string ⟨#[115]⟩, .string ⟨#[100]⟩]), .eq (.bool true), .eq (.bool true), .eq (.bool true), .eq (.agg #[.int .i64 2, .string ⟨#[97]⟩, .string ⟨#[114]⟩, .string ⟨#[]⟩, .string ⟨#[98]⟩, .string ⟨#[115]⟩, .string ⟨#[]⟩, .string ⟨#[]⟩, .string ⟨#[]⟩, .string ⟨#[97]⟩, .string ⟨#[114]⟩, .string ⟨#[100]⟩]), .eq (.bool false), .eq (.bool true), .eq (.bool true), .eq (.bool true), .eq (.agg #[.int .i64 1, .string ⟨#[98]⟩, .string ⟨#[115]⟩, .string ⟨#[100]⟩, .string ⟨#[]⟩, .string ⟨#[]⟩, .string ⟨#[]⟩, .string ⟨#[]⟩, .string ⟨#[]⟩, .string ⟨#[98]⟩, .string ⟨#[115]⟩, .string ⟨#[100]⟩]), .eq (.agg #[.int .i64 2, .string ⟨#[97]⟩, .string ⟨#[114]⟩, .string ⟨#[]⟩, .string ⟨#[98]⟩, .string ⟨#[115]⟩, .string ⟨#[]⟩, .string ⟨#[]⟩, .string ⟨#[]⟩, .string ⟨#[97]⟩, .string ⟨#[114]⟩, .string ⟨#[100]⟩]), .twoS9, .eq (.bool true), .eq (.bool true), .eq (.bool true), .eq (.bool true), .eq (.bool true), .eq (.bool true), .eq (.int .i64 0), .eq (.bool true), .eq (.bool true), .eq (.bool true), .eq (.slice (some ⟨vb, vo, none⟩) 2 cap), .eq (.int .i64 2), .eq (.bool true), .eq (.bool true), .eq (.bool true), .eq (.slice (some ⟨vb, vo, none⟩) 2 cap), .eq (.pointer (some ⟨vb, u, none⟩)), .eq (.agg #[.int .i64 2, .string ⟨#[97]⟩, .string ⟨#[114]⟩, .string ⟨#[]⟩, .string ⟨#[98]⟩, .string ⟨#[115]⟩, .string ⟨#[]⟩, .string ⟨#[]⟩, .string ⟨#[]⟩, .string ⟨#[97]⟩, .string ⟨#[114]⟩, .string ⟨#[100]⟩]), .eq (.agg #[.int .i64 2, .string ⟨#[97]⟩, .string ⟨#[114]⟩, .string ⟨#[]⟩, .string ⟨#[98]⟩, .string ⟨#[115]⟩, .string ⟨#[]⟩, .string ⟨#[]⟩, .string ⟨#[]⟩, .string ⟨#[97]⟩, .string ⟨#[114]⟩, .string ⟨#[100]⟩]), .eq (.bool true), .eq (.bool true)]

set_option maxRecDepth 100000 in
set_option maxHeartbeats 8000000 in
theorem cfirst (HC0 : CK) (HG0 : CG) (w : World) : Calls Try.prog 7 #[] w fun e w' => e = .returned (.bool true) ∧ Chg (fun _ => False) w w' := by
  have HKC := hid HC0
  have HKG := hid HG0
  have hr1 : ((w.alloc (.cells #[.string ⟨#[97]⟩, .string ⟨#[114]⟩] 30)).alloc (.cells #[.string ⟨#[98]⟩, .string ⟨#[115]⟩] 30)).heap[w.heap.size]? = some (.cells #[.string ⟨#[97]⟩, .string ⟨#[114]⟩] 30 (0, 0)) := blk_keep (heap_alloc_new w _) ((Chg.refl (fun _ => False) _).alloc _) id
  have hr2 : ((w.alloc (.cells #[.string ⟨#[97]⟩, .string ⟨#[114]⟩] 30)).alloc (.cells #[.string ⟨#[98]⟩, .string ⟨#[115]⟩] 30)).heap[w.heap.size + 1]? = some (.cells #[.string ⟨#[98]⟩, .string ⟨#[115]⟩] 30 (0, 0)) := by
    have := heap_alloc_new (w.alloc (.cells #[.string ⟨#[97]⟩, .string ⟨#[114]⟩] 30)) (.cells #[.string ⟨#[98]⟩, .string ⟨#[115]⟩] 30)
    rw [World.size_alloc] at this
    exact this
  have hc1 : Chg (fun _ => False) w ((w.alloc (.cells #[.string ⟨#[97]⟩, .string ⟨#[114]⟩] 30)).alloc (.cells #[.string ⟨#[98]⟩, .string ⟨#[115]⟩] 30)) := ((Chg.refl _ w).alloc _).alloc _
  have H1 := hid (And.intro (And.intro hr1 hr2) hc1)
  clear HC0 HG0 hr1 hr2 hc1
  go_enter Try.func7, Try.ntmps7
  go_wp2_with fail
  have HX := hid H1.out.1
  have HC1 := hid H1.out.2
  clear H1
  generalize ((w.alloc (.cells #[.string ⟨#[97]⟩, .string ⟨#[114]⟩] 30)).alloc (.cells #[.string ⟨#[98]⟩, .string ⟨#[115]⟩] 30)) = w1 at *
  obtain ⟨X, hX⟩ : ∃ X, X = w.heap.size := ⟨_, rfl⟩
  rw [← hX] at HX ⊢
  have l1 : X < w1.heap.size := lt_blk HX.out.1
  have l2 : X + 1 < w1.heap.size := lt_blk HX.out.2
  have HXw := hid hX
  clear hX
  refine wp_region_stateA (Chg (fun i => w1.heap.size ≤ i)) (TwoC w1.heap.size w1) (specAtR (cfSp2 X w1.heap.size)) [19, 20, 21, 22, 23, 3, 4] [1, 2] (by kernel_rfl) (by kernel_rfl) ⟨(Chg.refl _ _).drew, Nat.le_refl _, (show (4 : Nat) < 129 by decide), (fun h => by cases h), (fun h => by cases h), (fun h => by cases h), (fun h => by cases h), (fun h => by cases h)⟩ (fun t v w w' hc h => specAtR_st _ t v w w' hc h) (by rfl) (by kernel_rfl) ?start ?obs ?fin
  case start =>
    simp only [List.forall_mem_cons]; exact ⟨⟨_, rfl, rfl⟩, ⟨_, rfl, rfl⟩, fun _ h => by cases h⟩
  case obs =>
    refine ObsA.cons none (by kernel_rfl) ?_ ?_
    · refine ObA.plain fun L a w hi he hW hk K k => ?_
      obtain ⟨_, e1, rfl⟩ := hk 1 (by decide)
      clear hk
      obtain ⟨q0, q1⟩ := (⟨cell_blk (blk_keep HX.out.1 hW.ch (fun h => absurd h (Nat.not_le.2 (by assumption)))) 0, cell_blk (blk_keep HX.out.1 hW.ch (fun h => absurd h (Nat.not_le.2 (by assumption)))) 1⟩ : _ ∧ _)
      simp only [List.getElem?_toArray, List.getElem?_cons_zero, List.getElem?_cons_succ] at q0 q1
      have hS := fun v => hW.quiet (i := 0) (by decide) 19 v (by decide)
      clear hi he hW
      go_simp
      exact k _ _ (Chg.refl _ _) (hS _) rfl
    refine ObsA.cons none (by kernel_rfl) ?_ ?_
    · refine ObA.plain fun L a w hi he hW hk K k => ?_
      obtain ⟨_, e2, rfl⟩ := hk 2 (by decide)
      clear hk
      obtain ⟨q0, q1⟩ := (⟨cell_blk (blk_keep HX.out.2 hW.ch (fun h => absurd h (Nat.not_le.2 (by assumption)))) 0, cell_blk (blk_keep HX.out.2 hW.ch (fun h => absurd h (Nat.not_le.2 (by assumption)))) 1⟩ : _ ∧ _)
      simp only [List.getElem?_toArray, List.getElem?_cons_zero, List.getElem?_cons_succ] at q0 q1
      have hS := fun v => hW.quiet (i := 1) (by decide) 20 v (by decide)
      clear hi he hW
      go_simp
      exact k _ _ (Chg.refl _ _) (hS _) rfl
    refine ObsA.cons none (by kernel_rfl) ?_ ?_
    · refine ObA.plain fun L a w hi he hW hk K k => ?_
      obtain ⟨_, e19, rfl⟩ := hk 19 (by decide)
      obtain ⟨_, e20, rfl⟩ := hk 20 (by decide)
      clear hk
      have hS := fun v => hW.quiet (i := 2) (by decide) 21 v (by decide)
      clear hi he hW
      go_simp
      exact k _ _ (Chg.refl _ _) (hS _) rfl
    refine ObsA.cons none (by kernel_rfl) ?_ ?_
    · refine ObA.plain fun L a w hi he hW hk K k => ?_
      obtain ⟨_, e2, rfl⟩ := hk 2 (by decide)
      clear hk
      obtain ⟨q0, q1⟩ := (⟨cell_blk (blk_keep HX.out.2 hW.ch (fun h => absurd h (Nat.not_le.2 (by assumption)))) 0, cell_blk (blk_keep HX.out.2 hW.ch (fun h => absurd h (Nat.not_le.2 (by assumption)))) 1⟩ : _ ∧ _)
      simp only [List.getElem?_toArray, List.getElem?_cons_zero, List.getElem?_cons_succ] at q0 q1
      have hS := fun v => hW.quiet (i := 3) (by decide) 22 v (by decide)
      clear hi he hW
      go_simp
      exact k _ _ (Chg.refl _ _) (hS _) rfl
    refine ObsA.cons none (by kernel_rfl) ?_ ?_
    · refine ObA.plain fun L a w hi he hW hk K k => ?_
      obtain ⟨_, e22, rfl⟩ := hk 22 (by decide)
      clear hk
      have hS := fun v => hW.quiet (i := 4) (by decide) 23 v (by decide)
      clear hi he hW
      go_simp
      exact k _ _ (Chg.refl _ _) (hS _) rfl
    refine ObsA.cons none (by kernel_rfl) ?_ ?_
    · refine ObA.plain fun L a w hi he hW hk K k => ?_
      clear hk
      have hS := hW.make3 hi
      clear hi he hW
      go_simp
      exact k _ _ ((Chg.refl _ _).alloc _) hS trivial
    refine ObsA.cons none (by kernel_rfl) ?_ ?_
    · refine ObA.plain fun L a w hi he hW hk K k => ?_
      clear hk
      have hS := hW.make4 hi
      clear hi he hW
      go_simp
      exact k _ _ ((Chg.refl _ _).alloc _) hS trivial
    refine ObsA.cons none (by kernel_rfl) ?_ ?_
    · refine ObA.plain fun L a w hi he hW hk K k => ?_
      obtain ⟨_, e3, f3⟩ := hk 3 (by decide)
      obtain ⟨_, e21, rfl⟩ := hk 21 (by decide)
      clear hk
      have l : L 5 = true := he ⟨5, Ground.data⟩ (by simp) (by decide)
      obtain ⟨b, p1, _, _⟩ := hW.p3 l
      have ez := e3.symm.trans p1
      injection ez with ez
      subst ez
      obtain ⟨hW2, hc2, hz⟩ := hW.set3 hi e3 l
      obtain ⟨y0, y1, y2, y3, y4, y5, y6, y7, y8⟩ := cred_at_blk hz
      simp only [Nat.zero_add, noCred, noneR] at y0 y1 y2 y3 y4 y5 y6 y7 y8
      have g0 := froz_blk hz 0
      have g1 := froz_blk hz 1
      have g2 := froz_blk hz 2
      have g3 := froz_blk hz 3
      have g4 := froz_blk hz 4
      have g5 := froz_blk hz 5
      have g6 := froz_blk hz 6
      have g7 := froz_blk hz 7
      have g8 := froz_blk hz 8
      have HB := hid (And.intro hW2 hc2)
      clear hi he hz hW2 hc2 hW p1 f3
      go_simp
      exact k undef _ HB.out.2 HB.out.1 trivial
    refine ObsA.cons none (by kernel_rfl) ?_ ?_
    · refine ObA.plain fun L a w hi he hW hk K k => ?_
      obtain ⟨_, e4, f4⟩ := hk 4 (by decide)
      obtain ⟨_, e23, rfl⟩ := hk 23 (by decide)
      clear hk
      have l : L 6 = true := he ⟨6, Ground.data⟩ (by simp) (by decide)
      obtain ⟨b, p1, _, _⟩ := hW.p4 l
      have ez := e4.symm.trans p1
      injection ez with ez
      subst ez
      obtain ⟨hW2, hc2, hz⟩ := hW.set4 hi e4 l
      obtain ⟨y0, y1, y2, y3, y4, y5, y6, y7, y8⟩ := cred_at_blk hz
      simp only [Nat.zero_add, noCred, noneR] at y0 y1 y2 y3 y4 y5 y6 y7 y8
      have g0 := froz_blk hz 0
      have g1 := froz_blk hz 1
      have g2 := froz_blk hz 2
      have g3 := froz_blk hz 3
      have g4 := froz_blk hz 4
      have g5 := froz_blk hz 5
      have g6 := froz_blk hz 6
      have g7 := froz_blk hz 7
      have g8 := froz_blk hz 8
      have HB := hid (And.intro hW2 hc2)
      clear hi he hz hW2 hc2 hW p1 f4
      go_simp
      exact k undef _ HB.out.2 HB.out.1 trivial
    exact ObsA.nil
  case fin =>
    intro L vals w2 hL hW hv
    have h3 : ∃ b, vals 3 = .pointer (some ⟨b, 0, none⟩) ∧ w1.heap.size ≤ b ∧ w2.heap[b]? = some (.cells (credBox cI9) 32 (0, 0)) := by
      obtain ⟨b, p1, p2, p3⟩ := hW.p3 (hL 5 (by decide))
      simp only [putAll, List.setIfInBounds_toArray, List.set_cons_zero, List.set_cons_succ, List.getElem?_toArray, List.getElem?_cons_zero, List.getElem?_cons_succ, Option.some.injEq] at p1
      rw [hL 7 (by decide)] at p3
      exact ⟨b, p1, p2, p3⟩
    have h4 : ∃ b, vals 4 = .pointer (some ⟨b, 0, none⟩) ∧ w1.heap.size ≤ b ∧ w2.heap[b]? = some (.cells (credBox cM9) 32 (0, 0)) := by
      obtain ⟨b, p1, p2, p3⟩ := hW.p4 (hL 6 (by decide))
      simp only [putAll, List.setIfInBounds_toArray, List.set_cons_zero, List.set_cons_succ, List.getElem?_toArray, List.getElem?_cons_zero, List.getElem?_cons_succ, Option.some.injEq] at p1
      rw [hL 8 (by decide)] at p3
      exact ⟨b, p1, p2, p3⟩
    obtain ⟨c, h3, hcl, hcb⟩ := h3
    obtain ⟨d, h4, hdl, hdb⟩ := h4
    have hc2 : Chg (fun _ => False) w1 w2 := hW.ch.mono (fun i hi h => absurd hi (Nat.not_lt.2 h))
    have H2 : Hid (w2.heap[c]? = some (.cells (credBox cI9) 32 (0, 0)) ∧ w2.heap[d]? = some (.cells (credBox cM9) 32 (0, 0)) ∧ w2.heap[X]? = some (.cells #[.string ⟨#[97]⟩, .string ⟨#[114]⟩] 30 (0, 0)) ∧ w2.heap[X + 1]? = some (.cells #[.string ⟨#[98]⟩, .string ⟨#[115]⟩] 30 (0, 0)) ∧ Chg (fun _ => False) w w2) := hid ⟨hcb, hdb, blk_keep HX.out.1 hc2 id, blk_keep HX.out.2 hc2 id, HC1.out.trans hc2 (fun _ _ h => h)⟩
    have lX := lt_blk H2.out.2.2.1
    have lX1 := lt_blk H2.out.2.2.2.1
    have lc := lt_blk H2.out.1
    have ld := lt_blk H2.out.2.1
    simp only [putAll, List.setIfInBounds_toArray, List.set_cons_zero, List.set_cons_succ, h3, h4]
    clear hL hW hv h3 h4 hcb hdb hc2 HX HC1 hcl hdl l1 l2
    go_wp2_with fail
    refine wp_region_stateA (Chg (fun i => w2.heap.size ≤ i)) (TwoS w2.heap.size w2) (specAtR (cfSp3 X c d w2.heap.size)) [24, 25, 26, 27, 28, 29, 30, 31, 5, 6] [1, 2, 3, 4] (by kernel_rfl) (by kernel_rfl) ⟨(Chg.refl _ _).drew, Nat.le_refl _, (show (6 : Nat) < 129 by decide), (fun h => by cases h), (fun h => by cases h), (fun h => by cases h), (fun h => by cases h), (fun h => by cases h)⟩ (fun t v w w' hc h => specAtR_st _ t v w w' hc h) (by rfl) (by kernel_rfl) ?start3 ?obs3 ?fin3
    case start3 =>
      simp only [List.forall_mem_cons]; exact ⟨⟨_, rfl, rfl⟩, ⟨_, rfl, rfl⟩, ⟨_, rfl, rfl⟩, ⟨_, rfl, rfl⟩, fun _ h => by cases h⟩
    case obs3 =>
      refine ObsA.cons none (by kernel_rfl) ?_ ?_
      · refine ObA.plain fun L a w hi he hW hk K k => ?_
        obtain ⟨_, e4, rfl⟩ := hk 4 (by decide)
        clear hk
        obtain ⟨q0, q1, q2, q3, q4, q5, q6, q7, q8⟩ := cred_at_blk (blk_keep H2.out.2.1 hW.ch (fun h => absurd h (Nat.not_le.2 (by assumption))))
        simp only [Nat.zero_add, cM9, noneR] at q0 q1 q2 q3 q4 q5 q6 q7 q8
        change _ = some (Value.string ⟨#[98]⟩) at q1
        change _ = some (Value.string ⟨#[115]⟩) at q2
        change _ = some (Value.string ⟨#[100]⟩) at q3
        change _ = some (Value.string ⟨#[]⟩) at q4
        change _ = some (Value.string ⟨#[]⟩) at q5
        change _ = some (Value.string ⟨#[]⟩) at q6
        change _ = some (Value.string ⟨#[]⟩) at q7
        change _ = some (Value.string ⟨#[]⟩) at q8
        have hS := fun v => hW.quiet (i := 0) (by decide) 24 v (by decide)
        clear hi he hW
        go_simp
        exact k _ _ (Chg.refl _ _) (hS _) rfl
      refine ObsA.cons none (by kernel_rfl) ?_ ?_
      · refine ObA.plain fun L a w hi he hW hk K k => ?_
        obtain ⟨_, e2, rfl⟩ := hk 2 (by decide)
        clear hk
        obtain ⟨q0, q1⟩ := (⟨cell_blk (blk_keep H2.out.2.2.2.1 hW.ch (fun h => absurd h (Nat.not_le.2 (by assumption)))) 0, cell_blk (blk_keep H2.out.2.2.2.1 hW.ch (fun h => absurd h (Nat.not_le.2 (by assumption)))) 1⟩ : _ ∧ _)
        simp only [List.getElem?_toArray, List.getElem?_cons_zero, List.getElem?_cons_succ] at q0 q1
        have hS := fun v => hW.quiet (i := 1) (by decide) 25 v (by decide)
        clear hi he hW
        go_simp
        exact k _ _ (Chg.refl _ _) (hS _) rfl
      refine ObsA.cons none (by kernel_rfl) ?_ ?_
      · refine ObA.plain fun L a w hi he hW hk K k => ?_
        obtain ⟨_, e25, rfl⟩ := hk 25 (by decide)
        clear hk
        have hS := fun v => hW.quiet (i := 2) (by decide) 26 v (by decide)
        clear hi he hW
        go_simp
        exact k _ _ (Chg.refl _ _) (hS _) rfl
      refine ObsA.cons none (by kernel_rfl) ?_ ?_
      · refine ObA.plain fun L a w hi he hW hk K k => ?_
        obtain ⟨_, e24, rfl⟩ := hk 24 (by decide)
        obtain ⟨_, e26, rfl⟩ := hk 26 (by decide)
        clear hk
        have hS := fun v => hW.quiet (i := 3) (by decide) 27 v (by decide)
        clear hi he hW
        go_simp
        exact k _ _ (Chg.refl _ _) (hS _) rfl
      refine ObsA.cons none (by kernel_rfl) ?_ ?_
      · refine ObA.plain fun L a w hi he hW hk K k => ?_
        obtain ⟨_, e3, rfl⟩ := hk 3 (by decide)
        clear hk
        obtain ⟨q0, q1, q2, q3, q4, q5, q6, q7, q8⟩ := cred_at_blk (blk_keep H2.out.1 hW.ch (fun h => absurd h (Nat.not_le.2 (by assumption))))
        simp only [Nat.zero_add, cI9, noneR] at q0 q1 q2 q3 q4 q5 q6 q7 q8
        change _ = some (Value.string ⟨#[97]⟩) at q1
        change _ = some (Value.string ⟨#[114]⟩) at q2
        change _ = some (Value.string ⟨#[]⟩) at q3
        change _ = some (Value.string ⟨#[98]⟩) at q4
        change _ = some (Value.string ⟨#[115]⟩) at q5
        change _ = some (Value.string ⟨#[]⟩) at q6
        change _ = some (Value.string ⟨#[]⟩) at q7
        change _ = some (Value.string ⟨#[]⟩) at q8
        have hS := fun v => hW.quiet (i := 4) (by decide) 28 v (by decide)
        clear hi he hW
        go_simp
        exact k _ _ (Chg.refl _ _) (hS _) rfl
      refine ObsA.cons none (by kernel_rfl) ?_ ?_
      · refine ObA.plain fun L a w hi he hW hk K k => ?_
        obtain ⟨_, e1, rfl⟩ := hk 1 (by decide)
        clear hk
        obtain ⟨q0, q1⟩ := (⟨cell_blk (blk_keep H2.out.2.2.1 hW.ch (fun h => absurd h (Nat.not_le.2 (by assumption)))) 0, cell_blk (blk_keep H2.out.2.2.1 hW.ch (fun h => absurd h (Nat.not_le.2 (by assumption)))) 1⟩ : _ ∧ _)
        simp only [List.getElem?_toArray, List.getElem?_cons_zero, List.getElem?_cons_succ] at q0 q1
        have hS := fun v => hW.quiet (i := 5) (by decide) 29 v (by decide)
        clear hi he hW
        go_simp
        exact k _ _ (Chg.refl _ _) (hS _) rfl
      refine ObsA.cons none (by kernel_rfl) ?_ ?_
      · refine ObA.plain fun L a w hi he hW hk K k => ?_
        obtain ⟨_, e29, rfl⟩ := hk 29 (by decide)
        clear hk
        have hS := fun v => hW.quiet (i := 6) (by decide) 30 v (by decide)
        clear hi he hW
        go_simp
        exact k _ _ (Chg.refl _ _) (hS _) rfl
      refine ObsA.cons none (by kernel_rfl) ?_ ?_
      · refine ObA.plain fun L a w hi he hW hk K k => ?_
        obtain ⟨_, e28, rfl⟩ := hk 28 (by decide)
        obtain ⟨_, e30, rfl⟩ := hk 30 (by decide)
        clear hk
        have hS := fun v => hW.quiet (i := 7) (by decide) 31 v (by decide)
        clear hi he hW
        go_simp
        exact k _ _ (Chg.refl _ _) (hS _) rfl
      refine ObsA.cons none (by kernel_rfl) ?_ ?_
      · refine ObA.plain fun L a w hi he hW hk K k => ?_
        clear hk
        have hS := hW.make3 hi
        clear hi he hW
        go_simp
        exact k _ _ ((Chg.refl _ _).alloc _) hS trivial
      refine ObsA.cons none (by kernel_rfl) ?_ ?_
      · refine ObA.plain fun L a w hi he hW hk K k => ?_
        clear hk
        have hS := hW.make4 hi
        clear hi he hW
        go_simp
        exact k _ _ ((Chg.refl _ _).alloc _) hS trivial
      refine ObsA.cons none (by kernel_rfl) ?_ ?_
      · refine ObA.plain fun L a w hi he hW hk K k => ?_
        obtain ⟨_, e5, f5⟩ := hk 5 (by decide)
        obtain ⟨_, e27, rfl⟩ := hk 27 (by decide)
        clear hk
        have l : L 8 = true := he ⟨8, Ground.data⟩ (by simp) (by decide)
        obtain ⟨b, p1, _, _⟩ := hW.p3 l
        have ez := e5.symm.trans p1
        injection ez with ez
        subst ez
        obtain ⟨hW2, hc2, hz⟩ := hW.set3 hi e5 l
        obtain ⟨⟨y0, y1, y2, y3, y4, y5, y6, y7, y8⟩, ⟨y9, y10, y11⟩⟩ := step_at_blk hz
        simp only [Nat.zero_add, noStep, noCred, noneR] at y0 y1 y2 y3 y4 y5 y6 y7 y8 y9 y10 y11
        have g0 := froz_blk hz 0
        have g1 := froz_blk hz 1
        have g2 := froz_blk hz 2
        have g3 := froz_blk hz 3
        have g4 := froz_blk hz 4
        have g5 := froz_blk hz 5
        have g6 := froz_blk hz 6
        have g7 := froz_blk hz 7
        have g8 := froz_blk hz 8
        have g9 := froz_blk hz 9
        have g10 := froz_blk hz 10
        have g11 := froz_blk hz 11
        have HB := hid (And.intro hW2 hc2)
        clear hi he hz hW2 hc2 hW p1 f5
        go_simp
        exact k undef _ HB.out.2 HB.out.1 trivial
      refine ObsA.cons none (by kernel_rfl) ?_ ?_
      · refine ObA.plain fun L a w hi he hW hk K k => ?_
        obtain ⟨_, e6, f6⟩ := hk 6 (by decide)
        obtain ⟨_, e31, rfl⟩ := hk 31 (by decide)
        clear hk
        have l : L 9 = true := he ⟨9, Ground.data⟩ (by simp) (by decide)
        obtain ⟨b, p1, _, _⟩ := hW.p4 l
        have ez := e6.symm.trans p1
        injection ez with ez
        subst ez
        obtain ⟨hW2, hc2, hz⟩ := hW.set4 hi e6 l
        obtain ⟨⟨y0, y1, y2, y3, y4, y5, y6, y7, y8⟩, ⟨y9, y10, y11⟩⟩ := step_at_blk hz
        simp only [Nat.zero_add, noStep, noCred, noneR] at y0 y1 y2 y3 y4 y5 y6 y7 y8 y9 y10 y11
        have g0 := froz_blk hz 0
        have g1 := froz_blk hz 1
        have g2 := froz_blk hz 2
        have g3 := froz_blk hz 3
        have g4 := froz_blk hz 4
        have g5 := froz_blk hz 5
        have g6 := froz_blk hz 6
        have g7 := froz_blk hz 7
        have g8 := froz_blk hz 8
        have g9 := froz_blk hz 9
        have g10 := froz_blk hz 10
        have g11 := froz_blk hz 11
        have HB := hid (And.intro hW2 hc2)
        clear hi he hz hW2 hc2 hW p1 f6
        go_simp
        exact k undef _ HB.out.2 HB.out.1 trivial
      exact ObsA.nil
    case fin3 =>
      intro L vals w3 hL hW hv
      have h5 : ∃ b, vals 5 = .pointer (some ⟨b, 0, none⟩) ∧ w2.heap.size ≤ b ∧ w3.heap[b]? = some (.cells (stepBox stX) 36 (0, 0)) := by
        obtain ⟨b, p1, p2, p3⟩ := hW.p3 (hL 8 (by decide))
        simp only [putAll, List.setIfInBounds_toArray, List.set_cons_zero, List.set_cons_succ, List.getElem?_toArray, List.getElem?_cons_zero, List.getElem?_cons_succ, Option.some.injEq] at p1
        rw [hL 10 (by decide)] at p3
        exact ⟨b, p1, p2, p3⟩
      have h6 : ∃ b, vals 6 = .pointer (some ⟨b, 0, none⟩) ∧ w2.heap.size ≤ b ∧ w3.heap[b]? = some (.cells (stepBox stY) 36 (0, 0)) := by
        obtain ⟨b, p1, p2, p3⟩ := hW.p4 (hL 9 (by decide))
        simp only [putAll, List.setIfInBounds_toArray, List.set_cons_zero, List.set_cons_succ, List.getElem?_toArray, List.getElem?_cons_zero, List.getElem?_cons_succ, Option.some.injEq] at p1
        rw [hL 11 (by decide)] at p3
        exact ⟨b, p1, p2, p3⟩
      obtain ⟨x, h5, hxl, hxb⟩ := h5
      obtain ⟨y, h6, hyl, hyb⟩ := h6
      have hc3 : Chg (fun _ => False) w2 w3 := hW.ch.mono (fun i hi h => absurd hi (Nat.not_lt.2 h))
      have H3 : Hid (Fst9 w c d x y w3) := hid ⟨blk_keep H2.out.1 hc3 id, blk_keep H2.out.2.1 hc3 id, hxb, hyb, H2.out.2.2.2.2.trans hc3 (fun _ _ h => h)⟩
      simp only [putAll, List.setIfInBounds_toArray, List.set_cons_zero, List.set_cons_succ, h5, h6]
      clear hL hW hv h5 h6 hxb hyb hc3 H2 hxl hyl lX lX1 lc ld
      have hb1 : ((w3.alloc (.cells #[.int .i64 1, .string ⟨#[98]⟩, .string ⟨#[115]⟩, .string ⟨#[100]⟩, .string ⟨#[]⟩, .string ⟨#[]⟩, .string ⟨#[]⟩, .string ⟨#[]⟩, .string ⟨#[]⟩, .string ⟨#[98]⟩, .string ⟨#[115]⟩, .string ⟨#[100]⟩, .int .i64 2, .string ⟨#[97]⟩, .string ⟨#[114]⟩, .string ⟨#[]⟩, .string ⟨#[98]⟩, .string ⟨#[115]⟩, .string ⟨#[]⟩, .string ⟨#[]⟩, .string ⟨#[]⟩, .string ⟨#[97]⟩, .string ⟨#[114]⟩, .string ⟨#[100]⟩] 36)).alloc (.cells #[.int .i64 2, .string ⟨#[97]⟩, .string ⟨#[114]⟩, .string ⟨#[]⟩, .string ⟨#[98]⟩, .string ⟨#[115]⟩, .string ⟨#[]⟩, .string ⟨#[]⟩, .string ⟨#[]⟩, .int .i64 1, .string ⟨#[98]⟩, .string ⟨#[115]⟩, .string ⟨#[100]⟩, .string ⟨#[]⟩, .string ⟨#[]⟩, .string ⟨#[]⟩, .string ⟨#[]⟩, .string ⟨#[]⟩] 32)).heap[w3.heap.size]? = some (.cells #[.int .i64 1, .string ⟨#[98]⟩, .string ⟨#[115]⟩, .string ⟨#[100]⟩, .string ⟨#[]⟩, .string ⟨#[]⟩, .string ⟨#[]⟩, .string ⟨#[]⟩, .string ⟨#[]⟩, .string ⟨#[98]⟩, .string ⟨#[115]⟩, .string ⟨#[100]⟩, .int .i64 2, .string ⟨#[97]⟩, .string ⟨#[114]⟩, .string ⟨#[]⟩, .string ⟨#[98]⟩, .string ⟨#[115]⟩, .string ⟨#[]⟩, .string ⟨#[]⟩, .string ⟨#[]⟩, .string ⟨#[97]⟩, .string ⟨#[114]⟩, .string ⟨#[100]⟩] 36 (0, 0)) := blk_keep (heap_alloc_new w3 _) ((Chg.refl (fun _ => False) _).alloc _) id
      have hb2 : ((w3.alloc (.cells #[.int .i64 1, .string ⟨#[98]⟩, .string ⟨#[115]⟩, .string ⟨#[100]⟩, .string ⟨#[]⟩, .string ⟨#[]⟩, .string ⟨#[]⟩, .string ⟨#[]⟩, .string ⟨#[]⟩, .string ⟨#[98]⟩, .string ⟨#[115]⟩, .string ⟨#[100]⟩, .int .i64 2, .string ⟨#[97]⟩, .string ⟨#[114]⟩, .string ⟨#[]⟩, .string ⟨#[98]⟩, .string ⟨#[115]⟩, .string ⟨#[]⟩, .string ⟨#[]⟩, .string ⟨#[]⟩, .string ⟨#[97]⟩, .string ⟨#[114]⟩, .string ⟨#[100]⟩] 36)).alloc (.cells #[.int .i64 2, .string ⟨#[97]⟩, .string ⟨#[114]⟩, .string ⟨#[]⟩, .string ⟨#[98]⟩, .string ⟨#[115]⟩, .string ⟨#[]⟩, .string ⟨#[]⟩, .string ⟨#[]⟩, .int .i64 1, .string ⟨#[98]⟩, .string ⟨#[115]⟩, .string ⟨#[100]⟩, .string ⟨#[]⟩, .string ⟨#[]⟩, .string ⟨#[]⟩, .string ⟨#[]⟩, .string ⟨#[]⟩] 32)).heap[w3.heap.size + 1]? = some (.cells #[.int .i64 2, .string ⟨#[97]⟩, .string ⟨#[114]⟩, .string ⟨#[]⟩, .string ⟨#[98]⟩, .string ⟨#[115]⟩, .string ⟨#[]⟩, .string ⟨#[]⟩, .string ⟨#[]⟩, .int .i64 1, .string ⟨#[98]⟩, .string ⟨#[115]⟩, .string ⟨#[100]⟩, .string ⟨#[]⟩, .string ⟨#[]⟩, .string ⟨#[]⟩, .string ⟨#[]⟩, .string ⟨#[]⟩] 32 (0, 0)) := by
        have := heap_alloc_new (w3.alloc (.cells #[.int .i64 1, .string ⟨#[98]⟩, .string ⟨#[115]⟩, .string ⟨#[100]⟩, .string ⟨#[]⟩, .string ⟨#[]⟩, .string ⟨#[]⟩, .string ⟨#[]⟩, .string ⟨#[]⟩, .string ⟨#[98]⟩, .string ⟨#[115]⟩, .string ⟨#[100]⟩, .int .i64 2, .string ⟨#[97]⟩, .string ⟨#[114]⟩, .string ⟨#[]⟩, .string ⟨#[98]⟩, .string ⟨#[115]⟩, .string ⟨#[]⟩, .string ⟨#[]⟩, .string ⟨#[]⟩, .string ⟨#[97]⟩, .string ⟨#[114]⟩, .string ⟨#[100]⟩] 36)) (.cells #[.int .i64 2, .string ⟨#[97]⟩, .string ⟨#[114]⟩, .string ⟨#[]⟩, .string ⟨#[98]⟩, .string ⟨#[115]⟩, .string ⟨#[]⟩, .string ⟨#[]⟩, .string ⟨#[]⟩, .int .i64 1, .string ⟨#[98]⟩, .string ⟨#[115]⟩, .string ⟨#[100]⟩, .string ⟨#[]⟩, .string ⟨#[]⟩, .string ⟨#[]⟩, .string ⟨#[]⟩, .string ⟨#[]⟩] 32)
        rw [World.size_alloc] at this
        exact this
      have ha1 : Chg (fun _ => False) w3 (w3.alloc (.cells #[.int .i64 1, .string ⟨#[98]⟩, .string ⟨#[115]⟩, .string ⟨#[100]⟩, .string ⟨#[]⟩, .string ⟨#[]⟩, .string ⟨#[]⟩, .string ⟨#[]⟩, .string ⟨#[]⟩, .string ⟨#[98]⟩, .string ⟨#[115]⟩, .string ⟨#[100]⟩, .int .i64 2, .string ⟨#[97]⟩, .string ⟨#[114]⟩, .string ⟨#[]⟩, .string ⟨#[98]⟩, .string ⟨#[115]⟩, .string ⟨#[]⟩, .string ⟨#[]⟩, .string ⟨#[]⟩, .string ⟨#[97]⟩, .string ⟨#[114]⟩, .string ⟨#[100]⟩] 36)) := (Chg.refl _ w3).alloc _
      have ha2 : Chg (fun _ => False) w3 ((w3.alloc (.cells #[.int .i64 1, .string ⟨#[98]⟩, .string ⟨#[115]⟩, .string ⟨#[100]⟩, .string ⟨#[]⟩, .string ⟨#[]⟩, .string ⟨#[]⟩, .string ⟨#[]⟩, .string ⟨#[]⟩, .string ⟨#[98]⟩, .string ⟨#[115]⟩, .string ⟨#[100]⟩, .int .i64 2, .string ⟨#[97]⟩, .string ⟨#[114]⟩, .string ⟨#[]⟩, .string ⟨#[98]⟩, .string ⟨#[115]⟩, .string ⟨#[]⟩, .string ⟨#[]⟩, .string ⟨#[]⟩, .string ⟨#[97]⟩, .string ⟨#[114]⟩, .string ⟨#[100]⟩] 36)).alloc (.cells #[.int .i64 2, .string ⟨#[97]⟩, .string ⟨#[114]⟩, .string ⟨#[]⟩, .string ⟨#[98]⟩, .string ⟨#[115]⟩, .string ⟨#[]⟩, .string ⟨#[]⟩, .string ⟨#[]⟩, .int .i64 1, .string ⟨#[98]⟩, .string ⟨#[115]⟩, .string ⟨#[100]⟩, .string ⟨#[]⟩, .string ⟨#[]⟩, .string ⟨#[]⟩, .string ⟨#[]⟩, .string ⟨#[]⟩] 32)) := ha1.trans ((Chg.refl (fun _ => False) (w3.alloc (.cells #[.int .i64 1, .string ⟨#[98]⟩, .string ⟨#[115]⟩, .string ⟨#[100]⟩, .string ⟨#[]⟩, .string ⟨#[]⟩, .string ⟨#[]⟩, .string ⟨#[]⟩, .string ⟨#[]⟩, .string ⟨#[98]⟩, .string ⟨#[115]⟩, .string ⟨#[100]⟩, .int .i64 2, .string ⟨#[97]⟩, .string ⟨#[114]⟩, .string ⟨#[]⟩, .string ⟨#[98]⟩, .string ⟨#[115]⟩, .string ⟨#[]⟩, .string ⟨#[]⟩, .string ⟨#[]⟩, .string ⟨#[97]⟩, .string ⟨#[114]⟩, .string ⟨#[100]⟩] 36))).alloc _) (fun _ _ h => h)
      have HQ := hid (cf_check1 HKC.out _ _ ((w3.alloc (.cells #[.int .i64 1, .string ⟨#[98]⟩, .string ⟨#[115]⟩, .string ⟨#[100]⟩, .string ⟨#[]⟩, .string ⟨#[]⟩, .string ⟨#[]⟩, .string ⟨#[]⟩, .string ⟨#[]⟩, .string ⟨#[98]⟩, .string ⟨#[115]⟩, .string ⟨#[100]⟩, .int .i64 2, .string ⟨#[97]⟩, .string ⟨#[114]⟩, .string ⟨#[]⟩, .string ⟨#[98]⟩, .string ⟨#[115]⟩, .string ⟨#[]⟩, .string ⟨#[]⟩, .string ⟨#[]⟩, .string ⟨#[97]⟩, .string ⟨#[114]⟩, .string ⟨#[100]⟩] 36)).alloc (.cells #[.int .i64 2, .string ⟨#[97]⟩, .string ⟨#[114]⟩, .string ⟨#[]⟩, .string ⟨#[98]⟩, .string ⟨#[115]⟩, .string ⟨#[]⟩, .string ⟨#[]⟩, .string ⟨#[]⟩, .int .i64 1, .string ⟨#[98]⟩, .string ⟨#[115]⟩, .string ⟨#[100]⟩, .string ⟨#[]⟩, .string ⟨#[]⟩, .string ⟨#[]⟩, .string ⟨#[]⟩, .string ⟨#[]⟩] 32)) (steps_two9 hb1) (creds_two9 hb2))
      have HN := hid (H3.out.go ha2)
      obtain ⟨⟨a0, a1, a2, a3, a4, a5, a6, a7, a8⟩, ⟨a9, a10, a11⟩⟩ := step_at_blk H3.out.bx
      simp only [Nat.zero_add, stX, cM9, fB9, noneR] at a0 a1 a2 a3 a4 a5 a6 a7 a8 a9 a10 a11
      change _ = some (Value.string ⟨#[98]⟩) at a1
      change _ = some (Value.string ⟨#[115]⟩) at a2
      change _ = some (Value.string ⟨#[100]⟩) at a3
      change _ = some (Value.string ⟨#[]⟩) at a4
      change _ = some (Value.string ⟨#[]⟩) at a5
      change _ = some (Value.string ⟨#[]⟩) at a6
      change _ = some (Value.string ⟨#[]⟩) at a7
      change _ = some (Value.string ⟨#[]⟩) at a8
      change _ = some (Value.string ⟨#[98]⟩) at a9
      change _ = some (Value.string ⟨#[115]⟩) at a10
      change _ = some (Value.string ⟨#[100]⟩) at a11
      obtain ⟨⟨b0, b1, b2, b3, b4, b5, b6, b7, b8⟩, ⟨b9, b10, b11⟩⟩ := step_at_blk H3.out.bY
      simp only [Nat.zero_add, stY, cI9, fA9, noneR] at b0 b1 b2 b3 b4 b5 b6 b7 b8 b9 b10 b11
      change _ = some (Value.string ⟨#[97]⟩) at b1
      change _ = some (Value.string ⟨#[114]⟩) at b2
      change _ = some (Value.string ⟨#[]⟩) at b3
      change _ = some (Value.string ⟨#[98]⟩) at b4
      change _ = some (Value.string ⟨#[115]⟩) at b5
      change _ = some (Value.string ⟨#[]⟩) at b6
      change _ = some (Value.string ⟨#[]⟩) at b7
      change _ = some (Value.string ⟨#[]⟩) at b8
      change _ = some (Value.string ⟨#[97]⟩) at b9
      change _ = some (Value.string ⟨#[114]⟩) at b10
      change _ = some (Value.string ⟨#[100]⟩) at b11
      obtain ⟨p0, p1, p2, p3, p4, p5, p6, p7, p8⟩ := cred_at_blk (blk_keep H3.out.cc ha1 id)
      simp only [Nat.zero_add, cI9, noneR] at p0 p1 p2 p3 p4 p5 p6 p7 p8
      change _ = some (Value.string ⟨#[97]⟩) at p1
      change _ = some (Value.string ⟨#[114]⟩) at p2
      change _ = some (Value.string ⟨#[]⟩) at p3
      change _ = some (Value.string ⟨#[98]⟩) at p4
      change _ = some (Value.string ⟨#[115]⟩) at p5
      change _ = some (Value.string ⟨#[]⟩) at p6
      change _ = some (Value.string ⟨#[]⟩) at p7
      change _ = some (Value.string ⟨#[]⟩) at p8
      obtain ⟨q0, q1, q2, q3, q4, q5, q6, q7, q8⟩ := cred_at_blk (blk_keep H3.out.cd ha1 id)
      simp only [Nat.zero_add, cM9, noneR] at q0 q1 q2 q3 q4 q5 q6 q7 q8
      change _ = some (Value.string ⟨#[98]⟩) at q1
      change _ = some (Value.string ⟨#[115]⟩) at q2
      change _ = some (Value.string ⟨#[100]⟩) at q3
      change _ = some (Value.string ⟨#[]⟩) at q4
      change _ = some (Value.string ⟨#[]⟩) at q5
      change _ = some (Value.string ⟨#[]⟩) at q6
      change _ = some (Value.string ⟨#[]⟩) at q7
      change _ = some (Value.string ⟨#[]⟩) at q8
      obtain ⟨⟨r0, r1, r2, r3, r4, r5, r6, r7, r8⟩, ⟨r9, r10, r11⟩⟩ := step_at_blk HN.out.bY
      simp only [Nat.zero_add, stY, cI9, fA9, noneR] at r0 r1 r2 r3 r4 r5 r6 r7 r8 r9 r10 r11
      change _ = some (Value.string ⟨#[97]⟩) at r1
      change _ = some (Value.string ⟨#[114]⟩) at r2
      change _ = some (Value.string ⟨#[]⟩) at r3
      change _ = some (Value.string ⟨#[98]⟩) at r4
      change _ = some (Value.string ⟨#[115]⟩) at r5
      change _ = some (Value.string ⟨#[]⟩) at r6
      change _ = some (Value.string ⟨#[]⟩) at r7
      change _ = some (Value.string ⟨#[]⟩) at r8
      change _ = some (Value.string ⟨#[97]⟩) at r9
      change _ = some (Value.string ⟨#[114]⟩) at r10
      change _ = some (Value.string ⟨#[100]⟩) at r11
      clear hb1 hb2 ha1 ha2 H3
      go_wp2_with fail
      refine HQ.out.mono ?_
      clear HQ a0 a1 a2 a3 a4 a5 a6 a7 a8 a9 a10 a11 b0 b1 b2 b3 b4 b5 b6 b7 b8 b9 b10 b11 p0 p1 p2 p3 p4 p5 p6 p7 p8 q0 q1 q2 q3 q4 q5 q6 q7 q8 r0 r1 r2 r3 r4 r5 r6 r7 r8 r9 r10 r11
      rintro e w4 ⟨rfl, hc⟩
      have H4 := hid (HN.out.go hc)
      clear HN hc
      have hb1 : ((w4.alloc (.cells #[.int .i64 2, .string ⟨#[97]⟩, .string ⟨#[114]⟩, .string ⟨#[]⟩, .string ⟨#[98]⟩, .string ⟨#[115]⟩, .string ⟨#[]⟩, .string ⟨#[]⟩, .string ⟨#[]⟩, .string ⟨#[97]⟩, .string ⟨#[114]⟩, .string ⟨#[100]⟩] 36)).alloc (.cells #[.int .i64 2, .string ⟨#[97]⟩, .string ⟨#[114]⟩, .string ⟨#[]⟩, .string ⟨#[98]⟩, .string ⟨#[115]⟩, .string ⟨#[]⟩, .string ⟨#[]⟩, .string ⟨#[]⟩, .int .i64 1, .string ⟨#[98]⟩, .string ⟨#[115]⟩, .string ⟨#[100]⟩, .string ⟨#[]⟩, .string ⟨#[]⟩, .string ⟨#[]⟩, .string ⟨#[]⟩, .string ⟨#[]⟩] 32)).heap[w4.heap.size]? = some (.cells #[.int .i64 2, .string ⟨#[97]⟩, .string ⟨#[114]⟩, .string ⟨#[]⟩, .string ⟨#[98]⟩, .string ⟨#[115]⟩, .string ⟨#[]⟩, .string ⟨#[]⟩, .string ⟨#[]⟩, .string ⟨#[97]⟩, .string ⟨#[114]⟩, .string ⟨#[100]⟩] 36 (0, 0)) := blk_keep (heap_alloc_new w4 _) ((Chg.refl (fun _ => False) _).alloc _) id
      have hb2 : ((w4.alloc (.cells #[.int .i64 2, .string ⟨#[97]⟩, .string ⟨#[114]⟩, .string ⟨#[]⟩, .string ⟨#[98]⟩, .string ⟨#[115]⟩, .string ⟨#[]⟩, .string ⟨#[]⟩, .string ⟨#[]⟩, .string ⟨#[97]⟩, .string ⟨#[114]⟩, .string ⟨#[100]⟩] 36)).alloc (.cells #[.int .i64 2, .string ⟨#[97]⟩, .string ⟨#[114]⟩, .string ⟨#[]⟩, .string ⟨#[98]⟩, .string ⟨#[115]⟩, .string ⟨#[]⟩, .string ⟨#[]⟩, .string ⟨#[]⟩, .int .i64 1, .string ⟨#[98]⟩, .string ⟨#[115]⟩, .string ⟨#[100]⟩, .string ⟨#[]⟩, .string ⟨#[]⟩, .string ⟨#[]⟩, .string ⟨#[]⟩, .string ⟨#[]⟩] 32)).heap[w4.heap.size + 1]? = some (.cells #[.int .i64 2, .string ⟨#[97]⟩, .string ⟨#[114]⟩, .string ⟨#[]⟩, .string ⟨#[98]⟩, .string ⟨#[115]⟩, .string ⟨#[]⟩, .string ⟨#[]⟩, .string ⟨#[]⟩, .int .i64 1, .string ⟨#[98]⟩, .string ⟨#[115]⟩, .string ⟨#[100]⟩, .string ⟨#[]⟩, .string ⟨#[]⟩, .string ⟨#[]⟩, .string ⟨#[]⟩, .string ⟨#[]⟩] 32 (0, 0)) := by
        have := heap_alloc_new (w4.alloc (.cells #[.int .i64 2, .string ⟨#[97]⟩, .string ⟨#[114]⟩, .string ⟨#[]⟩, .string ⟨#[98]⟩, .string ⟨#[115]⟩, .string ⟨#[]⟩, .string ⟨#[]⟩, .string ⟨#[]⟩, .string ⟨#[97]⟩, .string ⟨#[114]⟩, .string ⟨#[100]⟩] 36)) (.cells #[.int .i64 2, .string ⟨#[97]⟩, .string ⟨#[114]⟩, .string ⟨#[]⟩, .string ⟨#[98]⟩, .string ⟨#[115]⟩, .string ⟨#[]⟩, .string ⟨#[]⟩, .string ⟨#[]⟩, .int .i64 1, .string ⟨#[98]⟩, .string ⟨#[115]⟩, .string ⟨#[100]⟩, .string ⟨#[]⟩, .string ⟨#[]⟩, .string ⟨#[]⟩, .string ⟨#[]⟩, .string ⟨#[]⟩] 32)
        rw [World.size_alloc] at this
        exact this
      have ha1 : Chg (fun _ => False) w4 (w4.alloc (.cells #[.int .i64 2, .string ⟨#[97]⟩, .string ⟨#[114]⟩, .string ⟨#[]⟩, .string ⟨#[98]⟩, .string ⟨#[115]⟩, .string ⟨#[]⟩, .string ⟨#[]⟩, .string ⟨#[]⟩, .string ⟨#[97]⟩, .string ⟨#[114]⟩, .string ⟨#[100]⟩] 36)) := (Chg.refl _ w4).alloc _
      have ha2 : Chg (fun _ => False) w4 ((w4.alloc (.cells #[.int .i64 2, .string ⟨#[97]⟩, .string ⟨#[114]⟩, .string ⟨#[]⟩, .string ⟨#[98]⟩, .string ⟨#[115]⟩, .string ⟨#[]⟩, .string ⟨#[]⟩, .string ⟨#[]⟩, .string ⟨#[97]⟩, .string ⟨#[114]⟩, .string ⟨#[100]⟩] 36)).alloc (.cells #[.int .i64 2, .string ⟨#[97]⟩, .string ⟨#[114]⟩, .string ⟨#[]⟩, .string ⟨#[98]⟩, .string ⟨#[115]⟩, .string ⟨#[]⟩, .string ⟨#[]⟩, .string ⟨#[]⟩, .int .i64 1, .string ⟨#[98]⟩, .string ⟨#[115]⟩, .string ⟨#[100]⟩, .string ⟨#[]⟩, .string ⟨#[]⟩, .string ⟨#[]⟩, .string ⟨#[]⟩, .string ⟨#[]⟩] 32)) := ha1.trans ((Chg.refl (fun _ => False) (w4.alloc (.cells #[.int .i64 2, .string ⟨#[97]⟩, .string ⟨#[114]⟩, .string ⟨#[]⟩, .string ⟨#[98]⟩, .string ⟨#[115]⟩, .string ⟨#[]⟩, .string ⟨#[]⟩, .string ⟨#[]⟩, .string ⟨#[97]⟩, .string ⟨#[114]⟩, .string ⟨#[100]⟩] 36))).alloc _) (fun _ _ h => h)
      have HQ := hid (cf_check2 HKC.out _ _ ((w4.alloc (.cells #[.int .i64 2, .string ⟨#[97]⟩, .string ⟨#[114]⟩, .string ⟨#[]⟩, .string ⟨#[98]⟩, .string ⟨#[115]⟩, .string ⟨#[]⟩, .string ⟨#[]⟩, .string ⟨#[]⟩, .string ⟨#[97]⟩, .string ⟨#[114]⟩, .string ⟨#[100]⟩] 36)).alloc (.cells #[.int .i64 2, .string ⟨#[97]⟩, .string ⟨#[114]⟩, .string ⟨#[]⟩, .string ⟨#[98]⟩, .string ⟨#[115]⟩, .string ⟨#[]⟩, .string ⟨#[]⟩, .string ⟨#[]⟩, .int .i64 1, .string ⟨#[98]⟩, .string ⟨#[115]⟩, .string ⟨#[100]⟩, .string ⟨#[]⟩, .string ⟨#[]⟩, .string ⟨#[]⟩, .string ⟨#[]⟩, .string ⟨#[]⟩] 32)) (steps_Y9 hb1) (creds_two9 hb2))
      have HN := hid (H4.out.go ha2)
      obtain ⟨⟨b0, b1, b2, b3, b4, b5, b6, b7, b8⟩, ⟨b9, b10, b11⟩⟩ := step_at_blk H4.out.bY
      simp only [Nat.zero_add, stY, cI9, fA9, noneR] at b0 b1 b2 b3 b4 b5 b6 b7 b8 b9 b10 b11
      change _ = some (Value.string ⟨#[97]⟩) at b1
      change _ = some (Value.string ⟨#[114]⟩) at b2
      change _ = some (Value.string ⟨#[]⟩) at b3
      change _ = some (Value.string ⟨#[98]⟩) at b4
      change _ = some (Value.string ⟨#[115]⟩) at b5
      change _ = some (Value.string ⟨#[]⟩) at b6
      change _ = some (Value.string ⟨#[]⟩) at b7
      change _ = some (Value.string ⟨#[]⟩) at b8
      change _ = some (Value.string ⟨#[97]⟩) at b9
      change _ = some (Value.string ⟨#[114]⟩) at b10
      change _ = some (Value.string ⟨#[100]⟩) at b11
      obtain ⟨p0, p1, p2, p3, p4, p5, p6, p7, p8⟩ := cred_at_blk (blk_keep H4.out.cc ha1 id)
      simp only [Nat.zero_add, cI9, noneR] at p0 p1 p2 p3 p4 p5 p6 p7 p8
      change _ = some (Value.string ⟨#[97]⟩) at p1
      change _ = some (Value.string ⟨#[114]⟩) at p2
      change _ = some (Value.string ⟨#[]⟩) at p3
      change _ = some (Value.string ⟨#[98]⟩) at p4
      change _ = some (Value.string ⟨#[115]⟩) at p5
      change _ = some (Value.string ⟨#[]⟩) at p6
      change _ = some (Value.string ⟨#[]⟩) at p7
      change _ = some (Value.string ⟨#[]⟩) at p8
      obtain ⟨q0, q1, q2, q3, q4, q5, q6, q7, q8⟩ := cred_at_blk (blk_keep H4.out.cd ha1 id)
      simp only [Nat.zero_add, cM9, noneR] at q0 q1 q2 q3 q4 q5 q6 q7 q8
      change _ = some (Value.string ⟨#[98]⟩) at q1
      change _ = some (Value.string ⟨#[115]⟩) at q2
      change _ = some (Value.string ⟨#[100]⟩) at q3
      change _ = some (Value.string ⟨#[]⟩) at q4
      change _ = some (Value.string ⟨#[]⟩) at q5
      change _ = some (Value.string ⟨#[]⟩) at q6
      change _ = some (Value.string ⟨#[]⟩) at q7
      change _ = some (Value.string ⟨#[]⟩) at q8
      obtain ⟨⟨r0, r1, r2, r3, r4, r5, r6, r7, r8⟩, ⟨r9, r10, r11⟩⟩ := step_at_blk HN.out.bY
      simp only [Nat.zero_add, stY, cI9, fA9, noneR] at r0 r1 r2 r3 r4 r5 r6 r7 r8 r9 r10 r11
      change _ = some (Value.string ⟨#[97]⟩) at r1
      change _ = some (Value.string ⟨#[114]⟩) at r2
      change _ = some (Value.string ⟨#[]⟩) at r3
      change _ = some (Value.string ⟨#[98]⟩) at r4
      change _ = some (Value.string ⟨#[115]⟩) at r5
      change _ = some (Value.string ⟨#[]⟩) at r6
      change _ = some (Value.string ⟨#[]⟩) at r7
      change _ = some (Value.string ⟨#[]⟩) at r8
      change _ = some (Value.string ⟨#[97]⟩) at r9
      change _ = some (Value.string ⟨#[114]⟩) at r10
      change _ = some (Value.string ⟨#[100]⟩) at r11
      clear hb1 hb2 ha1 ha2 H4
      go_wp2_with fail
      refine HQ.out.mono ?_
      clear HQ b0 b1 b2 b3 b4 b5 b6 b7 b8 b9 b10 b11 p0 p1 p2 p3 p4 p5 p6 p7 p8 q0 q1 q2 q3 q4 q5 q6 q7 q8 r0 r1 r2 r3 r4 r5 r6 r7 r8 r9 r10 r11
      rintro e w5 ⟨rfl, hc⟩
      have H5 := hid (HN.out.go hc)
      clear HN hc
      have hb1 : ((w5.alloc (.cells #[.int .i64 1, .string ⟨#[98]⟩, .string ⟨#[115]⟩, .string ⟨#[100]⟩, .string ⟨#[]⟩, .string ⟨#[]⟩, .string ⟨#[]⟩, .string ⟨#[]⟩, .string ⟨#[]⟩, .string ⟨#[98]⟩, .string ⟨#[115]⟩, .string ⟨#[100]⟩] 36)).alloc (.cells #[.int .i64 2, .string ⟨#[97]⟩, .string ⟨#[114]⟩, .string ⟨#[]⟩, .string ⟨#[98]⟩, .string ⟨#[115]⟩, .string ⟨#[]⟩, .string ⟨#[]⟩, .string ⟨#[]⟩, .int .i64 1, .string ⟨#[98]⟩, .string ⟨#[115]⟩, .string ⟨#[100]⟩, .string ⟨#[]⟩, .string ⟨#[]⟩, .string ⟨#[]⟩, .string ⟨#[]⟩, .string ⟨#[]⟩] 32)).heap[w5.heap.size]? = some (.cells #[.int .i64 1, .string ⟨#[98]⟩, .string ⟨#[115]⟩, .string ⟨#[100]⟩, .string ⟨#[]⟩, .string ⟨#[]⟩, .string ⟨#[]⟩, .string ⟨#[]⟩, .string ⟨#[]⟩, .string ⟨#[98]⟩, .string ⟨#[115]⟩, .string ⟨#[100]⟩] 36 (0, 0)) := blk_keep (heap_alloc_new w5 _) ((Chg.refl (fun _ => False) _).alloc _) id
      have hb2 : ((w5.alloc (.cells #[.int .i64 1, .string ⟨#[98]⟩, .string ⟨#[115]⟩, .string ⟨#[100]⟩, .string ⟨#[]⟩, .string ⟨#[]⟩, .string ⟨#[]⟩, .string ⟨#[]⟩, .string ⟨#[]⟩, .string ⟨#[98]⟩, .string ⟨#[115]⟩, .string ⟨#[100]⟩] 36)).alloc (.cells #[.int .i64 2, .string ⟨#[97]⟩, .string ⟨#[114]⟩, .string ⟨#[]⟩, .string ⟨#[98]⟩, .string ⟨#[115]⟩, .string ⟨#[]⟩, .string ⟨#[]⟩, .string ⟨#[]⟩, .int .i64 1, .string ⟨#[98]⟩, .string ⟨#[115]⟩, .string ⟨#[100]⟩, .string ⟨#[]⟩, .string ⟨#[]⟩, .string ⟨#[]⟩, .string ⟨#[]⟩, .string ⟨#[]⟩] 32)).heap[w5.heap.size + 1]? = some (.cells #[.int .i64 2, .string ⟨#[97]⟩, .string ⟨#[114]⟩, .string ⟨#[]⟩, .string ⟨#[98]⟩, .string ⟨#[115]⟩, .string ⟨#[]⟩, .string ⟨#[]⟩, .string ⟨#[]⟩, .int .i64 1, .string ⟨#[98]⟩, .string ⟨#[115]⟩, .string ⟨#[100]⟩, .string ⟨#[]⟩, .string ⟨#[]⟩, .string ⟨#[]⟩, .string ⟨#[]⟩, .string ⟨#[]⟩] 32 (0, 0)) := by
        have := heap_alloc_new (w5.alloc (.cells #[.int .i64 1, .string ⟨#[98]⟩, .string ⟨#[115]⟩, .string ⟨#[100]⟩, .string ⟨#[]⟩, .string ⟨#[]⟩, .string ⟨#[]⟩, .string ⟨#[]⟩, .string ⟨#[]⟩, .string ⟨#[98]⟩, .string ⟨#[115]⟩, .string ⟨#[100]⟩] 36)) (.cells #[.int .i64 2, .string ⟨#[97]⟩, .string ⟨#[114]⟩, .string ⟨#[]⟩, .string ⟨#[98]⟩, .string ⟨#[115]⟩, .string ⟨#[]⟩, .string ⟨#[]⟩, .string ⟨#[]⟩, .int .i64 1, .string ⟨#[98]⟩, .string ⟨#[115]⟩, .string ⟨#[100]⟩, .string ⟨#[]⟩, .string ⟨#[]⟩, .string ⟨#[]⟩, .string ⟨#[]⟩, .string ⟨#[]⟩] 32)
        rw [World.size_alloc] at this
        exact this
      have ha1 : Chg (fun _ => False) w5 (w5.alloc (.cells #[.int .i64 1, .string ⟨#[98]⟩, .string ⟨#[115]⟩, .string ⟨#[100]⟩, .string ⟨#[]⟩, .string ⟨#[]⟩, .string ⟨#[]⟩, .string ⟨#[]⟩, .string ⟨#[]⟩, .string ⟨#[98]⟩, .string ⟨#[115]⟩, .string ⟨#[100]⟩] 36)) := (Chg.refl _ w5).alloc _
      have ha2 : Chg (fun _ => False) w5 ((w5.alloc (.cells #[.int .i64 1, .string ⟨#[98]⟩, .string ⟨#[115]⟩, .string ⟨#[100]⟩, .string ⟨#[]⟩, .string ⟨#[]⟩, .string ⟨#[]⟩, .string ⟨#[]⟩, .string ⟨#[]⟩, .string ⟨#[98]⟩, .string ⟨#[115]⟩, .string ⟨#[100]⟩] 36)).alloc (.cells #[.int .i64 2, .string ⟨#[97]⟩, .string ⟨#[114]⟩, .string ⟨#[]⟩, .string ⟨#[98]⟩, .string ⟨#[115]⟩, .string ⟨#[]⟩, .string ⟨#[]⟩, .string ⟨#[]⟩, .int .i64 1, .string ⟨#[98]⟩, .string ⟨#[115]⟩, .string ⟨#[100]⟩, .string ⟨#[]⟩, .string ⟨#[]⟩, .string ⟨#[]⟩, .string ⟨#[]⟩, .string ⟨#[]⟩] 32)) := ha1.trans ((Chg.refl (fun _ => False) (w5.alloc (.cells #[.int .i64 1, .string ⟨#[98]⟩, .string ⟨#[115]⟩, .string ⟨#[100]⟩, .string ⟨#[]⟩, .string ⟨#[]⟩, .string ⟨#[]⟩, .string ⟨#[]⟩, .string ⟨#[]⟩, .string ⟨#[98]⟩, .string ⟨#[115]⟩, .string ⟨#[100]⟩] 36))).alloc _) (fun _ _ h => h)
      have HQ := hid (cf_check3 HKC.out _ _ ((w5.alloc (.cells #[.int .i64 1, .string ⟨#[98]⟩, .string ⟨#[115]⟩, .string ⟨#[100]⟩, .string ⟨#[]⟩, .string ⟨#[]⟩, .string ⟨#[]⟩, .string ⟨#[]⟩, .string ⟨#[]⟩, .string ⟨#[98]⟩, .string ⟨#[115]⟩, .string ⟨#[100]⟩] 36)).alloc (.cells #[.int .i64 2, .string ⟨#[97]⟩, .string ⟨#[114]⟩, .string ⟨#[]⟩, .string ⟨#[98]⟩, .string ⟨#[115]⟩, .string ⟨#[]⟩, .string ⟨#[]⟩, .string ⟨#[]⟩, .int .i64 1, .string ⟨#[98]⟩, .string ⟨#[115]⟩, .string ⟨#[100]⟩, .string ⟨#[]⟩, .string ⟨#[]⟩, .string ⟨#[]⟩, .string ⟨#[]⟩, .string ⟨#[]⟩] 32)) (steps_X9 hb1) (creds_two9 hb2))
      have HN := hid (H5.out.go ha2)
      obtain ⟨⟨a0, a1, a2, a3, a4, a5, a6, a7, a8⟩, ⟨a9, a10, a11⟩⟩ := step_at_blk H5.out.bx
      simp only [Nat.zero_add, stX, cM9, fB9, noneR] at a0 a1 a2 a3 a4 a5 a6 a7 a8 a9 a10 a11
      change _ = some (Value.string ⟨#[98]⟩) at a1
      change _ = some (Value.string ⟨#[115]⟩) at a2
      change _ = some (Value.string ⟨#[100]⟩) at a3
      change _ = some (Value.string ⟨#[]⟩) at a4
      change _ = some (Value.string ⟨#[]⟩) at a5
      change _ = some (Value.string ⟨#[]⟩) at a6
      change _ = some (Value.string ⟨#[]⟩) at a7
      change _ = some (Value.string ⟨#[]⟩) at a8
      change _ = some (Value.string ⟨#[98]⟩) at a9
      change _ = some (Value.string ⟨#[115]⟩) at a10
      change _ = some (Value.string ⟨#[100]⟩) at a11
      obtain ⟨p0, p1, p2, p3, p4, p5, p6, p7, p8⟩ := cred_at_blk (blk_keep H5.out.cc ha1 id)
      simp only [Nat.zero_add, cI9, noneR] at p0 p1 p2 p3 p4 p5 p6 p7 p8
      change _ = some (Value.string ⟨#[97]⟩) at p1
      change _ = some (Value.string ⟨#[114]⟩) at p2
      change _ = some (Value.string ⟨#[]⟩) at p3
      change _ = some (Value.string ⟨#[98]⟩) at p4
      change _ = some (Value.string ⟨#[115]⟩) at p5
      change _ = some (Value.string ⟨#[]⟩) at p6
      change _ = some (Value.string ⟨#[]⟩) at p7
      change _ = some (Value.string ⟨#[]⟩) at p8
      obtain ⟨q0, q1, q2, q3, q4, q5, q6, q7, q8⟩ := cred_at_blk (blk_keep H5.out.cd ha1 id)
      simp only [Nat.zero_add, cM9, noneR] at q0 q1 q2 q3 q4 q5 q6 q7 q8
      change _ = some (Value.string ⟨#[98]⟩) at q1
      change _ = some (Value.string ⟨#[115]⟩) at q2
      change _ = some (Value.string ⟨#[100]⟩) at q3
      change _ = some (Value.string ⟨#[]⟩) at q4
      change _ = some (Value.string ⟨#[]⟩) at q5
      change _ = some (Value.string ⟨#[]⟩) at q6
      change _ = some (Value.string ⟨#[]⟩) at q7
      change _ = some (Value.string ⟨#[]⟩) at q8
      obtain ⟨⟨r0, r1, r2, r3, r4, r5, r6, r7, r8⟩, ⟨r9, r10, r11⟩⟩ := step_at_blk HN.out.bY
      simp only [Nat.zero_add, stY, cI9, fA9, noneR] at r0 r1 r2 r3 r4 r5 r6 r7 r8 r9 r10 r11
      change _ = some (Value.string ⟨#[97]⟩) at r1
      change _ = some (Value.string ⟨#[114]⟩) at r2
      change _ = some (Value.string ⟨#[]⟩) at r3
      change _ = some (Value.string ⟨#[98]⟩) at r4
      change _ = some (Value.string ⟨#[115]⟩) at r5
      change _ = some (Value.string ⟨#[]⟩) at r6
      change _ = some (Value.string ⟨#[]⟩) at r7
      change _ = some (Value.string ⟨#[]⟩) at r8
      change _ = some (Value.string ⟨#[97]⟩) at r9
      change _ = some (Value.string ⟨#[114]⟩) at r10
      change _ = some (Value.string ⟨#[100]⟩) at r11
      clear hb1 hb2 ha1 ha2 H5
      go_wp2_with fail
      refine HQ.out.mono ?_
      clear HQ a0 a1 a2 a3 a4 a5 a6 a7 a8 a9 a10 a11 p0 p1 p2 p3 p4 p5 p6 p7 p8 q0 q1 q2 q3 q4 q5 q6 q7 q8 r0 r1 r2 r3 r4 r5 r6 r7 r8 r9 r10 r11
      rintro e w6 ⟨rfl, hc⟩
      have H6 := hid (HN.out.go hc)
      clear HN hc
      have hpn := pen_new w6 (w6.heap.size + 1)
      have hal : Chg (fun _ => False) w6 (w6.alloc (.cells #[.slice none 0 0] 63)) := (Chg.refl _ w6).alloc _
      have hal2 : Chg (fun _ => False) (w6.alloc (.cells #[.slice none 0 0] 63)) ((w6.alloc (.cells #[.slice none 0 0] 63)).alloc (.cells #[.int .i64 1, .string ⟨#[98]⟩, .string ⟨#[115]⟩, .string ⟨#[100]⟩, .string ⟨#[]⟩, .string ⟨#[]⟩, .string ⟨#[]⟩, .string ⟨#[]⟩, .string ⟨#[]⟩, .string ⟨#[98]⟩, .string ⟨#[115]⟩, .string ⟨#[100]⟩, .int .i64 2, .string ⟨#[97]⟩, .string ⟨#[114]⟩, .string ⟨#[]⟩, .string ⟨#[98]⟩, .string ⟨#[115]⟩, .string ⟨#[]⟩, .string ⟨#[]⟩, .string ⟨#[]⟩, .string ⟨#[97]⟩, .string ⟨#[114]⟩, .string ⟨#[100]⟩] 36)) := (Chg.refl _ _).alloc _
      have hb1 : ((w6.alloc (.cells #[.slice none 0 0] 63)).alloc (.cells #[.int .i64 1, .string ⟨#[98]⟩, .string ⟨#[115]⟩, .string ⟨#[100]⟩, .string ⟨#[]⟩, .string ⟨#[]⟩, .string ⟨#[]⟩, .string ⟨#[]⟩, .string ⟨#[]⟩, .string ⟨#[98]⟩, .string ⟨#[115]⟩, .string ⟨#[100]⟩, .int .i64 2, .string ⟨#[97]⟩, .string ⟨#[114]⟩, .string ⟨#[]⟩, .string ⟨#[98]⟩, .string ⟨#[115]⟩, .string ⟨#[]⟩, .string ⟨#[]⟩, .string ⟨#[]⟩, .string ⟨#[97]⟩, .string ⟨#[114]⟩, .string ⟨#[100]⟩] 36)).heap[w6.heap.size + 1]? = some (.cells #[.int .i64 1, .string ⟨#[98]⟩, .string ⟨#[115]⟩, .string ⟨#[100]⟩, .string ⟨#[]⟩, .string ⟨#[]⟩, .string ⟨#[]⟩, .string ⟨#[]⟩, .string ⟨#[]⟩, .string ⟨#[98]⟩, .string ⟨#[115]⟩, .string ⟨#[100]⟩, .int .i64 2, .string ⟨#[97]⟩, .string ⟨#[114]⟩, .string ⟨#[]⟩, .string ⟨#[98]⟩, .string ⟨#[115]⟩, .string ⟨#[]⟩, .string ⟨#[]⟩, .string ⟨#[]⟩, .string ⟨#[97]⟩, .string ⟨#[114]⟩, .string ⟨#[100]⟩] 36 (0, 0)) := by
        have := heap_alloc_new (w6.alloc (.cells #[.slice none 0 0] 63)) (.cells #[.int .i64 1, .string ⟨#[98]⟩, .string ⟨#[115]⟩, .string ⟨#[100]⟩, .string ⟨#[]⟩, .string ⟨#[]⟩, .string ⟨#[]⟩, .string ⟨#[]⟩, .string ⟨#[]⟩, .string ⟨#[98]⟩, .string ⟨#[115]⟩, .string ⟨#[100]⟩, .int .i64 2, .string ⟨#[97]⟩, .string ⟨#[114]⟩, .string ⟨#[]⟩, .string ⟨#[98]⟩, .string ⟨#[115]⟩, .string ⟨#[]⟩, .string ⟨#[]⟩, .string ⟨#[]⟩, .string ⟨#[97]⟩, .string ⟨#[114]⟩, .string ⟨#[100]⟩] 36)
        rw [World.size_alloc] at this
        exact this
      have hsz : ((w6.alloc (.cells #[.slice none 0 0] 63)).alloc (.cells #[.int .i64 1, .string ⟨#[98]⟩, .string ⟨#[115]⟩, .string ⟨#[100]⟩, .string ⟨#[]⟩, .string ⟨#[]⟩, .string ⟨#[]⟩, .string ⟨#[]⟩, .string ⟨#[]⟩, .string ⟨#[98]⟩, .string ⟨#[115]⟩, .string ⟨#[100]⟩, .int .i64 2, .string ⟨#[97]⟩, .string ⟨#[114]⟩, .string ⟨#[]⟩, .string ⟨#[98]⟩, .string ⟨#[115]⟩, .string ⟨#[]⟩, .string ⟨#[]⟩, .string ⟨#[]⟩, .string ⟨#[97]⟩, .string ⟨#[114]⟩, .string ⟨#[100]⟩] 36)).heap.size = w6.heap.size + 2 := by simp
      have HQ := hid (cf_put HKG.out (w6.heap.size + 1) w6.heap.size _ ((w6.alloc (.cells #[.slice none 0 0] 63)).alloc (.cells #[.int .i64 1, .string ⟨#[98]⟩, .string ⟨#[115]⟩, .string ⟨#[100]⟩, .string ⟨#[]⟩, .string ⟨#[]⟩, .string ⟨#[]⟩, .string ⟨#[]⟩, .string ⟨#[]⟩, .string ⟨#[98]⟩, .string ⟨#[115]⟩, .string ⟨#[100]⟩, .int .i64 2, .string ⟨#[97]⟩, .string ⟨#[114]⟩, .string ⟨#[]⟩, .string ⟨#[98]⟩, .string ⟨#[115]⟩, .string ⟨#[]⟩, .string ⟨#[]⟩, .string ⟨#[]⟩, .string ⟨#[97]⟩, .string ⟨#[114]⟩, .string ⟨#[100]⟩] 36)) (hpn.keep hal2 id (fun _ _ => id)) (by omega) (by omega) (steps_two9 hb1) (fun i hi => by subst hi; omega))
      have HN := hid (H6.out.go (hal.trans hal2 (fun _ _ h => h)))
      obtain ⟨⟨a0, a1, a2, a3, a4, a5, a6, a7, a8⟩, ⟨a9, a10, a11⟩⟩ := step_at_blk (H6.out.go hal).bx
      simp only [Nat.zero_add, stX, cM9, fB9, noneR] at a0 a1 a2 a3 a4 a5 a6 a7 a8 a9 a10 a11
      change _ = some (Value.string ⟨#[98]⟩) at a1
      change _ = some (Value.string ⟨#[115]⟩) at a2
      change _ = some (Value.string ⟨#[100]⟩) at a3
      change _ = some (Value.string ⟨#[]⟩) at a4
      change _ = some (Value.string ⟨#[]⟩) at a5
      change _ = some (Value.string ⟨#[]⟩) at a6
      change _ = some (Value.string ⟨#[]⟩) at a7
      change _ = some (Value.string ⟨#[]⟩) at a8
      change _ = some (Value.string ⟨#[98]⟩) at a9
      change _ = some (Value.string ⟨#[115]⟩) at a10
      change _ = some (Value.string ⟨#[100]⟩) at a11
      obtain ⟨⟨b0, b1, b2, b3, b4, b5, b6, b7, b8⟩, ⟨b9, b10, b11⟩⟩ := step_at_blk (H6.out.go hal).bY
      simp only [Nat.zero_add, stY, cI9, fA9, noneR] at b0 b1 b2 b3 b4 b5 b6 b7 b8 b9 b10 b11
      change _ = some (Value.string ⟨#[97]⟩) at b1
      change _ = some (Value.string ⟨#[114]⟩) at b2
      change _ = some (Value.string ⟨#[]⟩) at b3
      change _ = some (Value.string ⟨#[98]⟩) at b4
      change _ = some (Value.string ⟨#[115]⟩) at b5
      change _ = some (Value.string ⟨#[]⟩) at b6
      change _ = some (Value.string ⟨#[]⟩) at b7
      change _ = some (Value.string ⟨#[]⟩) at b8
      change _ = some (Value.string ⟨#[97]⟩) at b9
      change _ = some (Value.string ⟨#[114]⟩) at b10
      change _ = some (Value.string ⟨#[100]⟩) at b11
      have HLT := hid (And.intro (lt_blk H6.out.cc) (And.intro (lt_blk H6.out.cd) (And.intro (lt_blk H6.out.bx) (And.intro (lt_blk H6.out.bY) H6.out.ch.size))))
      clear hpn hal hal2 hb1 hsz H6
      go_wp2_with fail
      refine HQ.out.mono ?_
      clear HQ a0 a1 a2 a3 a4 a5 a6 a7 a8 a9 a10 a11 b0 b1 b2 b3 b4 b5 b6 b7 b8 b9 b10 b11
      generalize ((w6.alloc (.cells #[.slice none 0 0] 63)).alloc (.cells #[.int .i64 1, .string ⟨#[98]⟩, .string ⟨#[115]⟩, .string ⟨#[100]⟩, .string ⟨#[]⟩, .string ⟨#[]⟩, .string ⟨#[]⟩, .string ⟨#[]⟩, .string ⟨#[]⟩, .string ⟨#[98]⟩, .string ⟨#[115]⟩, .string ⟨#[100]⟩, .int .i64 2, .string ⟨#[97]⟩, .string ⟨#[114]⟩, .string ⟨#[]⟩, .string ⟨#[98]⟩, .string ⟨#[115]⟩, .string ⟨#[]⟩, .string ⟨#[]⟩, .string ⟨#[]⟩, .string ⟨#[97]⟩, .string ⟨#[114]⟩, .string ⟨#[100]⟩] 36)) = w7 at *
      obtain ⟨P, hP⟩ : ∃ P, P = w6.heap.size := ⟨_, rfl⟩
      rw [← hP] at HLT
      simp only [← hP]
      clear hP
      rintro e w8 ⟨rfl, ⟨pa, pc, hp⟩, hc⟩
      have H8 := hid (HN.out.keep hc (fun h => by have h1 := HLT.out; have h2 : c = P := h; omega) (fun h => by have h1 := HLT.out; have h2 : d = P := h; omega) (fun h => by have h1 := HLT.out; have h2 : x = P := h; omega) (fun h => by have h1 := HLT.out; have h2 : y = P := h; omega) (fun i hi h => by have h1 := HLT.out; have h2 : i = P := h; omega))
      clear HN hc HLT
      have hal : Chg (fun _ => False) w8 (w8.alloc (.cells #[.slice none 0 0] 22)) := (Chg.refl _ w8).alloc _
      have hX := heap_alloc_new w8 (.cells #[.slice none 0 0] 22)
      have HQ := hid (bytes_any _ _ _ _ _ (w8.alloc (.cells #[.slice none 0 0] 22)) (hp.keep hal id (fun _ _ => id)) cf_len)
      have HN := hid (And.intro (H8.out.go hal) hX)
      have HLT := hid (And.intro (lt_blk H8.out.cc) (And.intro (lt_blk H8.out.cd) (And.intro (lt_blk H8.out.bx) (And.intro (lt_blk H8.out.bY) H8.out.ch.size))))
      clear hal hX hp H8
      go_wp2_with fail
      refine HQ.out.mono ?_
      clear HQ
      generalize (w8.alloc (.cells #[.slice none 0 0] 22)) = w9 at *
      obtain ⟨V, hV⟩ : ∃ V, V = w8.heap.size := ⟨_, rfl⟩
      rw [← hV] at HN HLT
      simp only [← hV]
      clear hV
      have lV := lt_blk HN.out.2
      rintro e w10 ⟨ba, bc, rfl, hby, hc⟩
      have HQ := hid (kreadF (X := V) HKG.out cf_len hby (fun i hi => hi.2) (fun h => by have := h.1; omega) (blk_keep HN.out.2 hc id))
      have hmf : ∀ (fn : Fn) (first cap : Array Value) (w : World), (Instr.makeFunc fn first cap).run Try.prog w = .ok (.func fn first cap) w := fun _ _ _ _ => rfl
      have HM := hid (And.intro (HN.out.1.go hc) (And.intro (blk_keep HN.out.2 hc id) HLT.out))
      clear hby hc HN HLT
      go_wp2_with fail
      refine HQ.out.mono ?_
      clear HQ hmf
      rintro e w11 ⟨rfl, ⟨ta, cap, hX, hst⟩, hc⟩
      rw [cf_got] at hX hst
      rw [cf_err]
      obtain ⟨vb, vo, rfl, hvD, hsy, _⟩ := hst 1 (by simp)
      obtain ⟨u, hu⟩ : ∃ u, u = vo + 1 * 12 := ⟨_, rfl⟩
      rw [← hu] at hsy
      have HU := hid hu
      have hlt9 := HM.out.2.2
      have hsy2 : StepAt w11 vb u stY := hsy
      have HE := hid (And.intro (HM.out.1.keep hc (fun h => by have h2 : c = V := h; omega) (fun h => by have h2 : d = V := h; omega) (fun h => by have h2 : x = V := h; omega) (fun h => by have h2 : y = V := h; omega) (fun i hi h => by have h2 : i = V := h; omega)) (And.intro hX hsy2))
      clear hst hX hc HM hlt9 hsy hsy2 hu hvD lV
      go_wp2_with fail
      refine wp_region_specs (cfSp11 x y V vb vo u cap) [77, 78, 79, 80, 81, 82, 83, 84, 85, 86, 87, 88, 89, 90, 91, 92, 93, 94, 95, 96, 97, 98, 99, 100, 101, 102, 103, 104, 105, 106, 107, 108, 109, 110, 111, 112, 113, 114, 115, 116, 117, 118, 119, 120, 121, 122, 123, 124, 125, 126, 127, 128, 0] [5, 6, 7, 8, 9, 10, 12, 14, 15, 16] (by kernel_rfl) (by kernel_rfl) (by rfl) (by kernel_rfl) ?start11 ?obs11 ?fin11
      case start11 =>
        simp only [List.forall_mem_cons]; exact ⟨⟨_, rfl, rfl⟩, ⟨_, rfl, rfl⟩, ⟨_, rfl, rfl⟩, ⟨_, rfl, rfl⟩, ⟨_, rfl, rfl⟩, ⟨_, rfl, rfl⟩, ⟨_, rfl, rfl⟩, ⟨_, rfl, rfl⟩, ⟨_, rfl, rfl⟩, ⟨_, rfl, rfl⟩, fun _ h => by cases h⟩
      case obs11 =>
        refine Obs.cons none (by kernel_rfl) ?_ ?_
        · refine Ob.plain fun a w hR hk K k => ?_
          obtain ⟨_, e7, f7⟩ := hk 7 (by decide)
          clear hk
          go_simp
          exact k _ _ (Chg.refl _ _) f7
        refine Obs.cons none (by kernel_rfl) ?_ ?_
        · refine Ob.plain fun a w hR hk K k => ?_
          obtain ⟨_, e77, rfl⟩ := hk 77 (by decide)
          clear hk
          go_simp
          exact k _ _ (Chg.refl _ _) rfl
        refine Obs.cons none (by kernel_rfl) ?_ ?_
        · refine Ob.plain fun a w hR hk K k => ?_
          obtain ⟨_, e78, f78⟩ := hk 78 (by decide)
          clear hk
          go_simp
          exact k _ _ (Chg.refl _ _) f78
        refine Obs.cons (some (79, true)) (by kernel_rfl) ?_ ?_
        · refine Ob.yes (fun _ _ h => h) fun a w hR hk K k => ?_
          obtain ⟨_, e8, f8⟩ := hk 8 (by decide)
          clear hk
          go_simp
          exact k _ _ (Chg.refl _ _) f8
        refine Obs.cons (some (79, true)) (by kernel_rfl) ?_ ?_
        · refine Ob.yes (fun _ _ h => h) fun a w hR hk K k => ?_
          obtain ⟨_, e80, rfl⟩ := hk 80 (by decide)
          clear hk
          go_simp
          exact k _ _ (Chg.refl _ _) rfl
        refine Obs.cons none (by kernel_rfl) ?_ ?_
        · refine Ob.plain fun a w hR hk K k => ?_
          obtain ⟨_, e79, rfl⟩ := hk 79 (by decide)
          obtain ⟨_, e81, rfl⟩ := hk 81 (by decide)
          clear hk
          go_simp
          exact k _ _ (Chg.refl _ _) rfl
        refine Obs.cons none (by kernel_rfl) ?_ ?_
        · refine Ob.plain fun a w hR hk K k => ?_
          obtain ⟨_, e82, f82⟩ := hk 82 (by decide)
          clear hk
          go_simp
          exact k _ _ (Chg.refl _ _) f82
        refine Obs.cons (some (83, true)) (by kernel_rfl) ?_ ?_
        · refine Ob.yes (fun _ _ h => h) fun a w hR hk K k => ?_
          obtain ⟨_, e9, f9⟩ := hk 9 (by decide)
          clear hk
          go_simp
          exact k _ _ (Chg.refl _ _) f9
        refine Obs.cons (some (83, true)) (by kernel_rfl) ?_ ?_
        · refine Ob.yes (fun _ _ h => h) fun a w hR hk K k => ?_
          obtain ⟨_, e84, rfl⟩ := hk 84 (by decide)
          clear hk
          go_simp
          exact k _ _ (Chg.refl _ _) rfl
        refine Obs.cons none (by kernel_rfl) ?_ ?_
        · refine Ob.plain fun a w hR hk K k => ?_
          obtain ⟨_, e83, rfl⟩ := hk 83 (by decide)
          obtain ⟨_, e85, rfl⟩ := hk 85 (by decide)
          clear hk
          go_simp
          exact k _ _ (Chg.refl _ _) rfl
        refine Obs.cons none (by kernel_rfl) ?_ ?_
        · refine Ob.plain fun a w hR hk K k => ?_
          obtain ⟨_, e86, f86⟩ := hk 86 (by decide)
          clear hk
          go_simp
          exact k _ _ (Chg.refl _ _) f86
        refine Obs.cons (some (87, true)) (by kernel_rfl) ?_ ?_
        · refine Ob.yes (fun _ _ h => h) fun a w hR hk K k => ?_
          obtain ⟨_, e10, f10⟩ := hk 10 (by decide)
          clear hk
          go_simp
          exact k _ _ (Chg.refl _ _) f10
        refine Obs.cons (some (87, true)) (by kernel_rfl) ?_ ?_
        · refine Ob.yes (fun _ _ h => h) fun a w hR hk K k => ?_
          obtain ⟨_, e88, rfl⟩ := hk 88 (by decide)
          clear hk
          go_simp
          exact k _ _ (Chg.refl _ _) rfl
        refine Obs.cons none (by kernel_rfl) ?_ ?_
        · refine Ob.plain fun a w hR hk K k => ?_
          obtain ⟨_, e87, rfl⟩ := hk 87 (by decide)
          obtain ⟨_, e89, rfl⟩ := hk 89 (by decide)
          clear hk
          go_simp
          exact k _ _ (Chg.refl _ _) rfl
        refine Obs.cons none (by kernel_rfl) ?_ ?_
        · refine Ob.plain fun a w hR hk K k => ?_
          obtain ⟨_, e90, f90⟩ := hk 90 (by decide)
          clear hk
          go_simp
          exact k _ _ (Chg.refl _ _) f90
        refine Obs.cons (some (91, true)) (by kernel_rfl) ?_ ?_
        · refine Ob.yes (fun _ _ h => h) fun a w hR hk K k => ?_
          obtain ⟨_, e12, f12⟩ := hk 12 (by decide)
          clear hk
          go_simp
          exact k _ _ (Chg.refl _ _) f12
        refine Obs.cons (some (91, true)) (by kernel_rfl) ?_ ?_
        · refine Ob.yes (fun _ _ h => h) fun a w hR hk K k => ?_
          obtain ⟨_, e92, rfl⟩ := hk 92 (by decide)
          clear hk
          go_simp
          exact k _ _ (Chg.refl _ _) rfl
        refine Obs.cons none (by kernel_rfl) ?_ ?_
        · refine Ob.plain fun a w hR hk K k => ?_
          obtain ⟨_, e91, rfl⟩ := hk 91 (by decide)
          obtain ⟨_, e93, rfl⟩ := hk 93 (by decide)
          clear hk
          go_simp
          exact k _ _ (Chg.refl _ _) rfl
        refine Obs.cons none (by kernel_rfl) ?_ ?_
        · refine Ob.plain fun a w hR hk K k => ?_
          obtain ⟨_, e94, f94⟩ := hk 94 (by decide)
          clear hk
          go_simp
          exact k _ _ (Chg.refl _ _) f94
        refine Obs.cons (some (95, true)) (by kernel_rfl) ?_ ?_
        · refine Ob.yes (fun _ _ h => h) fun a w hR hk K k => ?_
          obtain ⟨_, e5, rfl⟩ := hk 5 (by decide)
          clear hk
          obtain ⟨⟨a0, a1, a2, a3, a4, a5, a6, a7, a8⟩, ⟨a9, a10, a11⟩⟩ := step_at_blk (blk_keep HE.out.1.bx hR id)
          simp only [Nat.zero_add, stX, cM9, fB9, noneR] at a0 a1 a2 a3 a4 a5 a6 a7 a8 a9 a10 a11
          change _ = some (Value.string ⟨#[98]⟩) at a1
          change _ = some (Value.string ⟨#[115]⟩) at a2
          change _ = some (Value.string ⟨#[100]⟩) at a3
          change _ = some (Value.string ⟨#[]⟩) at a4
          change _ = some (Value.string ⟨#[]⟩) at a5
          change _ = some (Value.string ⟨#[]⟩) at a6
          change _ = some (Value.string ⟨#[]⟩) at a7
          change _ = some (Value.string ⟨#[]⟩) at a8
          change _ = some (Value.string ⟨#[98]⟩) at a9
          change _ = some (Value.string ⟨#[115]⟩) at a10
          change _ = some (Value.string ⟨#[100]⟩) at a11
          go_simp
          exact k _ _ (Chg.refl _ _) rfl
        refine Obs.cons (some (95, true)) (by kernel_rfl) ?_ ?_
        · refine Ob.yes (fun _ _ h => h) fun a w hR hk K k => ?_
          obtain ⟨_, e96, rfl⟩ := hk 96 (by decide)
          clear hk
          have hq := cf_followsX HKC.out w
          go_simp
          refine hq.mono ?_
          rintro e w2 ⟨rfl, hc⟩
          exact k _ _ hc rfl
        refine Obs.cons none (by kernel_rfl) ?_ ?_
        · refine Ob.plain fun a w hR hk K k => ?_
          obtain ⟨_, e95, rfl⟩ := hk 95 (by decide)
          obtain ⟨_, e97, rfl⟩ := hk 97 (by decide)
          clear hk
          go_simp
          exact k _ _ (Chg.refl _ _) rfl
        refine Obs.cons none (by kernel_rfl) ?_ ?_
        · refine Ob.plain fun a w hR hk K k => ?_
          obtain ⟨_, e98, f98⟩ := hk 98 (by decide)
          clear hk
          go_simp
          exact k _ _ (Chg.refl _ _) f98
        refine Obs.cons (some (99, true)) (by kernel_rfl) ?_ ?_
        · refine Ob.yes (fun _ _ h => h) fun a w hR hk K k => ?_
          obtain ⟨_, e6, rfl⟩ := hk 6 (by decide)
          clear hk
          obtain ⟨⟨a0, a1, a2, a3, a4, a5, a6, a7, a8⟩, ⟨a9, a10, a11⟩⟩ := step_at_blk (blk_keep HE.out.1.bY hR id)
          simp only [Nat.zero_add, stY, cI9, fA9, noneR] at a0 a1 a2 a3 a4 a5 a6 a7 a8 a9 a10 a11
          change _ = some (Value.string ⟨#[97]⟩) at a1
          change _ = some (Value.string ⟨#[114]⟩) at a2
          change _ = some (Value.string ⟨#[]⟩) at a3
          change _ = some (Value.string ⟨#[98]⟩) at a4
          change _ = some (Value.string ⟨#[115]⟩) at a5
          change _ = some (Value.string ⟨#[]⟩) at a6
          change _ = some (Value.string ⟨#[]⟩) at a7
          change _ = some (Value.string ⟨#[]⟩) at a8
          change _ = some (Value.string ⟨#[97]⟩) at a9
          change _ = some (Value.string ⟨#[114]⟩) at a10
          change _ = some (Value.string ⟨#[100]⟩) at a11
          go_simp
          exact k _ _ (Chg.refl _ _) rfl
        refine Obs.cons (some (99, true)) (by kernel_rfl) ?_ ?_
        · refine Ob.yes (fun _ _ h => h) fun a w hR hk K k => ?_
          obtain ⟨_, e100, rfl⟩ := hk 100 (by decide)
          clear hk
          have hq := cf_followsY HKC.out w
          go_simp
          refine hq.mono ?_
          rintro e w2 ⟨rfl, hc⟩
          exact k _ _ hc rfl
        refine Obs.cons (some (99, true)) (by kernel_rfl) ?_ ?_
        · refine Ob.yes (fun _ _ h => h) fun a w hR hk K k => ?_
          obtain ⟨_, e101, rfl⟩ := hk 101 (by decide)
          clear hk
          go_simp
          exact k _ _ (Chg.refl _ _) rfl
        refine Obs.cons none (by kernel_rfl) ?_ ?_
        · refine Ob.plain fun a w hR hk K k => ?_
          obtain ⟨_, e99, rfl⟩ := hk 99 (by decide)
          obtain ⟨_, e102, rfl⟩ := hk 102 (by decide)
          clear hk
          go_simp
          exact k _ _ (Chg.refl _ _) rfl
        refine Obs.cons none (by kernel_rfl) ?_ ?_
        · refine Ob.plain fun a w hR hk K k => ?_
          obtain ⟨_, e103, f103⟩ := hk 103 (by decide)
          clear hk
          go_simp
          exact k _ _ (Chg.refl _ _) f103
        refine Obs.cons (some (104, true)) (by kernel_rfl) ?_ ?_
        · refine Ob.yes (fun _ _ h => h) fun a w hR hk K k => ?_
          obtain ⟨_, e5, rfl⟩ := hk 5 (by decide)
          clear hk
          obtain ⟨⟨a0, a1, a2, a3, a4, a5, a6, a7, a8⟩, ⟨a9, a10, a11⟩⟩ := step_at_blk (blk_keep HE.out.1.bx hR id)
          simp only [Nat.zero_add, stX, cM9, fB9, noneR] at a0 a1 a2 a3 a4 a5 a6 a7 a8 a9 a10 a11
          change _ = some (Value.string ⟨#[98]⟩) at a1
          change _ = some (Value.string ⟨#[115]⟩) at a2
          change _ = some (Value.string ⟨#[100]⟩) at a3
          change _ = some (Value.string ⟨#[]⟩) at a4
          change _ = some (Value.string ⟨#[]⟩) at a5
          change _ = some (Value.string ⟨#[]⟩) at a6
          change _ = some (Value.string ⟨#[]⟩) at a7
          change _ = some (Value.string ⟨#[]⟩) at a8
          change _ = some (Value.string ⟨#[98]⟩) at a9
          change _ = some (Value.string ⟨#[115]⟩) at a10
          change _ = some (Value.string ⟨#[100]⟩) at a11
          go_simp
          exact k _ _ (Chg.refl _ _) rfl
        refine Obs.cons (some (104, true)) (by kernel_rfl) ?_ ?_
        · refine Ob.yes (fun _ _ h => h) fun a w hR hk K k => ?_
          obtain ⟨_, e6, rfl⟩ := hk 6 (by decide)
          clear hk
          obtain ⟨⟨a0, a1, a2, a3, a4, a5, a6, a7, a8⟩, ⟨a9, a10, a11⟩⟩ := step_at_blk (blk_keep HE.out.1.bY hR id)
          simp only [Nat.zero_add, stY, cI9, fA9, noneR] at a0 a1 a2 a3 a4 a5 a6 a7 a8 a9 a10 a11
          change _ = some (Value.string ⟨#[97]⟩) at a1
          change _ = some (Value.string ⟨#[114]⟩) at a2
          change _ = some (Value.string ⟨#[]⟩) at a3
          change _ = some (Value.string ⟨#[98]⟩) at a4
          change _ = some (Value.string ⟨#[115]⟩) at a5
          change _ = some (Value.string ⟨#[]⟩) at a6
          change _ = some (Value.string ⟨#[]⟩) at a7
          change _ = some (Value.string ⟨#[]⟩) at a8
          change _ = some (Value.string ⟨#[97]⟩) at a9
          change _ = some (Value.string ⟨#[114]⟩) at a10
          change _ = some (Value.string ⟨#[100]⟩) at a11
          go_simp
          exact k _ _ (Chg.refl _ _) rfl
        refine Obs.cons (some (104, true)) (by kernel_rfl) ?_ ?_
        · refine Ob.yes (fun _ _ h => h) fun a w hR hk K k => ?_
          obtain ⟨_, e105, rfl⟩ := hk 105 (by decide)
          obtain ⟨_, e106, rfl⟩ := hk 106 (by decide)
          clear hk
          have hb := heap_alloc_new w (.cells #[.int .i64 1, .string ⟨#[98]⟩, .string ⟨#[115]⟩, .string ⟨#[100]⟩, .string ⟨#[]⟩, .string ⟨#[]⟩, .string ⟨#[]⟩, .string ⟨#[]⟩, .string ⟨#[]⟩, .string ⟨#[98]⟩, .string ⟨#[115]⟩, .string ⟨#[100]⟩, .int .i64 2, .string ⟨#[97]⟩, .string ⟨#[114]⟩, .string ⟨#[]⟩, .string ⟨#[98]⟩, .string ⟨#[115]⟩, .string ⟨#[]⟩, .string ⟨#[]⟩, .string ⟨#[]⟩, .string ⟨#[97]⟩, .string ⟨#[114]⟩, .string ⟨#[100]⟩] 36)
          have hal : Chg (fun _ => False) w (w.alloc (.cells #[.int .i64 1, .string ⟨#[98]⟩, .string ⟨#[115]⟩, .string ⟨#[100]⟩, .string ⟨#[]⟩, .string ⟨#[]⟩, .string ⟨#[]⟩, .string ⟨#[]⟩, .string ⟨#[]⟩, .string ⟨#[98]⟩, .string ⟨#[115]⟩, .string ⟨#[100]⟩, .int .i64 2, .string ⟨#[97]⟩, .string ⟨#[114]⟩, .string ⟨#[]⟩, .string ⟨#[98]⟩, .string ⟨#[115]⟩, .string ⟨#[]⟩, .string ⟨#[]⟩, .string ⟨#[]⟩, .string ⟨#[97]⟩, .string ⟨#[114]⟩, .string ⟨#[100]⟩] 36)) := (Chg.refl _ w).alloc _
          go_simp
          exact k _ _ hal ⟨_, rfl, steps_two9 hb, lt_blk hb⟩
        refine Obs.cons (some (104, true)) (by kernel_rfl) ?_ ?_
        · refine Ob.yes (fun _ _ h => h) fun a w hR hk K k => ?_
          obtain ⟨_, e107, f107⟩ := hk 107 (by decide)
          clear hk
          obtain ⟨b9, rfl, hb9, hlt⟩ := f107
          have hq := cf_tight HKC.out _ w hb9 (fun i hi => by subst hi; exact hlt)
          go_simp
          refine hq.mono ?_
          rintro e w2 ⟨rfl, hc⟩
          exact k _ _ hc rfl
        refine Obs.cons none (by kernel_rfl) ?_ ?_
        · refine Ob.plain fun a w hR hk K k => ?_
          obtain ⟨_, e104, rfl⟩ := hk 104 (by decide)
          obtain ⟨_, e108, rfl⟩ := hk 108 (by decide)
          clear hk
          go_simp
          exact k _ _ (Chg.refl _ _) rfl
        refine Obs.cons none (by kernel_rfl) ?_ ?_
        · refine Ob.plain fun a w hR hk K k => ?_
          obtain ⟨_, e109, f109⟩ := hk 109 (by decide)
          clear hk
          go_simp
          exact k _ _ (Chg.refl _ _) f109
        refine Obs.cons (some (110, true)) (by kernel_rfl) ?_ ?_
        · refine Ob.yes (fun _ _ h => h) fun a w hR hk K k => ?_
          obtain ⟨_, e14, f14⟩ := hk 14 (by decide)
          clear hk
          go_simp
          exact k _ _ (Chg.refl _ _) f14
        refine Obs.cons none (by kernel_rfl) ?_ ?_
        · refine Ob.plain fun a w hR hk K k => ?_
          obtain ⟨_, e110, rfl⟩ := hk 110 (by decide)
          obtain ⟨_, e111, rfl⟩ := hk 111 (by decide)
          clear hk
          go_simp
          exact k _ _ (Chg.refl _ _) rfl
        refine Obs.cons none (by kernel_rfl) ?_ ?_
        · refine Ob.plain fun a w hR hk K k => ?_
          obtain ⟨_, e112, f112⟩ := hk 112 (by decide)
          clear hk
          go_simp
          exact k _ _ (Chg.refl _ _) f112
        refine Obs.cons (some (113, true)) (by kernel_rfl) ?_ ?_
        · refine Ob.yes (fun _ _ h => h) fun a w hR hk K k => ?_
          obtain ⟨_, e16, f16⟩ := hk 16 (by decide)
          clear hk
          go_simp
          exact k _ _ (Chg.refl _ _) f16
        refine Obs.cons (some (113, true)) (by kernel_rfl) ?_ ?_
        · refine Ob.yes (fun _ _ h => h) fun a w hR hk K k => ?_
          obtain ⟨_, e114, rfl⟩ := hk 114 (by decide)
          clear hk
          go_simp
          exact k _ _ (Chg.refl _ _) rfl
        refine Obs.cons none (by kernel_rfl) ?_ ?_
        · refine Ob.plain fun a w hR hk K k => ?_
          obtain ⟨_, e113, rfl⟩ := hk 113 (by decide)
          obtain ⟨_, e115, rfl⟩ := hk 115 (by decide)
          clear hk
          go_simp
          exact k _ _ (Chg.refl _ _) rfl
        refine Obs.cons none (by kernel_rfl) ?_ ?_
        · refine Ob.plain fun a w hR hk K k => ?_
          obtain ⟨_, e116, f116⟩ := hk 116 (by decide)
          clear hk
          go_simp
          exact k _ _ (Chg.refl _ _) f116
        refine Obs.cons (some (117, true)) (by kernel_rfl) ?_ ?_
        · refine Ob.yes (fun _ _ h => h) fun a w hR hk K k => ?_
          obtain ⟨_, e15, rfl⟩ := hk 15 (by decide)
          clear hk
          have y0 := cell_blk (blk_keep HE.out.2.1 hR id) 0
          simp only [List.getElem?_toArray, List.getElem?_cons_zero] at y0
          go_simp
          exact k _ _ (Chg.refl _ _) rfl
        refine Obs.cons (some (117, true)) (by kernel_rfl) ?_ ?_
        · refine Ob.yes (fun _ _ h => h) fun a w hR hk K k => ?_
          obtain ⟨_, e118, rfl⟩ := hk 118 (by decide)
          clear hk
          go_simp
          exact k _ _ (Chg.refl _ _) rfl
        refine Obs.cons (some (117, true)) (by kernel_rfl) ?_ ?_
        · refine Ob.yes (fun _ _ h => h) fun a w hR hk K k => ?_
          obtain ⟨_, e119, rfl⟩ := hk 119 (by decide)
          clear hk
          go_simp
          exact k _ _ (Chg.refl _ _) rfl
        refine Obs.cons none (by kernel_rfl) ?_ ?_
        · refine Ob.plain fun a w hR hk K k => ?_
          obtain ⟨_, e117, rfl⟩ := hk 117 (by decide)
          obtain ⟨_, e120, rfl⟩ := hk 120 (by decide)
          clear hk
          go_simp
          exact k _ _ (Chg.refl _ _) rfl
        refine Obs.cons none (by kernel_rfl) ?_ ?_
        · refine Ob.plain fun a w hR hk K k => ?_
          obtain ⟨_, e121, f121⟩ := hk 121 (by decide)
          clear hk
          go_simp
          exact k _ _ (Chg.refl _ _) f121
        refine Obs.cons (some (122, true)) (by kernel_rfl) ?_ ?_
        · refine Ob.yes (fun _ _ h => h) fun a w hR hk K k => ?_
          obtain ⟨_, e15, rfl⟩ := hk 15 (by decide)
          clear hk
          have y0 := cell_blk (blk_keep HE.out.2.1 hR id) 0
          simp only [List.getElem?_toArray, List.getElem?_cons_zero] at y0
          go_simp
          exact k _ _ (Chg.refl _ _) rfl
        refine Obs.cons (some (122, true)) (by kernel_rfl) ?_ ?_
        · refine Ob.yes (fun _ _ h => h) fun a w hR hk K k => ?_
          obtain ⟨_, e123, rfl⟩ := hk 123 (by decide)
          clear hk
          go_simp
          exact k _ _ (Chg.refl _ _) (show Value.pointer (some ⟨vb, vo + 12, none⟩) = .pointer (some ⟨vb, u, none⟩) by rw [HU.out])
        refine Obs.cons (some (122, true)) (by kernel_rfl) ?_ ?_
        · refine Ob.yes (fun _ _ h => h) fun a w hR hk K k => ?_
          obtain ⟨_, e124, rfl⟩ := hk 124 (by decide)
          clear hk
          obtain ⟨⟨a0, a1, a2, a3, a4, a5, a6, a7, a8⟩, ⟨a9, a10, a11⟩⟩ := HE.out.2.2.keep hR id
          simp only [stY, cI9, fA9, noneR] at a0 a1 a2 a3 a4 a5 a6 a7 a8 a9 a10 a11
          change _ = some (Value.string ⟨#[97]⟩) at a1
          change _ = some (Value.string ⟨#[114]⟩) at a2
          change _ = some (Value.string ⟨#[]⟩) at a3
          change _ = some (Value.string ⟨#[98]⟩) at a4
          change _ = some (Value.string ⟨#[115]⟩) at a5
          change _ = some (Value.string ⟨#[]⟩) at a6
          change _ = some (Value.string ⟨#[]⟩) at a7
          change _ = some (Value.string ⟨#[]⟩) at a8
          change _ = some (Value.string ⟨#[97]⟩) at a9
          change w.cell? ⟨vb, u + 10, none⟩ = some (Value.string ⟨#[114]⟩) at a10
          change w.cell? ⟨vb, u + 11, none⟩ = some (Value.string ⟨#[100]⟩) at a11
          go_simp
          exact k _ _ (Chg.refl _ _) rfl
        refine Obs.cons (some (122, true)) (by kernel_rfl) ?_ ?_
        · refine Ob.yes (fun _ _ h => h) fun a w hR hk K k => ?_
          obtain ⟨_, e6, rfl⟩ := hk 6 (by decide)
          clear hk
          obtain ⟨⟨a0, a1, a2, a3, a4, a5, a6, a7, a8⟩, ⟨a9, a10, a11⟩⟩ := step_at_blk (blk_keep HE.out.1.bY hR id)
          simp only [Nat.zero_add, stY, cI9, fA9, noneR] at a0 a1 a2 a3 a4 a5 a6 a7 a8 a9 a10 a11
          change _ = some (Value.string ⟨#[97]⟩) at a1
          change _ = some (Value.string ⟨#[114]⟩) at a2
          change _ = some (Value.string ⟨#[]⟩) at a3
          change _ = some (Value.string ⟨#[98]⟩) at a4
          change _ = some (Value.string ⟨#[115]⟩) at a5
          change _ = some (Value.string ⟨#[]⟩) at a6
          change _ = some (Value.string ⟨#[]⟩) at a7
          change _ = some (Value.string ⟨#[]⟩) at a8
          change _ = some (Value.string ⟨#[97]⟩) at a9
          change _ = some (Value.string ⟨#[114]⟩) at a10
          change _ = some (Value.string ⟨#[100]⟩) at a11
          go_simp
          exact k _ _ (Chg.refl _ _) rfl
        refine Obs.cons (some (122, true)) (by kernel_rfl) ?_ ?_
        · refine Ob.yes (fun _ _ h => h) fun a w hR hk K k => ?_
          obtain ⟨_, e125, rfl⟩ := hk 125 (by decide)
          obtain ⟨_, e126, rfl⟩ := hk 126 (by decide)
          clear hk
          go_simp
          exact k _ _ (Chg.refl _ _) rfl
        refine Obs.cons none (by kernel_rfl) ?_ ?_
        · refine Ob.plain fun a w hR hk K k => ?_
          obtain ⟨_, e122, rfl⟩ := hk 122 (by decide)
          obtain ⟨_, e127, rfl⟩ := hk 127 (by decide)
          clear hk
          go_simp
          exact k _ _ (Chg.refl _ _) rfl
        refine Obs.cons none (by kernel_rfl) ?_ ?_
        · refine Ob.plain fun a w hR hk K k => ?_
          obtain ⟨_, e128, f128⟩ := hk 128 (by decide)
          clear hk
          go_simp
          exact k _ _ (Chg.refl _ _) f128
        exact Obs.nil
      case fin11 =>
        intro vals w12 hc12 hv
        have h0 : vals 0 = .bool true := hv 0 (by decide)
        have HC := hid (HE.out.1.ch.trans hc12 (fun _ _ h => h))
        simp only [putAll, List.setIfInBounds_toArray, List.set_cons_zero, List.set_cons_succ, h0]
        clear hv h0 HE
        go_wp2
        go_ret
        exact ⟨rfl, HC.out⟩
end Go.Proofs.Ytcdjjengkdbngaa
