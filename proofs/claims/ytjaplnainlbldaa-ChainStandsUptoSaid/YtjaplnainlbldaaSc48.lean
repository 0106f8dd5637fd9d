/- The ways to a step: no way; Member, Include, Both. -/
import Derived.Test.YtjaplnainlbldaaSc47
import Derived.Test.YtjaplnainlbldaaSc23
import Derived.Deep.Cut
namespace Go.Proofs.Ytjaplnainlbldaa
open Go.RowKit Go.Maps
attribute [local go_sem] Oper.semAt_some

def kws0 (s : StepB) (Bs Bk B : Nat) : List (SpecR (Chg (fun i => B ≤ i))) := [.any, .eq (.pointer (some ⟨Bs, 0, none⟩)), .eq (.pointer (some ⟨Bk, 0, none⟩)), .any, .any, .eq (.string ⟨s.f.2.toArray⟩), .any, .any, .any, .eq (.pointer (some ⟨Bs, 0, none⟩)), .eq (.agg #[.int .i64 s.c.kind, .string ⟨s.c.head.1.toArray⟩, .string ⟨s.c.head.2.toArray⟩, .string ⟨s.c.who.toArray⟩, .string ⟨s.c.b.1.toArray⟩, .string ⟨s.c.b.2.toArray⟩, .string ⟨s.c.c.1.toArray⟩, .string ⟨s.c.c.2.toArray⟩, .string ⟨s.c.w2.toArray⟩]), .eq (.pointer (some ⟨Bs, 9, none⟩)), .eq (.pointer (some ⟨Bs, 11, none⟩)), .eq (.string ⟨s.f.2.toArray⟩), .any, .any, .any, .any, .any, .any, .any, .any, .any, .any, .any, .any, .any, .any, .any, .any, .any, .any, .any, .any, .any, .any, .any, .any, .any, .any, .any, .any, .any, .any, .any, .any, .any, .any, .any, .any, .any, .any, .any, .any, .any, .any, .any, .any, .any, .any, .any, .any, .any, .any, .any, .any, .any, .any, .any, .any, .any, .any, .any, .any, .any, .any, .any, .any, .any, .any, .any, .any, .any, .any, .any, .any, .any, .any, .any, .any, .any, .any, .any, .any]

set_option maxRecDepth 100000 in
set_option maxHeartbeats 4000000 in
theorem kw_ways_bad {J Jx : List (Value × List Nat) → World → Prop} {T : Nat → Option KTag} {U : Nat → Prop} (l g Bs Bk n0 : Nat) (F : List FactB) (s : StepB) (W : World) (hx : WCtx T U Bs Bk n0 W.heap.size) (hF : F.length ≤ 1000000) (hsh : stepShort s 9223372036854775807) (hks : KS T W g F)
    (hbs : W.heap[Bs]? = some (.cells (stepBox s) 43 (0, 0))) (hbk : W.heap[Bk]? = some (.cells #[.pointer (some ⟨g, 0, none⟩)] 103 (0, 0)))
    (hJ : ∀ s A B, J s A → Chg (fun _ => False) A B → J s B)
    (hY : ∀ (m : Nat) (pre : List (Value × List Nat)) (x : Value × List Nat) (W0 W1 : World), J pre W0 → Chg (fun _ => False) W0 W1 → OwnI W0.heap.size W1 x.1 x.2 → pre.length < F.length + 2 → YieldAt Fence.wide m Try.prog l #[x.1] W1 fun e W' =>
      (e = .returned (.bool true) ∧ J (pre ++ [x]) W' ∧ Chg (VW U n0 W.heap.size pre x) W1 W') ∨ (e = .returned (.bool false) ∧ Jx (pre ++ [x]) W')) (h0 : J [] W) (hr : isCred s.c = false) :
    Calls Try.prog 115 #[.func (.yield l) #[] #[], .pointer (some ⟨Bs, 0, none⟩), .pointer (some ⟨Bk, 0, none⟩)] W (WaysPost J Jx s F) := by
  have HBS := hid hbs
  have HLT : Hid (Bs < W.heap.size) := hid (lt_blk hbs)
  have HST := hid (And.intro hks (And.intro hbk (And.intro h0 hJ)))
  have HYY := hid hY
  have HXC := hid hx
  have HSH := hid hsh
  have HFL := hid hF
  have Hhr := hid hr
  clear hr
  clear hbs hks hbk h0 hJ hY hx hsh hF
  go_enter Try.func115, Try.ntmps115
  go_wp2_with fail
  refine wp_region_stateA (Chg (fun i => W.heap.size ≤ i)) (OneC W.heap.size W s.c) (specAtR (kws0 s Bs Bk W.heap.size)) [9, 10, 11, 12, 13, 4, 5] [1] (by kernel_rfl) (by kernel_rfl) ⟨(Chg.refl _ _).drew, Nat.le_refl _, (show (4 : Nat) < 94 by decide), (fun h => by cases h), (fun h => by cases h)⟩ (fun t v w w' hc h => specAtR_st _ t v w w' hc h) (by rfl) (by kernel_rfl) ?start ?obs ?fin
  case start =>
    simp only [List.forall_mem_cons]; exact ⟨⟨_, rfl, rfl⟩, fun _ h => by cases h⟩
  case obs =>
    clear HST HYY HXC HSH HFL
    refine ObsA.cons none (by kernel_rfl) ?_ ?_
    · refine ObA.plain fun L a w hi he hW hk K k => ?_
      obtain ⟨_, e1, rfl⟩ := hk 1 (by decide)
      clear hk
      have hS := hid (fun v => hW.quiet (i := 0) (by decide) 9 v (by decide))
      clear hi he hW
      go_simp
      exact k _ _ (Chg.refl _ _) (hS.out _) rfl
    refine ObsA.cons none (by kernel_rfl) ?_ ?_
    · refine ObA.plain fun L a w hi he hW hk K k => ?_
      obtain ⟨_, e9, rfl⟩ := hk 9 (by decide)
      clear hk
      obtain ⟨⟨y0, y1, y2, y3, y4, y5, y6, y7, y8⟩, ⟨y9, y10, y11⟩⟩ := step_at_blk (blk_keep HBS.out hW.ch (fun h => absurd h (Nat.not_le.2 HLT.out)))
      simp only [Nat.zero_add] at y0 y1 y2 y3 y4 y5 y6 y7 y8 y9 y10 y11
      have hS := hid (fun v => hW.quiet (i := 1) (by decide) 10 v (by decide))
      clear hi he hW
      go_simp
      exact k _ _ (Chg.refl _ _) (hS.out _) rfl
    refine ObsA.cons none (by kernel_rfl) ?_ ?_
    · refine ObA.plain fun L a w hi he hW hk K k => ?_
      obtain ⟨_, e1, rfl⟩ := hk 1 (by decide)
      clear hk
      have hS := hid (fun v => hW.quiet (i := 2) (by decide) 11 v (by decide))
      clear hi he hW
      go_simp
      exact k _ _ (Chg.refl _ _) (hS.out _) rfl
    refine ObsA.cons none (by kernel_rfl) ?_ ?_
    · refine ObA.plain fun L a w hi he hW hk K k => ?_
      obtain ⟨_, e11, rfl⟩ := hk 11 (by decide)
      clear hk
      have hS := hid (fun v => hW.quiet (i := 3) (by decide) 12 v (by decide))
      clear hi he hW
      go_simp
      exact k _ _ (Chg.refl _ _) (hS.out _) rfl
    refine ObsA.cons none (by kernel_rfl) ?_ ?_
    · refine ObA.plain fun L a w hi he hW hk K k => ?_
      obtain ⟨_, e12, rfl⟩ := hk 12 (by decide)
      clear hk
      obtain ⟨⟨y0, y1, y2, y3, y4, y5, y6, y7, y8⟩, ⟨y9, y10, y11⟩⟩ := step_at_blk (blk_keep HBS.out hW.ch (fun h => absurd h (Nat.not_le.2 HLT.out)))
      simp only [Nat.zero_add] at y0 y1 y2 y3 y4 y5 y6 y7 y8 y9 y10 y11
      have hS := hid (fun v => hW.quiet (i := 4) (by decide) 13 v (by decide))
      clear hi he hW
      go_simp
      exact k _ _ (Chg.refl _ _) (hS.out _) rfl
    refine ObsA.cons none (by kernel_rfl) ?_ ?_
    · refine ObA.plain fun L a w hi he hW hk K k => ?_
      clear hk
      have hS := hid (hW.make hi)
      clear hi he hW
      go_simp
      exact k _ _ ((Chg.refl _ _).alloc _) hS.out trivial
    refine ObsA.cons none (by kernel_rfl) ?_ ?_
    · refine ObA.plain fun L a w hi he hW hk K k => ?_
      obtain ⟨_, e4, f4⟩ := hk 4 (by decide)
      obtain ⟨_, e10, rfl⟩ := hk 10 (by decide)
      clear hk
      have l : L 5 = true := he ⟨5, Ground.data⟩ (by simp) (by decide)
      obtain ⟨b, p1, _, _⟩ := hW.p4 l
      have ez := e4.symm.trans p1
      injection ez with ez
      subst ez
      obtain ⟨hW2, hc2, hz⟩ := hW.set hi e4 l
      obtain ⟨y0, y1, y2, y3, y4, y5, y6, y7, y8⟩ := cred_at_blk hz
      simp only [Nat.zero_add, noCred, noneR] at y0 y1 y2 y3 y4 y5 y6 y7 y8
      have g0 := froz_blk hz 0
      have g1 := froz_blk hz 1
      have g2 := froz_blk hz 2
      have g3 := froz_blk hz 3
      have g4 := froz_blk hz 4
      have g5 := froz_blk hz 5
      have g6 := froz_blk hz 6
      have g7 := froz_blk hz 7
      have g8 := froz_blk hz 8
      have HB := hid (And.intro hW2 hc2)
      clear hi he hz hW2 hc2 hW p1 f4
      go_simp
      exact k undef _ HB.out.2 HB.out.1 trivial
    refine ObsA.cons none (by kernel_rfl) ?_ ?_
    · refine ObA.plain fun L a w hi he hW hk K k => ?_
      obtain ⟨_, e13, rfl⟩ := hk 13 (by decide)
      clear hk
      have hS := hid (fun v => hW.quiet (i := 7) (by decide) 5 v (by decide))
      clear hi he hW
      go_simp
      exact k _ _ (Chg.refl _ _) (hS.out _) rfl
    exact ObsA.nil
  intro L vals w2 hL hW hv
  have h4 : ∃ b, vals 4 = .pointer (some ⟨b, 0, none⟩) ∧ W.heap.size ≤ b ∧ w2.heap[b]? = some (.cells (credBox s.c) 36 (0, 0)) := by
    obtain ⟨b, p1, p2, p3⟩ := hW.p4 (hL 5 (by decide))
    simp only [putAll, List.setIfInBounds_toArray, List.set_cons_zero, List.set_cons_succ, List.getElem?_toArray, List.getElem?_cons_zero, List.getElem?_cons_succ, Option.some.injEq] at p1
    rw [hL 6 (by decide)] at p3
    exact ⟨b, p1, p2, p3⟩
  obtain ⟨b, h4, hbl, hbb⟩ := h4
  have h5 : vals 5 = .string ⟨s.f.2.toArray⟩ := hv 5 (by decide)
  have hc2 : Chg (fun _ => False) W w2 := hW.ch.mono (fun i hi h => absurd hi (Nat.not_lt.2 h))
  simp only [putAll, List.setIfInBounds_toArray, List.set_cons_zero, List.set_cons_succ, h4, h5]
  have HJ := hid HST.out.2.2.2
  have HW : Hid (WSt J T g F s Bs Bk b W.heap.size [] w2) := hid ⟨HST.out.1.quiet hc2, blk_keep HBS.out hc2 id, blk_keep HST.out.2.1 hc2 id, hbb, HST.out.2.2.2 _ _ _ HST.out.2.2.1 hc2, fun y hy => (by cases hy), hbl⟩
  clear hL hW hv h4 h5 hc2 hbl HST HBS HLT
  obtain ⟨z0, z1, z2, z3, z4, z5, z6, z7, z8⟩ := cred_at_blk hbb
  simp only [Nat.zero_add] at z0 z1 z2 z3 z4 z5 z6 z7 z8
  have hq := pcright s.c w2 HSH.out.1
  unfold credV credBox at hq
  rw [Hhr.out] at hq
  have HQ := hid hq
  clear hq hbb
  go_wp2_with fail
  refine HQ.out.mono ?_
  clear HQ z0 z1 z2 z3 z4 z5 z6 z7 z8
  rintro e w3 ⟨rfl, hc3⟩
  have HW := hid (HW.out.quiet HJ.out hc3)
  clear hc3
  obtain ⟨z0, z1, z2, z3, z4, z5, z6, z7, z8⟩ := cred_at_blk HW.out.cb
  simp only [Nat.zero_add] at z0 z1 z2 z3 z4 z5 z6 z7 z8
  have HP := hid (show WaysPost J Jx s F (.returned (.tuple #[])) w3 from ⟨⟨_, rfl⟩, .inl ⟨[], by rw [waysK_off (fun h => by have q := Hhr.out; rw [h.1] at q; cases q)]; rfl, HW.out.jj⟩⟩)
  clear HW HYY HXC
  go_wp2
  go_end0
  exact HP.out
attribute [local go_sem ↓ high] run_neg_role run_nel_role

set_option maxRecDepth 100000 in
set_option maxHeartbeats 4000000 in
theorem kw_ways_role {J Jx : List (Value × List Nat) → World → Prop} {T : Nat → Option KTag} {U : Nat → Prop} (l g Bs Bk n0 : Nat) (F : List FactB) (s : StepB) (W : World) (hx : WCtx T U Bs Bk n0 W.heap.size) (hF : F.length ≤ 1000000) (hsh : stepShort s 9223372036854775807) (hks : KS T W g F)
    (hbs : W.heap[Bs]? = some (.cells (stepBox s) 43 (0, 0))) (hbk : W.heap[Bk]? = some (.cells #[.pointer (some ⟨g, 0, none⟩)] 103 (0, 0)))
    (hJ : ∀ s A B, J s A → Chg (fun _ => False) A B → J s B)
    (hY : ∀ (m : Nat) (pre : List (Value × List Nat)) (x : Value × List Nat) (W0 W1 : World), J pre W0 → Chg (fun _ => False) W0 W1 → OwnI W0.heap.size W1 x.1 x.2 → pre.length < F.length + 2 → YieldAt Fence.wide m Try.prog l #[x.1] W1 fun e W' =>
      (e = .returned (.bool true) ∧ J (pre ++ [x]) W' ∧ Chg (VW U n0 W.heap.size pre x) W1 W') ∨ (e = .returned (.bool false) ∧ Jx (pre ++ [x]) W')) (h0 : J [] W) (hr : isCred s.c = true) (hh : ¬ s.f.1 = s.c.head) :
    Calls Try.prog 115 #[.func (.yield l) #[] #[], .pointer (some ⟨Bs, 0, none⟩), .pointer (some ⟨Bk, 0, none⟩)] W (WaysPost J Jx s F) := by
  have HBS := hid hbs
  have HLT : Hid (Bs < W.heap.size) := hid (lt_blk hbs)
  have HST := hid (And.intro hks (And.intro hbk (And.intro h0 hJ)))
  have HYY := hid hY
  have HXC := hid hx
  have HSH := hid hsh
  have HFL := hid hF
  have Hhr := hid hr
  have Hhh := hid hh
  clear hr hh
  clear hbs hks hbk h0 hJ hY hx hsh hF
  go_enter Try.func115, Try.ntmps115
  go_wp2_with fail
  refine wp_region_stateA (Chg (fun i => W.heap.size ≤ i)) (OneC W.heap.size W s.c) (specAtR (kws0 s Bs Bk W.heap.size)) [9, 10, 11, 12, 13, 4, 5] [1] (by kernel_rfl) (by kernel_rfl) ⟨(Chg.refl _ _).drew, Nat.le_refl _, (show (4 : Nat) < 94 by decide), (fun h => by cases h), (fun h => by cases h)⟩ (fun t v w w' hc h => specAtR_st _ t v w w' hc h) (by rfl) (by kernel_rfl) ?start ?obs ?fin
  case start =>
    simp only [List.forall_mem_cons]; exact ⟨⟨_, rfl, rfl⟩, fun _ h => by cases h⟩
  case obs =>
    clear HST HYY HXC HSH HFL
    refine ObsA.cons none (by kernel_rfl) ?_ ?_
    · refine ObA.plain fun L a w hi he hW hk K k => ?_
      obtain ⟨_, e1, rfl⟩ := hk 1 (by decide)
      clear hk
      have hS := hid (fun v => hW.quiet (i := 0) (by decide) 9 v (by decide))
      clear hi he hW
      go_simp
      exact k _ _ (Chg.refl _ _) (hS.out _) rfl
    refine ObsA.cons none (by kernel_rfl) ?_ ?_
    · refine ObA.plain fun L a w hi he hW hk K k => ?_
      obtain ⟨_, e9, rfl⟩ := hk 9 (by decide)
      clear hk
      obtain ⟨⟨y0, y1, y2, y3, y4, y5, y6, y7, y8⟩, ⟨y9, y10, y11⟩⟩ := step_at_blk (blk_keep HBS.out hW.ch (fun h => absurd h (Nat.not_le.2 HLT.out)))
      simp only [Nat.zero_add] at y0 y1 y2 y3 y4 y5 y6 y7 y8 y9 y10 y11
      have hS := hid (fun v => hW.quiet (i := 1) (by decide) 10 v (by decide))
      clear hi he hW
      go_simp
      exact k _ _ (Chg.refl _ _) (hS.out _) rfl
    refine ObsA.cons none (by kernel_rfl) ?_ ?_
    · refine ObA.plain fun L a w hi he hW hk K k => ?_
      obtain ⟨_, e1, rfl⟩ := hk 1 (by decide)
      clear hk
      have hS := hid (fun v => hW.quiet (i := 2) (by decide) 11 v (by decide))
      clear hi he hW
      go_simp
      exact k _ _ (Chg.refl _ _) (hS.out _) rfl
    refine ObsA.cons none (by kernel_rfl) ?_ ?_
    · refine ObA.plain fun L a w hi he hW hk K k => ?_
      obtain ⟨_, e11, rfl⟩ := hk 11 (by decide)
      clear hk
      have hS := hid (fun v => hW.quiet (i := 3) (by decide) 12 v (by decide))
      clear hi he hW
      go_simp
      exact k _ _ (Chg.refl _ _) (hS.out _) rfl
    refine ObsA.cons none (by kernel_rfl) ?_ ?_
    · refine ObA.plain fun L a w hi he hW hk K k => ?_
      obtain ⟨_, e12, rfl⟩ := hk 12 (by decide)
      clear hk
      obtain ⟨⟨y0, y1, y2, y3, y4, y5, y6, y7, y8⟩, ⟨y9, y10, y11⟩⟩ := step_at_blk (blk_keep HBS.out hW.ch (fun h => absurd h (Nat.not_le.2 HLT.out)))
      simp only [Nat.zero_add] at y0 y1 y2 y3 y4 y5 y6 y7 y8 y9 y10 y11
      have hS := hid (fun v => hW.quiet (i := 4) (by decide) 13 v (by decide))
      clear hi he hW
      go_simp
      exact k _ _ (Chg.refl _ _) (hS.out _) rfl
    refine ObsA.cons none (by kernel_rfl) ?_ ?_
    · refine ObA.plain fun L a w hi he hW hk K k => ?_
      clear hk
      have hS := hid (hW.make hi)
      clear hi he hW
      go_simp
      exact k _ _ ((Chg.refl _ _).alloc _) hS.out trivial
    refine ObsA.cons none (by kernel_rfl) ?_ ?_
    · refine ObA.plain fun L a w hi he hW hk K k => ?_
      obtain ⟨_, e4, f4⟩ := hk 4 (by decide)
      obtain ⟨_, e10, rfl⟩ := hk 10 (by decide)
      clear hk
      have l : L 5 = true := he ⟨5, Ground.data⟩ (by simp) (by decide)
      obtain ⟨b, p1, _, _⟩ := hW.p4 l
      have ez := e4.symm.trans p1
      injection ez with ez
      subst ez
      obtain ⟨hW2, hc2, hz⟩ := hW.set hi e4 l
      obtain ⟨y0, y1, y2, y3, y4, y5, y6, y7, y8⟩ := cred_at_blk hz
      simp only [Nat.zero_add, noCred, noneR] at y0 y1 y2 y3 y4 y5 y6 y7 y8
      have g0 := froz_blk hz 0
      have g1 := froz_blk hz 1
      have g2 := froz_blk hz 2
      have g3 := froz_blk hz 3
      have g4 := froz_blk hz 4
      have g5 := froz_blk hz 5
      have g6 := froz_blk hz 6
      have g7 := froz_blk hz 7
      have g8 := froz_blk hz 8
      have HB := hid (And.intro hW2 hc2)
      clear hi he hz hW2 hc2 hW p1 f4
      go_simp
      exact k undef _ HB.out.2 HB.out.1 trivial
    refine ObsA.cons none (by kernel_rfl) ?_ ?_
    · refine ObA.plain fun L a w hi he hW hk K k => ?_
      obtain ⟨_, e13, rfl⟩ := hk 13 (by decide)
      clear hk
      have hS := hid (fun v => hW.quiet (i := 7) (by decide) 5 v (by decide))
      clear hi he hW
      go_simp
      exact k _ _ (Chg.refl _ _) (hS.out _) rfl
    exact ObsA.nil
  intro L vals w2 hL hW hv
  have h4 : ∃ b, vals 4 = .pointer (some ⟨b, 0, none⟩) ∧ W.heap.size ≤ b ∧ w2.heap[b]? = some (.cells (credBox s.c) 36 (0, 0)) := by
    obtain ⟨b, p1, p2, p3⟩ := hW.p4 (hL 5 (by decide))
    simp only [putAll, List.setIfInBounds_toArray, List.set_cons_zero, List.set_cons_succ, List.getElem?_toArray, List.getElem?_cons_zero, List.getElem?_cons_succ, Option.some.injEq] at p1
    rw [hL 6 (by decide)] at p3
    exact ⟨b, p1, p2, p3⟩
  obtain ⟨b, h4, hbl, hbb⟩ := h4
  have h5 : vals 5 = .string ⟨s.f.2.toArray⟩ := hv 5 (by decide)
  have hc2 : Chg (fun _ => False) W w2 := hW.ch.mono (fun i hi h => absurd hi (Nat.not_lt.2 h))
  simp only [putAll, List.setIfInBounds_toArray, List.set_cons_zero, List.set_cons_succ, h4, h5]
  have HJ := hid HST.out.2.2.2
  have HW : Hid (WSt J T g F s Bs Bk b W.heap.size [] w2) := hid ⟨HST.out.1.quiet hc2, blk_keep HBS.out hc2 id, blk_keep HST.out.2.1 hc2 id, hbb, HST.out.2.2.2 _ _ _ HST.out.2.2.1 hc2, fun y hy => (by cases hy), hbl⟩
  clear hL hW hv h4 h5 hc2 hbl HST HBS HLT
  obtain ⟨z0, z1, z2, z3, z4, z5, z6, z7, z8⟩ := cred_at_blk hbb
  simp only [Nat.zero_add] at z0 z1 z2 z3 z4 z5 z6 z7 z8
  have hq := pcright s.c w2 HSH.out.1
  unfold credV credBox at hq
  rw [Hhr.out] at hq
  have HQ := hid hq
  clear hq hbb
  go_wp2_with fail
  refine HQ.out.mono ?_
  clear HQ z0 z1 z2 z3 z4 z5 z6 z7 z8
  rintro e w3 ⟨rfl, hc3⟩
  have HW := hid (HW.out.quiet HJ.out hc3)
  clear hc3
  obtain ⟨_, ⟨y9, y10, _⟩⟩ := step_at_blk HW.out.bs
  simp only [Nat.zero_add] at y9 y10
  obtain ⟨z0, z1, z2, z3, z4, z5, z6, z7, z8⟩ := cred_at_blk HW.out.cb
  simp only [Nat.zero_add] at z0 z1 z2 z3 z4 z5 z6 z7 z8
  have hd : decide (s.f.1 = s.c.head) = false := decide_eq_false Hhh.out
  have HP := hid (show WaysPost J Jx s F (.returned (.tuple #[])) w3 from ⟨⟨_, rfl⟩, .inl ⟨[], by rw [waysK_off (fun h => Hhh.out h.2)]; rfl, HW.out.jj⟩⟩)
  clear HW HYY HXC
  go_wp2
  go_end0
  exact HP.out

set_option maxRecDepth 100000 in
set_option maxHeartbeats 4000000 in
theorem kw_ways_1no {J Jx : List (Value × List Nat) → World → Prop} {T : Nat → Option KTag} {U : Nat → Prop} (l g Bs Bk n0 : Nat) (F : List FactB) (s : StepB) (W : World) (hx : WCtx T U Bs Bk n0 W.heap.size) (hF : F.length ≤ 1000000) (hsh : stepShort s 9223372036854775807) (hks : KS T W g F)
    (hbs : W.heap[Bs]? = some (.cells (stepBox s) 43 (0, 0))) (hbk : W.heap[Bk]? = some (.cells #[.pointer (some ⟨g, 0, none⟩)] 103 (0, 0)))
    (hJ : ∀ s A B, J s A → Chg (fun _ => False) A B → J s B)
    (hY : ∀ (m : Nat) (pre : List (Value × List Nat)) (x : Value × List Nat) (W0 W1 : World), J pre W0 → Chg (fun _ => False) W0 W1 → OwnI W0.heap.size W1 x.1 x.2 → pre.length < F.length + 2 → YieldAt Fence.wide m Try.prog l #[x.1] W1 fun e W' =>
      (e = .returned (.bool true) ∧ J (pre ++ [x]) W' ∧ Chg (VW U n0 W.heap.size pre x) W1 W') ∨ (e = .returned (.bool false) ∧ Jx (pre ++ [x]) W')) (h0 : J [] W) (hr : isCred s.c = true) (hh : s.f.1 = s.c.head) (hk : s.c.kind = 1) (hw : ¬ s.c.who = s.f.2) :
    Calls Try.prog 115 #[.func (.yield l) #[] #[], .pointer (some ⟨Bs, 0, none⟩), .pointer (some ⟨Bk, 0, none⟩)] W (WaysPost J Jx s F) := by
  have HBS := hid hbs
  have HLT : Hid (Bs < W.heap.size) := hid (lt_blk hbs)
  have HST := hid (And.intro hks (And.intro hbk (And.intro h0 hJ)))
  have HYY := hid hY
  have HXC := hid hx
  have HSH := hid hsh
  have HFL := hid hF
  have Hhr := hid hr
  have Hhh := hid hh
  have Hhk := hid hk
  have Hhw := hid hw
  clear hr hh hk hw
  clear hbs hks hbk h0 hJ hY hx hsh hF
  go_enter Try.func115, Try.ntmps115
  go_wp2_with fail
  refine wp_region_stateA (Chg (fun i => W.heap.size ≤ i)) (OneC W.heap.size W s.c) (specAtR (kws0 s Bs Bk W.heap.size)) [9, 10, 11, 12, 13, 4, 5] [1] (by kernel_rfl) (by kernel_rfl) ⟨(Chg.refl _ _).drew, Nat.le_refl _, (show (4 : Nat) < 94 by decide), (fun h => by cases h), (fun h => by cases h)⟩ (fun t v w w' hc h => specAtR_st _ t v w w' hc h) (by rfl) (by kernel_rfl) ?start ?obs ?fin
  case start =>
    simp only [List.forall_mem_cons]; exact ⟨⟨_, rfl, rfl⟩, fun _ h => by cases h⟩
  case obs =>
    clear HST HYY HXC HSH HFL
    refine ObsA.cons none (by kernel_rfl) ?_ ?_
    · refine ObA.plain fun L a w hi he hW hk K k => ?_
      obtain ⟨_, e1, rfl⟩ := hk 1 (by decide)
      clear hk
      have hS := hid (fun v => hW.quiet (i := 0) (by decide) 9 v (by decide))
      clear hi he hW
      go_simp
      exact k _ _ (Chg.refl _ _) (hS.out _) rfl
    refine ObsA.cons none (by kernel_rfl) ?_ ?_
    · refine ObA.plain fun L a w hi he hW hk K k => ?_
      obtain ⟨_, e9, rfl⟩ := hk 9 (by decide)
      clear hk
      obtain ⟨⟨y0, y1, y2, y3, y4, y5, y6, y7, y8⟩, ⟨y9, y10, y11⟩⟩ := step_at_blk (blk_keep HBS.out hW.ch (fun h => absurd h (Nat.not_le.2 HLT.out)))
      simp only [Nat.zero_add] at y0 y1 y2 y3 y4 y5 y6 y7 y8 y9 y10 y11
      have hS := hid (fun v => hW.quiet (i := 1) (by decide) 10 v (by decide))
      clear hi he hW
      go_simp
      exact k _ _ (Chg.refl _ _) (hS.out _) rfl
    refine ObsA.cons none (by kernel_rfl) ?_ ?_
    · refine ObA.plain fun L a w hi he hW hk K k => ?_
      obtain ⟨_, e1, rfl⟩ := hk 1 (by decide)
      clear hk
      have hS := hid (fun v => hW.quiet (i := 2) (by decide) 11 v (by decide))
      clear hi he hW
      go_simp
      exact k _ _ (Chg.refl _ _) (hS.out _) rfl
    refine ObsA.cons none (by kernel_rfl) ?_ ?_
    · refine ObA.plain fun L a w hi he hW hk K k => ?_
      obtain ⟨_, e11, rfl⟩ := hk 11 (by decide)
      clear hk
      have hS := hid (fun v => hW.quiet (i := 3) (by decide) 12 v (by decide))
      clear hi he hW
      go_simp
      exact k _ _ (Chg.refl _ _) (hS.out _) rfl
    refine ObsA.cons none (by kernel_rfl) ?_ ?_
    · refine ObA.plain fun L a w hi he hW hk K k => ?_
      obtain ⟨_, e12, rfl⟩ := hk 12 (by decide)
      clear hk
      obtain ⟨⟨y0, y1, y2, y3, y4, y5, y6, y7, y8⟩, ⟨y9, y10, y11⟩⟩ := step_at_blk (blk_keep HBS.out hW.ch (fun h => absurd h (Nat.not_le.2 HLT.out)))
      simp only [Nat.zero_add] at y0 y1 y2 y3 y4 y5 y6 y7 y8 y9 y10 y11
      have hS := hid (fun v => hW.quiet (i := 4) (by decide) 13 v (by decide))
      clear hi he hW
      go_simp
      exact k _ _ (Chg.refl _ _) (hS.out _) rfl
    refine ObsA.cons none (by kernel_rfl) ?_ ?_
    · refine ObA.plain fun L a w hi he hW hk K k => ?_
      clear hk
      have hS := hid (hW.make hi)
      clear hi he hW
      go_simp
      exact k _ _ ((Chg.refl _ _).alloc _) hS.out trivial
    refine ObsA.cons none (by kernel_rfl) ?_ ?_
    · refine ObA.plain fun L a w hi he hW hk K k => ?_
      obtain ⟨_, e4, f4⟩ := hk 4 (by decide)
      obtain ⟨_, e10, rfl⟩ := hk 10 (by decide)
      clear hk
      have l : L 5 = true := he ⟨5, Ground.data⟩ (by simp) (by decide)
      obtain ⟨b, p1, _, _⟩ := hW.p4 l
      have ez := e4.symm.trans p1
      injection ez with ez
      subst ez
      obtain ⟨hW2, hc2, hz⟩ := hW.set hi e4 l
      obtain ⟨y0, y1, y2, y3, y4, y5, y6, y7, y8⟩ := cred_at_blk hz
      simp only [Nat.zero_add, noCred, noneR] at y0 y1 y2 y3 y4 y5 y6 y7 y8
      have g0 := froz_blk hz 0
      have g1 := froz_blk hz 1
      have g2 := froz_blk hz 2
      have g3 := froz_blk hz 3
      have g4 := froz_blk hz 4
      have g5 := froz_blk hz 5
      have g6 := froz_blk hz 6
      have g7 := froz_blk hz 7
      have g8 := froz_blk hz 8
      have HB := hid (And.intro hW2 hc2)
      clear hi he hz hW2 hc2 hW p1 f4
      go_simp
      exact k undef _ HB.out.2 HB.out.1 trivial
    refine ObsA.cons none (by kernel_rfl) ?_ ?_
    · refine ObA.plain fun L a w hi he hW hk K k => ?_
      obtain ⟨_, e13, rfl⟩ := hk 13 (by decide)
      clear hk
      have hS := hid (fun v => hW.quiet (i := 7) (by decide) 5 v (by decide))
      clear hi he hW
      go_simp
      exact k _ _ (Chg.refl _ _) (hS.out _) rfl
    exact ObsA.nil
  intro L vals w2 hL hW hv
  have h4 : ∃ b, vals 4 = .pointer (some ⟨b, 0, none⟩) ∧ W.heap.size ≤ b ∧ w2.heap[b]? = some (.cells (credBox s.c) 36 (0, 0)) := by
    obtain ⟨b, p1, p2, p3⟩ := hW.p4 (hL 5 (by decide))
    simp only [putAll, List.setIfInBounds_toArray, List.set_cons_zero, List.set_cons_succ, List.getElem?_toArray, List.getElem?_cons_zero, List.getElem?_cons_succ, Option.some.injEq] at p1
    rw [hL 6 (by decide)] at p3
    exact ⟨b, p1, p2, p3⟩
  obtain ⟨b, h4, hbl, hbb⟩ := h4
  have h5 : vals 5 = .string ⟨s.f.2.toArray⟩ := hv 5 (by decide)
  have hc2 : Chg (fun _ => False) W w2 := hW.ch.mono (fun i hi h => absurd hi (Nat.not_lt.2 h))
  simp only [putAll, List.setIfInBounds_toArray, List.set_cons_zero, List.set_cons_succ, h4, h5]
  have HJ := hid HST.out.2.2.2
  have HW : Hid (WSt J T g F s Bs Bk b W.heap.size [] w2) := hid ⟨HST.out.1.quiet hc2, blk_keep HBS.out hc2 id, blk_keep HST.out.2.1 hc2 id, hbb, HST.out.2.2.2 _ _ _ HST.out.2.2.1 hc2, fun y hy => (by cases hy), hbl⟩
  clear hL hW hv h4 h5 hc2 hbl HST HBS HLT
  obtain ⟨z0, z1, z2, z3, z4, z5, z6, z7, z8⟩ := cred_at_blk hbb
  simp only [Nat.zero_add] at z0 z1 z2 z3 z4 z5 z6 z7 z8
  rw [Hhk.out] at z0
  have hq := pcright s.c w2 HSH.out.1
  unfold credV credBox at hq
  rw [Hhr.out] at hq
  rw [Hhk.out] at hq
  have HQ := hid hq
  clear hq hbb
  go_wp2_with fail
  refine HQ.out.mono ?_
  clear HQ z0 z1 z2 z3 z4 z5 z6 z7 z8
  rintro e w3 ⟨rfl, hc3⟩
  have HW := hid (HW.out.quiet HJ.out hc3)
  clear hc3
  obtain ⟨_, ⟨y9, y10, _⟩⟩ := step_at_blk HW.out.bs
  simp only [Nat.zero_add] at y9 y10
  rw [Hhh.out] at y9 y10
  obtain ⟨z0, z1, z2, z3, z4, z5, z6, z7, z8⟩ := cred_at_blk HW.out.cb
  simp only [Nat.zero_add] at z0 z1 z2 z3 z4 z5 z6 z7 z8
  rw [Hhk.out] at z0
  have HP := hid (show WaysPost J Jx s F (.returned (.tuple #[])) w3 from ⟨⟨_, rfl⟩, .inl ⟨[], by rw [waysK_1 ⟨Hhr.out, Hhh.out⟩ Hhk.out, if_neg Hhw.out]; rfl, HW.out.jj⟩⟩)
  clear HW HYY HXC
  have hw2 : (s.c.who == s.f.2) = false := by have q := Hhw.out; simpa using q
  go_wp2
  go_end0
  exact HP.out

set_option maxRecDepth 100000 in
set_option maxHeartbeats 4000000 in
theorem kw_ways_1 {J Jx : List (Value × List Nat) → World → Prop} {T : Nat → Option KTag} {U : Nat → Prop} (l g Bs Bk n0 : Nat) (F : List FactB) (s : StepB) (W : World) (hx : WCtx T U Bs Bk n0 W.heap.size) (hF : F.length ≤ 1000000) (hsh : stepShort s 9223372036854775807) (hks : KS T W g F)
    (hbs : W.heap[Bs]? = some (.cells (stepBox s) 43 (0, 0))) (hbk : W.heap[Bk]? = some (.cells #[.pointer (some ⟨g, 0, none⟩)] 103 (0, 0)))
    (hJ : ∀ s A B, J s A → Chg (fun _ => False) A B → J s B)
    (hY : ∀ (m : Nat) (pre : List (Value × List Nat)) (x : Value × List Nat) (W0 W1 : World), J pre W0 → Chg (fun _ => False) W0 W1 → OwnI W0.heap.size W1 x.1 x.2 → pre.length < F.length + 2 → YieldAt Fence.wide m Try.prog l #[x.1] W1 fun e W' =>
      (e = .returned (.bool true) ∧ J (pre ++ [x]) W' ∧ Chg (VW U n0 W.heap.size pre x) W1 W') ∨ (e = .returned (.bool false) ∧ Jx (pre ++ [x]) W')) (h0 : J [] W) (hr : isCred s.c = true) (hh : s.f.1 = s.c.head) (hk : s.c.kind = 1) (hw : s.c.who = s.f.2) :
    Calls Try.prog 115 #[.func (.yield l) #[] #[], .pointer (some ⟨Bs, 0, none⟩), .pointer (some ⟨Bk, 0, none⟩)] W (WaysPost J Jx s F) := by
  have HBS := hid hbs
  have HLT : Hid (Bs < W.heap.size) := hid (lt_blk hbs)
  have HST := hid (And.intro hks (And.intro hbk (And.intro h0 hJ)))
  have HYY := hid hY
  have HXC := hid hx
  have HSH := hid hsh
  have HFL := hid hF
  have Hhr := hid hr
  have Hhh := hid hh
  have Hhk := hid hk
  have Hhw := hid hw
  clear hr hh hk hw
  clear hbs hks hbk h0 hJ hY hx hsh hF
  go_enter Try.func115, Try.ntmps115
  go_wp2_with fail
  refine wp_region_stateA (Chg (fun i => W.heap.size ≤ i)) (OneC W.heap.size W s.c) (specAtR (kws0 s Bs Bk W.heap.size)) [9, 10, 11, 12, 13, 4, 5] [1] (by kernel_rfl) (by kernel_rfl) ⟨(Chg.refl _ _).drew, Nat.le_refl _, (show (4 : Nat) < 94 by decide), (fun h => by cases h), (fun h => by cases h)⟩ (fun t v w w' hc h => specAtR_st _ t v w w' hc h) (by rfl) (by kernel_rfl) ?start ?obs ?fin
  case start =>
    simp only [List.forall_mem_cons]; exact ⟨⟨_, rfl, rfl⟩, fun _ h => by cases h⟩
  case obs =>
    clear HST HYY HXC HSH HFL
    refine ObsA.cons none (by kernel_rfl) ?_ ?_
    · refine ObA.plain fun L a w hi he hW hk K k => ?_
      obtain ⟨_, e1, rfl⟩ := hk 1 (by decide)
      clear hk
      have hS := hid (fun v => hW.quiet (i := 0) (by decide) 9 v (by decide))
      clear hi he hW
      go_simp
      exact k _ _ (Chg.refl _ _) (hS.out _) rfl
    refine ObsA.cons none (by kernel_rfl) ?_ ?_
    · refine ObA.plain fun L a w hi he hW hk K k => ?_
      obtain ⟨_, e9, rfl⟩ := hk 9 (by decide)
      clear hk
      obtain ⟨⟨y0, y1, y2, y3, y4, y5, y6, y7, y8⟩, ⟨y9, y10, y11⟩⟩ := step_at_blk (blk_keep HBS.out hW.ch (fun h => absurd h (Nat.not_le.2 HLT.out)))
      simp only [Nat.zero_add] at y0 y1 y2 y3 y4 y5 y6 y7 y8 y9 y10 y11
      have hS := hid (fun v => hW.quiet (i := 1) (by decide) 10 v (by decide))
      clear hi he hW
      go_simp
      exact k _ _ (Chg.refl _ _) (hS.out _) rfl
    refine ObsA.cons none (by kernel_rfl) ?_ ?_
    · refine ObA.plain fun L a w hi he hW hk K k => ?_
      obtain ⟨_, e1, rfl⟩ := hk 1 (by decide)
      clear hk
      have hS := hid (fun v => hW.quiet (i := 2) (by decide) 11 v (by decide))
      clear hi he hW
      go_simp
      exact k _ _ (Chg.refl _ _) (hS.out _) rfl
    refine ObsA.cons none (by kernel_rfl) ?_ ?_
    · refine ObA.plain fun L a w hi he hW hk K k => ?_
      obtain ⟨_, e11, rfl⟩ := hk 11 (by decide)
      clear hk
      have hS := hid (fun v => hW.quiet (i := 3) (by decide) 12 v (by decide))
      clear hi he hW
      go_simp
      exact k _ _ (Chg.refl _ _) (hS.out _) rfl
    refine ObsA.cons none (by kernel_rfl) ?_ ?_
    · refine ObA.plain fun L a w hi he hW hk K k => ?_
      obtain ⟨_, e12, rfl⟩ := hk 12 (by decide)
      clear hk
      obtain ⟨⟨y0, y1, y2, y3, y4, y5, y6, y7, y8⟩, ⟨y9, y10, y11⟩⟩ := step_at_blk (blk_keep HBS.out hW.ch (fun h => absurd h (Nat.not_le.2 HLT.out)))
      simp only [Nat.zero_add] at y0 y1 y2 y3 y4 y5 y6 y7 y8 y9 y10 y11
      have hS := hid (fun v => hW.quiet (i := 4) (by decide) 13 v (by decide))
      clear hi he hW
      go_simp
      exact k _ _ (Chg.refl _ _) (hS.out _) rfl
    refine ObsA.cons none (by kernel_rfl) ?_ ?_
    · refine ObA.plain fun L a w hi he hW hk K k => ?_
      clear hk
      have hS := hid (hW.make hi)
      clear hi he hW
      go_simp
      exact k _ _ ((Chg.refl _ _).alloc _) hS.out trivial
    refine ObsA.cons none (by kernel_rfl) ?_ ?_
    · refine ObA.plain fun L a w hi he hW hk K k => ?_
      obtain ⟨_, e4, f4⟩ := hk 4 (by decide)
      obtain ⟨_, e10, rfl⟩ := hk 10 (by decide)
      clear hk
      have l : L 5 = true := he ⟨5, Ground.data⟩ (by simp) (by decide)
      obtain ⟨b, p1, _, _⟩ := hW.p4 l
      have ez := e4.symm.trans p1
      injection ez with ez
      subst ez
      obtain ⟨hW2, hc2, hz⟩ := hW.set hi e4 l
      obtain ⟨y0, y1, y2, y3, y4, y5, y6, y7, y8⟩ := cred_at_blk hz
      simp only [Nat.zero_add, noCred, noneR] at y0 y1 y2 y3 y4 y5 y6 y7 y8
      have g0 := froz_blk hz 0
      have g1 := froz_blk hz 1
      have g2 := froz_blk hz 2
      have g3 := froz_blk hz 3
      have g4 := froz_blk hz 4
      have g5 := froz_blk hz 5
      have g6 := froz_blk hz 6
      have g7 := froz_blk hz 7
      have g8 := froz_blk hz 8
      have HB := hid (And.intro hW2 hc2)
      clear hi he hz hW2 hc2 hW p1 f4
      go_simp
      exact k undef _ HB.out.2 HB.out.1 trivial
    refine ObsA.cons none (by kernel_rfl) ?_ ?_
    · refine ObA.plain fun L a w hi he hW hk K k => ?_
      obtain ⟨_, e13, rfl⟩ := hk 13 (by decide)
      clear hk
      have hS := hid (fun v => hW.quiet (i := 7) (by decide) 5 v (by decide))
      clear hi he hW
      go_simp
      exact k _ _ (Chg.refl _ _) (hS.out _) rfl
    exact ObsA.nil
  intro L vals w2 hL hW hv
  have h4 : ∃ b, vals 4 = .pointer (some ⟨b, 0, none⟩) ∧ W.heap.size ≤ b ∧ w2.heap[b]? = some (.cells (credBox s.c) 36 (0, 0)) := by
    obtain ⟨b, p1, p2, p3⟩ := hW.p4 (hL 5 (by decide))
    simp only [putAll, List.setIfInBounds_toArray, List.set_cons_zero, List.set_cons_succ, List.getElem?_toArray, List.getElem?_cons_zero, List.getElem?_cons_succ, Option.some.injEq] at p1
    rw [hL 6 (by decide)] at p3
    exact ⟨b, p1, p2, p3⟩
  obtain ⟨b, h4, hbl, hbb⟩ := h4
  have h5 : vals 5 = .string ⟨s.f.2.toArray⟩ := hv 5 (by decide)
  have hc2 : Chg (fun _ => False) W w2 := hW.ch.mono (fun i hi h => absurd hi (Nat.not_lt.2 h))
  simp only [putAll, List.setIfInBounds_toArray, List.set_cons_zero, List.set_cons_succ, h4, h5]
  have HJ := hid HST.out.2.2.2
  have HW : Hid (WSt J T g F s Bs Bk b W.heap.size [] w2) := hid ⟨HST.out.1.quiet hc2, blk_keep HBS.out hc2 id, blk_keep HST.out.2.1 hc2 id, hbb, HST.out.2.2.2 _ _ _ HST.out.2.2.1 hc2, fun y hy => (by cases hy), hbl⟩
  clear hL hW hv h4 h5 hc2 hbl HST HBS HLT
  obtain ⟨z0, z1, z2, z3, z4, z5, z6, z7, z8⟩ := cred_at_blk hbb
  simp only [Nat.zero_add] at z0 z1 z2 z3 z4 z5 z6 z7 z8
  rw [Hhk.out] at z0
  have hq := pcright s.c w2 HSH.out.1
  unfold credV credBox at hq
  rw [Hhr.out] at hq
  rw [Hhk.out] at hq
  have HQ := hid hq
  clear hq hbb
  go_wp2_with fail
  refine HQ.out.mono ?_
  clear HQ z0 z1 z2 z3 z4 z5 z6 z7 z8
  rintro e w3 ⟨rfl, hc3⟩
  have HW := hid (HW.out.quiet HJ.out hc3)
  clear hc3
  obtain ⟨_, ⟨y9, y10, _⟩⟩ := step_at_blk HW.out.bs
  simp only [Nat.zero_add] at y9 y10
  rw [Hhh.out] at y9 y10
  obtain ⟨z0, z1, z2, z3, z4, z5, z6, z7, z8⟩ := cred_at_blk HW.out.cb
  simp only [Nat.zero_add] at z0 z1 z2 z3 z4 z5 z6 z7 z8
  rw [Hhk.out] at z0
  have HP : Hid (∀ (e : Ending) (w' : World), (e = .returned (.bool true) ∧ J ([] ++ [(Value.slice none 0 0, [])]) w' ∧ Chg (VW U n0 W.heap.size [] (Value.slice none 0 0, [])) w3 w') ∨ (e = .returned (.bool false) ∧ Jx ([] ++ [(Value.slice none 0 0, [])]) w') → WaysPost J Jx s F (.returned (.tuple #[])) w' ∧ ∃ x, e = .returned (.bool x)) := hid (fun e w' h => by
    have hk1 : waysK s F = [[]] := by rw [waysK_1 ⟨Hhr.out, Hhh.out⟩ Hhk.out, if_pos Hhw.out]
    rcases h with ⟨rfl, h, _⟩ | ⟨rfl, h⟩
    · exact ⟨⟨⟨_, rfl⟩, .inl ⟨_, by rw [hk1]; rfl, h⟩⟩, _, rfl⟩
    · exact ⟨⟨⟨_, rfl⟩, .inr ⟨_, by rw [hk1]; exact List.prefix_refl _, h⟩⟩, _, rfl⟩)
  have HR := hid (HYY.out 0 [] (Value.slice none 0 0, []) w3 w3 HW.out.jj (Chg.refl _ _) (OwnI.nil _ _) (by simp))
  rw [Hhw.out] at z3
  clear HW HYY HXC
  go_upto_region 5 with (fail)
  refine (wpIn_wide (n := 1)).1 ?_
  obtain ⟨fn, tmps, assign, body, hy, hR⟩ := HR.out
  try dsimp only at hy
  have HRR := hid hR
  clear hR HR
  gi_wp2_with fail
  refine HRR.out.mono ?_
  clear HRR hy z0 z1 z2 z3 z4 z5 z6 z7 z8 y9 y10
  intro e w4 h
  obtain ⟨hp, x, rfl⟩ := HP.out e w4 h
  have HE := hid hp
  clear h hp HP
  gi_wp2
  refine bodyPost_ret (results_none rfl _ _ _) rfl ?_
  exact HE.out

theorem factsAt_one {D : Nat → Prop} {w : World} {b : Nat} {f : FactB} (hD : D b) (h : w.heap[b]? = some (.cells #[.string ⟨f.1.1.toArray⟩, .string ⟨f.1.2.toArray⟩, .string ⟨f.2.toArray⟩] 26 (0, 0))) : FactsAt D w (some ⟨b, 0, none⟩) [f] := fun i hi => by
  have : i = 0 := by simp at hi; omega
  subst this
  exact ⟨b, 0, rfl, hD, cell_blk h 0, cell_blk h 1, cell_blk h 2⟩
theorem factsAt_two {D : Nat → Prop} {w : World} {b : Nat} {f f2 : FactB} (hD : D b) (h : w.heap[b]? = some (.cells #[.string ⟨f.1.1.toArray⟩, .string ⟨f.1.2.toArray⟩, .string ⟨f.2.toArray⟩, .string ⟨f2.1.1.toArray⟩, .string ⟨f2.1.2.toArray⟩, .string ⟨f2.2.toArray⟩] 26 (0, 0))) : FactsAt D w (some ⟨b, 0, none⟩) [f, f2] := fun i hi => by
  rcases i with _ | _ | i
  · exact ⟨b, 0, rfl, hD, cell_blk h 0, cell_blk h 1, cell_blk h 2⟩
  · exact ⟨b, 0, rfl, hD, cell_blk h 3, cell_blk h 4, cell_blk h 5⟩
  · simp at hi; omega

set_option maxRecDepth 100000 in
set_option maxHeartbeats 4000000 in
theorem kw_ways_2 {J Jx : List (Value × List Nat) → World → Prop} {T : Nat → Option KTag} {U : Nat → Prop} (l g Bs Bk n0 : Nat) (F : List FactB) (s : StepB) (W : World) (hx : WCtx T U Bs Bk n0 W.heap.size) (hF : F.length ≤ 1000000) (hsh : stepShort s 9223372036854775807) (hks : KS T W g F)
    (hbs : W.heap[Bs]? = some (.cells (stepBox s) 43 (0, 0))) (hbk : W.heap[Bk]? = some (.cells #[.pointer (some ⟨g, 0, none⟩)] 103 (0, 0)))
    (hJ : ∀ s A B, J s A → Chg (fun _ => False) A B → J s B)
    (hY : ∀ (m : Nat) (pre : List (Value × List Nat)) (x : Value × List Nat) (W0 W1 : World), J pre W0 → Chg (fun _ => False) W0 W1 → OwnI W0.heap.size W1 x.1 x.2 → pre.length < F.length + 2 → YieldAt Fence.wide m Try.prog l #[x.1] W1 fun e W' =>
      (e = .returned (.bool true) ∧ J (pre ++ [x]) W' ∧ Chg (VW U n0 W.heap.size pre x) W1 W') ∨ (e = .returned (.bool false) ∧ Jx (pre ++ [x]) W')) (h0 : J [] W) (hr : isCred s.c = true) (hh : s.f.1 = s.c.head) (hk : s.c.kind = 2) :
    Calls Try.prog 115 #[.func (.yield l) #[] #[], .pointer (some ⟨Bs, 0, none⟩), .pointer (some ⟨Bk, 0, none⟩)] W (WaysPost J Jx s F) := by
  have HBS := hid hbs
  have HLT : Hid (Bs < W.heap.size) := hid (lt_blk hbs)
  have HST := hid (And.intro hks (And.intro hbk (And.intro h0 hJ)))
  have HYY := hid hY
  have HXC := hid hx
  have HSH := hid hsh
  have HFL := hid hF
  have Hhr := hid hr
  have Hhh := hid hh
  have Hhk := hid hk
  clear hr hh hk
  clear hbs hks hbk h0 hJ hY hx hsh hF
  go_enter Try.func115, Try.ntmps115
  go_wp2_with fail
  refine wp_region_stateA (Chg (fun i => W.heap.size ≤ i)) (OneC W.heap.size W s.c) (specAtR (kws0 s Bs Bk W.heap.size)) [9, 10, 11, 12, 13, 4, 5] [1] (by kernel_rfl) (by kernel_rfl) ⟨(Chg.refl _ _).drew, Nat.le_refl _, (show (4 : Nat) < 94 by decide), (fun h => by cases h), (fun h => by cases h)⟩ (fun t v w w' hc h => specAtR_st _ t v w w' hc h) (by rfl) (by kernel_rfl) ?start ?obs ?fin
  case start =>
    simp only [List.forall_mem_cons]; exact ⟨⟨_, rfl, rfl⟩, fun _ h => by cases h⟩
  case obs =>
    clear HST HYY HXC HSH HFL
    refine ObsA.cons none (by kernel_rfl) ?_ ?_
    · refine ObA.plain fun L a w hi he hW hk K k => ?_
      obtain ⟨_, e1, rfl⟩ := hk 1 (by decide)
      clear hk
      have hS := hid (fun v => hW.quiet (i := 0) (by decide) 9 v (by decide))
      clear hi he hW
      go_simp
      exact k _ _ (Chg.refl _ _) (hS.out _) rfl
    refine ObsA.cons none (by kernel_rfl) ?_ ?_
    · refine ObA.plain fun L a w hi he hW hk K k => ?_
      obtain ⟨_, e9, rfl⟩ := hk 9 (by decide)
      clear hk
      obtain ⟨⟨y0, y1, y2, y3, y4, y5, y6, y7, y8⟩, ⟨y9, y10, y11⟩⟩ := step_at_blk (blk_keep HBS.out hW.ch (fun h => absurd h (Nat.not_le.2 HLT.out)))
      simp only [Nat.zero_add] at y0 y1 y2 y3 y4 y5 y6 y7 y8 y9 y10 y11
      have hS := hid (fun v => hW.quiet (i := 1) (by decide) 10 v (by decide))
      clear hi he hW
      go_simp
      exact k _ _ (Chg.refl _ _) (hS.out _) rfl
    refine ObsA.cons none (by kernel_rfl) ?_ ?_
    · refine ObA.plain fun L a w hi he hW hk K k => ?_
      obtain ⟨_, e1, rfl⟩ := hk 1 (by decide)
      clear hk
      have hS := hid (fun v => hW.quiet (i := 2) (by decide) 11 v (by decide))
      clear hi he hW
      go_simp
      exact k _ _ (Chg.refl _ _) (hS.out _) rfl
    refine ObsA.cons none (by kernel_rfl) ?_ ?_
    · refine ObA.plain fun L a w hi he hW hk K k => ?_
      obtain ⟨_, e11, rfl⟩ := hk 11 (by decide)
      clear hk
      have hS := hid (fun v => hW.quiet (i := 3) (by decide) 12 v (by decide))
      clear hi he hW
      go_simp
      exact k _ _ (Chg.refl _ _) (hS.out _) rfl
    refine ObsA.cons none (by kernel_rfl) ?_ ?_
    · refine ObA.plain fun L a w hi he hW hk K k => ?_
      obtain ⟨_, e12, rfl⟩ := hk 12 (by decide)
      clear hk
      obtain ⟨⟨y0, y1, y2, y3, y4, y5, y6, y7, y8⟩, ⟨y9, y10, y11⟩⟩ := step_at_blk (blk_keep HBS.out hW.ch (fun h => absurd h (Nat.not_le.2 HLT.out)))
      simp only [Nat.zero_add] at y0 y1 y2 y3 y4 y5 y6 y7 y8 y9 y10 y11
      have hS := hid (fun v => hW.quiet (i := 4) (by decide) 13 v (by decide))
      clear hi he hW
      go_simp
      exact k _ _ (Chg.refl _ _) (hS.out _) rfl
    refine ObsA.cons none (by kernel_rfl) ?_ ?_
    · refine ObA.plain fun L a w hi he hW hk K k => ?_
      clear hk
      have hS := hid (hW.make hi)
      clear hi he hW
      go_simp
      exact k _ _ ((Chg.refl _ _).alloc _) hS.out trivial
    refine ObsA.cons none (by kernel_rfl) ?_ ?_
    · refine ObA.plain fun L a w hi he hW hk K k => ?_
      obtain ⟨_, e4, f4⟩ := hk 4 (by decide)
      obtain ⟨_, e10, rfl⟩ := hk 10 (by decide)
      clear hk
      have l : L 5 = true := he ⟨5, Ground.data⟩ (by simp) (by decide)
      obtain ⟨b, p1, _, _⟩ := hW.p4 l
      have ez := e4.symm.trans p1
      injection ez with ez
      subst ez
      obtain ⟨hW2, hc2, hz⟩ := hW.set hi e4 l
      obtain ⟨y0, y1, y2, y3, y4, y5, y6, y7, y8⟩ := cred_at_blk hz
      simp only [Nat.zero_add, noCred, noneR] at y0 y1 y2 y3 y4 y5 y6 y7 y8
      have g0 := froz_blk hz 0
      have g1 := froz_blk hz 1
      have g2 := froz_blk hz 2
      have g3 := froz_blk hz 3
      have g4 := froz_blk hz 4
      have g5 := froz_blk hz 5
      have g6 := froz_blk hz 6
      have g7 := froz_blk hz 7
      have g8 := froz_blk hz 8
      have HB := hid (And.intro hW2 hc2)
      clear hi he hz hW2 hc2 hW p1 f4
      go_simp
      exact k undef _ HB.out.2 HB.out.1 trivial
    refine ObsA.cons none (by kernel_rfl) ?_ ?_
    · refine ObA.plain fun L a w hi he hW hk K k => ?_
      obtain ⟨_, e13, rfl⟩ := hk 13 (by decide)
      clear hk
      have hS := hid (fun v => hW.quiet (i := 7) (by decide) 5 v (by decide))
      clear hi he hW
      go_simp
      exact k _ _ (Chg.refl _ _) (hS.out _) rfl
    exact ObsA.nil
  intro L vals w2 hL hW hv
  have h4 : ∃ b, vals 4 = .pointer (some ⟨b, 0, none⟩) ∧ W.heap.size ≤ b ∧ w2.heap[b]? = some (.cells (credBox s.c) 36 (0, 0)) := by
    obtain ⟨b, p1, p2, p3⟩ := hW.p4 (hL 5 (by decide))
    simp only [putAll, List.setIfInBounds_toArray, List.set_cons_zero, List.set_cons_succ, List.getElem?_toArray, List.getElem?_cons_zero, List.getElem?_cons_succ, Option.some.injEq] at p1
    rw [hL 6 (by decide)] at p3
    exact ⟨b, p1, p2, p3⟩
  obtain ⟨b, h4, hbl, hbb⟩ := h4
  have h5 : vals 5 = .string ⟨s.f.2.toArray⟩ := hv 5 (by decide)
  have hc2 : Chg (fun _ => False) W w2 := hW.ch.mono (fun i hi h => absurd hi (Nat.not_lt.2 h))
  simp only [putAll, List.setIfInBounds_toArray, List.set_cons_zero, List.set_cons_succ, h4, h5]
  have HJ := hid HST.out.2.2.2
  have HW : Hid (WSt J T g F s Bs Bk b W.heap.size [] w2) := hid ⟨HST.out.1.quiet hc2, blk_keep HBS.out hc2 id, blk_keep HST.out.2.1 hc2 id, hbb, HST.out.2.2.2 _ _ _ HST.out.2.2.1 hc2, fun y hy => (by cases hy), hbl⟩
  clear hL hW hv h4 h5 hc2 hbl HST HBS HLT
  obtain ⟨z0, z1, z2, z3, z4, z5, z6, z7, z8⟩ := cred_at_blk hbb
  simp only [Nat.zero_add] at z0 z1 z2 z3 z4 z5 z6 z7 z8
  rw [Hhk.out] at z0
  have hq := pcright s.c w2 HSH.out.1
  unfold credV credBox at hq
  rw [Hhr.out] at hq
  rw [Hhk.out] at hq
  have HQ := hid hq
  clear hq hbb
  go_wp2_with fail
  refine HQ.out.mono ?_
  clear HQ z0 z1 z2 z3 z4 z5 z6 z7 z8
  rintro e w3 ⟨rfl, hc3⟩
  have HW := hid (HW.out.quiet HJ.out hc3)
  clear hc3
  obtain ⟨_, ⟨y9, y10, _⟩⟩ := step_at_blk HW.out.bs
  simp only [Nat.zero_add] at y9 y10
  rw [Hhh.out] at y9 y10
  obtain ⟨z0, z1, z2, z3, z4, z5, z6, z7, z8⟩ := cred_at_blk HW.out.cb
  simp only [Nat.zero_add] at z0 z1 z2 z3 z4 z5 z6 z7 z8
  rw [Hhk.out] at z0
  have hb := heap_alloc_new w3 (.cells #[.string ⟨s.c.b.1.toArray⟩, .string ⟨s.c.b.2.toArray⟩, .string ⟨s.f.2.toArray⟩] 26)
  have hal : Chg (fun _ => False) w3 (w3.alloc (.cells #[.string ⟨s.c.b.1.toArray⟩, .string ⟨s.c.b.2.toArray⟩, .string ⟨s.f.2.toArray⟩] 26)) := (Chg.refl _ _).alloc _
  have hw4 := HW.out.quiet HJ.out hal
  have hway := kw_way g l 1 (VW U n0 W.heap.size []) (some ⟨w3.heap.size, 0, none⟩) F [(s.c.b, s.f.2)] (w3.alloc (.cells #[.string ⟨s.c.b.1.toArray⟩, .string ⟨s.c.b.2.toArray⟩, .string ⟨s.f.2.toArray⟩] 26)) (fun x w' => J ([] ++ [x]) w') (fun x w' => Jx ([] ++ [x]) w') hw4.ks (factsAt_one (D := fun _ => True) trivial hb) (fun f hf => ?sh) (by simp) HFL.out (fun m x W1 hc ho => HYY.out m [] x _ W1 hw4.jj hc ho (by simp))
  case sh =>
    obtain ⟨⟨q1, q2, q3, q4, q5, q6, q7, q8⟩, q9, q10, q11⟩ := HSH.out
    simp only [List.mem_cons, List.not_mem_nil, or_false] at hf
    subst hf; exact ⟨q4, q5, q11⟩
  have HQ := hid hway
  have HP : Hid (∀ (e : Ending) (w' : World), WayPost F [(s.c.b, s.f.2)] (VW U n0 W.heap.size []) (w3.alloc (.cells #[.string ⟨s.c.b.1.toArray⟩, .string ⟨s.c.b.2.toArray⟩, .string ⟨s.f.2.toArray⟩] 26)) (fun x w' => J ([] ++ [x]) w') (fun x w' => Jx ([] ++ [x]) w') e w' → WaysPost J Jx s F (.returned (.tuple #[])) w' ∧ ∃ x, e = .returned (.bool x)) := hid (fun e w' h => by
    have hk1 := waysK_2 (F := F) ⟨Hhr.out, Hhh.out⟩ Hhk.out
    rcases h with ⟨h1, rfl, h2⟩ | ⟨x, h1, rfl, h2, _⟩ | ⟨x, h1, rfl, h2⟩
    · exact ⟨⟨⟨_, rfl⟩, .inl ⟨[], by rw [hk1, h1]; rfl, HJ.out _ _ _ hw4.jj h2⟩⟩, _, rfl⟩
    · exact ⟨⟨⟨_, rfl⟩, .inl ⟨_, by rw [hk1, h1]; rfl, h2⟩⟩, _, rfl⟩
    · exact ⟨⟨⟨_, rfl⟩, .inr ⟨_, by rw [hk1, h1]; exact List.prefix_refl _, h2⟩⟩, _, rfl⟩)
  have x2 := cell_blk HW.out.bk 0
  simp only [List.getElem?_toArray, List.getElem?_cons_zero] at x2
  clear hb hal hw4 hway HW HYY HXC
  go_wp2_with fail
  refine HQ.out.mono ?_
  clear HQ x2 z0 z1 z2 z3 z4 z5 z6 z7 z8 y9 y10
  intro e w4 h
  obtain ⟨hp, x, rfl⟩ := HP.out e w4 h
  have HE := hid hp
  clear h hp HP
  go_wp2
  go_end0
  exact HE.out

set_option maxRecDepth 100000 in
set_option maxHeartbeats 4000000 in
theorem kw_ways_4 {J Jx : List (Value × List Nat) → World → Prop} {T : Nat → Option KTag} {U : Nat → Prop} (l g Bs Bk n0 : Nat) (F : List FactB) (s : StepB) (W : World) (hx : WCtx T U Bs Bk n0 W.heap.size) (hF : F.length ≤ 1000000) (hsh : stepShort s 9223372036854775807) (hks : KS T W g F)
    (hbs : W.heap[Bs]? = some (.cells (stepBox s) 43 (0, 0))) (hbk : W.heap[Bk]? = some (.cells #[.pointer (some ⟨g, 0, none⟩)] 103 (0, 0)))
    (hJ : ∀ s A B, J s A → Chg (fun _ => False) A B → J s B)
    (hY : ∀ (m : Nat) (pre : List (Value × List Nat)) (x : Value × List Nat) (W0 W1 : World), J pre W0 → Chg (fun _ => False) W0 W1 → OwnI W0.heap.size W1 x.1 x.2 → pre.length < F.length + 2 → YieldAt Fence.wide m Try.prog l #[x.1] W1 fun e W' =>
      (e = .returned (.bool true) ∧ J (pre ++ [x]) W' ∧ Chg (VW U n0 W.heap.size pre x) W1 W') ∨ (e = .returned (.bool false) ∧ Jx (pre ++ [x]) W')) (h0 : J [] W) (hr : isCred s.c = true) (hh : s.f.1 = s.c.head) (hk : s.c.kind = 4) :
    Calls Try.prog 115 #[.func (.yield l) #[] #[], .pointer (some ⟨Bs, 0, none⟩), .pointer (some ⟨Bk, 0, none⟩)] W (WaysPost J Jx s F) := by
  have HBS := hid hbs
  have HLT : Hid (Bs < W.heap.size) := hid (lt_blk hbs)
  have HST := hid (And.intro hks (And.intro hbk (And.intro h0 hJ)))
  have HYY := hid hY
  have HXC := hid hx
  have HSH := hid hsh
  have HFL := hid hF
  have Hhr := hid hr
  have Hhh := hid hh
  have Hhk := hid hk
  clear hr hh hk
  clear hbs hks hbk h0 hJ hY hx hsh hF
  go_enter Try.func115, Try.ntmps115
  go_wp2_with fail
  refine wp_region_stateA (Chg (fun i => W.heap.size ≤ i)) (OneC W.heap.size W s.c) (specAtR (kws0 s Bs Bk W.heap.size)) [9, 10, 11, 12, 13, 4, 5] [1] (by kernel_rfl) (by kernel_rfl) ⟨(Chg.refl _ _).drew, Nat.le_refl _, (show (4 : Nat) < 94 by decide), (fun h => by cases h), (fun h => by cases h)⟩ (fun t v w w' hc h => specAtR_st _ t v w w' hc h) (by rfl) (by kernel_rfl) ?start ?obs ?fin
  case start =>
    simp only [List.forall_mem_cons]; exact ⟨⟨_, rfl, rfl⟩, fun _ h => by cases h⟩
  case obs =>
    clear HST HYY HXC HSH HFL
    refine ObsA.cons none (by kernel_rfl) ?_ ?_
    · refine ObA.plain fun L a w hi he hW hk K k => ?_
      obtain ⟨_, e1, rfl⟩ := hk 1 (by decide)
      clear hk
      have hS := hid (fun v => hW.quiet (i := 0) (by decide) 9 v (by decide))
      clear hi he hW
      go_simp
      exact k _ _ (Chg.refl _ _) (hS.out _) rfl
    refine ObsA.cons none (by kernel_rfl) ?_ ?_
    · refine ObA.plain fun L a w hi he hW hk K k => ?_
      obtain ⟨_, e9, rfl⟩ := hk 9 (by decide)
      clear hk
      obtain ⟨⟨y0, y1, y2, y3, y4, y5, y6, y7, y8⟩, ⟨y9, y10, y11⟩⟩ := step_at_blk (blk_keep HBS.out hW.ch (fun h => absurd h (Nat.not_le.2 HLT.out)))
      simp only [Nat.zero_add] at y0 y1 y2 y3 y4 y5 y6 y7 y8 y9 y10 y11
      have hS := hid (fun v => hW.quiet (i := 1) (by decide) 10 v (by decide))
      clear hi he hW
      go_simp
      exact k _ _ (Chg.refl _ _) (hS.out _) rfl
    refine ObsA.cons none (by kernel_rfl) ?_ ?_
    · refine ObA.plain fun L a w hi he hW hk K k => ?_
      obtain ⟨_, e1, rfl⟩ := hk 1 (by decide)
      clear hk
      have hS := hid (fun v => hW.quiet (i := 2) (by decide) 11 v (by decide))
      clear hi he hW
      go_simp
      exact k _ _ (Chg.refl _ _) (hS.out _) rfl
    refine ObsA.cons none (by kernel_rfl) ?_ ?_
    · refine ObA.plain fun L a w hi he hW hk K k => ?_
      obtain ⟨_, e11, rfl⟩ := hk 11 (by decide)
      clear hk
      have hS := hid (fun v => hW.quiet (i := 3) (by decide) 12 v (by decide))
      clear hi he hW
      go_simp
      exact k _ _ (Chg.refl _ _) (hS.out _) rfl
    refine ObsA.cons none (by kernel_rfl) ?_ ?_
    · refine ObA.plain fun L a w hi he hW hk K k => ?_
      obtain ⟨_, e12, rfl⟩ := hk 12 (by decide)
      clear hk
      obtain ⟨⟨y0, y1, y2, y3, y4, y5, y6, y7, y8⟩, ⟨y9, y10, y11⟩⟩ := step_at_blk (blk_keep HBS.out hW.ch (fun h => absurd h (Nat.not_le.2 HLT.out)))
      simp only [Nat.zero_add] at y0 y1 y2 y3 y4 y5 y6 y7 y8 y9 y10 y11
      have hS := hid (fun v => hW.quiet (i := 4) (by decide) 13 v (by decide))
      clear hi he hW
      go_simp
      exact k _ _ (Chg.refl _ _) (hS.out _) rfl
    refine ObsA.cons none (by kernel_rfl) ?_ ?_
    · refine ObA.plain fun L a w hi he hW hk K k => ?_
      clear hk
      have hS := hid (hW.make hi)
      clear hi he hW
      go_simp
      exact k _ _ ((Chg.refl _ _).alloc _) hS.out trivial
    refine ObsA.cons none (by kernel_rfl) ?_ ?_
    · refine ObA.plain fun L a w hi he hW hk K k => ?_
      obtain ⟨_, e4, f4⟩ := hk 4 (by decide)
      obtain ⟨_, e10, rfl⟩ := hk 10 (by decide)
      clear hk
      have l : L 5 = true := he ⟨5, Ground.data⟩ (by simp) (by decide)
      obtain ⟨b, p1, _, _⟩ := hW.p4 l
      have ez := e4.symm.trans p1
      injection ez with ez
      subst ez
      obtain ⟨hW2, hc2, hz⟩ := hW.set hi e4 l
      obtain ⟨y0, y1, y2, y3, y4, y5, y6, y7, y8⟩ := cred_at_blk hz
      simp only [Nat.zero_add, noCred, noneR] at y0 y1 y2 y3 y4 y5 y6 y7 y8
      have g0 := froz_blk hz 0
      have g1 := froz_blk hz 1
      have g2 := froz_blk hz 2
      have g3 := froz_blk hz 3
      have g4 := froz_blk hz 4
      have g5 := froz_blk hz 5
      have g6 := froz_blk hz 6
      have g7 := froz_blk hz 7
      have g8 := froz_blk hz 8
      have HB := hid (And.intro hW2 hc2)
      clear hi he hz hW2 hc2 hW p1 f4
      go_simp
      exact k undef _ HB.out.2 HB.out.1 trivial
    refine ObsA.cons none (by kernel_rfl) ?_ ?_
    · refine ObA.plain fun L a w hi he hW hk K k => ?_
      obtain ⟨_, e13, rfl⟩ := hk 13 (by decide)
      clear hk
      have hS := hid (fun v => hW.quiet (i := 7) (by decide) 5 v (by decide))
      clear hi he hW
      go_simp
      exact k _ _ (Chg.refl _ _) (hS.out _) rfl
    exact ObsA.nil
  intro L vals w2 hL hW hv
  have h4 : ∃ b, vals 4 = .pointer (some ⟨b, 0, none⟩) ∧ W.heap.size ≤ b ∧ w2.heap[b]? = some (.cells (credBox s.c) 36 (0, 0)) := by
    obtain ⟨b, p1, p2, p3⟩ := hW.p4 (hL 5 (by decide))
    simp only [putAll, List.setIfInBounds_toArray, List.set_cons_zero, List.set_cons_succ, List.getElem?_toArray, List.getElem?_cons_zero, List.getElem?_cons_succ, Option.some.injEq] at p1
    rw [hL 6 (by decide)] at p3
    exact ⟨b, p1, p2, p3⟩
  obtain ⟨b, h4, hbl, hbb⟩ := h4
  have h5 : vals 5 = .string ⟨s.f.2.toArray⟩ := hv 5 (by decide)
  have hc2 : Chg (fun _ => False) W w2 := hW.ch.mono (fun i hi h => absurd hi (Nat.not_lt.2 h))
  simp only [putAll, List.setIfInBounds_toArray, List.set_cons_zero, List.set_cons_succ, h4, h5]
  have HJ := hid HST.out.2.2.2
  have HW : Hid (WSt J T g F s Bs Bk b W.heap.size [] w2) := hid ⟨HST.out.1.quiet hc2, blk_keep HBS.out hc2 id, blk_keep HST.out.2.1 hc2 id, hbb, HST.out.2.2.2 _ _ _ HST.out.2.2.1 hc2, fun y hy => (by cases hy), hbl⟩
  clear hL hW hv h4 h5 hc2 hbl HST HBS HLT
  obtain ⟨z0, z1, z2, z3, z4, z5, z6, z7, z8⟩ := cred_at_blk hbb
  simp only [Nat.zero_add] at z0 z1 z2 z3 z4 z5 z6 z7 z8
  rw [Hhk.out] at z0
  have hq := pcright s.c w2 HSH.out.1
  unfold credV credBox at hq
  rw [Hhr.out] at hq
  rw [Hhk.out] at hq
  have HQ := hid hq
  clear hq hbb
  go_wp2_with fail
  refine HQ.out.mono ?_
  clear HQ z0 z1 z2 z3 z4 z5 z6 z7 z8
  rintro e w3 ⟨rfl, hc3⟩
  have HW := hid (HW.out.quiet HJ.out hc3)
  clear hc3
  obtain ⟨_, ⟨y9, y10, _⟩⟩ := step_at_blk HW.out.bs
  simp only [Nat.zero_add] at y9 y10
  rw [Hhh.out] at y9 y10
  obtain ⟨z0, z1, z2, z3, z4, z5, z6, z7, z8⟩ := cred_at_blk HW.out.cb
  simp only [Nat.zero_add] at z0 z1 z2 z3 z4 z5 z6 z7 z8
  rw [Hhk.out] at z0
  have hb := heap_alloc_new w3 (.cells #[.string ⟨s.c.b.1.toArray⟩, .string ⟨s.c.b.2.toArray⟩, .string ⟨s.f.2.toArray⟩, .string ⟨s.c.c.1.toArray⟩, .string ⟨s.c.c.2.toArray⟩, .string ⟨s.f.2.toArray⟩] 26)
  have hal : Chg (fun _ => False) w3 (w3.alloc (.cells #[.string ⟨s.c.b.1.toArray⟩, .string ⟨s.c.b.2.toArray⟩, .string ⟨s.f.2.toArray⟩, .string ⟨s.c.c.1.toArray⟩, .string ⟨s.c.c.2.toArray⟩, .string ⟨s.f.2.toArray⟩] 26)) := (Chg.refl _ _).alloc _
  have hw4 := HW.out.quiet HJ.out hal
  have hway := kw_way g l 2 (VW U n0 W.heap.size []) (some ⟨w3.heap.size, 0, none⟩) F [(s.c.b, s.f.2), (s.c.c, s.f.2)] (w3.alloc (.cells #[.string ⟨s.c.b.1.toArray⟩, .string ⟨s.c.b.2.toArray⟩, .string ⟨s.f.2.toArray⟩, .string ⟨s.c.c.1.toArray⟩, .string ⟨s.c.c.2.toArray⟩, .string ⟨s.f.2.toArray⟩] 26)) (fun x w' => J ([] ++ [x]) w') (fun x w' => Jx ([] ++ [x]) w') hw4.ks (factsAt_two (D := fun _ => True) trivial hb) (fun f hf => ?sh) (by simp) HFL.out (fun m x W1 hc ho => HYY.out m [] x _ W1 hw4.jj hc ho (by simp))
  case sh =>
    obtain ⟨⟨q1, q2, q3, q4, q5, q6, q7, q8⟩, q9, q10, q11⟩ := HSH.out
    simp only [List.mem_cons, List.not_mem_nil, or_false] at hf
    rcases hf with rfl | rfl; · exact ⟨q4, q5, q11⟩
    · exact ⟨q6, q7, q11⟩
  have HQ := hid hway
  have HP : Hid (∀ (e : Ending) (w' : World), WayPost F [(s.c.b, s.f.2), (s.c.c, s.f.2)] (VW U n0 W.heap.size []) (w3.alloc (.cells #[.string ⟨s.c.b.1.toArray⟩, .string ⟨s.c.b.2.toArray⟩, .string ⟨s.f.2.toArray⟩, .string ⟨s.c.c.1.toArray⟩, .string ⟨s.c.c.2.toArray⟩, .string ⟨s.f.2.toArray⟩] 26)) (fun x w' => J ([] ++ [x]) w') (fun x w' => Jx ([] ++ [x]) w') e w' → WaysPost J Jx s F (.returned (.tuple #[])) w' ∧ ∃ x, e = .returned (.bool x)) := hid (fun e w' h => by
    have hk1 := waysK_4 (F := F) ⟨Hhr.out, Hhh.out⟩ Hhk.out
    rcases h with ⟨h1, rfl, h2⟩ | ⟨x, h1, rfl, h2, _⟩ | ⟨x, h1, rfl, h2⟩
    · exact ⟨⟨⟨_, rfl⟩, .inl ⟨[], by rw [hk1, h1]; rfl, HJ.out _ _ _ hw4.jj h2⟩⟩, _, rfl⟩
    · exact ⟨⟨⟨_, rfl⟩, .inl ⟨_, by rw [hk1, h1]; rfl, h2⟩⟩, _, rfl⟩
    · exact ⟨⟨⟨_, rfl⟩, .inr ⟨_, by rw [hk1, h1]; exact List.prefix_refl _, h2⟩⟩, _, rfl⟩)
  have x2 := cell_blk HW.out.bk 0
  simp only [List.getElem?_toArray, List.getElem?_cons_zero] at x2
  clear hb hal hw4 hway HW HYY HXC
  go_wp2_with fail
  refine HQ.out.mono ?_
  clear HQ x2 z0 z1 z2 z3 z4 z5 z6 z7 z8 y9 y10
  intro e w4 h
  obtain ⟨hp, x, rfl⟩ := HP.out e w4 h
  have HE := hid hp
  clear h hp HP
  go_wp2
  go_end0
  exact HE.out
end Go.Proofs.Ytjaplnainlbldaa
