/- The ways to a step: Linked; and all. -/
import Derived.Test.YtjaplnainlbldaaSc48
namespace Go.Proofs.Ytjaplnainlbldaa
open Go.RowKit Go.Maps
attribute [local go_sem] Oper.semAt_some
attribute [local go_sem ↓ high] run_neg_role run_nel_role

theorem flat_few (F : List FactB) (s : StepB) : ∀ l : List Nat, (l.flatMap (fun i => wayK F (linkFs F s i))).length ≤ l.length
  | [] => by simp
  | x :: l => by
    rw [List.flatMap_cons, List.length_append, List.length_cons]
    have := wayK_few F (linkFs F s x)
    have := flat_few F s l
    omega

theorem KParts.places {T : Nat → Option KTag} {w : World} {g : Nat} {Fr Fa Fo : List FactB} {v : Value} {m1 m2 : Nat} {Sl : RoleB → Option Value} (h : KParts T w g Fr Fa Fo v m1 m2 Sl) {r : RoleB} (hr : ktR.ok r) :
    ∃ u : Value, OwnI 0 w u (placesK Fo r) ∧ (∀ b, u.ownBlock = some b → T b = some (.role r)) ∧ ∀ w', Chg (fun _ => False) w w' → (Instr.lookup 83 (.map (some m2)) (.agg #[.string ⟨r.1.toArray⟩, .string ⟨r.2.toArray⟩]) false).run Try.prog w' = .ok u w' := by
  refine ⟨(Sl r).getD (.slice none 0 0), ?_, ?_, fun w' hc => (h.kof.keep hc id).look (t := 83) (e := 156) (a := r) Try.underlying83 (mZeroOf w') hr⟩
  · cases hs : Sl r with
    | none => rw [h.noS r hr hs]; exact OwnI.nil _ _
    | some x => exact (h.isS r x hr hs).1
  · cases hs : Sl r with
    | none => intro b hb; cases hb
    | some x => exact (h.isS r x hr hs).2

def kws9 (g b m2 n : Nat) (s : StepB) (Bk : Nat) (ao : Option Addr) (cap : Nat) : List Spec := [.any, .any, .eq (.pointer (some ⟨Bk, 0, none⟩)), .any, .eq (.pointer (some ⟨b, 0, none⟩)), .any, .any, .any, .any, .any, .any, .any, .any, .any, .any, .any, .any, .any, .any, .any, .any, .any, .any, .any, .any, .any, .any, .any, .any, .any, .any, .any, .any, .any, .any, .any, .any, .any, .any, .any, .any, .any, .any, .any, .any, .any, .any, .eq (.pointer (some ⟨g, 0, none⟩)), .eq (.pointer (some ⟨g, 0, none⟩)), .eq (.pointer (some ⟨g, 2, none⟩)), .eq (.map (some m2)), .eq (.pointer (some ⟨b, 4, none⟩)), .eq (.agg #[.string ⟨s.c.b.1.toArray⟩, .string ⟨s.c.b.2.toArray⟩]), .eq (.slice ao n cap), .eq (.int .i64 (n : Nat)), .eq (.int .i64 (0 : Nat)), .any, .any, .any, .any, .any, .any, .any, .any, .any, .any, .any, .any, .any, .any, .any, .any, .any, .any, .any, .any, .any, .any, .any, .any, .any, .any, .any, .any, .any, .any, .any, .any, .any, .any, .any, .any, .any, .any]

set_option maxRecDepth 100000 in
set_option maxHeartbeats 4000000 in
theorem kw_ways_3 {J Jx : List (Value × List Nat) → World → Prop} {T : Nat → Option KTag} {U : Nat → Prop} (l g Bs Bk n0 : Nat) (F : List FactB) (s : StepB) (W : World) (hx : WCtx T U Bs Bk n0 W.heap.size) (hF : F.length ≤ 1000000) (hsh : stepShort s 9223372036854775807) (hks : KS T W g F)
    (hbs : W.heap[Bs]? = some (.cells (stepBox s) 43 (0, 0))) (hbk : W.heap[Bk]? = some (.cells #[.pointer (some ⟨g, 0, none⟩)] 103 (0, 0)))
    (hJ : ∀ s A B, J s A → Chg (fun _ => False) A B → J s B)
    (hY : ∀ (m : Nat) (pre : List (Value × List Nat)) (x : Value × List Nat) (W0 W1 : World), J pre W0 → Chg (fun _ => False) W0 W1 → OwnI W0.heap.size W1 x.1 x.2 → pre.length < F.length + 2 → YieldAt Fence.wide m Try.prog l #[x.1] W1 fun e W' =>
      (e = .returned (.bool true) ∧ J (pre ++ [x]) W' ∧ Chg (VW U n0 W.heap.size pre x) W1 W') ∨ (e = .returned (.bool false) ∧ Jx (pre ++ [x]) W')) (h0 : J [] W) (hr : isCred s.c = true) (hh : s.f.1 = s.c.head) (hk : s.c.kind = 3) :
    Calls Try.prog 115 #[.func (.yield l) #[] #[], .pointer (some ⟨Bs, 0, none⟩), .pointer (some ⟨Bk, 0, none⟩)] W (WaysPost J Jx s F) := by
  have HBS := hid hbs
  have HLT : Hid (Bs < W.heap.size) := hid (lt_blk hbs)
  have HST := hid (And.intro hks (And.intro hbk (And.intro h0 hJ)))
  have HYY := hid hY
  have HXC := hid hx
  have HSH := hid hsh
  have HFL := hid hF
  have Hhr := hid hr
  have Hhh := hid hh
  have Hhk := hid hk
  clear hr hh hk
  clear hbs hks hbk h0 hJ hY hx hsh hF
  go_enter Try.func115, Try.ntmps115
  go_wp2_with fail
  refine wp_region_stateA (Chg (fun i => W.heap.size ≤ i)) (OneC W.heap.size W s.c) (specAtR (kws0 s Bs Bk W.heap.size)) [9, 10, 11, 12, 13, 4, 5] [1] (by kernel_rfl) (by kernel_rfl) ⟨(Chg.refl _ _).drew, Nat.le_refl _, (show (4 : Nat) < 94 by decide), (fun h => by cases h), (fun h => by cases h)⟩ (fun t v w w' hc h => specAtR_st _ t v w w' hc h) (by rfl) (by kernel_rfl) ?start ?obs ?fin
  case start =>
    simp only [List.forall_mem_cons]; exact ⟨⟨_, rfl, rfl⟩, fun _ h => by cases h⟩
  case obs =>
    clear HST HYY HXC HSH HFL
    refine ObsA.cons none (by kernel_rfl) ?_ ?_
    · refine ObA.plain fun L a w hi he hW hk K k => ?_
      obtain ⟨_, e1, rfl⟩ := hk 1 (by decide)
      clear hk
      have hS := hid (fun v => hW.quiet (i := 0) (by decide) 9 v (by decide))
      clear hi he hW
      go_simp
      exact k _ _ (Chg.refl _ _) (hS.out _) rfl
    refine ObsA.cons none (by kernel_rfl) ?_ ?_
    · refine ObA.plain fun L a w hi he hW hk K k => ?_
      obtain ⟨_, e9, rfl⟩ := hk 9 (by decide)
      clear hk
      obtain ⟨⟨y0, y1, y2, y3, y4, y5, y6, y7, y8⟩, ⟨y9, y10, y11⟩⟩ := step_at_blk (blk_keep HBS.out hW.ch (fun h => absurd h (Nat.not_le.2 HLT.out)))
      simp only [Nat.zero_add] at y0 y1 y2 y3 y4 y5 y6 y7 y8 y9 y10 y11
      have hS := hid (fun v => hW.quiet (i := 1) (by decide) 10 v (by decide))
      clear hi he hW
      go_simp
      exact k _ _ (Chg.refl _ _) (hS.out _) rfl
    refine ObsA.cons none (by kernel_rfl) ?_ ?_
    · refine ObA.plain fun L a w hi he hW hk K k => ?_
      obtain ⟨_, e1, rfl⟩ := hk 1 (by decide)
      clear hk
      have hS := hid (fun v => hW.quiet (i := 2) (by decide) 11 v (by decide))
      clear hi he hW
      go_simp
      exact k _ _ (Chg.refl _ _) (hS.out _) rfl
    refine ObsA.cons none (by kernel_rfl) ?_ ?_
    · refine ObA.plain fun L a w hi he hW hk K k => ?_
      obtain ⟨_, e11, rfl⟩ := hk 11 (by decide)
      clear hk
      have hS := hid (fun v => hW.quiet (i := 3) (by decide) 12 v (by decide))
      clear hi he hW
      go_simp
      exact k _ _ (Chg.refl _ _) (hS.out _) rfl
    refine ObsA.cons none (by kernel_rfl) ?_ ?_
    · refine ObA.plain fun L a w hi he hW hk K k => ?_
      obtain ⟨_, e12, rfl⟩ := hk 12 (by decide)
      clear hk
      obtain ⟨⟨y0, y1, y2, y3, y4, y5, y6, y7, y8⟩, ⟨y9, y10, y11⟩⟩ := step_at_blk (blk_keep HBS.out hW.ch (fun h => absurd h (Nat.not_le.2 HLT.out)))
      simp only [Nat.zero_add] at y0 y1 y2 y3 y4 y5 y6 y7 y8 y9 y10 y11
      have hS := hid (fun v => hW.quiet (i := 4) (by decide) 13 v (by decide))
      clear hi he hW
      go_simp
      exact k _ _ (Chg.refl _ _) (hS.out _) rfl
    refine ObsA.cons none (by kernel_rfl) ?_ ?_
    · refine ObA.plain fun L a w hi he hW hk K k => ?_
      clear hk
      have hS := hid (hW.make hi)
      clear hi he hW
      go_simp
      exact k _ _ ((Chg.refl _ _).alloc _) hS.out trivial
    refine ObsA.cons none (by kernel_rfl) ?_ ?_
    · refine ObA.plain fun L a w hi he hW hk K k => ?_
      obtain ⟨_, e4, f4⟩ := hk 4 (by decide)
      obtain ⟨_, e10, rfl⟩ := hk 10 (by decide)
      clear hk
      have l : L 5 = true := he ⟨5, Ground.data⟩ (by simp) (by decide)
      obtain ⟨b, p1, _, _⟩ := hW.p4 l
      have ez := e4.symm.trans p1
      injection ez with ez
      subst ez
      obtain ⟨hW2, hc2, hz⟩ := hW.set hi e4 l
      obtain ⟨y0, y1, y2, y3, y4, y5, y6, y7, y8⟩ := cred_at_blk hz
      simp only [Nat.zero_add, noCred, noneR] at y0 y1 y2 y3 y4 y5 y6 y7 y8
      have g0 := froz_blk hz 0
      have g1 := froz_blk hz 1
      have g2 := froz_blk hz 2
      have g3 := froz_blk hz 3
      have g4 := froz_blk hz 4
      have g5 := froz_blk hz 5
      have g6 := froz_blk hz 6
      have g7 := froz_blk hz 7
      have g8 := froz_blk hz 8
      have HB := hid (And.intro hW2 hc2)
      clear hi he hz hW2 hc2 hW p1 f4
      go_simp
      exact k undef _ HB.out.2 HB.out.1 trivial
    refine ObsA.cons none (by kernel_rfl) ?_ ?_
    · refine ObA.plain fun L a w hi he hW hk K k => ?_
      obtain ⟨_, e13, rfl⟩ := hk 13 (by decide)
      clear hk
      have hS := hid (fun v => hW.quiet (i := 7) (by decide) 5 v (by decide))
      clear hi he hW
      go_simp
      exact k _ _ (Chg.refl _ _) (hS.out _) rfl
    exact ObsA.nil
  intro L vals w2 hL hW hv
  have h4 : ∃ b, vals 4 = .pointer (some ⟨b, 0, none⟩) ∧ W.heap.size ≤ b ∧ w2.heap[b]? = some (.cells (credBox s.c) 36 (0, 0)) := by
    obtain ⟨b, p1, p2, p3⟩ := hW.p4 (hL 5 (by decide))
    simp only [putAll, List.setIfInBounds_toArray, List.set_cons_zero, List.set_cons_succ, List.getElem?_toArray, List.getElem?_cons_zero, List.getElem?_cons_succ, Option.some.injEq] at p1
    rw [hL 6 (by decide)] at p3
    exact ⟨b, p1, p2, p3⟩
  obtain ⟨b, h4, hbl, hbb⟩ := h4
  have h5 : vals 5 = .string ⟨s.f.2.toArray⟩ := hv 5 (by decide)
  have hc2 : Chg (fun _ => False) W w2 := hW.ch.mono (fun i hi h => absurd hi (Nat.not_lt.2 h))
  simp only [putAll, List.setIfInBounds_toArray, List.set_cons_zero, List.set_cons_succ, h4, h5]
  have HJ := hid HST.out.2.2.2
  have HW : Hid (WSt J T g F s Bs Bk b W.heap.size [] w2) := hid ⟨HST.out.1.quiet hc2, blk_keep HBS.out hc2 id, blk_keep HST.out.2.1 hc2 id, hbb, HST.out.2.2.2 _ _ _ HST.out.2.2.1 hc2, fun y hy => (by cases hy), hbl⟩
  clear hL hW hv h4 h5 hc2 hbl HST HBS HLT
  obtain ⟨z0, z1, z2, z3, z4, z5, z6, z7, z8⟩ := cred_at_blk hbb
  simp only [Nat.zero_add] at z0 z1 z2 z3 z4 z5 z6 z7 z8
  rw [Hhk.out] at z0
  have hq := pcright s.c w2 HSH.out.1
  unfold credV credBox at hq
  rw [Hhr.out] at hq
  rw [Hhk.out] at hq
  have HQ := hid hq
  clear hq hbb
  go_wp2_with fail
  refine HQ.out.mono ?_
  clear HQ z0 z1 z2 z3 z4 z5 z6 z7 z8
  rintro e w3 ⟨rfl, hc3⟩
  have HW := hid (HW.out.quiet HJ.out hc3)
  clear hc3
  obtain ⟨_, ⟨y9, y10, _⟩⟩ := step_at_blk HW.out.bs
  simp only [Nat.zero_add] at y9 y10
  rw [Hhh.out] at y9 y10
  obtain ⟨z0, z1, z2, z3, z4, z5, z6, z7, z8⟩ := cred_at_blk HW.out.cb
  simp only [Nat.zero_add] at z0 z1 z2 z3 z4 z5 z6 z7 z8
  rw [Hhk.out] at z0
  obtain ⟨v, m1, m2, Sl, hp⟩ := HW.out.ks.ex
  obtain ⟨u, hu1, hu2, hu3⟩ := hp.places (r := s.c.b) (by obtain ⟨⟨q1, q2, q3, q4, q5, q6, q7, q8⟩, _⟩ := HSH.out; exact ⟨q4, q5⟩)
  obtain ⟨ps, hps⟩ : ∃ ps, ps = placesK F s.c.b := ⟨_, rfl⟩
  rw [← hps] at hu1
  obtain ⟨ao, cap, rfl⟩ := hu1.shape
  obtain ⟨n, hn⟩ : ∃ n, n = ps.length := ⟨_, rfl⟩
  rw [← hn] at hu1 hu2 hu3
  have x1 := cell_blk HW.out.bk 0
  have x2 := cell_blk hp.blk 2
  simp only [List.getElem?_toArray, List.getElem?_cons_zero, List.getElem?_cons_succ] at x1 x2
  have HX := hid (And.intro x1 (And.intro x2 (And.intro z4 z5)))
  have HL := hid hu3
  have HO := hid hu1
  have HRT : Hid (∀ k, (Value.slice ao n cap).ownBlock = some k → T k ≠ none) := hid (fun k hkb => by rw [hu2 k hkb]; simp)
  clear hp hu1 hu2 hu3 x1 x2
  have HPS : Hid (waysK s F = ps.flatMap (fun i => wayK F (linkFs F s i))) := hid (by rw [waysK_3 ⟨Hhr.out, Hhh.out⟩ Hhk.out, hps])
  have HPF : Hid ((∀ p ∈ ps, p < F.length) ∧ ps.length ≤ F.length) := hid ⟨fun p hp => by rw [hps] at hp; exact placesK_lt hp, by rw [hps]; exact placesK_len F s.c.b⟩
  have HNW : Hid (n = ps.length) := hid hn
  clear hps hn
  go_wp2_with fail
  refine wp_region_specs (kws9 g b m2 n s Bk ao cap) [47, 48, 49, 50, 51, 52, 53, 54, 55] [2, 4] (by kernel_rfl) (by kernel_rfl) (by rfl) (by kernel_rfl) ?start9 ?obs9 ?fin9
  case start9 =>
    simp only [List.forall_mem_cons]; exact ⟨⟨_, rfl, rfl⟩, ⟨_, rfl, rfl⟩, fun _ h => by cases h⟩
  case obs9 =>
    skip
    refine Obs.cons none (by kernel_rfl) ?_ ?_
    · refine Ob.plain fun a w hR hk K k => ?_
      obtain ⟨_, e2, rfl⟩ := hk 2 (by decide)
      clear hk
      have zz := hR.cell HX.out.1 id
      go_simp
      exact k _ _ (Chg.refl _ _) rfl
    refine Obs.cons none (by kernel_rfl) ?_ ?_
    · refine Ob.plain fun a w hR hk K k => ?_
      obtain ⟨_, e47, rfl⟩ := hk 47 (by decide)
      clear hk
      go_simp
      exact k _ _ (Chg.refl _ _) rfl
    refine Obs.cons none (by kernel_rfl) ?_ ?_
    · refine Ob.plain fun a w hR hk K k => ?_
      obtain ⟨_, e48, rfl⟩ := hk 48 (by decide)
      clear hk
      go_simp
      exact k _ _ (Chg.refl _ _) rfl
    refine Obs.cons none (by kernel_rfl) ?_ ?_
    · refine Ob.plain fun a w hR hk K k => ?_
      obtain ⟨_, e49, rfl⟩ := hk 49 (by decide)
      clear hk
      have zz := hR.cell HX.out.2.1 id
      go_simp
      exact k _ _ (Chg.refl _ _) rfl
    refine Obs.cons none (by kernel_rfl) ?_ ?_
    · refine Ob.plain fun a w hR hk K k => ?_
      obtain ⟨_, e4, rfl⟩ := hk 4 (by decide)
      clear hk
      go_simp
      exact k _ _ (Chg.refl _ _) rfl
    refine Obs.cons none (by kernel_rfl) ?_ ?_
    · refine Ob.plain fun a w hR hk K k => ?_
      obtain ⟨_, e51, rfl⟩ := hk 51 (by decide)
      clear hk
      have z0 := hR.cell HX.out.2.2.1 id
      have z1 := hR.cell HX.out.2.2.2 id
      go_simp
      exact k _ _ (Chg.refl _ _) rfl
    refine Obs.cons none (by kernel_rfl) ?_ ?_
    · refine Ob.plain fun a w hR hk K k => ?_
      obtain ⟨_, e50, rfl⟩ := hk 50 (by decide)
      obtain ⟨_, e52, rfl⟩ := hk 52 (by decide)
      clear hk
      have q := HL.out w hR
      go_simp
      exact k _ _ (Chg.refl _ _) rfl
    refine Obs.cons none (by kernel_rfl) ?_ ?_
    · refine Ob.plain fun a w hR hk K k => ?_
      obtain ⟨_, e53, rfl⟩ := hk 53 (by decide)
      clear hk
      go_simp
      exact k _ _ (Chg.refl _ _) rfl
    refine Obs.cons none (by kernel_rfl) ?_ ?_
    · refine Ob.plain fun a w hR hk K k => ?_
      clear hk
      go_simp
      exact k _ _ (Chg.refl _ _) rfl
    exact Obs.nil
  case fin9 =>
    intro vals w9 hc9 hv
    have h53 : vals 53 = .slice ao n cap := hv 53 (by decide)
    have h54 : vals 54 = .int .i64 (n : Nat) := hv 54 (by decide)
    have h55 : vals 55 = .int .i64 (0 : Nat) := hv 55 (by decide)
    simp only [putAll, List.setIfInBounds_toArray, List.set_cons_zero, List.set_cons_succ, h53, h54, h55]
    have HO := hid (HO.out.keep hc9 (fun _ _ => id))
    have HW := hid (HW.out.quiet HJ.out hc9)
    clear hc9 hv h53 h54 h55 HX HL z0 z1 z2 z3 z4 z5 z6 z7 z8 y9 y10
    go_wp2
    go_loopw [55] (fun i wr => ∃ (j : Nat) (pre : List (Value × List Nat)), j ≤ n ∧ i = .int .i64 j ∧ Hid (pre.map (·.2) = (ps.take j).flatMap (fun i => wayK F (linkFs F s i))) ∧ Hid (WSt J T g F s Bs Bk b W.heap.size pre wr) ∧ Hid (OwnI 0 wr (.slice ao n cap) ps)) (fun i _ => n - (intOf i).toNat)
    case atStart => exact ⟨0, [], Nat.zero_le _, rfl, hid rfl, HW, HO⟩
    case round =>
      obtain ⟨j, pre, hj, rfl, hpre, hst, hro⟩ := hrel
      by_cases hlt : j < n
      · have hjp : j < ps.length := by have := HNW.out; omega
        have hnb : n ≤ 1000000 := by have h1 := HPF.out.2; have h2 := HNW.out; have h3 := HFL.out; omega
        obtain ⟨bb, hao, hcell, _⟩ := hro.out.cells hjp
        have hmem : ps[j] ∈ ps := List.getElem_mem hjp
        have hpl := HPF.out.1 _ hmem
        have htk : ps.take (j + 1) = ps.take j ++ [ps[j]] := List.take_succ_eq_append_getElem hjp
        generalize ps[j] = p at *
        obtain ⟨v, m1, m2, Sl, hp⟩ := hst.out.ks.ex
        obtain ⟨af, cf, hv, hfa, _⟩ := hp.row.facts
        obtain ⟨bf, off, haf, _, ⟨a0, a1, a2⟩⟩ := hfa p hpl
        have hof : off = 0 := by
          rcases hp.row.2 with ⟨q1, q2⟩ | ⟨gg, cap', cur, q1, _⟩
          · omega
          · rw [hv] at q1; simp only [Value.slice.injEq] at q1; have q2 := q1.1; rw [haf] at q2; simp only [Option.some.injEq, Addr.mk.injEq] at q2; exact q2.2.1
        have hsh := hst.out.ks.sh _ (List.getElem_mem hpl)
        have hlf : linkFs F s p = [F[p], ((F[p].2, s.c.w2), s.f.2)] := by
          unfold linkFs
          rw [List.getD_eq_getElem?_getD, List.getElem?_eq_getElem hpl]
          rfl
        generalize F[p] = f at *
        subst hv haf hof hao
        simp only [Nat.zero_add] at a0 a1 a2
        have x0 := cell_blk hp.blk 0
        have x1 := cell_blk hst.out.bk 0
        obtain ⟨z0, z1, z2, z3, z4, z5, z6, z7, z8⟩ := cred_at_blk hst.out.cb
        simp only [Nat.zero_add] at z0 z1 z2 z3 z4 z5 z6 z7 z8
        simp only [List.getElem?_toArray, List.getElem?_cons_zero] at x0 x1
        have l1 := lt_blk hst.out.bk
        have l2 := lt_blk hst.out.cb
        have hal : Chg (fun _ => False) wr ((wr.alloc (.cells #[.string ⟨f.1.1.toArray⟩, .string ⟨f.1.2.toArray⟩, .string ⟨f.2.toArray⟩] 26)).alloc (.cells #[.string ⟨f.1.1.toArray⟩, .string ⟨f.1.2.toArray⟩, .string ⟨f.2.toArray⟩, .string ⟨f.2.toArray⟩, .string ⟨s.c.w2.toArray⟩, .string ⟨s.f.2.toArray⟩] 26)) := ((Chg.refl _ _).alloc _).alloc _
        have hb1 := heap_alloc_new (wr.alloc (.cells #[.string ⟨f.1.1.toArray⟩, .string ⟨f.1.2.toArray⟩, .string ⟨f.2.toArray⟩] 26)) (.cells #[.string ⟨f.1.1.toArray⟩, .string ⟨f.1.2.toArray⟩, .string ⟨f.2.toArray⟩, .string ⟨f.2.toArray⟩, .string ⟨s.c.w2.toArray⟩, .string ⟨s.f.2.toArray⟩] 26)
        rw [World.size_alloc] at hb1
        have hw4 := hst.out.quiet HJ.out hal
        have hway := kw_way g l 2 (VW U n0 W.heap.size pre) (some ⟨wr.heap.size + 1, 0, none⟩) F [f, ((f.2, s.c.w2), s.f.2)] ((wr.alloc (.cells #[.string ⟨f.1.1.toArray⟩, .string ⟨f.1.2.toArray⟩, .string ⟨f.2.toArray⟩] 26)).alloc (.cells #[.string ⟨f.1.1.toArray⟩, .string ⟨f.1.2.toArray⟩, .string ⟨f.2.toArray⟩, .string ⟨f.2.toArray⟩, .string ⟨s.c.w2.toArray⟩, .string ⟨s.f.2.toArray⟩] 26)) (fun x w' => J (pre ++ [x]) w') (fun x w' => Jx (pre ++ [x]) w') hw4.ks (factsAt_two (D := fun _ => True) (f := f) (f2 := ((f.2, s.c.w2), s.f.2)) trivial hb1) (fun x hx => ?sh) (by simp) HFL.out (fun m x W1 hc ho => HYY.out m pre x _ W1 hw4.jj hc ho ?len)
        case sh =>
          obtain ⟨⟨q1, q2, q3, q4, q5, q6, q7, q8⟩, q9, q10, q11⟩ := HSH.out
          simp only [List.mem_cons, List.not_mem_nil, or_false] at hx
          rcases hx with rfl | rfl
          · exact hsh
          · exact ⟨hsh.2.2, q8, q11⟩
        case len =>
          have h1 := congrArg List.length hpre.out
          rw [List.length_map] at h1
          have h2 := flat_few F s (ps.take j)
          have h3 : (ps.take j).length ≤ j := List.length_take_le _ _
          have h4 := HPF.out.2
          omega
        have HQ := hid hway
        have HP : Hid (∀ (e : Ending) (w' : World), WayPost F [f, ((f.2, s.c.w2), s.f.2)] (VW U n0 W.heap.size pre) ((wr.alloc (.cells #[.string ⟨f.1.1.toArray⟩, .string ⟨f.1.2.toArray⟩, .string ⟨f.2.toArray⟩] 26)).alloc (.cells #[.string ⟨f.1.1.toArray⟩, .string ⟨f.1.2.toArray⟩, .string ⟨f.2.toArray⟩, .string ⟨f.2.toArray⟩, .string ⟨s.c.w2.toArray⟩, .string ⟨s.f.2.toArray⟩] 26)) (fun x w' => J (pre ++ [x]) w') (fun x w' => Jx (pre ++ [x]) w') e w' →
            (e = .returned (.bool true) ∧ ∃ pre2, Hid (pre2.map (·.2) = (ps.take (j + 1)).flatMap (fun i => wayK F (linkFs F s i))) ∧ Hid (WSt J T g F s Bs Bk b W.heap.size pre2 w') ∧ Hid (OwnI 0 w' (.slice (some ⟨bb, 0, none⟩) n cap) ps)) ∨ (e = .returned (.bool false) ∧ WaysPost J Jx s F (.returned (.tuple #[])) w')) := hid (fun e w' h => by
          have e1 : (ps.take (j + 1)).flatMap (fun i => wayK F (linkFs F s i)) = (ps.take j).flatMap (fun i => wayK F (linkFs F s i)) ++ wayK F [f, ((f.2, s.c.w2), s.f.2)] := by rw [htk, List.flatMap_append, ← hlf]; simp
          have hrb : ∀ k, (Value.slice (some ⟨bb, 0, none⟩) n cap).ownBlock = some k → T k ≠ none := HRT.out
          rcases h with ⟨h1, rfl, h2⟩ | ⟨x, h1, rfl, h2, h3, h4⟩ | ⟨x, h1, rfl, h2⟩
          · exact .inl ⟨rfl, pre, hid (by rw [e1, h1, List.append_nil]; exact hpre.out), hid (hw4.quiet HJ.out h2), hid ((hro.out.keep hal (fun _ _ => id)).keep h2 (fun _ _ => id))⟩
          · have hst2 := hw4.round HXC.out h4 h3 h2
            refine .inl ⟨rfl, pre ++ [x], hid (by rw [e1, h1, List.map_append, hpre.out]; rfl), hid hst2, hid ((hro.out.keep hal (fun _ _ => id)).keep h3 (fun k hkb e => ?_))⟩
            have hT := hrb k hkb
            rcases e with e | e | ⟨y, hy, e⟩
            · exact (HXC.out.tag k hT).1 e
            · have := (HXC.out.tag k hT).2; omega
            · have h5 := hst2.rows y hy k e
              have := (HXC.out.tag k hT).2
              have := HXC.out.le
              have := hst2.hb
              omega
          · refine .inr ⟨rfl, ⟨_, rfl⟩, .inr ⟨_, ?_, h2⟩⟩
            rw [HPS.out, ← List.take_append_drop (j + 1) ps, List.flatMap_append, e1, h1, List.map_append, hpre.out]
            exact List.prefix_append _ _)
        clear hpre hst hro hjp hmem htk hp hfa hsh hlf hal hb1 hw4 hway
        go_wp2_with fail
        refine HQ.out.mono ?_
        clear HQ a0 a1 a2 x0 x1 l1 l2 z0 z1 z2 z3 z4 z5 z6 z7 z8 hcell
        intro e w5 h
        rcases HP.out e w5 h with ⟨rfl, pre2, h1, h2, h3⟩ | ⟨rfl, h1⟩
        · clear h HP
          go_wp2
          go_roundw
          case rel => exact ⟨j + 1, pre2, by omega, by go_num, h1, h2, h3⟩
          case measure => simp [intOf]; omega
        · have HE := hid h1
          clear h HP h1
          go_wp2
          go_end0
          exact HE.out
      · have hjn : j = n := by omega
        have HP := hid (show WaysPost J Jx s F (.returned (.tuple #[])) wr from ⟨⟨_, rfl⟩, .inl ⟨pre, by rw [hpre.out, HPS.out, hjn, HNW.out, List.take_length], hst.out.jj⟩⟩)
        clear hpre hst hro hjn
        go_wp2
        go_end0
        exact HP.out

/-- The iterator over the ways to a step. -/
theorem kw_ways_any {J Jx : List (Value × List Nat) → World → Prop} {T : Nat → Option KTag} {U : Nat → Prop} (l g Bs Bk n0 : Nat) (F : List FactB) (s : StepB) (W : World) (hx : WCtx T U Bs Bk n0 W.heap.size) (hF : F.length ≤ 1000000) (hsh : stepShort s 9223372036854775807) (hks : KS T W g F)
    (hbs : W.heap[Bs]? = some (.cells (stepBox s) 43 (0, 0))) (hbk : W.heap[Bk]? = some (.cells #[.pointer (some ⟨g, 0, none⟩)] 103 (0, 0)))
    (hJ : ∀ s A B, J s A → Chg (fun _ => False) A B → J s B)
    (hY : ∀ (m : Nat) (pre : List (Value × List Nat)) (x : Value × List Nat) (W0 W1 : World), J pre W0 → Chg (fun _ => False) W0 W1 → OwnI W0.heap.size W1 x.1 x.2 → pre.length < F.length + 2 → YieldAt Fence.wide m Try.prog l #[x.1] W1 fun e W' =>
      (e = .returned (.bool true) ∧ J (pre ++ [x]) W' ∧ Chg (VW U n0 W.heap.size pre x) W1 W') ∨ (e = .returned (.bool false) ∧ Jx (pre ++ [x]) W')) (h0 : J [] W) :
    Calls Try.prog 115 #[.func (.yield l) #[] #[], .pointer (some ⟨Bs, 0, none⟩), .pointer (some ⟨Bk, 0, none⟩)] W (WaysPost J Jx s F) := by
  by_cases hr : isCred s.c = true
  · by_cases hh : s.f.1 = s.c.head
    · rcases isCred_kind hr with k | k | k | k
      · by_cases hw : s.c.who = s.f.2
        · exact kw_ways_1 l g Bs Bk n0 F s W hx hF hsh hks hbs hbk hJ hY h0 hr hh k hw
        · exact kw_ways_1no l g Bs Bk n0 F s W hx hF hsh hks hbs hbk hJ hY h0 hr hh k hw
      · exact kw_ways_2 l g Bs Bk n0 F s W hx hF hsh hks hbs hbk hJ hY h0 hr hh k
      · exact kw_ways_3 l g Bs Bk n0 F s W hx hF hsh hks hbs hbk hJ hY h0 hr hh k
      · exact kw_ways_4 l g Bs Bk n0 F s W hx hF hsh hks hbs hbk hJ hY h0 hr hh k
    · exact kw_ways_role l g Bs Bk n0 F s W hx hF hsh hks hbs hbk hJ hY h0 hr hh
  · exact kw_ways_bad l g Bs Bk n0 F s W hx hF hsh hks hbs hbk hJ hY h0 (by simpa using hr)

theorem kw_seq {T : Nat → Option KTag} {U : Nat → Prop} (g Bs Bk : Nat) (F : List FactB) (s : StepB) (w : World) (htag : ∀ i, T i ≠ none → ¬ U i ∧ i < w.heap.size) (hus : ¬ U Bs) (huk : ¬ U Bk) (hul : ∀ i, U i → i < w.heap.size) (hF : F.length ≤ 1000000) (hsh : stepShort s 9223372036854775807) (hks : KS T w g F)
    (hbs : w.heap[Bs]? = some (.cells (stepBox s) 43 (0, 0))) (hbk : w.heap[Bk]? = some (.cells #[.pointer (some ⟨g, 0, none⟩)] 103 (0, 0))) :
    SeqC 115 #[.pointer (some ⟨Bs, 0, none⟩), .pointer (some ⟨Bk, 0, none⟩)] (fun x : Value × List Nat => #[x.1]) U (fun x i => x.1.ownBlock = some i) (fun x m W => OwnI m W x.1 x.2) (fun ys => ys.map (·.2) = waysK s F) (fun ys => ys.map (·.2) <+: waysK s F) (F.length + 2) w := by
  intro l J Jx W n hc hJ hJx hY h0
  exact callsIn_wide.2 (kw_ways_any l g Bs Bk w.heap.size F s W ⟨htag, ⟨hus, lt_blk hbs⟩, ⟨huk, lt_blk hbk⟩, hul, hc.size⟩ hF hsh (hks.quiet hc) (blk_keep hbs hc id) (blk_keep hbk hc id) hJ (fun m pre x W0 W1 h1 h2 h3 h4 => hY m pre x W0 W1 h1 h2 h3 h4) h0)
end Go.Proofs.Ytjaplnainlbldaa
