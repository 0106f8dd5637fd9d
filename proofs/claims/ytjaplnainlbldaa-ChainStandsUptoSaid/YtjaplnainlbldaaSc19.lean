/- Texts that the proof leans on, in one: ChLean3, ChLS. -/
import Derived.Test.YtjaplnainlbldaaSc18
/- A linked credential is leant on somebody's being in its B. -/
namespace Go.Proofs.Ytjaplnainlbldaa
open Go.RowKit Go.Maps

set_option maxRecDepth 100000 in
set_option maxHeartbeats 4000000 in
theorem ch_lean3 {T : Nat → Option KTag} (g m3 m4 : Nat) (S : List StepB) (c : CredB) (wo : List UInt8) (w0 : World) (h : GS T w0 g m3 m4 S) (hk : c.kind = 3) (hn : (leanG S c wo).length ≤ 33554432) (hf : credShort c 9223372036854775807) (hw : wo.length ≤ 9223372036854775807) :
    Calls Try.prog 103 #[.pointer (some ⟨g, 0, none⟩), .agg #[.int .i64 c.kind, .string ⟨c.head.1.toArray⟩, .string ⟨c.head.2.toArray⟩, .string ⟨c.who.toArray⟩, .string ⟨c.b.1.toArray⟩, .string ⟨c.b.2.toArray⟩, .string ⟨c.c.1.toArray⟩, .string ⟨c.c.2.toArray⟩, .string ⟨c.w2.toArray⟩], .string ⟨wo.toArray⟩] w0 (GroP T g m3 m4 S (leanG S c wo) w0) := by
  have hc1 : Chg (fun _ => False) w0 (w0.alloc (.cells #[.int .i64 c.kind, .string ⟨c.head.1.toArray⟩, .string ⟨c.head.2.toArray⟩, .string ⟨c.who.toArray⟩, .string ⟨c.b.1.toArray⟩, .string ⟨c.b.2.toArray⟩, .string ⟨c.c.1.toArray⟩, .string ⟨c.c.2.toArray⟩, .string ⟨c.w2.toArray⟩] 36)) := (Chg.refl _ w0).alloc _
  have hb0 : (w0.alloc (.cells #[.int .i64 c.kind, .string ⟨c.head.1.toArray⟩, .string ⟨c.head.2.toArray⟩, .string ⟨c.who.toArray⟩, .string ⟨c.b.1.toArray⟩, .string ⟨c.b.2.toArray⟩, .string ⟨c.c.1.toArray⟩, .string ⟨c.c.2.toArray⟩, .string ⟨c.w2.toArray⟩] 36)).heap[w0.heap.size]? = some (.cells #[.int .i64 c.kind, .string ⟨c.head.1.toArray⟩, .string ⟨c.head.2.toArray⟩, .string ⟨c.who.toArray⟩, .string ⟨c.b.1.toArray⟩, .string ⟨c.b.2.toArray⟩, .string ⟨c.c.1.toArray⟩, .string ⟨c.c.2.toArray⟩, .string ⟨c.w2.toArray⟩] 36 (0, 0)) := heap_alloc_new w0 _
  have HE : Hid (leanG S c wo = (placesK (factsK S) (wo, c.w2)).foldl (fun S' i => bringG S' c (whoAt S' i)) S) := hid (by unfold leanG; rw [if_neg (by omega), if_pos hk])
  have HN0 := hid hn
  have hfc := hf
  unfold credShort at hfc
  have hgs := h.quiet hc1
  obtain ⟨m2, u, l1, l2, l3, l4⟩ := hgs.look (r := (wo, c.w2)) ⟨hw, hfc.2.2.2.2.2.2.2⟩
  obtain ⟨ps, hps⟩ : ∃ ps, ps = placesK (factsK S) (wo, c.w2) := ⟨_, rfl⟩
  rw [← hps] at l2
  obtain ⟨ao, cap, hu⟩ := l2.shape
  obtain ⟨n, hnn⟩ : ∃ n, n = ps.length := ⟨_, rfl⟩
  rw [← hnn] at hu
  subst hu
  have HPS := hid (And.intro hnn.symm hps)
  have HTG := hid l3
  have HO := hid l2
  have HL := hid (And.intro l1 l4)
  have HGS := hid hgs
  have HSH := hid (And.intro hf hw)
  have HTC : Hid (T w0.heap.size = none) := hid (tag_new h.lo (Nat.le_refl _))
  have HK := hid hk
  have HC1 := hid hc1
  have HBC0 := hid hb0
  have y0 := cell_blk hb0 0
  have y8 := cell_blk hb0 8
  simp only [List.getElem?_toArray, List.getElem?_cons_zero, List.getElem?_cons_succ] at y0 y8
  have HY := hid y8
  rw [hk] at y0
  clear h hn hf hw hc1 hb0 hfc hgs l1 l2 l3 l4 hps hnn y8
  go_enter Try.func103, Try.ntmps103
  go_wp2_with fail
  simp only [hk] at HC1 HGS HO HL HBC0 HY ⊢
  generalize (w0.alloc (.cells #[.int .i64 3, .string ⟨c.head.1.toArray⟩, .string ⟨c.head.2.toArray⟩, .string ⟨c.who.toArray⟩, .string ⟨c.b.1.toArray⟩, .string ⟨c.b.2.toArray⟩, .string ⟨c.c.1.toArray⟩, .string ⟨c.c.2.toArray⟩, .string ⟨c.w2.toArray⟩] 36)) = w1 at *
  generalize w0.heap.size = C at *
  clear y0 hk
  refine wp_region_specs [.eq (.pointer (some ⟨g, 0, none⟩)), .any, .eq (.string ⟨wo.toArray⟩), .any, .eq (.pointer (some ⟨C, 0, none⟩)), .any, .any, .any, .any, .any, .any, .any, .any, .any, .any, .any, .any, .any, .eq (.pointer (some ⟨g, 0, none⟩)), .eq (.pointer (some ⟨g, 0, none⟩)), .eq (.pointer (some ⟨g, 2, none⟩)), .eq (.map (some m2)), .eq (.string ⟨wo.toArray⟩), .eq (.pointer (some ⟨C, 8, none⟩)), .eq (.string ⟨c.w2.toArray⟩), .eq (.agg #[.string ⟨wo.toArray⟩, .string ⟨c.w2.toArray⟩]), .eq (.slice ao n cap), .eq (.int .i64 n), .eq (.int .i64 0), .any, .any, .any, .any, .any, .any, .any, .any, .any, .any, .any, .any, .any, .any, .any, .any, .any, .any, .any, .any, .any, .any, .any, .any, .any, .any, .any, .any, .any, .any, .any, .any, .any, .any, .any, .any] [18, 19, 20, 21, 22, 23, 24, 25, 26, 27, 28] [0, 2, 4] (by kernel_rfl) (by kernel_rfl) (by rfl) (by kernel_rfl) ?start5 ?obs5 ?fin5
  case start5 =>
    simp only [List.forall_mem_cons]; exact ⟨⟨_, rfl, rfl⟩, ⟨_, rfl, rfl⟩, ⟨_, rfl, rfl⟩, fun _ h => by cases h⟩
  case obs5 =>
    clear HGS HBC0 HO HTG HTC HPS HE HC1
    refine Obs.cons none (by kernel_rfl) ?_ ?_
    · refine Ob.plain fun a w hR hk K k => ?_
      obtain ⟨_, e0, f0⟩ := hk 0 (by decide)
      clear hk
      go_simp
      exact k _ _ (Chg.refl _ _) f0
    refine Obs.cons none (by kernel_rfl) ?_ ?_
    · refine Ob.plain fun a w hR hk K k => ?_
      obtain ⟨_, e18, rfl⟩ := hk 18 (by decide)
      clear hk
      go_simp
      exact k _ _ (Chg.refl _ _) rfl
    refine Obs.cons none (by kernel_rfl) ?_ ?_
    · refine Ob.plain fun a w hR hk K k => ?_
      obtain ⟨_, e19, rfl⟩ := hk 19 (by decide)
      clear hk
      go_simp
      exact k _ _ (Chg.refl _ _) rfl
    refine Obs.cons none (by kernel_rfl) ?_ ?_
    · refine Ob.plain fun a w hR hk K k => ?_
      obtain ⟨_, e20, rfl⟩ := hk 20 (by decide)
      clear hk
      have zz := hR.cell HL.out.1 id
      go_simp
      exact k _ _ (Chg.refl _ _) rfl
    refine Obs.cons none (by kernel_rfl) ?_ ?_
    · refine Ob.plain fun a w hR hk K k => ?_
      obtain ⟨_, e2, f2⟩ := hk 2 (by decide)
      clear hk
      go_simp
      exact k _ _ (Chg.refl _ _) f2
    refine Obs.cons none (by kernel_rfl) ?_ ?_
    · refine Ob.plain fun a w hR hk K k => ?_
      obtain ⟨_, e4, rfl⟩ := hk 4 (by decide)
      clear hk
      go_simp
      exact k _ _ (Chg.refl _ _) rfl
    refine Obs.cons none (by kernel_rfl) ?_ ?_
    · refine Ob.plain fun a w hR hk K k => ?_
      obtain ⟨_, e23, rfl⟩ := hk 23 (by decide)
      clear hk
      have z8 := hR.cell HY.out id
      go_simp
      exact k _ _ (Chg.refl _ _) rfl
    refine Obs.cons none (by kernel_rfl) ?_ ?_
    · refine Ob.plain fun a w hR hk K k => ?_
      obtain ⟨_, e22, rfl⟩ := hk 22 (by decide)
      obtain ⟨_, e24, rfl⟩ := hk 24 (by decide)
      clear hk
      go_simp
      exact k _ _ (Chg.refl _ _) rfl
    refine Obs.cons none (by kernel_rfl) ?_ ?_
    · refine Ob.plain fun a w hR hk K k => ?_
      obtain ⟨_, e21, rfl⟩ := hk 21 (by decide)
      obtain ⟨_, e25, rfl⟩ := hk 25 (by decide)
      clear hk
      have q := HL.out.2 w hR
      go_simp
      exact k _ _ (Chg.refl _ _) rfl
    refine Obs.cons none (by kernel_rfl) ?_ ?_
    · refine Ob.plain fun a w hR hk K k => ?_
      obtain ⟨_, e26, rfl⟩ := hk 26 (by decide)
      clear hk
      go_simp
      exact k _ _ (Chg.refl _ _) rfl
    refine Obs.cons none (by kernel_rfl) ?_ ?_
    · refine Ob.plain fun a w hR hk K k => ?_
      clear hk
      go_simp
      exact k _ _ (Chg.refl _ _) rfl
    exact Obs.nil
  case fin5 =>
    intro vals w9 hc9 hv
    have h26 : vals 26 = .slice ao n cap := hv 26 (by decide)
    have h27 : vals 27 = .int .i64 n := hv 27 (by decide)
    have h28 : vals 28 = .int .i64 0 := hv 28 (by decide)
    simp only [putAll, List.setIfInBounds_toArray, List.set_cons_zero, List.set_cons_succ, h26, h27, h28]
    have hgs9 := HGS.out.quiet hc9
    have HBC := hid (blk_keep HBC0.out hc9 id)
    have HGS9 := hid hgs9
    have HO9 := hid (HO.out.keep hc9 (fun _ _ => id))
    have HFIN : Hid (∀ w2 T2, Gro T w9 g m3 m4 S T2 w2 (leanG S c wo) → GroP T g m3 m4 S (leanG S c wo) w0 (.returned (.tuple #[])) w2) := hid (fun w2 T2 h => ⟨rfl, T2, h.early (HC1.out.trans hc9 (fun _ _ h => h))⟩)
    clear hc9 hv h26 h27 h28 HL HY HGS hgs9 HC1 HBC0 HO
    have hnb : n ≤ 33554432 := by
      have h1 := placesK_len (factsK S) (wo, c.w2)
      have h2 := (lean_ahead S c wo).len
      have h3 := HN0.out
      rw [factsK_len, ← HPS.out.2, HPS.out.1] at h1
      omega
    go_wp2
    go_loopw [28] (fun i wr => ∃ k : Nat, k ≤ n ∧ i = .int .i64 k ∧ Hid (∃ T1, Gro T w9 g m3 m4 S T1 wr ((ps.take k).foldl (fun S i => bringG S c (whoAt S i)) S))) (fun i _ => n - (intOf i).toNat)
    case atStart => exact ⟨0, Nat.zero_le _, rfl, hid ⟨T, HGS9.out.gro⟩⟩
    case round =>
      obtain ⟨kk, hkk, rfl, hrel⟩ := hrel
      obtain ⟨T1, hg1⟩ := hrel.out
      by_cases hlt : kk < n
      · have hkp : kk < ps.length := by rw [HPS.out.1]; exact hlt
        have hor : OwnI 0 wr (.slice ao n cap) ps := hg1.stay _ _ _ HTG.out (Nat.le_of_eq (by rw [HPS.out.2])) HO9.out
        obtain ⟨Bp, hao, p1, p2⟩ := hor.cells hkp
        have hmem : ps[kk] ∈ placesK (factsK S) (wo, c.w2) := by rw [← HPS.out.2]; exact List.getElem_mem hkp
        have hatS := placesK_lt hmem
        rw [factsK_len] at hatS
        have htk : ps.take (kk + 1) = ps.take kk ++ [ps[kk]] := List.take_succ_eq_append_getElem hkp
        obtain ⟨S1, hS1⟩ : ∃ S1, S1 = (ps.take kk).foldl (fun S i => bringG S c (whoAt S i)) S := ⟨_, rfl⟩
        rw [← hS1] at hg1
        have hat1 := Nat.lt_of_lt_of_le hatS hg1.ahead.len
        have hfold : (ps.take (kk + 1)).foldl (fun S i => bringG S c (whoAt S i)) S = bringG S1 c (whoAt S1 ps[kk]) := by rw [htk, List.foldl_append, ← hS1]; rfl
        have hlen : (bringG S1 c (whoAt S1 ps[kk])).length ≤ 33554432 := by
          rw [← hfold]
          refine Nat.le_trans (Ahead.len ?_) HN0.out
          have e : leanG S c wo = ps.foldl (fun S i => bringG S c (whoAt S i)) S := by rw [HE.out, HPS.out.2]
          rw [e]
          conv => rhs; rw [← List.take_append_drop (kk + 1) ps, List.foldl_append]
          exact fold_ahead (fun S i => bring_ahead S c _) _ _
        have hwho : whoAt S1 ps[kk] = (S1[ps[kk]]'hat1).f.2 := by
          unfold whoAt factsK
          rw [List.getD_eq_getElem?_getD, List.getElem?_map, List.getElem?_eq_getElem hat1]
          rfl
        have hws : (S1[ps[kk]]'hat1).f.2.length ≤ 9223372036854775807 := (hg1.gs.sh _ (List.getElem_mem hat1)).2.2.2
        obtain ⟨ao2, cap2, z1, z2, z3⟩ := hg1.gs.steps
        obtain ⟨B, off, hao2, _, ⟨_, ⟨_, _, f2⟩⟩, _⟩ := z2 _ hat1
        have hbc := hg1.blk HBC.out HTC.out
        obtain ⟨at_, hat_⟩ : ∃ at_, at_ = ps[kk] := ⟨_, rfl⟩
        rw [hwho] at hlen hfold
        simp only [← hat_] at p1 hat1 hfold hlen hwho hws f2
        generalize (S1[at_]'hat1).f.2 = who at *
        have HC8 : Hid (∀ w', Chg (fun _ => False) wr w' → Calls Try.prog 102 #[.pointer (some ⟨g, 0, none⟩), .agg #[.int .i64 3, .string ⟨c.head.1.toArray⟩, .string ⟨c.head.2.toArray⟩, .string ⟨c.who.toArray⟩, .string ⟨c.b.1.toArray⟩, .string ⟨c.b.2.toArray⟩, .string ⟨c.c.1.toArray⟩, .string ⟨c.c.2.toArray⟩, .string ⟨c.w2.toArray⟩], .string ⟨who.toArray⟩] w' (fun e w9 => e = .returned (.tuple #[]) ∧ ∃ T2, Chg (fun b => T1 b ≠ none) w' w9 ∧ Gro T1 wr g m3 m4 S1 T2 w9 (bringG S1 c who))) := hid (fun w' hc => by
          have := ch_bring2 g m3 m4 S1 c who w' (hg1.gs.quiet hc) hlen HSH.out.1 hws
          rw [HK.out] at this
          refine this.mono ?_
          rintro e w9 ⟨rfl, T2, hg2⟩
          exact ⟨rfl, T2, hg2.chg, hg2.early hc⟩)
        have HNEXT : Hid (∀ T2 w2, Gro T1 wr g m3 m4 S1 T2 w2 (bringG S1 c who) → Hid (∃ T1, Gro T w9 g m3 m4 S T1 w2 ((ps.take (kk + 1)).foldl (fun S i => bringG S c (whoAt S i)) S))) := hid (fun T2 w2 h => hid ⟨T2, by rw [hfold]; exact hg1.trans h⟩)
        have HQ := hid (And.intro (show wr.heap[C]? = some (.cells #[.int .i64 3, .string ⟨c.head.1.toArray⟩, .string ⟨c.head.2.toArray⟩, .string ⟨c.who.toArray⟩, .string ⟨c.b.1.toArray⟩, .string ⟨c.b.2.toArray⟩, .string ⟨c.c.1.toArray⟩, .string ⟨c.c.2.toArray⟩, .string ⟨c.w2.toArray⟩] 36 (0, 0)) from hbc) (And.intro (show wr.cell? ⟨g, 0, none⟩ = some (.slice (some ⟨B, off, none⟩) S1.length cap2) by rw [← hao2]; exact z1) (And.intro (show wr.cell? ⟨B, off + at_ * 12 + 11, none⟩ = some (.string ⟨who.toArray⟩) from f2) (And.intro (show at_ < S1.length from hat1) z3))))
        have hnn : ∃ nn, nn = S1.length := ⟨_, rfl⟩
        obtain ⟨nn, hnn⟩ := hnn
        simp only [← hnn] at HQ
        clear hnn
        subst hao
        clear hor hmem hatS htk hS1 hg1 hfold hlen hwho hws z1 z2 z3 f2 hbc hat_ hrel hao2 p2
        go_wp2_with fail
        clear p1
        refine wp_region_stateD (Chg (fun b => T1 b ≠ none)) (LastW 11 11 wr (fun w9 => ∃ T2, Gro T1 wr g m3 m4 S1 T2 w9 (bringG S1 c who))) (specAtR [.eq (.pointer (some ⟨g, 0, none⟩)), .any, .any, .any, .eq (.pointer (some ⟨C, 0, none⟩)), .any, .any, .eq (.int .i64 (at_ : Nat)), .any, .any, .any, .any, .any, .any, .any, .any, .any, .any, .any, .any, .any, .any, .any, .any, .any, .any, .any, .any, .any, .any, .any, .any, .eq (.pointer (some ⟨g, 0, none⟩)), .eq (.agg #[.int .i64 3, .string ⟨c.head.1.toArray⟩, .string ⟨c.head.2.toArray⟩, .string ⟨c.who.toArray⟩, .string ⟨c.b.1.toArray⟩, .string ⟨c.b.2.toArray⟩, .string ⟨c.c.1.toArray⟩, .string ⟨c.c.2.toArray⟩, .string ⟨c.w2.toArray⟩]), .eq (.pointer (some ⟨g, 0, none⟩)), .eq (.pointer (some ⟨g, 0, none⟩)), .eq (.pointer (some ⟨g, 0, none⟩)), .eq (.slice (some ⟨B, off, none⟩) nn cap2), .eq (.int .i64 (at_ : Nat)), .eq (.pointer (some ⟨B, off + at_ * 12, none⟩)), .eq (.pointer (some ⟨B, off + at_ * 12 + 9, none⟩)), .eq (.pointer (some ⟨B, off + at_ * 12 + 11, none⟩)), .eq (.string ⟨who.toArray⟩), .any, .any, .any, .any, .any, .any, .any, .any, .any, .any, .any, .any, .any, .any, .any, .any, .any, .any, .any, .any, .any, .any]) [32, 33, 34, 35, 36, 37, 38, 39, 40, 41, 42, 43] [0, 4, 7] (by kernel_rfl) (by kernel_rfl) (LastW.start _ _ _ _ (Chg.refl _ _).drew) (fun t v w w' hc h => specAtR_st _ t v w w' hc h) (by rfl) (by kernel_rfl) ?start8 ?obs8 ?fin8
        case start8 =>
          simp only [List.forall_mem_cons]; exact ⟨⟨_, rfl, rfl⟩, ⟨_, rfl, rfl⟩, ⟨_, rfl, rfl⟩, fun _ h => by cases h⟩
        case obs8 =>
          clear HNEXT
          refine ObsD.cons none (by kernel_rfl) ?_ ?_
          · refine ObD.plain fun L a w hi he hD hW hk K k => ?_
            obtain ⟨_, e0, rfl⟩ := hk 0 (by decide)
            clear hk
            have hR := hW.early (by decide) hi
            have hS := hW.step (by decide) hi (Chg.refl _ _)
            clear hi he hW hD
            go_simp
            exact k _ _ (Chg.refl _ _) hS rfl
          refine ObsD.cons none (by kernel_rfl) ?_ ?_
          · refine ObD.plain fun L a w hi he hD hW hk K k => ?_
            obtain ⟨_, e4, rfl⟩ := hk 4 (by decide)
            clear hk
            have hR := hW.early (by decide) hi
            have hS := hW.step (by decide) hi (Chg.refl _ _)
            have yy := blk_keep HQ.out.1 hR id
            have y0 := cell_blk yy 0
            have y1 := cell_blk yy 1
            have y2 := cell_blk yy 2
            have y3 := cell_blk yy 3
            have y4 := cell_blk yy 4
            have y5 := cell_blk yy 5
            have y6 := cell_blk yy 6
            have y7 := cell_blk yy 7
            have y8 := cell_blk yy 8
            simp only [List.getElem?_toArray, List.getElem?_cons_zero, List.getElem?_cons_succ] at y0 y1 y2 y3 y4 y5 y6 y7 y8
            clear yy
            clear hi he hW hD
            go_simp
            exact k _ _ (Chg.refl _ _) hS rfl
          refine ObsD.cons none (by kernel_rfl) ?_ ?_
          · refine ObD.plain fun L a w hi he hD hW hk K k => ?_
            obtain ⟨_, e0, rfl⟩ := hk 0 (by decide)
            clear hk
            have hR := hW.early (by decide) hi
            have hS := hW.step (by decide) hi (Chg.refl _ _)
            clear hi he hW hD
            go_simp
            exact k _ _ (Chg.refl _ _) hS rfl
          refine ObsD.cons none (by kernel_rfl) ?_ ?_
          · refine ObD.plain fun L a w hi he hD hW hk K k => ?_
            obtain ⟨_, e34, rfl⟩ := hk 34 (by decide)
            clear hk
            have hR := hW.early (by decide) hi
            have hS := hW.step (by decide) hi (Chg.refl _ _)
            clear hi he hW hD
            go_simp
            exact k _ _ (Chg.refl _ _) hS rfl
          refine ObsD.cons none (by kernel_rfl) ?_ ?_
          · refine ObD.plain fun L a w hi he hD hW hk K k => ?_
            obtain ⟨_, e35, rfl⟩ := hk 35 (by decide)
            clear hk
            have hR := hW.early (by decide) hi
            have hS := hW.step (by decide) hi (Chg.refl _ _)
            clear hi he hW hD
            go_simp
            exact k _ _ (Chg.refl _ _) hS rfl
          refine ObsD.cons none (by kernel_rfl) ?_ ?_
          · refine ObD.plain fun L a w hi he hD hW hk K k => ?_
            obtain ⟨_, e36, rfl⟩ := hk 36 (by decide)
            clear hk
            have hR := hW.early (by decide) hi
            have hS := hW.step (by decide) hi (Chg.refl _ _)
            have zz := hR.cell HQ.out.2.1 id
            clear hi he hW hD
            go_simp
            exact k _ _ (Chg.refl _ _) hS rfl
          refine ObsD.cons none (by kernel_rfl) ?_ ?_
          · refine ObD.plain fun L a w hi he hD hW hk K k => ?_
            obtain ⟨_, e7, rfl⟩ := hk 7 (by decide)
            clear hk
            have hR := hW.early (by decide) hi
            have hS := hW.step (by decide) hi (Chg.refl _ _)
            clear hi he hW hD
            go_simp
            exact k _ _ (Chg.refl _ _) hS rfl
          refine ObsD.cons none (by kernel_rfl) ?_ ?_
          · refine ObD.plain fun L a w hi he hD hW hk K k => ?_
            obtain ⟨_, e37, rfl⟩ := hk 37 (by decide)
            obtain ⟨_, e38, rfl⟩ := hk 38 (by decide)
            clear hk
            have hR := hW.early (by decide) hi
            have hS := hW.step (by decide) hi (Chg.refl _ _)
            have hlt := HQ.out.2.2.2.1
            clear hi he hW hD
            go_simp
            exact k _ _ (Chg.refl _ _) hS rfl
          refine ObsD.cons none (by kernel_rfl) ?_ ?_
          · refine ObD.plain fun L a w hi he hD hW hk K k => ?_
            obtain ⟨_, e39, rfl⟩ := hk 39 (by decide)
            clear hk
            have hR := hW.early (by decide) hi
            have hS := hW.step (by decide) hi (Chg.refl _ _)
            clear hi he hW hD
            go_simp
            exact k _ _ (Chg.refl _ _) hS rfl
          refine ObsD.cons none (by kernel_rfl) ?_ ?_
          · refine ObD.plain fun L a w hi he hD hW hk K k => ?_
            obtain ⟨_, e40, rfl⟩ := hk 40 (by decide)
            clear hk
            have hR := hW.early (by decide) hi
            have hS := hW.step (by decide) hi (Chg.refl _ _)
            clear hi he hW hD
            go_simp
            exact k _ _ (Chg.refl _ _) hS rfl
          refine ObsD.cons none (by kernel_rfl) ?_ ?_
          · refine ObD.plain fun L a w hi he hD hW hk K k => ?_
            obtain ⟨_, e41, rfl⟩ := hk 41 (by decide)
            clear hk
            have hR := hW.early (by decide) hi
            have hS := hW.step (by decide) hi (Chg.refl _ _)
            have zz := hR.cell HQ.out.2.2.1 id
            clear hi he hW hD
            go_simp
            exact k _ _ (Chg.refl _ _) hS rfl
          refine ObsD.cons none (by kernel_rfl) ?_ ?_
          · refine ObD.plain fun L a w hi he hD hW hk K k => ?_
            obtain ⟨_, e32, rfl⟩ := hk 32 (by decide)
            obtain ⟨_, e33, rfl⟩ := hk 33 (by decide)
            obtain ⟨_, e42, rfl⟩ := hk 42 (by decide)
            clear hk
            have hR := hW.pre hi
            have hall := behind_all (n := 11) hD rfl he (by kernel_rfl)
            clear he hD
            have hq := HC8.out w hR
            have HS := hid (And.intro hW hall)
            clear hi hW hall hR
            go_simp
            refine hq.mono ?_
            rintro e w5 ⟨rfl, T2, hg2⟩
            exact k _ _ hg2.1 (HS.out.1.last (w' := w5) HS.out.2 ⟨T2, hg2.2⟩) trivial
          exact ObsD.nil
        case fin8 =>
          intro L vals w9 hL hWL hv
          have HEND := hid (hWL.post (hL 11 (by decide)))
          clear hL hWL
          simp only [putAll, List.setIfInBounds_toArray, List.set_cons_zero, List.set_cons_succ]
          obtain ⟨T2, hg2⟩ := HEND.out
          have HN := hid (HNEXT.out T2 w9 hg2)
          clear hg2 HEND HQ HC8 HNEXT
          go_wp2
          go_roundw
          case rel => exact ⟨kk + 1, by omega, by go_num, HN.out⟩
          case measure => simp [intOf]; omega
      · have hk2 : kk = n := by omega
        have HE2 := hid (HFIN.out wr T1 (by
          have e : leanG S c wo = (ps.take kk).foldl (fun S i => bringG S c (whoAt S i)) S := by rw [HE.out, hk2, ← HPS.out.1, List.take_length, HPS.out.2]
          rw [e]
          exact hg1))
        clear hk2 hg1 hrel
        go_wp2
        go_end0
        exact HE2.out
end Go.Proofs.Ytjaplnainlbldaa

/- The credentials of a growth, by what they lean on, as they lie in memory. -/
namespace Go.Proofs.Ytjaplnainlbldaa
open Go.RowKit Go.Maps Go.ChangeMaps Go.WideMaps

/-- What a block of theirs is for. -/
inductive LTag
  | leanM
  | linkM
  | leanR (r : RoleB)
  | linkR (v : List UInt8)

/-- A map of rows of credentials: L a is the row at the key a, tagged t a. -/
structure CM {α : Type} (k : KT α) (T : Nat → Option LTag) (t : α → LTag) (w : World) (m n : Nat) (L : α → List CredB) : Prop where
  ex : ∃ E, KV k w m n E ∧ (∀ a, k.ok a → E a = none → L a = []) ∧ ∀ a u, k.ok a → E a = some u → OwnC 0 w u (L a) ∧ ∀ b, u.ownBlock = some b → T b = some (t a)

theorem CM.keep {α : Type} {k : KT α} {T : Nat → Option LTag} {t : α → LTag} {P : Nat → Prop} {w w' : World} {m n : Nat} {L : α → List CredB} (h : CM k T t w m n L) (hm : ¬ P m) (hc : Chg P w w') (hs : ∀ b a, T b = some (t a) → ¬ P b) : CM k T t w' m n L := by
  obtain ⟨E, h1, h2, h3⟩ := h
  exact ⟨E, h1.keep hc hm, h2, fun a u ha hu => ⟨(h3 a u ha hu).1.keep hc (fun b hb => hs b a ((h3 a u ha hu).2 b hb)), (h3 a u ha hu).2⟩⟩
theorem CM.ext {α : Type} {k : KT α} {T T' : Nat → Option LTag} {t : α → LTag} {w : World} {m n : Nat} {L : α → List CredB} (h : CM k T t w m n L) (he : ∀ b, T b ≠ none → T' b = T b) : CM k T' t w m n L := by
  obtain ⟨E, h1, h2, h3⟩ := h
  exact ⟨E, h1, h2, fun a u ha hu => ⟨(h3 a u ha hu).1, fun b hb => by rw [he b (by rw [(h3 a u ha hu).2 b hb]; simp)]; exact (h3 a u ha hu).2 b hb⟩⟩

theorem mZeroCr (w : World) : (zeroValue 22).run Try.prog w = .ok (.slice none 0 0) w := by kernel_rfl

theorem CM.look {α : Type} {k : KT α} {T : Nat → Option LTag} {t : α → LTag} {w : World} {m n : Nat} {L : α → List CredB} (h : CM k T t w m n L) {mt : TypeId} (ht : Try.prog.underlying mt = some (.map k.ty 22)) {a : α} (ha : k.ok a) :
    ∃ u, OwnC 0 w u (L a) ∧ (∀ b, u.ownBlock = some b → T b = some (t a)) ∧ ∀ w', Chg (fun _ => False) w w' → (Instr.lookup mt (.map (some m)) (k.val a) false).run Try.prog w' = .ok u w' := by
  obtain ⟨E, h1, h2, h3⟩ := h
  refine ⟨(E a).getD (.slice none 0 0), ?_, ?_, fun w' hc => (h1.keep hc id).look ht (mZeroCr w') ha⟩
  · cases hs : E a with
    | none => rw [h2 a ha hs]; exact World.ownsRow_nil _ _ _ _
    | some x => exact (h3 a x ha hs).1
  · cases hs : E a with
    | none => intro b hb; cases hb
    | some x => exact (h3 a x ha hs).2

/-- The maps m3 and m4 hold the credentials cs by what they lean on. -/
structure LS (T : Nat → Option LTag) (w : World) (m3 m4 : Nat) (cs : List CredB) : Prop where
  t3 : T m3 = some .leanM
  t4 : T m4 = some .linkM
  lean : CM ktR T .leanR w m3 (cs.length * 2) (leanL cs)
  link : CM ktS T .linkR w m4 cs.length (linkL cs)
  lo : ∀ b, T b ≠ none → b < w.heap.size

theorem LS.keep {T : Nat → Option LTag} {P : Nat → Prop} {w w' : World} {m3 m4 : Nat} {cs : List CredB} (h : LS T w m3 m4 cs) (hc : Chg P w w') (hs : ∀ b, T b ≠ none → ¬ P b) : LS T w' m3 m4 cs :=
  ⟨h.t3, h.t4, h.lean.keep (hs _ (by rw [h.t3]; simp)) hc (fun b a hb => hs b (by rw [hb]; simp)), h.link.keep (hs _ (by rw [h.t4]; simp)) hc (fun b a hb => hs b (by rw [hb]; simp)), fun b hb => Nat.lt_of_lt_of_le (h.lo b hb) hc.size⟩

/-- The blocks of both are apart. -/
def Apart (T : Nat → Option KTag) (T2 : Nat → Option LTag) : Prop := ∀ b, T2 b ≠ none → T b = none
theorem LS.gro {T T1 : Nat → Option KTag} {T2 : Nat → Option LTag} {w w' : World} {g m3 m4 : Nat} {S S' : List StepB} {cs : List CredB} (h : LS T2 w m3 m4 cs) (ha : Apart T T2) (hg : Gro T w g m3 m4 S T1 w' S') : LS T2 w' m3 m4 cs ∧ Apart T1 T2 :=
  ⟨h.keep hg.chg (fun b hb e => e (ha b hb)), fun b hb => hg.not (ha b hb) (h.lo b hb)⟩
theorem GS.maps {T : Nat → Option KTag} {w : World} {g m3 m4 : Nat} {S : List StepB} (h : GS T w g m3 m4 S) : w.cell? ⟨g, 3, none⟩ = some (.map (some m3)) ∧ w.cell? ⟨g, 4, none⟩ = some (.map (some m4)) := by
  obtain ⟨⟨v, m1, m2, Sl, hp⟩, _⟩ := h
  exact ⟨cell_blk hp.blk 3, cell_blk hp.blk 4⟩

/-- Leaning, whatever kind. -/
theorem ch_lean {T : Nat → Option KTag} (g m3 m4 : Nat) (S : List StepB) (c : CredB) (wo : List UInt8) (w0 : World) (h : GS T w0 g m3 m4 S) (hr : isCred c = true) (hk : c.kind ≠ 1) (hn : (leanG S c wo).length ≤ 33554432) (hw : wo.length ≤ 9223372036854775807) :
    Calls Try.prog 103 #[.pointer (some ⟨g, 0, none⟩), .agg #[.int .i64 c.kind, .string ⟨c.head.1.toArray⟩, .string ⟨c.head.2.toArray⟩, .string ⟨c.who.toArray⟩, .string ⟨c.b.1.toArray⟩, .string ⟨c.b.2.toArray⟩, .string ⟨c.c.1.toArray⟩, .string ⟨c.c.2.toArray⟩, .string ⟨c.w2.toArray⟩], .string ⟨wo.toArray⟩] w0 (GroP T g m3 m4 S (leanG S c wo) w0) := by
  have hf : credShort c 9223372036854775807 := by
    obtain ⟨h1, h2, h3, h4, h5, h6, h7, h8⟩ := isCred_short hr
    exact ⟨by omega, by omega, by omega, by omega, by omega, by omega, by omega, by omega⟩
  rcases isCred_kind hr with k | k | k | k
  · exact absurd k hk
  · exact ch_lean2 g m3 m4 S c wo w0 h k hn hf hw
  · exact ch_lean3 g m3 m4 S c wo w0 h k hn hf hw
  · exact ch_lean4 g m3 m4 S c wo w0 h k hn hf hw
end Go.Proofs.Ytjaplnainlbldaa
