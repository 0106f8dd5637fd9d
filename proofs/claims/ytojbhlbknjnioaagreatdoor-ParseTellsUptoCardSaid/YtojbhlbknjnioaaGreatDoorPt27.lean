/- Texts that the proof leans on, in one: PcSame, FmPairK, FmAlike, FmSameM, RegA, RegAD, RegAl, FmSame, PbOwn, PbFirst, RoleHas, PbBack. -/
import Derived.Test.YtojbhlbknjnioaaGreatDoorPt9
import Derived.Test.YtojbhlbknjnioaaGreatDoorPt10
import Derived.LaidEql
import Derived.MapKept
import Derived.Test.YtojbhlbknjnioaaGreatDoorPt7
import Derived.Test.YtojbhlbknjnioaaGreatDoorPt3
import Derived.Test.YtojbhlbknjnioaaGreatDoorPt4
import Derived.StillTailTactics
import Derived.Test.YtojbhlbknjnioaaGreatDoorPt25
import Derived.Test.YtojbhlbknjnioaaGreatDoorPt1
import Derived.Test.YtojbhlbknjnioaaGreatDoorPt5
/- The document's Same of layer 11. -/
namespace Go.Proofs.YtojbhlbknjnioaaGreatDoor
open Go.RowKit

theorem fm_ext {f g : FmB} (h1 : f.op = g.op) (h2 : f.k = g.k) (h3 : f.r = g.r) (h4 : f.kids = g.kids) : f = g := by
  cases f; cases g
  simp only [FmB.op, FmB.k, FmB.r, FmB.kids] at h1 h2 h3 h4
  rw [h1, h2, h3, h4]

def SameR (f g : FmB) (w : World) (e : Ending) (w' : World) : Prop := ∃ b : Bool, e = .returned (.bool b) ∧ (b = true ↔ f = g) ∧ Chg (fun _ => False) w w'
theorem run_neqg_role (x y : Operand) (a b : RoleB) (w : World) : Sem.run Tryz.prog (eqGuard BinOp.neq 23 x y (.agg #[.string ⟨a.1.toArray⟩, .string ⟨a.2.toArray⟩]) (.agg #[.string ⟨b.1.toArray⟩, .string ⟨b.2.toArray⟩])) w = .ok () w := by
  go_simp
attribute [local go_sem ↓ high] run_neqg_role run_neq_role

set_option maxRecDepth 100000 in
set_option maxHeartbeats 8000000 in
theorem rn_same {D E : Nat → Prop} : ∀ (n : Nat) (f : FmB) (ao : Option Addr) (cp : Nat) (m : Nat) (g : FmB) (bo : Option Addr) (bp : Nat) (w : World), FmsAt D w n ao f.kids → FmsAt E w m bo g.kids → nodesF f ≤ 1048576 → nodesF g ≤ 1048576 →
    Calls Tryz.prog 12 #[.agg #[.int .i64 f.op, .int .i64 f.k, .string ⟨f.r.1.toArray⟩, .string ⟨f.r.2.toArray⟩, .slice ao f.kids.length cp], .agg #[.int .i64 g.op, .int .i64 g.k, .string ⟨g.r.1.toArray⟩, .string ⟨g.r.2.toArray⟩, .slice bo g.kids.length bp]] w (SameR f g w) := by
  intro n
  induction n using Nat.strongRecOn with
  | _ n ih =>
  intro f ao cp m g bo bp w hf hg hN hM
  have hnl := nodesL_len f.kids
  have hnf := nodesF_eq f
  have hnl2 := nodesL_len g.kids
  have hnf2 := nodesF_eq g
  have hc2 : Chg (fun _ => False) w ((w.alloc (.cells #[.int .i64 f.op, .int .i64 f.k, .string ⟨f.r.1.toArray⟩, .string ⟨f.r.2.toArray⟩, .slice ao f.kids.length cp] 26)).alloc (.cells #[.int .i64 g.op, .int .i64 g.k, .string ⟨g.r.1.toArray⟩, .string ⟨g.r.2.toArray⟩, .slice bo g.kids.length bp] 26)) := ((Chg.refl _ w).alloc _).alloc _
  have hb := blk_keep (heap_alloc_new w (.cells #[.int .i64 f.op, .int .i64 f.k, .string ⟨f.r.1.toArray⟩, .string ⟨f.r.2.toArray⟩, .slice ao f.kids.length cp] 26)) ((Chg.refl (fun _ => False) (w.alloc (.cells #[.int .i64 f.op, .int .i64 f.k, .string ⟨f.r.1.toArray⟩, .string ⟨f.r.2.toArray⟩, .slice ao f.kids.length cp] 26))).alloc (.cells #[.int .i64 g.op, .int .i64 g.k, .string ⟨g.r.1.toArray⟩, .string ⟨g.r.2.toArray⟩, .slice bo g.kids.length bp] 26)) id
  have hbg := heap_alloc_new (w.alloc (.cells #[.int .i64 f.op, .int .i64 f.k, .string ⟨f.r.1.toArray⟩, .string ⟨f.r.2.toArray⟩, .slice ao f.kids.length cp] 26)) (.cells #[.int .i64 g.op, .int .i64 g.k, .string ⟨g.r.1.toArray⟩, .string ⟨g.r.2.toArray⟩, .slice bo g.kids.length bp] 26)
  rw [show (w.alloc (.cells #[.int .i64 f.op, .int .i64 f.k, .string ⟨f.r.1.toArray⟩, .string ⟨f.r.2.toArray⟩, .slice ao f.kids.length cp] 26)).heap.size = w.heap.size + 1 by simp] at hbg
  have s0 := cell_blk hb 0
  have s1 := cell_blk hb 1
  have s2 := cell_blk hb 2
  have s3 := cell_blk hb 3
  have s4 := cell_blk hb 4
  simp only [List.getElem?_toArray, List.getElem?_cons_zero, List.getElem?_cons_succ] at s0 s1 s2 s3 s4
  have t0 := cell_blk hbg 0
  have t1 := cell_blk hbg 1
  have t2 := cell_blk hbg 2
  have t3 := cell_blk hbg 3
  have t4 := cell_blk hbg 4
  simp only [List.getElem?_toArray, List.getElem?_cons_zero, List.getElem?_cons_succ] at t0 t1 t2 t3 t4
  have HX := hid (And.intro hf hg)
  have HIN := hid ih
  have HC0 := hid hc2
  have HB0 := hid (And.intro hb hbg)
  clear hf hg ih hc2 hb hbg
  go_enter Tryz.func12, Tryz.ntmps12
  by_cases h1 : f.op = g.op
  · have z1 : (f.op == g.op) = true := beq_iff_eq.2 h1
    have z1b : (f.op != g.op) = false := by rw [bne, z1]; rfl
    have H1 := hid h1
    clear h1
    by_cases h2 : f.k = g.k
    · have z2 : (f.k == g.k) = true := beq_iff_eq.2 h2
      have z2b : (f.k != g.k) = false := by rw [bne, z2]; rfl
      have H2 := hid h2
      clear h2
      by_cases h3 : f.r = g.r
      · have z3 : decide (f.r = g.r) = true := decide_eq_true h3
        have H3 := hid h3
        clear h3
        by_cases h4 : f.kids.length = g.kids.length
        · have z4 : ((f.kids.length : Int) != (g.kids.length : Int)) = false := by rw [bne, beq_iff_eq.2 (show (f.kids.length : Int) = (g.kids.length : Int) by omega)]; rfl
          have H4 := hid h4
          have HKL := hid (And.intro (show f.kids.length ≤ 1048576 by omega) (show g.kids.length ≤ 1048576 by omega))
          clear h4
          generalize hfn : f.kids.length = fn at *
          generalize hgn : g.kids.length = gn at *
          have HFN := hid hfn.symm
          have HGN := hid hgn.symm
          clear hfn hgn hnl hnf hnl2 hnf2
          have hw2c := HC0.out
          go_wp2
          generalize ((w.alloc (.cells #[.int .i64 f.op, .int .i64 f.k, .string ⟨f.r.1.toArray⟩, .string ⟨f.r.2.toArray⟩, .slice ao fn cp] 26)).alloc (.cells #[.int .i64 g.op, .int .i64 g.k, .string ⟨g.r.1.toArray⟩, .string ⟨g.r.2.toArray⟩, .slice bo gn bp] 26)) = w2 at *
          generalize hA : w.heap.size = A at *
          have HA := hid hA
          have HC2 := hid hw2c
          clear hA hw2c HC0
          go_loopw [37] (fun i wr => ∃ j : Nat, j ≤ fn ∧ i = .int .i64 j ∧ Hid (f.kids.take j = g.kids.take j ∧ Chg (fun _ => False) w2 wr)) (fun i _ => fn - (intOf i).toNat)
          case atStart => exact ⟨0, Nat.zero_le _, rfl, hid ⟨rfl, Chg.refl _ _⟩⟩
          case round =>
            obtain ⟨j, hj, rfl, hrel⟩ := hrel
            have HCR := hid (HC2.out.trans hrel.out.2 (fun _ _ h => h))
            by_cases hlt : j < fn
            · have hltf : j < f.kids.length := by rw [← HFN.out]; exact hlt
              have hltg : j < g.kids.length := by rw [← HGN.out, ← H4.out]; exact hlt
              have hltg2 : j < gn := by rw [HGN.out]; exact hltg
              obtain ⟨fb, fo, hao, hDb, hat⟩ := (HX.out.1.keep HCR.out (fun _ _ => id)) j hltf
              obtain ⟨d, a2, c2, hd2, ⟨x0, x1, x2, x3, x4⟩, hokx, hzx, hkx⟩ := hat.open_
              obtain ⟨gb, go, hbo, hEb, hbt⟩ := (HX.out.2.keep HCR.out (fun _ _ => id)) j hltg
              obtain ⟨d3, b2, d2, hd3, ⟨y0, y1, y2, y3, y4⟩, hoky, hzy, hky⟩ := hbt.open_
              have hnx : f.kids[j] = g.kids[j] → f.kids.take (j + 1) = g.kids.take (j + 1) := fun h => by rw [List.take_succ_eq_append_getElem hltf, List.take_succ_eq_append_getElem hltg, hrel.out.1, h]
              have hno : ¬ f.kids[j] = g.kids[j] → ¬ f = g := fun h e => h (by subst e; rfl)
              have hl1 := nodesL_mem (List.getElem_mem hltf)
              have hl2 := nodesL_mem (List.getElem_mem hltg)
              have hnf := nodesF_eq f
              have hnf2 := nodesF_eq g
              generalize f.kids[j] = x at *
              generalize g.kids[j] = y at *
              obtain ⟨b0, hb0⟩ : ∃ b0 : Bool, (b0 = true ↔ x = y) := by
                classical
                exact ⟨decide (x = y), by simp⟩
              have HSM : Hid (∀ W, Chg (fun _ => False) wr W → Calls Tryz.prog 12 #[.agg #[.int .i64 x.op, .int .i64 x.k, .string ⟨x.r.1.toArray⟩, .string ⟨x.r.2.toArray⟩, .slice a2 x.kids.length c2], .agg #[.int .i64 y.op, .int .i64 y.k, .string ⟨y.r.1.toArray⟩, .string ⟨y.r.2.toArray⟩, .slice b2 y.kids.length d2]] W fun e w' => e = .returned (.bool b0) ∧ Chg (fun _ => False) W w') := hid (fun W hW => by
                refine (HIN.out d hd2 x a2 c2 d3 y b2 d2 W (hkx.keep hW (fun _ _ => id)) (hky.keep hW (fun _ _ => id)) (by omega) (by omega)).mono ?_
                rintro e w' ⟨b, rfl, hb, hc⟩
                have : b = b0 := by
                  cases b <;> cases b0
                  · rfl
                  · exact absurd (hb.2 (hb0.1 rfl)) (by decide)
                  · exact absurd (hb0.2 (hb.1 rfl)) (by decide)
                  · rfl
                rw [this]
                exact ⟨rfl, hc⟩)
              have HXC := hid (And.intro x0 (And.intro x1 (And.intro x2 (And.intro x3 x4))))
              have HYC := hid (And.intro y0 (And.intro y1 (And.intro y2 (And.intro y3 y4))))
              have HNX := hid (fun h : b0 = true => hnx (hb0.1 h))
              have HNO := hid (fun h : b0 = false => hno (fun e => by rw [hb0.2 e] at h; cases h))
              subst hao hbo
              have q1 := cell_blk (blk_keep HB0.out.1 hrel.out.2 id) 4
              have q2 := cell_blk (blk_keep HB0.out.2 hrel.out.2 id) 4
              simp only [List.getElem?_toArray, List.getElem?_cons_zero, List.getElem?_cons_succ] at q1 q2
              have HBX := hid (And.intro q1 q2)
              have HJ := hid (And.intro hlt hltg2)
              have HLT := hid hlt
              have HC3 := hid hrel.out.2
              clear x0 x1 x2 x3 x4 y0 y1 y2 y3 y4 hkx hky hl1 hl2 hnf hnf2 hb0 hnx hno q1 q2 hltf hltg hltg2 hat hbt hokx hoky hd2 hd3 hrel hzx hzy s0 s1 s2 s3 s4 t0 t1 t2 t3 t4
              go_wp2_with fail
              refine wp_region_specs [.any, .any, .eq (.pointer (some ⟨A, 0, none⟩)), .eq (.pointer (some ⟨A + 1, 0, none⟩)), .any, .eq (.int .i64 (j : Nat)), .any, .any, .any, .any, .any, .any, .any, .any, .any, .any, .any, .any, .any, .any, .any, .any, .any, .any, .any, .any, .any, .any, .any, .any, .any, .any, .any, .any, .any, .any, .any, .any, .any, .any, .eq (.pointer (some ⟨A, 4, none⟩)), .eq (.slice (some ⟨fb, fo, none⟩) fn cp), .eq (.int .i64 (j : Nat)), .eq (.pointer (some ⟨fb, fo + j * 5, none⟩)), .eq (.agg #[.int .i64 x.op, .int .i64 x.k, .string ⟨x.r.1.toArray⟩, .string ⟨x.r.2.toArray⟩, .slice a2 x.kids.length c2]), .eq (.pointer (some ⟨A + 1, 4, none⟩)), .eq (.slice (some ⟨gb, go, none⟩) gn bp), .eq (.int .i64 (j : Nat)), .eq (.pointer (some ⟨gb, go + j * 5, none⟩)), .eq (.agg #[.int .i64 y.op, .int .i64 y.k, .string ⟨y.r.1.toArray⟩, .string ⟨y.r.2.toArray⟩, .slice b2 y.kids.length d2]), .eq (.bool b0), .eq (.bool (!b0)), .any] [40, 41, 42, 43, 44, 45, 46, 47, 48, 49, 50, 51] [2, 3, 5] (by kernel_rfl) (by kernel_rfl) (by rfl) (by kernel_rfl) ?start ?obs ?fin
              case start =>
                simp only [List.forall_mem_cons]; exact ⟨⟨_, rfl, rfl⟩, ⟨_, rfl, rfl⟩, ⟨_, rfl, rfl⟩, fun _ h => by cases h⟩
              case obs =>
                skip
                refine Obs.cons none (by kernel_rfl) ?_ ?_
                · refine Ob.plain fun a w hR hk K k => ?_
                  obtain ⟨_, e2, rfl⟩ := hk 2 (by decide)
                  clear hk
                  go_simp
                  exact k _ _ (Chg.refl _ _) rfl
                refine Obs.cons none (by kernel_rfl) ?_ ?_
                · refine Ob.plain fun a w hR hk K k => ?_
                  obtain ⟨_, e40, rfl⟩ := hk 40 (by decide)
                  clear hk
                  have z := hR.cell HBX.out.1 id
                  go_simp
                  exact k _ _ (Chg.refl _ _) rfl
                refine Obs.cons none (by kernel_rfl) ?_ ?_
                · refine Ob.plain fun a w hR hk K k => ?_
                  obtain ⟨_, e5, f5⟩ := hk 5 (by decide)
                  clear hk
                  go_simp
                  exact k _ _ (Chg.refl _ _) f5
                refine Obs.cons none (by kernel_rfl) ?_ ?_
                · refine Ob.plain fun a w hR hk K k => ?_
                  obtain ⟨_, e41, rfl⟩ := hk 41 (by decide)
                  obtain ⟨_, e42, rfl⟩ := hk 42 (by decide)
                  clear hk
                  have z := HJ.out.1
                  go_simp
                  exact k _ _ (Chg.refl _ _) rfl
                refine Obs.cons none (by kernel_rfl) ?_ ?_
                · refine Ob.plain fun a w hR hk K k => ?_
                  obtain ⟨_, e43, rfl⟩ := hk 43 (by decide)
                  clear hk
                  obtain ⟨k0, k1, k2, k3, k4⟩ := HXC.out
                  have z0 := hR.cell k0 id
                  have z1 := hR.cell k1 id
                  have z2 := hR.cell k2 id
                  have z3 := hR.cell k3 id
                  have z4 := hR.cell k4 id
                  clear k0 k1 k2 k3 k4
                  go_simp
                  exact k _ _ (Chg.refl _ _) rfl
                refine Obs.cons none (by kernel_rfl) ?_ ?_
                · refine Ob.plain fun a w hR hk K k => ?_
                  obtain ⟨_, e3, rfl⟩ := hk 3 (by decide)
                  clear hk
                  go_simp
                  exact k _ _ (Chg.refl _ _) rfl
                refine Obs.cons none (by kernel_rfl) ?_ ?_
                · refine Ob.plain fun a w hR hk K k => ?_
                  obtain ⟨_, e45, rfl⟩ := hk 45 (by decide)
                  clear hk
                  have z := hR.cell HBX.out.2 id
                  go_simp
                  exact k _ _ (Chg.refl _ _) rfl
                refine Obs.cons none (by kernel_rfl) ?_ ?_
                · refine Ob.plain fun a w hR hk K k => ?_
                  obtain ⟨_, e5, f5⟩ := hk 5 (by decide)
                  clear hk
                  go_simp
                  exact k _ _ (Chg.refl _ _) f5
                refine Obs.cons none (by kernel_rfl) ?_ ?_
                · refine Ob.plain fun a w hR hk K k => ?_
                  obtain ⟨_, e46, rfl⟩ := hk 46 (by decide)
                  obtain ⟨_, e47, rfl⟩ := hk 47 (by decide)
                  clear hk
                  have z := HJ.out.2
                  go_simp
                  exact k _ _ (Chg.refl _ _) rfl
                refine Obs.cons none (by kernel_rfl) ?_ ?_
                · refine Ob.plain fun a w hR hk K k => ?_
                  obtain ⟨_, e48, rfl⟩ := hk 48 (by decide)
                  clear hk
                  obtain ⟨k0, k1, k2, k3, k4⟩ := HYC.out
                  have z0 := hR.cell k0 id
                  have z1 := hR.cell k1 id
                  have z2 := hR.cell k2 id
                  have z3 := hR.cell k3 id
                  have z4 := hR.cell k4 id
                  clear k0 k1 k2 k3 k4
                  go_simp
                  exact k _ _ (Chg.refl _ _) rfl
                refine Obs.cons none (by kernel_rfl) ?_ ?_
                · refine Ob.plain fun a w hR hk K k => ?_
                  obtain ⟨_, e44, rfl⟩ := hk 44 (by decide)
                  obtain ⟨_, e49, rfl⟩ := hk 49 (by decide)
                  clear hk
                  go_simp
                  refine (HSM.out w hR).mono ?_
                  rintro e w8 ⟨rfl, hc8⟩
                  exact k _ _ hc8 rfl
                refine Obs.cons none (by kernel_rfl) ?_ ?_
                · refine Ob.plain fun a w hR hk K k => ?_
                  obtain ⟨_, e50, rfl⟩ := hk 50 (by decide)
                  clear hk
                  go_simp
                  exact k _ _ (Chg.refl _ _) rfl
                exact Obs.nil
              case fin =>
                intro vals w9 hc9 hv
                have h51 : vals 51 = .bool (!b0) := hv 51 (by decide)
                simp only [putAll, List.setIfInBounds_toArray, List.set_cons_zero, List.set_cons_succ, h51]
                have HC9 := hid (HCR.out.trans hc9 (fun _ _ h => h))
                have HC8 := hid (HC3.out.trans hc9 (fun _ _ h => h))
                clear hc9 hv h51 HSM HXC HYC
                cases b0 with
                | false =>
                  simp only [Bool.not_false]
                  go_wp2
                  go_ret
                  exact ⟨false, rfl, ⟨fun h => (by cases h), fun h => absurd h (by first | exact HNO.out rfl | exact HNO.out trivial | exact HNO.out)⟩, HC9.out⟩
                | true =>
                  simp only [Bool.not_true]
                  have hkl := HKL.out.1
                  go_wp2
                  go_roundw
                  case rel => exact ⟨j + 1, HLT.out, by go_num, hid ⟨(by first | exact HNX.out rfl | exact HNX.out trivial | exact HNX.out), HC8.out⟩⟩
                  case measure => have := HLT.out; simp [intOf]; omega
            · have hje : j = fn := by omega
              have HEQ : Hid (f = g) := hid (fm_ext H1.out H2.out H3.out (by
                have := hrel.out.1
                rw [hje, List.take_of_length_le (by rw [HFN.out]; exact Nat.le_refl _), List.take_of_length_le (by rw [← HGN.out, H4.out]; exact Nat.le_refl _)] at this
                exact this))
              clear hrel hje
              go_wp2
              go_ret
              exact ⟨true, rfl, ⟨fun _ => HEQ.out, fun _ => rfl⟩, HCR.out⟩
        · have z4 : ((f.kids.length : Int) != (g.kids.length : Int)) = true := by
            have : ¬ (f.kids.length : Int) = (g.kids.length : Int) := by omega
            simpa using this
          have HN : Hid (¬ f = g) := hid (fun h => h4 (by rw [h]))
          clear h4
          go_wp2
          go_ret
          exact ⟨false, rfl, ⟨fun h => (by cases h), fun h => absurd h HN.out⟩, HC0.out⟩
      · have z3 : decide (f.r = g.r) = false := decide_eq_false h3
        have HN : Hid (¬ f = g) := hid (fun h => h3 (by rw [h]))
        clear h3
        go_wp2
        go_ret
        exact ⟨false, rfl, ⟨fun h => (by cases h), fun h => absurd h HN.out⟩, HC0.out⟩
    · have z2 : (f.k != g.k) = true := by simpa using h2
      have HN : Hid (¬ f = g) := hid (fun h => h2 (by rw [h]))
      clear h2
      go_wp2
      go_ret
      exact ⟨false, rfl, ⟨fun h => (by cases h), fun h => absurd h HN.out⟩, HC0.out⟩
  · have z1 : (f.op != g.op) = true := by simpa using h1
    have HN : Hid (¬ f = g) := hid (fun h => h1 (by rw [h]))
    clear h1
    go_wp2
    go_ret
    exact ⟨false, rfl, ⟨fun h => (by cases h), fun h => absurd h HN.out⟩, HC0.out⟩
end Go.Proofs.YtojbhlbknjnioaaGreatDoor

/- Maps whose keys are pairs of pointers, or pointers: what a look-up of a new key gives, and an entry. -/
namespace Go.Proofs.YtojbhlbknjnioaaGreatDoor
open Go.RowKit

end Go.Proofs.YtojbhlbknjnioaaGreatDoor

/- Are two nodes alike, but for what is within their Kids? -/
namespace Go.Proofs.YtojbhlbknjnioaaGreatDoor
open Go.RowKit
attribute [local go_sem ↓ high] run_eql_role run_eqg_role

end Go.Proofs.YtojbhlbknjnioaaGreatDoor

/- Same of two formulas: what lies in memory while pairs of nodes are asked. -/
namespace Go.Proofs.YtojbhlbknjnioaaGreatDoor
open Go.RowKit

end Go.Proofs.YtojbhlbknjnioaaGreatDoor

/- The rule for a region that draws its order, with a state that hangs on which operations have come up, on the slots and on the world. -/
namespace Go.Proofs.YtojbhlbknjnioaaGreatDoor
open Go.RowKit

section
variable {P : Program} {ops : Array Oper} {Q : Exit → Act → World → Prop} {S : World → World → Prop} {W : (Nat → Bool) → Act → World → Prop} {G : Tmp → Value → World → Prop} {a0 : Act} {ds : List Tmp}

end

end Go.Proofs.YtojbhlbknjnioaaGreatDoor

/- The rule for a region that draws its order, with a state that hangs on the slots too, where all that an operation leans on has come up; and states for two writers, one behind the other. -/
namespace Go.Proofs.YtojbhlbknjnioaaGreatDoor
open Go.RowKit

section
variable {m n : Nat} {t : Tmp} {F0 : World → Prop} {F1 : Value → World → Prop} {F2 : World → Prop} {L : Nat → Bool} {a : Act} {w w' : World}

end
end Go.Proofs.YtojbhlbknjnioaaGreatDoor

/- A region that draws its order, in which a variable is laid and then set: its slot is told to the end. -/
namespace Go.Proofs.YtojbhlbknjnioaaGreatDoor
open Go.RowKit

section
variable {m n : Nat} {t : Tmp} {F0 : World → Prop} {F1 F2 : Value → World → Prop} {L : Nat → Bool} {a : Act} {w w' : World}

end

end Go.Proofs.YtojbhlbknjnioaaGreatDoor

/- Same of two formulas: one of the call's own, and any other. -/
namespace Go.Proofs.YtojbhlbknjnioaaGreatDoor
open Go.RowKit
end Go.Proofs.YtojbhlbknjnioaaGreatDoor

/- Text, Same and True at formulas of the call's own. -/
namespace Go.Proofs.YtojbhlbknjnioaaGreatDoor
open Go.RowKit

theorem own_fms2 {B : Nat} {w : World} {t : AT} {ao : Option Addr} {q cp : Nat} (h : OwnA B w t) (hv : t.v = .slice ao q cp) : q = (eraseA t).kids.length ∧ (ao = none → cp = 0) ∧ FmsAt (fun k => B ≤ k ∧ k < w.heap.size) w (deepF (eraseA t)) ao (eraseA t).kids ∧ FmOk (eraseA t) ∧ (eraseA t).op = t.op ∧ (eraseA t).k = t.k ∧ (eraseA t).r = t.r := by
  obtain ⟨ao2, cp2, k1, k2, k3, k4⟩ := own_fms h
  rw [hv] at k1
  injection k1 with k1 k5 k6
  subst k1 k6
  refine ⟨by rw [eraseA_eq]; simp only [FmB.kids, eraseL_len]; exact k5, k2, by rw [eraseA_eq] at k3 ⊢; exact k3, k4, by rw [eraseA_eq]; rfl, by rw [eraseA_eq]; rfl, by rw [eraseA_eq]; rfl⟩

theorem own_text {B : Nat} (t : AT) (ao : Option Addr) (q cp : Nat) (w : World) (hv : t.v = .slice ao q cp) (h : OwnA B w t) (hN : nodesF (eraseA t) ≤ 4096) :
    Calls Tryz.prog 11 #[FmVal t ao q cp] w fun e w' => e = .returned (.string ⟨(textP (eraseA t)).toArray⟩) ∧ Chg (fun _ => False) w w' := by
  obtain ⟨k1, k2, k3, k4, k5, k6, k7⟩ := own_fms2 h hv
  have := pText _ (eraseA t) ao cp w k3 (fun i hi => hi.2) k4 hN
  rw [← k1, k5, k6, k7] at this
  exact this
theorem text_zero (w : World) : Calls Tryz.prog 11 #[.agg #[.int .i64 0, .int .i64 0, .string ⟨#[]⟩, .string ⟨#[]⟩, .slice none 0 0]] w fun e w' => e = .returned (.string ⟨#[]⟩) ∧ Chg (fun _ => False) w w' := by
  have := pText (D := fun _ => False) 1 zeroF none 0 w (FmsAt.nil _ _ _ _) (fun i hi => hi.elim) ⟨by simp [zeroF, FmB.r], by simp [zeroF, FmB.r]⟩ (by decide)
  have e : textP zeroF = [] := by decide
  rw [e] at this
  exact this
theorem parse_nodes (s : List UInt8) : nodesF (parseF s).1 ≤ 4096 := by
  obtain ⟨ts, hx, htl⟩ := lex_all s.length s (Nat.le_refl _)
  rw [parse_gram hx]
  by_cases hl : 2048 < s.length
  · rw [if_pos hl]; decide
  · rw [if_neg hl]
    cases hg : gramP ts with
    | none => exact (by decide : nodesF zeroF ≤ 4096)
    | some f =>
      have := gram_len hg
      simp only
      split
      · show nodesF f ≤ 4096
        omega
      · exact (by decide : nodesF zeroF ≤ 4096)
theorem ParsedPost.known {s : List UInt8} {f : FmB} {n : Nat} {z : Int} {w w' : World} {e : Ending} (h : ParsedPost s w e w') (hp : parseF s = (f, n)) (hz : (n : Int) = z) : Chg (fun _ => False) w w' ∧ ∃ (t : AT) (ao : Option Addr) (q cp : Nat), eraseA t = f ∧ t.v = .slice ao q cp ∧ e = .returned (.tuple #[FmVal t ao q cp, .int .i64 z]) ∧ OwnA w.heap.size w' t ∧ (blksA t).Nodup := by
  obtain ⟨hc, t, ao, q, cp, h1, h2, h3, h4, h5⟩ := h
  rw [hp] at h1 h3
  simp only [hz] at h3
  exact ⟨hc, t, ao, q, cp, h1, h2, h3, h4, h5⟩
end Go.Proofs.YtojbhlbknjnioaaGreatDoor

/- Layer 12's first. -/
namespace Go.Proofs.YtojbhlbknjnioaaGreatDoor
open Go.RowKit

def firA : FmB := .mk 2 0 ([], []) [.mk 1 0 ([97], [114]) [], .mk 3 0 ([], []) [.mk 1 0 ([98], [115]) [], .mk 1 0 ([99], [116]) []]]
def firB : FmB := .mk 4 1 ([], []) [.mk 1 0 ([97], [114]) [], .mk 1 0 ([98], [115]) []]
theorem fir1 : parseF [97, 46, 114, 32, 97, 110, 100, 32, 40, 98, 46, 115, 32, 111, 114, 32, 99, 46, 116, 41] = (firA, 0) := by kernel_rfl
theorem fir2 : parseF [97, 46, 114, 32, 97, 110, 100] = (zeroF, 11) := by kernel_rfl
theorem fir3 : parseF [32, 97, 116, 32, 49, 9, 40, 97, 46, 114, 44, 98, 46, 115, 41, 32] = (firB, 0) := by kernel_rfl
theorem firX1 : (textP firA == [97, 108, 108, 40, 97, 46, 114, 44, 32, 115, 111, 109, 101, 40, 98, 46, 115, 44, 32, 99, 46, 116, 41, 41]) = true := by kernel_rfl
theorem firX3 : (textP firB == [97, 116, 32, 49, 40, 97, 46, 114, 44, 32, 98, 46, 115, 41]) = true := by kernel_rfl

set_option maxRecDepth 100000 in
set_option maxHeartbeats 4000000 in
theorem pfirst (w : World) (hv : VarsAt w) : Calls Tryz.prog 5 #[] w fun e w' => e = .returned (.bool true) ∧ Chg (fun _ => False) w w' := by
  have HV := hid hv
  have HP1 := hid (pparseF [97, 46, 114, 32, 97, 110, 100, 32, 40, 98, 46, 115, 32, 111, 114, 32, 99, 46, 116, 41] (by decide) w hv)
  clear hv
  go_enter Tryz.func5, Tryz.ntmps5
  go_wp2_with fail
  refine HP1.out.mono ?_
  intro e w1 hp
  obtain ⟨hc1, t1, ao1, q1, cp1, a1, b1, rfl, d1, n1⟩ := hp.known fir1 (z := 0) rfl
  have hl1 : Chg (fun _ => False) w1 (w1.alloc (.cells #[.int .i64 t1.op, .int .i64 t1.k, .string ⟨t1.r.1.toArray⟩, .string ⟨t1.r.2.toArray⟩, .slice ao1 q1 cp1] 26)) := (Chg.refl _ w1).alloc _
  have hb1 := heap_alloc_new w1 (.cells #[.int .i64 t1.op, .int .i64 t1.k, .string ⟨t1.r.1.toArray⟩, .string ⟨t1.r.2.toArray⟩, .slice ao1 q1 cp1] 26)
  have hw1 := hc1.trans hl1 (fun _ _ h => h)
  have HP2 := hid (pparseF [97, 46, 114, 32, 97, 110, 100] (by decide) (w1.alloc (.cells #[.int .i64 t1.op, .int .i64 t1.k, .string ⟨t1.r.1.toArray⟩, .string ⟨t1.r.2.toArray⟩, .slice ao1 q1 cp1] 26)) (HV.out.keep hw1 ⟨id, id⟩))
  have H1 := hid (And.intro hw1 (And.intro hb1 (And.intro (ownA_keep hl1 t1 d1 (fun _ _ => id)) (And.intro a1 b1))))
  clear hc1 a1 b1 d1 n1 hl1 hb1 hw1 hp HP1
  unfold FmVal
  go_wp2_with fail
  refine HP2.out.mono ?_
  intro e w2 hp
  obtain ⟨hc2, t2, ao2, q2, cp2, a2, b2, rfl, d2, n2⟩ := hp.known fir2 (z := 11) rfl
  have hl2 : Chg (fun _ => False) w2 (w2.alloc (.cells #[.int .i64 t2.op, .int .i64 t2.k, .string ⟨t2.r.1.toArray⟩, .string ⟨t2.r.2.toArray⟩, .slice ao2 q2 cp2] 26)) := (Chg.refl _ w2).alloc _
  have hw2 := hc2.trans hl2 (fun _ _ h => h)
  have HP3 := hid (pparseF [32, 97, 116, 32, 49, 9, 40, 97, 46, 114, 44, 98, 46, 115, 41, 32] (by decide) (w2.alloc (.cells #[.int .i64 t2.op, .int .i64 t2.k, .string ⟨t2.r.1.toArray⟩, .string ⟨t2.r.2.toArray⟩, .slice ao2 q2 cp2] 26)) (HV.out.keep (H1.out.1.trans hw2 (fun _ _ h => h)) ⟨id, id⟩))
  have H2 := hid (And.intro (H1.out.1.trans hw2 (fun _ _ h => h)) (And.intro (blk_keep H1.out.2.1 hw2 id) (ownA_keep hw2 t1 H1.out.2.2.1 (fun _ _ => id))))
  clear hc2 a2 b2 d2 n2 hl2 hw2 hp HP2
  unfold FmVal
  go_wp2_with fail
  refine HP3.out.mono ?_
  intro e w3 hp
  obtain ⟨hc3, t3, ao3, q3, cp3, a3, b3, rfl, d3, n3⟩ := hp.known fir3 (z := 0) rfl
  have hl3 : Chg (fun _ => False) w3 (w3.alloc (.cells #[.int .i64 t3.op, .int .i64 t3.k, .string ⟨t3.r.1.toArray⟩, .string ⟨t3.r.2.toArray⟩, .slice ao3 q3 cp3] 26)) := (Chg.refl _ w3).alloc _
  have hb3 := heap_alloc_new w3 (.cells #[.int .i64 t3.op, .int .i64 t3.k, .string ⟨t3.r.1.toArray⟩, .string ⟨t3.r.2.toArray⟩, .slice ao3 q3 cp3] 26)
  have hw3 := hc3.trans hl3 (fun _ _ h => h)
  have hb1 := blk_keep H2.out.2.1 hw3 id
  have hX1 := own_text t1 ao1 q1 cp1 (w3.alloc (.cells #[.int .i64 t3.op, .int .i64 t3.k, .string ⟨t3.r.1.toArray⟩, .string ⟨t3.r.2.toArray⟩, .slice ao3 q3 cp3] 26)) H1.out.2.2.2.2 (ownA_keep hw3 t1 H2.out.2.2 (fun _ _ => id)) (by rw [H1.out.2.2.2.1]; decide)
  rw [H1.out.2.2.2.1] at hX1
  obtain ⟨x1, hx1⟩ : ∃ x, x = textP firA := ⟨_, rfl⟩
  have z1 := firX1
  rw [← hx1] at hX1 z1
  have HX1 := hid hX1
  have H3 := hid (And.intro (H2.out.1.trans hw3 (fun _ _ h => h)) (And.intro hb3 (And.intro (ownA_keep hl3 t3 d3 (fun _ _ => id)) (And.intro a3 b3))))
  have s0 := cell_blk hb1 0
  have s1 := cell_blk hb1 1
  have s2 := cell_blk hb1 2
  have s3 := cell_blk hb1 3
  have s4 := cell_blk hb1 4
  simp only [List.getElem?_toArray, List.getElem?_cons_zero, List.getElem?_cons_succ] at s0 s1 s2 s3 s4
  clear hc3 a3 b3 d3 n3 hl3 hw3 hb3 hb1 hp HP3 hX1 hx1 H2 H1
  unfold FmVal
  go_wp2_with fail
  unfold FmVal at HX1
  refine HX1.out.mono ?_
  rintro e w4 ⟨rfl, hc4⟩
  have hb3 := blk_keep H3.out.2.1 hc4 id
  have hX3 := own_text t3 ao3 q3 cp3 w4 H3.out.2.2.2.2 (ownA_keep hc4 t3 H3.out.2.2.1 (fun _ _ => id)) (by rw [H3.out.2.2.2.1]; decide)
  rw [H3.out.2.2.2.1] at hX3
  obtain ⟨x3, hx3⟩ : ∃ x, x = textP firB := ⟨_, rfl⟩
  have z3 := firX3
  rw [← hx3] at hX3 z3
  unfold FmVal at hX3
  have HX3 := hid hX3
  have HC4 := hid (H3.out.1.trans hc4 (fun _ _ h => h))
  clear s0 s1 s2 s3 s4
  have s0 := cell_blk hb3 0
  have s1 := cell_blk hb3 1
  have s2 := cell_blk hb3 2
  have s3 := cell_blk hb3 3
  have s4 := cell_blk hb3 4
  simp only [List.getElem?_toArray, List.getElem?_cons_zero, List.getElem?_cons_succ] at s0 s1 s2 s3 s4
  clear hc4 hb3 hX3 hx3 H3 HX1
  go_wp2_with fail
  refine HX3.out.mono ?_
  rintro e w5 ⟨rfl, hc5⟩
  have HC5 := hid (HC4.out.trans hc5 (fun _ _ h => h))
  have HT := hid (text_zero w5)
  clear hc5 HX3 s0 s1 s2 s3 s4
  go_wp2_with fail
  refine HT.out.mono ?_
  rintro e w6 ⟨rfl, hc6⟩
  have HC6 := hid (HC5.out.trans hc6 (fun _ _ h => h))
  clear hc6 HT
  go_wp2
  go_ret
  exact ⟨rfl, HC6.out⟩
end Go.Proofs.YtojbhlbknjnioaaGreatDoor

/- The contracts of the document's Has and Same of layer 4. -/
namespace Go.Proofs.YtojbhlbknjnioaaGreatDoor
open Go.RowKit

end Go.Proofs.YtojbhlbknjnioaaGreatDoor

/- The law ParseBack, walked. -/
namespace Go.Proofs.YtojbhlbknjnioaaGreatDoor
open Go.RowKit

end Go.Proofs.YtojbhlbknjnioaaGreatDoor
