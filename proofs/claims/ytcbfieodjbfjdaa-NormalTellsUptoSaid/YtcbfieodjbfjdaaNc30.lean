/- Texts that the proof leans on, in one: PcSame, RnRow. -/
import Derived.Test.YtcbfieodjbfjdaaNc10
import Derived.Test.YtcbfieodjbfjdaaNc29
import Derived.Test.YtcbfieodjbfjdaaNc11
/- The document's Same of layer 11. -/
namespace Go.Proofs.Ytcbfieodjbfjdaa
open Go.RowKit

theorem fm_ext {f g : FmB} (h1 : f.op = g.op) (h2 : f.k = g.k) (h3 : f.r = g.r) (h4 : f.kids = g.kids) : f = g := by
  cases f; cases g
  simp only [FmB.op, FmB.k, FmB.r, FmB.kids] at h1 h2 h3 h4
  rw [h1, h2, h3, h4]

def SameR (f g : FmB) (w : World) (e : Ending) (w' : World) : Prop := ∃ b : Bool, e = .returned (.bool b) ∧ (b = true ↔ f = g) ∧ Chg (fun _ => False) w w'
theorem run_neqg_role (x y : Operand) (a b : RoleB) (w : World) : Sem.run Try.prog (eqGuard BinOp.neq 23 x y (.agg #[.string ⟨a.1.toArray⟩, .string ⟨a.2.toArray⟩]) (.agg #[.string ⟨b.1.toArray⟩, .string ⟨b.2.toArray⟩])) w = .ok () w := by
  go_simp
attribute [local go_sem ↓ high] run_neqg_role run_neq_role

set_option maxRecDepth 100000 in
set_option maxHeartbeats 8000000 in
theorem rn_same {D E : Nat → Prop} : ∀ (n : Nat) (f : FmB) (ao : Option Addr) (cp : Nat) (m : Nat) (g : FmB) (bo : Option Addr) (bp : Nat) (w : World), FmsAt D w n ao f.kids → FmsAt E w m bo g.kids → nodesF f ≤ 1048576 → nodesF g ≤ 1048576 →
    Calls Try.prog 11 #[.agg #[.int .i64 f.op, .int .i64 f.k, .string ⟨f.r.1.toArray⟩, .string ⟨f.r.2.toArray⟩, .slice ao f.kids.length cp], .agg #[.int .i64 g.op, .int .i64 g.k, .string ⟨g.r.1.toArray⟩, .string ⟨g.r.2.toArray⟩, .slice bo g.kids.length bp]] w (SameR f g w) := by
  intro n
  induction n using Nat.strongRecOn with
  | _ n ih =>
  intro f ao cp m g bo bp w hf hg hN hM
  have hnl := nodesL_len f.kids
  have hnf := nodesF_eq f
  have hnl2 := nodesL_len g.kids
  have hnf2 := nodesF_eq g
  have hc2 : Chg (fun _ => False) w ((w.alloc (.cells #[.int .i64 f.op, .int .i64 f.k, .string ⟨f.r.1.toArray⟩, .string ⟨f.r.2.toArray⟩, .slice ao f.kids.length cp] 26)).alloc (.cells #[.int .i64 g.op, .int .i64 g.k, .string ⟨g.r.1.toArray⟩, .string ⟨g.r.2.toArray⟩, .slice bo g.kids.length bp] 26)) := ((Chg.refl _ w).alloc _).alloc _
  have hb := blk_keep (heap_alloc_new w (.cells #[.int .i64 f.op, .int .i64 f.k, .string ⟨f.r.1.toArray⟩, .string ⟨f.r.2.toArray⟩, .slice ao f.kids.length cp] 26)) ((Chg.refl (fun _ => False) (w.alloc (.cells #[.int .i64 f.op, .int .i64 f.k, .string ⟨f.r.1.toArray⟩, .string ⟨f.r.2.toArray⟩, .slice ao f.kids.length cp] 26))).alloc (.cells #[.int .i64 g.op, .int .i64 g.k, .string ⟨g.r.1.toArray⟩, .string ⟨g.r.2.toArray⟩, .slice bo g.kids.length bp] 26)) id
  have hbg := heap_alloc_new (w.alloc (.cells #[.int .i64 f.op, .int .i64 f.k, .string ⟨f.r.1.toArray⟩, .string ⟨f.r.2.toArray⟩, .slice ao f.kids.length cp] 26)) (.cells #[.int .i64 g.op, .int .i64 g.k, .string ⟨g.r.1.toArray⟩, .string ⟨g.r.2.toArray⟩, .slice bo g.kids.length bp] 26)
  rw [show (w.alloc (.cells #[.int .i64 f.op, .int .i64 f.k, .string ⟨f.r.1.toArray⟩, .string ⟨f.r.2.toArray⟩, .slice ao f.kids.length cp] 26)).heap.size = w.heap.size + 1 by simp] at hbg
  have s0 := cell_blk hb 0
  have s1 := cell_blk hb 1
  have s2 := cell_blk hb 2
  have s3 := cell_blk hb 3
  have s4 := cell_blk hb 4
  simp only [List.getElem?_toArray, List.getElem?_cons_zero, List.getElem?_cons_succ] at s0 s1 s2 s3 s4
  have t0 := cell_blk hbg 0
  have t1 := cell_blk hbg 1
  have t2 := cell_blk hbg 2
  have t3 := cell_blk hbg 3
  have t4 := cell_blk hbg 4
  simp only [List.getElem?_toArray, List.getElem?_cons_zero, List.getElem?_cons_succ] at t0 t1 t2 t3 t4
  have HX := hid (And.intro hf hg)
  have HIN := hid ih
  have HC0 := hid hc2
  have HB0 := hid (And.intro hb hbg)
  clear hf hg ih hc2 hb hbg
  go_enter Try.func11, Try.ntmps11
  by_cases h1 : f.op = g.op
  · have z1 : (f.op == g.op) = true := beq_iff_eq.2 h1
    have z1b : (f.op != g.op) = false := by rw [bne, z1]; rfl
    have H1 := hid h1
    clear h1
    by_cases h2 : f.k = g.k
    · have z2 : (f.k == g.k) = true := beq_iff_eq.2 h2
      have z2b : (f.k != g.k) = false := by rw [bne, z2]; rfl
      have H2 := hid h2
      clear h2
      by_cases h3 : f.r = g.r
      · have z3 : decide (f.r = g.r) = true := decide_eq_true h3
        have H3 := hid h3
        clear h3
        by_cases h4 : f.kids.length = g.kids.length
        · have z4 : ((f.kids.length : Int) != (g.kids.length : Int)) = false := by rw [bne, beq_iff_eq.2 (show (f.kids.length : Int) = (g.kids.length : Int) by omega)]; rfl
          have H4 := hid h4
          have HKL := hid (And.intro (show f.kids.length ≤ 1048576 by omega) (show g.kids.length ≤ 1048576 by omega))
          clear h4
          generalize hfn : f.kids.length = fn at *
          generalize hgn : g.kids.length = gn at *
          have HFN := hid hfn.symm
          have HGN := hid hgn.symm
          clear hfn hgn hnl hnf hnl2 hnf2
          have hw2c := HC0.out
          go_wp2
          generalize ((w.alloc (.cells #[.int .i64 f.op, .int .i64 f.k, .string ⟨f.r.1.toArray⟩, .string ⟨f.r.2.toArray⟩, .slice ao fn cp] 26)).alloc (.cells #[.int .i64 g.op, .int .i64 g.k, .string ⟨g.r.1.toArray⟩, .string ⟨g.r.2.toArray⟩, .slice bo gn bp] 26)) = w2 at *
          generalize hA : w.heap.size = A at *
          have HA := hid hA
          have HC2 := hid hw2c
          clear hA hw2c HC0
          go_loopw [37] (fun i wr => ∃ j : Nat, j ≤ fn ∧ i = .int .i64 j ∧ Hid (f.kids.take j = g.kids.take j ∧ Chg (fun _ => False) w2 wr)) (fun i _ => fn - (intOf i).toNat)
          case atStart => exact ⟨0, Nat.zero_le _, rfl, hid ⟨rfl, Chg.refl _ _⟩⟩
          case round =>
            obtain ⟨j, hj, rfl, hrel⟩ := hrel
            have HCR := hid (HC2.out.trans hrel.out.2 (fun _ _ h => h))
            by_cases hlt : j < fn
            · have hltf : j < f.kids.length := by rw [← HFN.out]; exact hlt
              have hltg : j < g.kids.length := by rw [← HGN.out, ← H4.out]; exact hlt
              have hltg2 : j < gn := by rw [HGN.out]; exact hltg
              obtain ⟨fb, fo, hao, hDb, hat⟩ := (HX.out.1.keep HCR.out (fun _ _ => id)) j hltf
              obtain ⟨d, a2, c2, hd2, ⟨x0, x1, x2, x3, x4⟩, hokx, hzx, hkx⟩ := hat.open_
              obtain ⟨gb, go, hbo, hEb, hbt⟩ := (HX.out.2.keep HCR.out (fun _ _ => id)) j hltg
              obtain ⟨d3, b2, d2, hd3, ⟨y0, y1, y2, y3, y4⟩, hoky, hzy, hky⟩ := hbt.open_
              have hnx : f.kids[j] = g.kids[j] → f.kids.take (j + 1) = g.kids.take (j + 1) := fun h => by rw [List.take_succ_eq_append_getElem hltf, List.take_succ_eq_append_getElem hltg, hrel.out.1, h]
              have hno : ¬ f.kids[j] = g.kids[j] → ¬ f = g := fun h e => h (by subst e; rfl)
              have hl1 := nodesL_mem (List.getElem_mem hltf)
              have hl2 := nodesL_mem (List.getElem_mem hltg)
              have hnf := nodesF_eq f
              have hnf2 := nodesF_eq g
              generalize f.kids[j] = x at *
              generalize g.kids[j] = y at *
              obtain ⟨b0, hb0⟩ : ∃ b0 : Bool, (b0 = true ↔ x = y) := by
                classical
                exact ⟨decide (x = y), by simp⟩
              have HSM : Hid (∀ W, Chg (fun _ => False) wr W → Calls Try.prog 11 #[.agg #[.int .i64 x.op, .int .i64 x.k, .string ⟨x.r.1.toArray⟩, .string ⟨x.r.2.toArray⟩, .slice a2 x.kids.length c2], .agg #[.int .i64 y.op, .int .i64 y.k, .string ⟨y.r.1.toArray⟩, .string ⟨y.r.2.toArray⟩, .slice b2 y.kids.length d2]] W fun e w' => e = .returned (.bool b0) ∧ Chg (fun _ => False) W w') := hid (fun W hW => by
                refine (HIN.out d hd2 x a2 c2 d3 y b2 d2 W (hkx.keep hW (fun _ _ => id)) (hky.keep hW (fun _ _ => id)) (by omega) (by omega)).mono ?_
                rintro e w' ⟨b, rfl, hb, hc⟩
                have : b = b0 := by
                  cases b <;> cases b0
                  · rfl
                  · exact absurd (hb.2 (hb0.1 rfl)) (by decide)
                  · exact absurd (hb0.2 (hb.1 rfl)) (by decide)
                  · rfl
                rw [this]
                exact ⟨rfl, hc⟩)
              have HXC := hid (And.intro x0 (And.intro x1 (And.intro x2 (And.intro x3 x4))))
              have HYC := hid (And.intro y0 (And.intro y1 (And.intro y2 (And.intro y3 y4))))
              have HNX := hid (fun h : b0 = true => hnx (hb0.1 h))
              have HNO := hid (fun h : b0 = false => hno (fun e => by rw [hb0.2 e] at h; cases h))
              subst hao hbo
              have q1 := cell_blk (blk_keep HB0.out.1 hrel.out.2 id) 4
              have q2 := cell_blk (blk_keep HB0.out.2 hrel.out.2 id) 4
              simp only [List.getElem?_toArray, List.getElem?_cons_zero, List.getElem?_cons_succ] at q1 q2
              have HBX := hid (And.intro q1 q2)
              have HJ := hid (And.intro hlt hltg2)
              have HLT := hid hlt
              have HC3 := hid hrel.out.2
              clear x0 x1 x2 x3 x4 y0 y1 y2 y3 y4 hkx hky hl1 hl2 hnf hnf2 hb0 hnx hno q1 q2 hltf hltg hltg2 hat hbt hokx hoky hd2 hd3 hrel hzx hzy s0 s1 s2 s3 s4 t0 t1 t2 t3 t4
              go_wp2_with fail
              refine wp_region_specs [.any, .any, .eq (.pointer (some ⟨A, 0, none⟩)), .eq (.pointer (some ⟨A + 1, 0, none⟩)), .any, .eq (.int .i64 (j : Nat)), .any, .any, .any, .any, .any, .any, .any, .any, .any, .any, .any, .any, .any, .any, .any, .any, .any, .any, .any, .any, .any, .any, .any, .any, .any, .any, .any, .any, .any, .any, .any, .any, .any, .any, .eq (.pointer (some ⟨A, 4, none⟩)), .eq (.slice (some ⟨fb, fo, none⟩) fn cp), .eq (.int .i64 (j : Nat)), .eq (.pointer (some ⟨fb, fo + j * 5, none⟩)), .eq (.agg #[.int .i64 x.op, .int .i64 x.k, .string ⟨x.r.1.toArray⟩, .string ⟨x.r.2.toArray⟩, .slice a2 x.kids.length c2]), .eq (.pointer (some ⟨A + 1, 4, none⟩)), .eq (.slice (some ⟨gb, go, none⟩) gn bp), .eq (.int .i64 (j : Nat)), .eq (.pointer (some ⟨gb, go + j * 5, none⟩)), .eq (.agg #[.int .i64 y.op, .int .i64 y.k, .string ⟨y.r.1.toArray⟩, .string ⟨y.r.2.toArray⟩, .slice b2 y.kids.length d2]), .eq (.bool b0), .eq (.bool (!b0)), .any] [40, 41, 42, 43, 44, 45, 46, 47, 48, 49, 50, 51] [2, 3, 5] (by kernel_rfl) (by kernel_rfl) (by rfl) (by kernel_rfl) ?start ?obs ?fin
              case start =>
                simp only [List.forall_mem_cons]; exact ⟨⟨_, rfl, rfl⟩, ⟨_, rfl, rfl⟩, ⟨_, rfl, rfl⟩, fun _ h => by cases h⟩
              case obs =>
                skip
                refine Obs.cons none (by kernel_rfl) ?_ ?_
                · refine Ob.plain fun a w hR hk K k => ?_
                  obtain ⟨_, e2, rfl⟩ := hk 2 (by decide)
                  clear hk
                  go_simp
                  exact k _ _ (Chg.refl _ _) rfl
                refine Obs.cons none (by kernel_rfl) ?_ ?_
                · refine Ob.plain fun a w hR hk K k => ?_
                  obtain ⟨_, e40, rfl⟩ := hk 40 (by decide)
                  clear hk
                  have z := hR.cell HBX.out.1 id
                  go_simp
                  exact k _ _ (Chg.refl _ _) rfl
                refine Obs.cons none (by kernel_rfl) ?_ ?_
                · refine Ob.plain fun a w hR hk K k => ?_
                  obtain ⟨_, e5, f5⟩ := hk 5 (by decide)
                  clear hk
                  go_simp
                  exact k _ _ (Chg.refl _ _) f5
                refine Obs.cons none (by kernel_rfl) ?_ ?_
                · refine Ob.plain fun a w hR hk K k => ?_
                  obtain ⟨_, e41, rfl⟩ := hk 41 (by decide)
                  obtain ⟨_, e42, rfl⟩ := hk 42 (by decide)
                  clear hk
                  have z := HJ.out.1
                  go_simp
                  exact k _ _ (Chg.refl _ _) rfl
                refine Obs.cons none (by kernel_rfl) ?_ ?_
                · refine Ob.plain fun a w hR hk K k => ?_
                  obtain ⟨_, e43, rfl⟩ := hk 43 (by decide)
                  clear hk
                  obtain ⟨k0, k1, k2, k3, k4⟩ := HXC.out
                  have z0 := hR.cell k0 id
                  have z1 := hR.cell k1 id
                  have z2 := hR.cell k2 id
                  have z3 := hR.cell k3 id
                  have z4 := hR.cell k4 id
                  clear k0 k1 k2 k3 k4
                  go_simp
                  exact k _ _ (Chg.refl _ _) rfl
                refine Obs.cons none (by kernel_rfl) ?_ ?_
                · refine Ob.plain fun a w hR hk K k => ?_
                  obtain ⟨_, e3, rfl⟩ := hk 3 (by decide)
                  clear hk
                  go_simp
                  exact k _ _ (Chg.refl _ _) rfl
                refine Obs.cons none (by kernel_rfl) ?_ ?_
                · refine Ob.plain fun a w hR hk K k => ?_
                  obtain ⟨_, e45, rfl⟩ := hk 45 (by decide)
                  clear hk
                  have z := hR.cell HBX.out.2 id
                  go_simp
                  exact k _ _ (Chg.refl _ _) rfl
                refine Obs.cons none (by kernel_rfl) ?_ ?_
                · refine Ob.plain fun a w hR hk K k => ?_
                  obtain ⟨_, e5, f5⟩ := hk 5 (by decide)
                  clear hk
                  go_simp
                  exact k _ _ (Chg.refl _ _) f5
                refine Obs.cons none (by kernel_rfl) ?_ ?_
                · refine Ob.plain fun a w hR hk K k => ?_
                  obtain ⟨_, e46, rfl⟩ := hk 46 (by decide)
                  obtain ⟨_, e47, rfl⟩ := hk 47 (by decide)
                  clear hk
                  have z := HJ.out.2
                  go_simp
                  exact k _ _ (Chg.refl _ _) rfl
                refine Obs.cons none (by kernel_rfl) ?_ ?_
                · refine Ob.plain fun a w hR hk K k => ?_
                  obtain ⟨_, e48, rfl⟩ := hk 48 (by decide)
                  clear hk
                  obtain ⟨k0, k1, k2, k3, k4⟩ := HYC.out
                  have z0 := hR.cell k0 id
                  have z1 := hR.cell k1 id
                  have z2 := hR.cell k2 id
                  have z3 := hR.cell k3 id
                  have z4 := hR.cell k4 id
                  clear k0 k1 k2 k3 k4
                  go_simp
                  exact k _ _ (Chg.refl _ _) rfl
                refine Obs.cons none (by kernel_rfl) ?_ ?_
                · refine Ob.plain fun a w hR hk K k => ?_
                  obtain ⟨_, e44, rfl⟩ := hk 44 (by decide)
                  obtain ⟨_, e49, rfl⟩ := hk 49 (by decide)
                  clear hk
                  go_simp
                  refine (HSM.out w hR).mono ?_
                  rintro e w8 ⟨rfl, hc8⟩
                  exact k _ _ hc8 rfl
                refine Obs.cons none (by kernel_rfl) ?_ ?_
                · refine Ob.plain fun a w hR hk K k => ?_
                  obtain ⟨_, e50, rfl⟩ := hk 50 (by decide)
                  clear hk
                  go_simp
                  exact k _ _ (Chg.refl _ _) rfl
                exact Obs.nil
              case fin =>
                intro vals w9 hc9 hv
                have h51 : vals 51 = .bool (!b0) := hv 51 (by decide)
                simp only [putAll, List.setIfInBounds_toArray, List.set_cons_zero, List.set_cons_succ, h51]
                have HC9 := hid (HCR.out.trans hc9 (fun _ _ h => h))
                have HC8 := hid (HC3.out.trans hc9 (fun _ _ h => h))
                clear hc9 hv h51 HSM HXC HYC
                cases b0 with
                | false =>
                  simp only [Bool.not_false]
                  go_wp2
                  go_ret
                  exact ⟨false, rfl, ⟨fun h => (by cases h), fun h => absurd h (by first | exact HNO.out rfl | exact HNO.out trivial | exact HNO.out)⟩, HC9.out⟩
                | true =>
                  simp only [Bool.not_true]
                  have hkl := HKL.out.1
                  go_wp2
                  go_roundw
                  case rel => exact ⟨j + 1, HLT.out, by go_num, hid ⟨(by first | exact HNX.out rfl | exact HNX.out trivial | exact HNX.out), HC8.out⟩⟩
                  case measure => have := HLT.out; simp [intOf]; omega
            · have hje : j = fn := by omega
              have HEQ : Hid (f = g) := hid (fm_ext H1.out H2.out H3.out (by
                have := hrel.out.1
                rw [hje, List.take_of_length_le (by rw [HFN.out]; exact Nat.le_refl _), List.take_of_length_le (by rw [← HGN.out, H4.out]; exact Nat.le_refl _)] at this
                exact this))
              clear hrel hje
              go_wp2
              go_ret
              exact ⟨true, rfl, ⟨fun _ => HEQ.out, fun _ => rfl⟩, HCR.out⟩
        · have z4 : ((f.kids.length : Int) != (g.kids.length : Int)) = true := by
            have : ¬ (f.kids.length : Int) = (g.kids.length : Int) := by omega
            simpa using this
          have HN : Hid (¬ f = g) := hid (fun h => h4 (by rw [h]))
          clear h4
          go_wp2
          go_ret
          exact ⟨false, rfl, ⟨fun h => (by cases h), fun h => absurd h HN.out⟩, HC0.out⟩
      · have z3 : decide (f.r = g.r) = false := decide_eq_false h3
        have HN : Hid (¬ f = g) := hid (fun h => h3 (by rw [h]))
        clear h3
        go_wp2
        go_ret
        exact ⟨false, rfl, ⟨fun h => (by cases h), fun h => absurd h HN.out⟩, HC0.out⟩
    · have z2 : (f.k != g.k) = true := by simpa using h2
      have HN : Hid (¬ f = g) := hid (fun h => h2 (by rw [h]))
      clear h2
      go_wp2
      go_ret
      exact ⟨false, rfl, ⟨fun h => (by cases h), fun h => absurd h HN.out⟩, HC0.out⟩
  · have z1 : (f.op != g.op) = true := by simpa using h1
    have HN : Hid (¬ f = g) := hid (fun h => h1 (by rw [h]))
    clear h1
    go_wp2
    go_ret
    exact ⟨false, rfl, ⟨fun h => (by cases h), fun h => absurd h HN.out⟩, HC0.out⟩
end Go.Proofs.Ytcbfieodjbfjdaa

/- Rows of formulas that can be read: their Kids lie anywhere. -/
namespace Go.Proofs.Ytcbfieodjbfjdaa
open Go.RowKit

/-- A formula, and where its Kids lie. -/
structure DE where
  f : FmB
  ao : Option Addr
  cp : Nat
def cellsD (e : DE) : List Value := [.int .i64 e.f.op, .int .i64 e.f.k, .string ⟨e.f.r.1.toArray⟩, .string ⟨e.f.r.2.toArray⟩, .slice e.ao e.f.kids.length e.cp]
def valD (e : DE) : Value := .agg #[.int .i64 e.f.op, .int .i64 e.f.k, .string ⟨e.f.r.1.toArray⟩, .string ⟨e.f.r.2.toArray⟩, .slice e.ao e.f.kids.length e.cp]
def rowD (ls : List DE) : List Value := ls.flatMap cellsD
theorem rowD_len (l : List DE) : (rowD l).length = l.length * 5 := by
  unfold rowD
  induction l with
  | nil => rfl
  | cons x l ih => rw [List.flatMap_cons, List.length_append, ih, List.length_cons]; simp [cellsD]; omega
theorem rowD_app (a b : List DE) : rowD (a ++ b) = rowD a ++ rowD b := by simp [rowD]
theorem rowD_get : ∀ (ls : List DE) (i j : Nat) (h : i < ls.length) (_ : j < 5), (rowD ls)[i * 5 + j]? = (cellsD ls[i])[j]?
  | x :: l, 0, j, _, hj => by
    rw [Nat.zero_mul, Nat.zero_add, rowD, List.flatMap_cons, List.getElem?_append_left (by simpa [cellsD] using hj)]
    rfl
  | x :: l, i + 1, j, h, hj => by
    have hl : (cellsD x).length = 5 := rfl
    have := rowD_get l i j (by simpa using h) hj
    rw [rowD, List.flatMap_cons, List.getElem?_append_right (by rw [hl, Nat.add_mul]; omega), hl]
    rw [show (i + 1) * 5 + j - 5 = i * 5 + j by rw [Nat.add_mul]; omega]
    exact this
theorem rowD_one (ls : List DE) : ∀ u ∈ rowD ls, u.oneCell' = true := by
  intro u hu
  obtain ⟨e, _, hu⟩ := List.mem_flatMap.1 hu
  simp only [cellsD, List.mem_cons, List.not_mem_nil, or_false] at hu
  rcases hu with rfl | rfl | rfl | rfl | rfl <;> rfl
/-- It can be read: its Kids lie in blocks of D. -/
structure DOk (D : Nat → Prop) (w : World) (e : DE) : Prop where
  at_ : ∃ n, FmsAt D w n e.ao e.f.kids
  ok : FmOk e.f
  z : e.ao = none → e.cp = 0
  n : nodesF e.f ≤ 4000
  sp : e.f.op ≠ 1 → ∀ a, e.ao = some a → a.spot = none
theorem DOk.keep {S D : Nat → Prop} {w w' : World} {e : DE} (h : DOk D w e) (hc : Chg S w w') (hS : ∀ i, D i → ¬ S i) : DOk D w' e :=
  ⟨by obtain ⟨n, hn⟩ := h.at_; exact ⟨n, hn.keep hc hS⟩, h.ok, h.z, h.n, h.sp⟩
theorem DOk.spot {D : Nat → Prop} {w : World} {e : DE} (h : DOk D w e) (h1 : e.f.op ≠ 1) : ∀ a, e.ao = some a → a.spot = none := h.sp h1
/-- The five cells of an element. -/
def CellsE (w : World) (b o : Nat) (e : DE) : Prop := w.cell? ⟨b, o, none⟩ = some (.int .i64 e.f.op) ∧ w.cell? ⟨b, o + 1, none⟩ = some (.int .i64 e.f.k) ∧ w.cell? ⟨b, o + 2, none⟩ = some (.string ⟨e.f.r.1.toArray⟩) ∧ w.cell? ⟨b, o + 3, none⟩ = some (.string ⟨e.f.r.2.toArray⟩) ∧ w.cell? ⟨b, o + 4, none⟩ = some (.slice e.ao e.f.kids.length e.cp)
theorem CellsE.keep {S : Nat → Prop} {w w' : World} {b o : Nat} {e : DE} (h : CellsE w b o e) (hc : Chg S w w') (hS : ¬ S b) : CellsE w' b o e := ⟨hc.cell h.1 hS, hc.cell h.2.1 hS, hc.cell h.2.2.1 hS, hc.cell h.2.2.2.1 hS, hc.cell h.2.2.2.2 hS⟩
/-- A row that can be read. -/
def RdD (w : World) (ao : Option Addr) (ls : List DE) : Prop := ∀ j (h : j < ls.length), ∃ b off, ao = some ⟨b, off, none⟩ ∧ CellsE w b (off + j * 5) ls[j]
theorem RdD.keep {w w' : World} {ao : Option Addr} {ls : List DE} (h : RdD w ao ls) (hc : Chg (fun _ => False) w w') : RdD w' ao ls := fun j hj => by
  obtain ⟨b, off, h1, h2⟩ := h j hj
  exact ⟨b, off, h1, h2.keep hc id⟩
theorem own_rd {B : Nat} {w : World} {ao : Option Addr} {n cp : Nat} {ls : List DE} (h : w.ownsRow B 26 5 (.slice ao n cp) ls.length (rowD ls)) : RdD w ao ls := fun j hj => by
  rcases h.2 with ⟨he, h0⟩ | ⟨g, cap, cur, he, hg, hh, k1, k2, k3, k4⟩
  · omega
  · cases he
    have key : ∀ i, i < 5 → w.cell? ⟨g, j * 5 + i, none⟩ = (cellsD ls[j])[i]? := fun i hi => by
      have hget := rowD_get ls j i hj hi
      have hs : i < (cellsD ls[j]).length := hi
      rw [List.getElem?_eq_getElem hs] at hget ⊢
      have := h.cells (g := g) rfl (j * 5 + i) _ hget
      rw [add_off, Nat.zero_add] at this
      exact this
    exact ⟨g, 0, rfl, by rw [Nat.zero_add]; exact ⟨key 0 (by omega), key 1 (by omega), key 2 (by omega), key 3 (by omega), key 4 (by omega)⟩⟩
theorem rowD_shape {B : Nat} {w : World} {v : Value} {l : List DE} (h : w.ownsRow B 26 5 v l.length (rowD l)) : ∃ ao cp, v = .slice ao l.length cp ∧ (ao = none → cp = 0) ∧ l.length ≤ cp ∧ ∀ a, ao = some a → a.off = 0 ∧ a.spot = none := by
  rcases h.2 with ⟨rfl, h0⟩ | ⟨g, cap, cur, rfl, _, _, h1, _⟩
  · exact ⟨none, 0, by rw [h0], fun _ => rfl, by omega, fun _ h => by cases h⟩
  · exact ⟨_, _, rfl, fun e => (by cases e), h1, fun a h => by cases h; exact ⟨rfl, rfl⟩⟩
/-- As a source of an append. -/
theorem rd_src {w : World} {b off : Nat} {ls : List DE} (h : RdD w (some ⟨b, off, none⟩) ls) (j : Nat) (u : Value) (hj : (rowD ls)[j]? = some u) : w.cell? ((⟨b, off, none⟩ : Addr).add j) = some u := by
  have hlt : j < (rowD ls).length := (List.getElem?_eq_some_iff.1 hj).1
  rw [rowD_len] at hlt
  have hq : j / 5 < ls.length := by omega
  have hg := rowD_get ls (j / 5) (j % 5) hq (Nat.mod_lt _ (by decide))
  rw [show j / 5 * 5 + j % 5 = j by omega, hj] at hg
  obtain ⟨b', off', e, c0, c1, c2, c3, c4⟩ := h (j / 5) hq
  cases e
  rw [add_off]
  have hm := Nat.mod_lt j (show 0 < 5 by decide)
  rcases (show j % 5 = 0 ∨ j % 5 = 1 ∨ j % 5 = 2 ∨ j % 5 = 3 ∨ j % 5 = 4 by omega) with e | e | e | e | e <;> rw [e] at hg <;> simp only [cellsD, List.getElem?_cons_zero, List.getElem?_cons_succ] at hg <;> rw [hg]
  · rw [show off + j = off + j / 5 * 5 by omega]; exact c0
  · rw [show off + j = off + j / 5 * 5 + 1 by omega]; exact c1
  · rw [show off + j = off + j / 5 * 5 + 2 by omega]; exact c2
  · rw [show off + j = off + j / 5 * 5 + 3 by omega]; exact c3
  · rw [show off + j = off + j / 5 * 5 + 4 by omega]; exact c4
theorem runD {B : Nat} {w : World} {v : Value} {ts us : List DE} (ty : TypeId) (hown : w.ownsRow B 26 5 v ts.length (rowD ts)) (ao : Option Addr) (n cp : Nat) (hn : n = us.length) (hz : ao = none → cp = 0) (hp : ∀ a, ao = some a → a.spot = none) (hs : RdD w ao us) (hlen : ts.length + us.length ≤ 1048576) (hB : B ≤ w.heap.size) :
    ∃ v' w', (Builtin.append_ #[24, 24] ty #[v, .slice ao n cp]).run Try.prog w = .ok v' w' ∧ w'.ownsRow B 26 5 v' (ts ++ us).length (rowD (ts ++ us)) ∧ Chg (fun k => v.ownBlock = some k) w w' ∧ (v'.ownBlock = v.ownBlock ∨ v'.ownBlock = some w.heap.size) := by
  obtain ⟨i0, hi, hz0, hz1, hz2⟩ := info_parts Try.info26
  subst hn
  cases ao with
  | none =>
    have : us = [] := by
      cases us with
      | nil => rfl
      | cons x l => obtain ⟨_, _, e, _⟩ := hs 0 (by simp); cases e
    subst this
    rw [hz rfl]
    exact ⟨v, w, run_append_owned_none (P := Try.prog) (w := w) B 24 ty 26 i0 5 Try.underlying24b hi v _ _ hown, by rw [List.append_nil]; exact hown, Chg.refl _ w, .inl rfl⟩
  | some a =>
    obtain ⟨b, off, spot⟩ := a
    have := hp _ rfl
    simp only at this
    subst this
    obtain ⟨v', w', k1, k2, k3, k4⟩ := run_append_own_atD (P := Try.prog) w B 24 ty 26 i0 (.agg #[.int .i64 0, .int .i64 0, .string ⟨#[]⟩, .string ⟨#[]⟩, .slice none 0 0]) 5 72 Try.underlying24b hi hz0 hz1 hz2 rfl (by decide) v _ _ hown ⟨b, off, none⟩ us.length cp (rowD us) (rowD_len us) (fun j u hj => rd_src hs j u hj) (rowD_one us) (by unfold maxLen; omega) (by omega) hB
    exact ⟨v', w', k1, by rw [List.length_append, rowD_app]; exact k2, (Chg.refl _ w).grown k3 fun k e _ => e, k4.2⟩
/-- One, in a block of its own. -/
theorem rd_new (w : World) (e : DE) : RdD (w.alloc (.cells #[.int .i64 e.f.op, .int .i64 e.f.k, .string ⟨e.f.r.1.toArray⟩, .string ⟨e.f.r.2.toArray⟩, .slice e.ao e.f.kids.length e.cp] 26)) (some ⟨w.heap.size, 0, none⟩) [e] := fun j hj => by
  have : j = 0 := by simp at hj; omega
  subst this
  have hb := heap_alloc_new w (.cells #[.int .i64 e.f.op, .int .i64 e.f.k, .string ⟨e.f.r.1.toArray⟩, .string ⟨e.f.r.2.toArray⟩, .slice e.ao e.f.kids.length e.cp] 26)
  exact ⟨_, _, rfl, cell_blk hb 0, cell_blk hb 1, cell_blk hb 2, cell_blk hb 3, cell_blk hb 4⟩
end Go.Proofs.Ytcbfieodjbfjdaa
