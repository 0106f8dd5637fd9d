/- Texts that the proof leans on, in one: PcTells, OpenB, RoleCells, RefCredGreat, CredOpen, FmOpen. -/
import Derived.Test.YtojbhlbknjnioaaGreatDoorPt24
import Derived.Test.YtojbhlbknjnioaaGreatDoorPt26
import Derived.Test.YtojbhlbknjnioaaGreatDoorPt27
import Derived.Test.YtojbhlbknjnioaaGreatDoorRows
import Derived.Test.YtojbhlbknjnioaaGreatDoorPt1
import Derived.ProofKit
import Derived.OpenShut
import Derived.ShutString
import Derived.ChangeOld
import Derived.Deep.Slices
import Derived.Deep.Fields
import Derived.ChangeSame
import Derived.Test.YtojbhlbknjnioaaGreatDoorPt9
import Derived.Test.YtojbhlbknjnioaaGreatDoorProg
import Derived.Test.YtojbhlbknjnioaaGreatDoorChecked
import Derived.Deep.QuietTactic
import Derived.BigQuiet
import Derived.Test.YtojbhlbknjnioaaGreatDoorPt2
/- The law ParseTells, walked. -/
namespace Go.Proofs.YtojbhlbknjnioaaGreatDoor
open Go.RowKit

/-- ententeref11.Same of two of the call's own, at any later world. -/
theorem own_sameR {B C : Nat} {w0 : World} (t u : AT) {ao bo : Option Addr} {q cp r dp : Nat} (e3' : OwnA B w0 t) (hv : t.v = .slice ao q cp) (hu : u.v = .slice bo r dp) (k0 : OwnA C w0 u) (hN : nodesF (eraseA t) ≤ 4096) (hM : nodesF (eraseA u) ≤ 4096) (w : World) (hc : Chg (fun _ => False) w0 w) :
    Calls Tryz.prog 12 #[.agg #[.int .i64 t.op, .int .i64 t.k, .string ⟨t.r.1.toArray⟩, .string ⟨t.r.2.toArray⟩, .slice ao q cp], .agg #[.int .i64 u.op, .int .i64 u.k, .string ⟨u.r.1.toArray⟩, .string ⟨u.r.2.toArray⟩, .slice bo r dp]] w (SameR (eraseA t) (eraseA u) w) := by
  obtain ⟨k1, k2, k3, k4, k5, k6, k7⟩ := own_fms2 (ownA_keep hc t e3' (fun _ _ => id)) hv
  obtain ⟨j1, j2, j3, j4, j5, j6, j7⟩ := own_fms2 (ownA_keep hc u k0 (fun _ _ => id)) hu
  have h := rn_same _ (eraseA t) ao cp _ (eraseA u) bo dp w k3 j3 (by omega) (by omega)
  rw [← k1, k5, k6, k7, ← j1, j5, j6, j7] at h
  exact h

set_option maxRecDepth 100000 in
set_option maxHeartbeats 16000000 in
theorem ptells_main {D : Nat → Prop} (n : Nat) (f : FmB) (ao : Option Addr) (cp : Nat) (s : List UInt8) (w : World) (h : FmsAt D w n ao f.kids) (hok : FmOk f) (hz : ao = none → cp = 0) (hD : ∀ i, D i → i < w.heap.size) (hG : greatF f ≤ 4503599627370496) (hs : s.length ≤ 9223372036854775807) (hv : VarsAt w) :
    Calls Tryz.prog 3 #[.agg #[.int .i64 f.op, .int .i64 f.k, .string ⟨f.r.1.toArray⟩, .string ⟨f.r.2.toArray⟩, .slice ao f.kids.length cp], .string ⟨s.toArray⟩] w fun e w' => e = .returned (.bool true) ∧ Chg (fun _ => False) w w' := by
  have hc2 : Chg (fun _ => False) w (w.alloc (.cells #[.int .i64 f.op, .int .i64 f.k, .string ⟨f.r.1.toArray⟩, .string ⟨f.r.2.toArray⟩, .slice ao f.kids.length cp] 26)) := (Chg.refl _ w).alloc _
  have hF := heap_alloc_new w (.cells #[.int .i64 f.op, .int .i64 f.k, .string ⟨f.r.1.toArray⟩, .string ⟨f.r.2.toArray⟩, .slice ao f.kids.length cp] 26)
  have HFI := hid (pfirst (w.alloc (.cells #[.int .i64 f.op, .int .i64 f.k, .string ⟨f.r.1.toArray⟩, .string ⟨f.r.2.toArray⟩, .slice ao f.kids.length cp] 26)) (hv.keep hc2 ⟨id, id⟩))
  have HB := hid (And.intro hF hc2)
  have HY := hid (And.intro h (And.intro hok (And.intro hz (And.intro hD hG))))
  have HS := hid hs
  have HV2 := hid (hv.keep hc2 ⟨id, id⟩)
  have HN0 := hid (show nodesF (parseF s).1 ≤ 4096 from parse_nodes s)
  clear hc2 hF h hok hz hD hG hs hv
  go_enter Tryz.func3, Tryz.ntmps3
  go_wp2_with fail
  refine HFI.out.mono ?_
  rintro e w3 ⟨rfl, hc3⟩
  have HC3 := hid hc3
  clear hc3
  have hf := blk_keep HB.out.1 HC3.out id
  have f0 := cell_blk hf 0
  have f1 := cell_blk hf 1
  have f2 := cell_blk hf 2
  have f3 := cell_blk hf 3
  have f4 := cell_blk hf 4
  simp only [List.getElem?_toArray, List.getElem?_cons_zero, List.getElem?_cons_succ] at f0 f1 f2 f3 f4
  clear hf
  have HGR := hid (fm_great (D := fun k => D k ∨ k = w3.heap.size) (n + 1) (some ⟨w3.heap.size, 0, none⟩) 1 [f] (w3.alloc (.cells #[.int .i64 f.op, .int .i64 f.k, .string ⟨f.r.1.toArray⟩, .string ⟨f.r.2.toArray⟩, .slice ao f.kids.length cp] 26)) (by have := HY.out.2.2.2.2; simp only [greatL]; omega) (fun i hi => by
    have hi : i < 1 := hi
    have h0 : i = 0 := by omega
    subst h0
    exact ⟨w3.heap.size, 0, rfl, .inr rfl, fm_at_blk (heap_alloc_new w3 _) HY.out.2.1 HY.out.2.2.1 (((HY.out.1.keep (HB.out.2.trans HC3.out (fun _ _ h => h)) (fun _ _ => id)).keep ((Chg.refl (fun _ => False) w3).alloc _) (fun _ _ => id)).mono (fun _ h => .inl h))⟩))
  go_wp2_with fail
  refine HGR.out.mono ?_
  rintro e w4 ⟨rfl, hc4⟩
  have HCC := hid (HC3.out.trans (((Chg.refl (fun _ => False) w3).alloc (.cells #[.int .i64 f.op, .int .i64 f.k, .string ⟨f.r.1.toArray⟩, .string ⟨f.r.2.toArray⟩, .slice ao f.kids.length cp] 26)).trans hc4 (fun _ _ h => h)) (fun _ _ h => h))
  clear hc4 HGR HFI HC3 f0 f1 f2 f3 f4
  obtain ⟨g, hg⟩ : ∃ g, g = greatL [f] := ⟨_, rfl⟩
  rw [← hg]
  have HG := hid (show g = greatF f by rw [hg]; simp [greatL])
  clear hg
  have hgb : g ≤ 4503599627370496 := by rw [HG.out]; exact HY.out.2.2.2.2
  by_cases h300 : 300 < g
  · have z1 : decide ((300 : Int) < (g : Int)) = true := decide_eq_true (by omega)
    clear h300
    go_wp2
    go_ret
    exact ⟨rfl, HB.out.2.trans HCC.out (fun _ _ h => h)⟩
  · have z1 : decide ((300 : Int) < (g : Int)) = false := decide_eq_false (by omega)
    have HNB := hid (show nodesF f ≤ 300 by have := great_nodes f; have := HG.out; omega)
    clear h300
    by_cases h48 : 2500 < s.length
    · have z2 : decide ((2500 : Int) < (s.length : Int)) = true := decide_eq_true (by omega)
      clear h48
      go_wp2
      go_ret
      exact ⟨rfl, HB.out.2.trans HCC.out (fun _ _ h => h)⟩
    · have z2 : decide ((2500 : Int) < (s.length : Int)) = false := decide_eq_false (by omega)
      clear h48
      have HRT := hid (rn_right (D := D) n f ao cp w4 (HY.out.1.keep (HB.out.2.trans HCC.out (fun _ _ h => h)) (fun _ _ => id)) HY.out.2.1 (by have := HNB.out; omega))
      have hf := blk_keep HB.out.1 HCC.out id
      have f0 := cell_blk hf 0
      have f1 := cell_blk hf 1
      have f2 := cell_blk hf 2
      have f3 := cell_blk hf 3
      have f4 := cell_blk hf 4
      simp only [List.getElem?_toArray, List.getElem?_cons_zero, List.getElem?_cons_succ] at f0 f1 f2 f3 f4
      clear hf
      go_wp2_with fail
      refine HRT.out.mono ?_
      rintro e w5 ⟨rfl, hc5⟩
      have HCC5 := hid (HCC.out.trans hc5 (fun _ _ h => h))
      clear hc5 HRT f0 f1 f2 f3 f4 HCC
      have HCC := HCC5
      clear HCC5
      have hfb := blk_keep HB.out.1 HCC.out id
      have f0 := cell_blk hfb 0
      have f1 := cell_blk hfb 1
      have f2 := cell_blk hfb 2
      have f3 := cell_blk hfb 3
      have f4 := cell_blk hfb 4
      simp only [List.getElem?_toArray, List.getElem?_cons_zero, List.getElem?_cons_succ] at f0 f1 f2 f3 f4
      clear hfb
      cases hf : isF f with
      | false =>
        have HTP : Hid (textP f = []) := hid (by unfold textP; rw [hf]; rfl)
        clear hf
        have HPS := hid (pparseF s HS.out w5 (HV2.out.keep HCC.out ⟨id, id⟩))
        go_wp2_with fail
        refine HPS.out.mono ?_
        intro e v1 hp
        obtain ⟨hq1, t, ax, qx, cx, e1, e2, rfl, e3, e4⟩ := hp
        have HC1 := hid ((HCC.out.trans hq1 (fun _ _ h => h)).trans ((Chg.refl (fun _ => False) v1).alloc (.cells #[.int .i64 t.op, .int .i64 t.k, .string ⟨t.r.1.toArray⟩, .string ⟨t.r.2.toArray⟩, .slice ax qx cx] 26)) (fun _ _ h => h))
        have HX1 := hid (heap_alloc_new v1 (.cells #[.int .i64 t.op, .int .i64 t.k, .string ⟨t.r.1.toArray⟩, .string ⟨t.r.2.toArray⟩, .slice ax qx cx] 26))
        have HOX := hid (And.intro (ownA_keep ((Chg.refl (fun _ => False) v1).alloc (.cells #[.int .i64 t.op, .int .i64 t.k, .string ⟨t.r.1.toArray⟩, .string ⟨t.r.2.toArray⟩, .slice ax qx cx] 26)) t e3 (fun _ _ => id)) (And.intro e1 e2))
        obtain ⟨m, hm⟩ : ∃ m : Int, m = (((parseF s).2 : Nat) : Int) := ⟨_, rfl⟩
        rw [← hm]
        have HM := hid hm
        clear hq1 e1 e2 e3 e4 HPS HCC hm
        unfold FmVal
        have HPR := hid (rparseF s HS.out (v1.alloc (.cells #[.int .i64 t.op, .int .i64 t.k, .string ⟨t.r.1.toArray⟩, .string ⟨t.r.2.toArray⟩, .slice ax qx cx] 26)))
        go_wp2_with fail
        refine HPR.out.mono ?_
        intro e v2 hp
        obtain ⟨hq2, u, ay, qy, cy, e1, e2, rfl, e3, e4⟩ := hp
        rw [← HM.out]
        have hc2' := hq2.trans ((Chg.refl (fun _ => False) v2).alloc (.cells #[.int .i64 u.op, .int .i64 u.k, .string ⟨u.r.1.toArray⟩, .string ⟨u.r.2.toArray⟩, .slice ay qy cy] 26)) (fun _ _ h => h)
        have HC2 := hid (HC1.out.trans hc2' (fun _ _ h => h))
        have hX2 := blk_keep HX1.out hc2' id
        have hY2 := heap_alloc_new v2 (.cells #[.int .i64 u.op, .int .i64 u.k, .string ⟨u.r.1.toArray⟩, .string ⟨u.r.2.toArray⟩, .slice ay qy cy] 26)
        have HOS := hid (own_sameR t u (e3' := ownA_keep hc2' t HOX.out.1 (fun _ _ => id)) HOX.out.2.2 e2 (ownA_keep ((Chg.refl (fun _ => False) v2).alloc (.cells #[.int .i64 u.op, .int .i64 u.k, .string ⟨u.r.1.toArray⟩, .string ⟨u.r.2.toArray⟩, .slice ay qy cy] 26)) u e3 (fun _ _ => id)) (by rw [HOX.out.2.1]; exact HN0.out) (by rw [e1]; exact HN0.out))
        have HEQ := hid (HOX.out.2.1.trans e1.symm)
        have HB2 := hid (And.intro hX2 hY2)
        have hfz := blk_keep HB.out.1 HC2.out id
        clear f0 f1 f2 f3 f4
        have f0 := cell_blk hfz 0
        have f1 := cell_blk hfz 1
        have f2 := cell_blk hfz 2
        have f3 := cell_blk hfz 3
        have f4 := cell_blk hfz 4
        simp only [List.getElem?_toArray, List.getElem?_cons_zero, List.getElem?_cons_succ] at f0 f1 f2 f3 f4
        have HTX := hid (pText (D := D) n f ao cp (v2.alloc (.cells #[.int .i64 u.op, .int .i64 u.k, .string ⟨u.r.1.toArray⟩, .string ⟨u.r.2.toArray⟩, .slice ay qy cy] 26)) (HY.out.1.keep (HB.out.2.trans HC2.out (fun _ _ h => h)) (fun _ _ => id)) (fun i hi => Nat.lt_of_lt_of_le (HY.out.2.2.2.1 i hi) (HB.out.2.trans HC2.out (fun _ _ h => h)).size) HY.out.2.1 (by have := HNB.out; omega))
        clear hq2 hc2' hX2 hY2 e1 e2 e3 e4 HPR hfz
        unfold FmVal
        go_wp2_with fail
        refine HTX.out.mono ?_
        rintro e v3 ⟨rfl, hc3⟩
        rw [HTP.out]
        have hX3 := blk_keep HB2.out.1 hc3 id
        have hY3 := blk_keep HB2.out.2 hc3 id
        have x0 := cell_blk hX3 0
        have x1 := cell_blk hX3 1
        have x2 := cell_blk hX3 2
        have x3 := cell_blk hX3 3
        have x4 := cell_blk hX3 4
        simp only [List.getElem?_toArray, List.getElem?_cons_zero, List.getElem?_cons_succ] at x0 x1 x2 x3 x4
        have y0 := cell_blk hY3 0
        have y1 := cell_blk hY3 1
        have y2 := cell_blk hY3 2
        have y3 := cell_blk hY3 3
        have y4 := cell_blk hY3 4
        simp only [List.getElem?_toArray, List.getElem?_cons_zero, List.getElem?_cons_succ] at y0 y1 y2 y3 y4
        have HOS2 := hid (fun hc => HOS.out v3 hc)
        have HC3 := hid (HC2.out.trans hc3 (fun _ _ h => h))
        have HOS3 := hid (HOS.out v3 hc3)
        clear hX3 hY3 hc3 HOS2 HTX f0 f1 f2 f3 f4 HOS HB2
        go_wp2_with fail
        refine HOS3.out.mono ?_
        rintro e v4 ⟨b, rfl, hb, hc4⟩
        have hbt : b = true := hb.2 HEQ.out
        subst hbt
        have HC4 := hid (HB.out.2.trans (HC3.out.trans hc4 (fun _ _ h => h)) (fun _ _ h => h))
        clear hb hc4 HOS3
        go_wp2
        go_ret
        exact ⟨rfl, HC4.out⟩
      | true =>
        have hif := isF_right9 hf
        have HTT := hid (rtext12 (D := D) n f ao cp w5 (HY.out.1.keep (HB.out.2.trans HCC.out (fun _ _ h => h)) (fun _ _ => id)) HY.out.2.1 hif.2.2 hif.1)
        obtain ⟨tx, htx⟩ : ∃ tx, tx = textF f := ⟨_, rfl⟩
        have HTP : Hid (textP f = tx) := hid (by unfold textP; rw [hf, htx]; rfl)
        rw [← htx] at HTT
        clear hf hif htx
        go_wp2_with fail
        refine HTT.out.mono ?_
        rintro e w6 ⟨rfl, hc6⟩
        have HCC6 := hid (HCC.out.trans hc6 (fun _ _ h => h))
        clear hc6 HTT HCC f0 f1 f2 f3 f4
        have HCC := HCC6
        clear HCC6
        have hfb := blk_keep HB.out.1 HCC.out id
        have f0 := cell_blk hfb 0
        have f1 := cell_blk hfb 1
        have f2 := cell_blk hfb 2
        have f3 := cell_blk hfb 3
        have f4 := cell_blk hfb 4
        simp only [List.getElem?_toArray, List.getElem?_cons_zero, List.getElem?_cons_succ] at f0 f1 f2 f3 f4
        clear hfb
        have HPS := hid (pparseF s HS.out w6 (HV2.out.keep HCC.out ⟨id, id⟩))
        go_wp2_with fail
        refine HPS.out.mono ?_
        intro e v1 hp
        obtain ⟨hq1, t, ax, qx, cx, e1, e2, rfl, e3, e4⟩ := hp
        have HC1 := hid ((HCC.out.trans hq1 (fun _ _ h => h)).trans ((Chg.refl (fun _ => False) v1).alloc (.cells #[.int .i64 t.op, .int .i64 t.k, .string ⟨t.r.1.toArray⟩, .string ⟨t.r.2.toArray⟩, .slice ax qx cx] 26)) (fun _ _ h => h))
        have HX1 := hid (heap_alloc_new v1 (.cells #[.int .i64 t.op, .int .i64 t.k, .string ⟨t.r.1.toArray⟩, .string ⟨t.r.2.toArray⟩, .slice ax qx cx] 26))
        have HOX := hid (And.intro (ownA_keep ((Chg.refl (fun _ => False) v1).alloc (.cells #[.int .i64 t.op, .int .i64 t.k, .string ⟨t.r.1.toArray⟩, .string ⟨t.r.2.toArray⟩, .slice ax qx cx] 26)) t e3 (fun _ _ => id)) (And.intro e1 e2))
        obtain ⟨m, hm⟩ : ∃ m : Int, m = (((parseF s).2 : Nat) : Int) := ⟨_, rfl⟩
        rw [← hm]
        have HM := hid hm
        clear hq1 e1 e2 e3 e4 HPS HCC hm
        unfold FmVal
        have HPR := hid (rparseF s HS.out (v1.alloc (.cells #[.int .i64 t.op, .int .i64 t.k, .string ⟨t.r.1.toArray⟩, .string ⟨t.r.2.toArray⟩, .slice ax qx cx] 26)))
        go_wp2_with fail
        refine HPR.out.mono ?_
        intro e v2 hp
        obtain ⟨hq2, u, ay, qy, cy, e1, e2, rfl, e3, e4⟩ := hp
        rw [← HM.out]
        have hc2' := hq2.trans ((Chg.refl (fun _ => False) v2).alloc (.cells #[.int .i64 u.op, .int .i64 u.k, .string ⟨u.r.1.toArray⟩, .string ⟨u.r.2.toArray⟩, .slice ay qy cy] 26)) (fun _ _ h => h)
        have HC2 := hid (HC1.out.trans hc2' (fun _ _ h => h))
        have hX2 := blk_keep HX1.out hc2' id
        have hY2 := heap_alloc_new v2 (.cells #[.int .i64 u.op, .int .i64 u.k, .string ⟨u.r.1.toArray⟩, .string ⟨u.r.2.toArray⟩, .slice ay qy cy] 26)
        have HOS := hid (own_sameR t u (e3' := ownA_keep hc2' t HOX.out.1 (fun _ _ => id)) HOX.out.2.2 e2 (ownA_keep ((Chg.refl (fun _ => False) v2).alloc (.cells #[.int .i64 u.op, .int .i64 u.k, .string ⟨u.r.1.toArray⟩, .string ⟨u.r.2.toArray⟩, .slice ay qy cy] 26)) u e3 (fun _ _ => id)) (by rw [HOX.out.2.1]; exact HN0.out) (by rw [e1]; exact HN0.out))
        have HEQ := hid (HOX.out.2.1.trans e1.symm)
        have HB2 := hid (And.intro hX2 hY2)
        have hfz := blk_keep HB.out.1 HC2.out id
        clear f0 f1 f2 f3 f4
        have f0 := cell_blk hfz 0
        have f1 := cell_blk hfz 1
        have f2 := cell_blk hfz 2
        have f3 := cell_blk hfz 3
        have f4 := cell_blk hfz 4
        simp only [List.getElem?_toArray, List.getElem?_cons_zero, List.getElem?_cons_succ] at f0 f1 f2 f3 f4
        have HTX := hid (pText (D := D) n f ao cp (v2.alloc (.cells #[.int .i64 u.op, .int .i64 u.k, .string ⟨u.r.1.toArray⟩, .string ⟨u.r.2.toArray⟩, .slice ay qy cy] 26)) (HY.out.1.keep (HB.out.2.trans HC2.out (fun _ _ h => h)) (fun _ _ => id)) (fun i hi => Nat.lt_of_lt_of_le (HY.out.2.2.2.1 i hi) (HB.out.2.trans HC2.out (fun _ _ h => h)).size) HY.out.2.1 (by have := HNB.out; omega))
        clear hq2 hc2' hX2 hY2 e1 e2 e3 e4 HPR hfz
        unfold FmVal
        go_wp2_with fail
        refine HTX.out.mono ?_
        rintro e v3 ⟨rfl, hc3⟩
        rw [HTP.out]
        have hX3 := blk_keep HB2.out.1 hc3 id
        have hY3 := blk_keep HB2.out.2 hc3 id
        have x0 := cell_blk hX3 0
        have x1 := cell_blk hX3 1
        have x2 := cell_blk hX3 2
        have x3 := cell_blk hX3 3
        have x4 := cell_blk hX3 4
        simp only [List.getElem?_toArray, List.getElem?_cons_zero, List.getElem?_cons_succ] at x0 x1 x2 x3 x4
        have y0 := cell_blk hY3 0
        have y1 := cell_blk hY3 1
        have y2 := cell_blk hY3 2
        have y3 := cell_blk hY3 3
        have y4 := cell_blk hY3 4
        simp only [List.getElem?_toArray, List.getElem?_cons_zero, List.getElem?_cons_succ] at y0 y1 y2 y3 y4
        have HOS2 := hid (fun hc => HOS.out v3 hc)
        have HC3 := hid (HC2.out.trans hc3 (fun _ _ h => h))
        have HOS3 := hid (HOS.out v3 hc3)
        clear hX3 hY3 hc3 HOS2 HTX f0 f1 f2 f3 f4 HOS HB2
        go_wp2_with fail
        refine HOS3.out.mono ?_
        rintro e v4 ⟨b, rfl, hb, hc4⟩
        have hbt : b = true := hb.2 HEQ.out
        subst hbt
        have HC4 := hid (HB.out.2.trans (HC3.out.trans hc4 (fun _ _ h => h)) (fun _ _ h => h))
        clear hb hc4 HOS3
        go_wp2
        go_ret
        exact ⟨rfl, HC4.out⟩
end Go.Proofs.YtojbhlbknjnioaaGreatDoor

/- The arguments of laws, opened to cells: bytes, a small array. -/
namespace Go.Proofs.YtojbhlbknjnioaaGreatDoor
open Go.ChangeShapes Go.WideShapes Go.ChangeAt Go.RowKit Go.Deep

theorem Tryz.own : ownKnob Tryz.prog.godebug = none := by kernel_rfl
theorem Tryz.laidOut : laidOutB Tryz.prog = true := by kernel_rfl

theorem spot_none {w : World} {a : Addr} {v : Value} (h : w.cell? a = some v) : a = ⟨a.block, a.off, none⟩ := by
  obtain ⟨b, o, s⟩ := a
  cases s with
  | none => rfl
  | some x =>
    simp only [World.cell?] at h
    split at h
    · simp at h
    · cases h

theorem add_zero (a : Addr) : a.add 0 = a := by
  unfold Addr.add
  simp

section
variable {H : Type} {enc : TypeId × Value → H} {w : World} {base : Nat} {held : Bool} {fuel : Nat}

end

end Go.Proofs.YtojbhlbknjnioaaGreatDoor

/- A role that came in, opened to its cells. -/
namespace Go.Proofs.YtojbhlbknjnioaaGreatDoor
open Go.ChangeShapes Go.WideShapes Go.ChangeAt Go.RowKit Go.Deep

theorem choose_roles {α : Type} (n : Nat) (p : Nat → α → Prop) (h : ∀ i, i < n → ∃ x, p i x) : ∃ l : List α, l.length = n ∧ ∀ i (hi : i < l.length), p i l[i] := by
  induction n with
  | zero => exact ⟨[], rfl, fun i hi => by simp at hi⟩
  | succ n ih =>
    obtain ⟨l, hl, hp⟩ := ih (fun i hi => h i (by omega))
    obtain ⟨x, hx⟩ := h n (by omega)
    refine ⟨l ++ [x], by simp [hl], fun i hi => ?_⟩
    by_cases hin : i < l.length
    · rw [List.getElem_append_left hin]
      exact hp i hin
    · have : i = n := by simp [hl] at hi; omega
      subst this
      rw [List.getElem_append_right (by omega)]
      simpa [hl] using hx

section
variable {H : Type} {enc : TypeId × Value → H} {w : World} {base : Nat} {held : Bool} {fuel : Nat}

set_option maxRecDepth 100000 in
/-- Two cells that are read as a role. -/
theorem open_role_cells {spare : Nat → Bool} {cs : List Value} {x : DataW H × List MemPlace} (h : DataW.trod enc Tryz.prog w base spare held fuel 23 cs = some x) :
    ∃ r : RoleB, cs = roleCells r ∧ r.1.length ≤ 9223372036854775807 ∧ r.2.length ≤ 9223372036854775807 ∧ 1 + r.1.length + r.2.length ≤ Rows.uptoBulk x.1 := by
  obtain ⟨y0, y1, n, rfl, hl, h0, h1⟩ := trod_struct2 Tryz.underlying23 h
  have hc : Tryz.prog.cellsOf 23 = 2 := by kernel_rfl
  rw [hc] at hl
  match cs, hl with
  | [c0, c1], _ =>
    have e0 : DataW.trod enc Tryz.prog w base spare held n 9 [c0] = some y0 := h0
    have e1 : DataW.trod enc Tryz.prog w base spare held n 9 [c1] = some y1 := h1
    obtain ⟨s0, hs0, rfl, hm0⟩ := DataW.trod_string Tryz.underlying9 e0
    obtain ⟨s1, hs1, rfl, hm1⟩ := DataW.trod_string Tryz.underlying9 e1
    simp only [List.cons.injEq, and_true] at hs0 hs1
    subst hs0
    subst hs1
    unfold maxLen at hm0 hm1
    refine ⟨(s0.data.toList, s1.data.toList), rfl, hm0, hm1, ?_⟩
    simp [Rows.uptoBulk, Rows.uptoBulkAll]
    omega

end
end Go.Proofs.YtojbhlbknjnioaaGreatDoor

/- How great credentials are: the contract of the law's Great. -/
namespace Go.Proofs.YtojbhlbknjnioaaGreatDoor
open Go.RowKit

end Go.Proofs.YtojbhlbknjnioaaGreatDoor

/- Credentials that came in, one or a list, opened to cells; how much they hold. -/
namespace Go.Proofs.YtojbhlbknjnioaaGreatDoor
open Go.ChangeShapes Go.WideShapes Go.ChangeAt Go.RowKit Go.Deep

section
variable {H : Type} {enc : TypeId × Value → H} {w : World} {base : Nat} {held : Bool} {fuel : Nat}

end
end Go.Proofs.YtojbhlbknjnioaaGreatDoor

/- A formula that came in, opened to cells, and how much it holds. -/
namespace Go.Proofs.YtojbhlbknjnioaaGreatDoor
open Go.ChangeShapes Go.WideShapes Go.ChangeAt Go.RowKit Go.Deep

section
variable {H : Type} {enc : TypeId × Value → H} {w : World} {base : Nat} {held : Bool}

theorem bulk_fms (D : Nat → DataW H) : ∀ (l : List FmB), (∀ i (h : i < l.length), greatF l[i] ≤ Rows.uptoBulk (D i)) → greatL l ≤ Rows.uptoBulkAll ((List.range l.length).map D)
  | [], _ => Nat.zero_le _
  | x :: l, h => by
    have ih := bulk_fms (fun i => D (i + 1)) l (fun i hi => h (i + 1) (by simp only [List.length_cons]; omega))
    rw [List.length_cons, List.range_succ_eq_map, List.map_cons, List.map_map]
    simp only [greatL, Rows.uptoBulkAll]
    have h0 := h 0 (by simp)
    simp only [List.getElem_cons_zero] at h0
    have e : (List.range l.length).map (D ∘ Nat.succ) = (List.range l.length).map (fun i => D (i + 1)) := rfl
    rw [e]
    omega

theorem bulk_one (D : Nat → DataW H) : ∀ (n i : Nat), i < n → Rows.uptoBulk (D i) ≤ Rows.uptoBulkAll ((List.range n).map D)
  | 0, _, h => absurd h (Nat.not_lt_zero _)
  | n + 1, 0, _ => by
    rw [List.range_succ_eq_map, List.map_cons]
    simp only [Rows.uptoBulkAll]
    omega
  | n + 1, i + 1, h => by
    have ih := bulk_one (fun i => D (i + 1)) n i (by omega)
    rw [List.range_succ_eq_map, List.map_cons, List.map_map]
    simp only [Rows.uptoBulkAll]
    have e : (List.range n).map (D ∘ Nat.succ) = (List.range n).map (fun i => D (i + 1)) := rfl
    rw [e]
    omega

def fmCells (f : FmB) (ao : Option Addr) (cp : Nat) : List Value := [.int .i64 f.op, .int .i64 f.k, .string ⟨f.r.1.toArray⟩, .string ⟨f.r.2.toArray⟩, .slice ao f.kids.length cp]

set_option maxRecDepth 100000 in
/-- Five cells that are read as a formula. -/
theorem open_fm : ∀ (N : Nat) {fuel : Nat} {cs : List Value} {x : DataW H × List MemPlace}, Rows.uptoBulk x.1 ≤ N → DataW.trod enc Tryz.prog w base (fun _ => true) held fuel 26 cs = some x →
    ∃ (f : FmB) (ao : Option Addr) (cp : Nat), cs = fmCells f ao cp ∧ FmsAt (fun k => k < w.heap.size) w N ao f.kids ∧ FmOk f ∧ (ao = none → cp = 0) ∧ greatF f ≤ Rows.uptoBulk x.1 := by
  intro N
  induction N with
  | zero =>
    intro fuel cs x hb h
    obtain ⟨xs, n, _, rfl, _⟩ := DataW.trod_struct Tryz.underlying26 h
    simp only [Rows.uptoBulk] at hb
    omega
  | succ N ih =>
    intro fuel cs x hb h
    obtain ⟨xs, n, _, rfl, hl, hlen, hf⟩ := DataW.trod_struct Tryz.underlying26 h
    have hc : Tryz.prog.cellsOf 26 = 5 := by kernel_rfl
    rw [hc] at hl
    match cs, hl, xs, hlen with
    | [c0, c1, c2, c3, c4], _, [y0, y1, y2, y3], _ =>
      have e0 : DataW.trod enc Tryz.prog w base (fun _ => true) held n 3 [c0] = some y0 := hf 0 _ rfl
      have e1 : DataW.trod enc Tryz.prog w base (fun _ => true) held n 3 [c1] = some y1 := hf 1 _ rfl
      have e2 : DataW.trod enc Tryz.prog w base (fun _ => true) held n 23 [c2, c3] = some y2 := hf 2 _ rfl
      have e3 : DataW.trod enc Tryz.prog w base (fun _ => true) held n 24 [c4] = some y3 := hf 3 _ rfl
      obtain ⟨op, hop, rfl, _⟩ := DataW.trod_int Tryz.underlying3 e0
      obtain ⟨k, hk, rfl, _⟩ := DataW.trod_int Tryz.underlying3 e1
      obtain ⟨r, h1, a1, a2, a3⟩ := open_role_cells e2
      simp only [roleCells, List.cons.injEq, and_true] at hop hk h1
      obtain ⟨h1a, h1b⟩ := h1
      subst hop hk h1a h1b
      simp only [Rows.uptoBulk, Rows.uptoBulkAll, List.map_cons, List.map_nil] at hb ⊢
      rcases open_slice Tryz.underlying24 e3 with ⟨e4, rfl⟩ | ⟨a, len, cap, m, n2, D, Pl, e4, _, hl, hm, hmm, rfl, hi⟩
      · simp only [List.cons.injEq, and_true] at e4
        subst e4
        refine ⟨.mk op k r [], none, 0, rfl, fun i hi => absurd hi (Nat.not_lt_zero i), ⟨a1, a2⟩, fun _ => rfl, ?_⟩
        simp only [greatF, greatL, Rows.uptoBulk]
        omega
      · simp only [List.cons.injEq, and_true] at e4
        subst e4
        simp only [if_true] at hmm
        simp only [Rows.uptoBulk] at hb
        have each : ∀ i, i < len → ∃ y : FmB, (∃ b off, some a = some ⟨b, off, none⟩ ∧ b < w.heap.size ∧ FmAt (fun k => k < w.heap.size) w (N + 1) b (off + i * 5) y) ∧ greatF y ≤ Rows.uptoBulk (D i) := by
          have op : ∀ i, i < len → ∃ (y : FmB) (ao : Option Addr) (cp : Nat), w.cells? base (a.add (i * 5)) 5 = some (fmCells y ao cp) ∧ FmsAt (fun k => k < w.heap.size) w N ao y.kids ∧ FmOk y ∧ (ao = none → cp = 0) ∧ greatF y ≤ Rows.uptoBulk (D i) := by
            intro i hil
            obtain ⟨cs', hcs, ht⟩ := hi i (by omega)
            rw [hc] at hcs
            have hbi := bulk_one D len i hil
            obtain ⟨y, ao, cp, rfl, q1, q2, q3, q4⟩ := ih (x := (D i, Pl i)) (by dsimp only; omega) ht
            exact ⟨y, ao, cp, hcs, q1, q2, q3, q4⟩
          intro i hil
          obtain ⟨y, ao, cp, hcs, q1, q2, q3, q4⟩ := op i hil
          obtain ⟨_, _, hat⟩ := World.cells?_some hcs
          have hs : a = ⟨a.block, a.off, none⟩ := by
            obtain ⟨y2, ao2, cp2, hcs2, _⟩ := op 0 (by omega)
            obtain ⟨_, _, hat2⟩ := World.cells?_some hcs2
            have q := hat2 0 (by simp)
            rw [Nat.zero_mul, add_zero, add_zero] at q
            exact spot_none q
          have hall : ∀ j, j < 5 → w.cell? ⟨a.block, a.off + i * 5 + j, none⟩ = (fmCells y ao cp)[j]? := fun j hj => by
            have q := hat j (by simpa [fmCells] using hj)
            rw [hs, add_off, add_off] at q
            exact q
          have h0 := hall 0 (by omega)
          exact ⟨y, ⟨a.block, a.off, congrArg some hs, World.block_lt_of_cell? w ⟨a.block, a.off + i * 5, none⟩ h0, h0, hall 1 (by omega), hall 2 (by omega), hall 3 (by omega), q2, ao, cp, hall 4 (by omega), q3, q1⟩, q4⟩
        obtain ⟨xs, hlen, hp⟩ := choose_roles len _ each
        subst hlen
        have hg := bulk_fms D xs (fun i hi => (hp i hi).2)
        refine ⟨.mk op k r xs, some a, cap, rfl, fun i hi => (hp i hi).1, ⟨a1, a2⟩, fun e => (by cases e), ?_⟩
        simp only [greatF, Rows.uptoBulk]
        omega
end
end Go.Proofs.YtojbhlbknjnioaaGreatDoor
