/- The law ChainFinds, walked. -/
import Derived.Test.YtjaplnainlbldaaFc37
import Derived.Test.YtjaplnainlbldaaFc35
import Derived.Test.YtjaplnainlbldaaFc40
import Derived.Test.YtjaplnainlbldaaFc6
import Derived.Test.YtjaplnainlbldaaFc36
import Derived.Test.YtjaplnainlbldaaFc34
import Derived.Test.YtjaplnainlbldaaFc18
import Derived.Test.YtjaplnainlbldaaFc13
import Derived.Test.YtjaplnainlbldaaFc9
import Derived.Test.YtjaplnainlbldaaFc12
namespace Go.Proofs.Ytjaplnainlbldaa
open Go.RowKit
def Spec.factsM (ls : List CredB) : Spec := ⟨fun v w => ∃ ys ao cap, v = .slice ao ys.length cap ∧ ModelOf ls ys ∧ ys.length ≤ 4611686018427387904 ∧ FactsAt (fun _ => True) w ao ys, fun v w w' hc h => by
 obtain ⟨ys, ao, cap, h1, h2, h3, h4⟩ := h
 exact ⟨ys, ao, cap, h1, h2, h3, h4.keep hc (fun _ _ => id)⟩⟩

set_option maxRecDepth 100000 in
set_option maxHeartbeats 4000000 in
theorem chfinds_main {D : Nat → Prop} (ao : Option Addr) (cp : Nat) (ls : List CredB) (want : FactB) (w : World) (hn : totalC ls ≤ 4503599627370496) (hz : ao = none → cp = 0) (h : CredsAt D w ao ls) (hD : ∀ i, D i → i < w.heap.size) (hw : factShort want 1048576) :
  Calls Try.prog 3 #[.slice ao ls.length cp, .agg #[.string ⟨want.1.1.toArray⟩, .string ⟨want.1.2.toArray⟩, .string ⟨want.2.toArray⟩]] w fun e w' => e = .returned (.bool true) ∧ Chg (fun _ => False) w w' := by
 have HF := hid (fun w => ch_first w)
 have HX := hid (And.intro h (And.intro hD (And.intro hz hw)))
 have hw1 := hw.1
 have hw2 := hw.2.1
 have hw3 := hw.2.2
 have hca : Chg (fun _ => False) w (w.alloc (.cells #[.string ⟨want.1.1.toArray⟩, .string ⟨want.1.2.toArray⟩, .string ⟨want.2.toArray⟩] 26)) := (Chg.refl _ w).alloc _
 have hbA : (w.alloc (.cells #[.string ⟨want.1.1.toArray⟩, .string ⟨want.1.2.toArray⟩, .string ⟨want.2.toArray⟩] 26)).heap[w.heap.size]? = some (.cells (factBox want) 26 (0, 0)) := heap_alloc_new w _
 have HA := hid (And.intro hca hbA)
 clear h hD hz hw hca hbA
 go_enter Try.func3, Try.ntmps3
 go_wp2_with fail
 refine (HF.out _).mono ?_
 rintro e w1 ⟨rfl, hc1⟩
 have HC1 := hid (HA.out.1.trans hc1 (fun _ _ h => h))
 have HB1 := hid (blk_keep HA.out.2 hc1 id)
 have HG := hid (great_any ao cp ls w1 hn (HX.out.1.keep HC1.out (fun _ _ => id)))
 clear hc1 HF HA
 go_wp2_with fail
 refine HG.out.mono ?_
 rintro e w2 ⟨rfl, hc2⟩
 have HC2 := hid (HC1.out.trans hc2 (fun _ _ h => h))
 have HB2 := hid (blk_keep HB1.out hc2 id)
 have f0 : w2.cell? ⟨w.heap.size, 0, none⟩ = some (.string ⟨want.1.1.toArray⟩) := cell_blk HB2.out 0
 have f1 : w2.cell? ⟨w.heap.size, 1, none⟩ = some (.string ⟨want.1.2.toArray⟩) := cell_blk HB2.out 1
 have f2 : w2.cell? ⟨w.heap.size, 2, none⟩ = some (.string ⟨want.2.toArray⟩) := cell_blk HB2.out 2
 clear hc2 HC1 HB1 HG
 by_cases hg : totalC ls ≤ 1000
 ·by_cases hg2 : want.2.length + want.1.1.length + want.1.2.length ≤ 200
  ·have z1 : decide ((1000 : Int) < (totalC ls : Int)) = false := decide_eq_false (by omega)
   have z2 : decide ((200 : Int) < (want.2.length : Int) + (want.1.1.length : Int) + (want.1.2.length : Int)) = false := decide_eq_false (by omega)
   have hll : ls.length ≤ 50 := by have := totalC_len9 ls; omega
   have HSC : Hid (SmallC ls) := hid (SmallC.of (by omega))
   have HFI := hid (ch_find ao cp ls want w2 hll (HX.out.1.keep HC2.out (fun _ _ => id)) (fun i hi => Nat.lt_of_lt_of_le (HX.out.2.1 i hi) HC2.out.size) HX.out.2.2.1 (HX.out.2.2.2.mono (by decide)))
   go_wp2_with fail
   refine HFI.out.mono ?_
   rintro e w3 ⟨v, R, b, rfl, hR, hoR, hc3⟩
   have HC3 := hid (HC2.out.trans hc3 (fun _ _ h => h))
   have HB3 := hid (blk_keep HB2.out hc3 id)
   obtain ⟨av, cv, hv⟩ := hoR.shape
   obtain ⟨n, hn9⟩ : ∃ n, n = R.length := ⟨_, rfl⟩
   rw [← hn9] at hv
   subst hv
   have HNR := hid hn9
   clear hn9
   have HFR := hid (And.intro hR hoR)
   have HIN : Hid (∀ ys, ModelOf ls ys → inF ys want.1 want.2 = b) := hid (fun ys hm => by
    have h1 := (hR.spec).1
    cases b with
    | true => exact inF_iff.2 ((hm.2 _).2 (h1.1 rfl))
    | false =>
     cases hx : inF ys want.1 want.2 with
     | false => rfl
     | true => exact (Bool.noConfusion (h1.2 ((hm.2 _).1 (inF_iff.1 hx)))))
   clear hR hoR hc3 HFI HC2 HB2 f0 f1 f2
   go_wp2
   obtain ⟨A, hA⟩ : ∃ A, A = w.heap.size := ⟨_, rfl⟩
   rw [← hA] at HB3 ⊢
   clear hA
   refine wp_region_specs [.eq (.slice ao ls.length cp), .any, .any, .eq (.pointer (some ⟨A, 0, none⟩)), .any, .any, .eq (.bool b), .any, .any, .any, .any, .any, .any, .any, .any, .any, .any, .any, .any, .any, .any, .any, .any, .any, .any, .any, .any, .any, .any, .any, .any, .any, .any, .any, .any, .any, .any, .any, .any, .any, .eq (.bool b), .eq (.slice ao ls.length cp), .factsM ls, .eq (.pointer (some ⟨A, 0, none⟩)), .eq (.agg #[.string ⟨want.1.1.toArray⟩, .string ⟨want.1.2.toArray⟩]), .eq (.pointer (some ⟨A, 2, none⟩)), .eq (.string ⟨want.2.toArray⟩), .eq (.bool b), .eq (.bool false), .any, .any, .any, .any, .any, .any, .any, .any, .any, .any, .any, .any, .any, .any, .any, .any, .any, .any, .any, .any, .any, .any, .any, .any, .any, .any, .any, .any, .any, .any, .any, .any, .any, .any, .any, .any, .any, .any, .any, .any, .any, .any, .any, .any, .any, .any, .any, .any, .any, .any, .any, .any, .any, .any, .any, .any, .any, .any, .any, .any, .any, .any, .any, .any, .any, .any, .any, .any, .any, .any, .any, .any, .any, .any, .any, .any, .any, .any, .any, .any, .any, .any, .any, .any] [40, 41, 42, 43, 44, 45, 46, 47, 48] [0, 3, 6] (by kernel_rfl) (by kernel_rfl) (by rfl) (by kernel_rfl) ?start6 ?obs6 ?fin6
   case start6 =>
    simp only [List.forall_mem_cons]; exact ⟨⟨_, rfl, rfl⟩, ⟨_, rfl, rfl⟩, ⟨_, rfl, rfl⟩, fun _ h => by cases h⟩
   case obs6 =>
    refine Obs.cons none (by kernel_rfl) ?_ ?_
    ·refine Ob.plain fun a w hR hk K k => ?_
     obtain ⟨_, e6, f6⟩ := hk 6 (by decide)
     clear hk
     go_simp
     exact k _ _ (Chg.refl _ _) f6
    refine Obs.cons none (by kernel_rfl) ?_ ?_
    ·refine Ob.plain fun a w hR hk K k => ?_
     obtain ⟨_, e0, f0⟩ := hk 0 (by decide)
     clear hk
     go_simp
     exact k _ _ (Chg.refl _ _) f0
    refine Obs.cons none (by kernel_rfl) ?_ ?_
    ·refine Ob.plain fun a w hR hk K k => ?_
     obtain ⟨_, e41, rfl⟩ := hk 41 (by decide)
     clear hk
     have hq := rfof ao cp ls w (by omega) ((HX.out.1.keep HC3.out (fun _ _ => id)).keep hR (fun _ _ => id)) (fun i hi => Nat.lt_of_lt_of_le (HX.out.2.1 i hi) (Nat.le_trans HC3.out.size hR.size))
     go_simp
     refine hq.mono ?_
     rintro e w9 ⟨ys, ao9, cap9, rfl, hm, ho, hc⟩
     obtain ⟨ao8, cap8, he8, hf8, _⟩ := ho.facts
     have hfew := hm.few HSC.out
     exact k _ _ hc ⟨ys, ao8, cap8, he8, hm, by omega, hf8.mono (fun _ _ => trivial)⟩
    refine Obs.cons none (by kernel_rfl) ?_ ?_
    ·refine Ob.plain fun a w hR hk K k => ?_
     obtain ⟨_, e3, rfl⟩ := hk 3 (by decide)
     clear hk
     go_simp
     exact k _ _ (Chg.refl _ _) rfl
    refine Obs.cons none (by kernel_rfl) ?_ ?_
    ·refine Ob.plain fun a w hR hk K k => ?_
     obtain ⟨_, e43, rfl⟩ := hk 43 (by decide)
     clear hk
     have hb := blk_keep HB3.out hR id
     have f0 : w.cell? ⟨A, 0, none⟩ = some (.string ⟨want.1.1.toArray⟩) := cell_blk hb 0
     have f1 : w.cell? ⟨A, 1, none⟩ = some (.string ⟨want.1.2.toArray⟩) := cell_blk hb 1
     go_simp
     exact k _ _ (Chg.refl _ _) rfl
    refine Obs.cons none (by kernel_rfl) ?_ ?_
    ·refine Ob.plain fun a w hR hk K k => ?_
     obtain ⟨_, e3, rfl⟩ := hk 3 (by decide)
     clear hk
     go_simp
     exact k _ _ (Chg.refl _ _) rfl
    refine Obs.cons none (by kernel_rfl) ?_ ?_
    ·refine Ob.plain fun a w hR hk K k => ?_
     obtain ⟨_, e45, rfl⟩ := hk 45 (by decide)
     clear hk
     have hb := blk_keep HB3.out hR id
     have f2 : w.cell? ⟨A, 2, none⟩ = some (.string ⟨want.2.toArray⟩) := cell_blk hb 2
     go_simp
     exact k _ _ (Chg.refl _ _) rfl
    refine Obs.cons none (by kernel_rfl) ?_ ?_
    ·refine Ob.plain fun a w hR hk K k => ?_
     obtain ⟨_, e42, f42⟩ := hk 42 (by decide)
     obtain ⟨_, e44, rfl⟩ := hk 44 (by decide)
     obtain ⟨_, e46, rfl⟩ := hk 46 (by decide)
     clear hk
     obtain ⟨ys, ao9, cap9, rfl, hm, hl9, hf9⟩ := f42
     have hq := rfin ao9 cap9 ys want.1 want.2 w hl9 hf9
     have hb : inF ys want.1 want.2 = b := HIN.out ys hm
     rw [hb] at hq
     go_simp
     refine hq.mono ?_
     rintro e w9 ⟨rfl, hc⟩
     exact k _ _ hc rfl
    refine Obs.cons none (by kernel_rfl) ?_ ?_
    ·refine Ob.plain fun a w hR hk K k => ?_
     obtain ⟨_, e40, rfl⟩ := hk 40 (by decide)
     obtain ⟨_, e47, rfl⟩ := hk 47 (by decide)
     clear hk
     have hbb : (b != b) = false := bne_self_eq_false b
     go_simp
     exact k _ _ (Chg.refl _ _) rfl
    exact Obs.nil
   case fin6 =>
    intro vals w4 hc4 hv
    have h48 : vals 48 = .bool false := hv 48 (by decide)
    have HC4 := hid (HC3.out.trans hc4 (fun _ _ h => h))
    have HF4 := hid (And.intro HFR.out.1 (HFR.out.2.keep hc4 (fun _ _ => id)))
    have HB4 := hid (blk_keep HB3.out hc4 id)
    simp only [putAll, List.setIfInBounds_toArray, List.set_cons_zero, List.set_cons_succ, h48]
    clear hv h48 hc4
    go_wp2
    obtain ⟨B4, hB4⟩ : ∃ B4, B4 = w4.heap.size := ⟨_, rfl⟩
    go_loopw [7, 51] (fun s i wr => ∃ (j : Nat) (o : Value), j ≤ ls.length ∧ i = .int .i64 j ∧ s = o ∧ Hid (OwnC w4.heap.size wr o (ls.reverse.take j) ∧ Chg (fun _ => False) w4 wr)) (fun _ i _ => ls.length - (intOf i).toNat)
    case atStart => exact ⟨0, _, Nat.zero_le _, rfl, rfl, hid ⟨World.ownsRow_nil _ _ _ _, Chg.refl _ _⟩⟩
    case round =>
     obtain ⟨j, o, hj, rfl, rfl, hrel⟩ := hrel
     by_cases hlt : j < ls.length
     ·obtain ⟨p, hp⟩ : ∃ p : Nat, p = ls.length - 1 - j := ⟨_, rfl⟩
      have hpl : p < ls.length := by omega
      have hpi : (ls.length : Int) - 1 - (j : Int) = (p : Int) := by omega
      obtain ⟨b2, off2, hao2, hD2, ⟨a0, a1, a2, a3, a4, a5, a6, a7, a8⟩, hss⟩ := (HX.out.1.keep (HC4.out.trans hrel.out.2 (fun _ _ h => h)) (fun _ _ => id)) p hpl
      have htk : ls.reverse.take (j + 1) = ls.reverse.take j ++ [ls[p]] := by
       rw [List.take_succ_eq_append_getElem (by rw [List.length_reverse]; exact hlt), List.getElem_reverse]
       simp only [hp]
      have hlen : (ls.reverse.take j).length ≤ 1000 := Nat.le_trans (List.length_take_le _ _) (by omega)
      generalize ls[p] = c at *
      have ho1 := hrel.out.1.keep ((Chg.refl (fun _ => False) wr).alloc (.cells #[.int .i64 c.kind, .string ⟨c.head.1.toArray⟩, .string ⟨c.head.2.toArray⟩, .string ⟨c.who.toArray⟩, .string ⟨c.b.1.toArray⟩, .string ⟨c.b.2.toArray⟩, .string ⟨c.c.1.toArray⟩, .string ⟨c.c.2.toArray⟩, .string ⟨c.w2.toArray⟩] 36)) (fun _ _ => id)
      have hch1 := hrel.out.2.alloc (.cells #[.int .i64 c.kind, .string ⟨c.head.1.toArray⟩, .string ⟨c.head.2.toArray⟩, .string ⟨c.who.toArray⟩, .string ⟨c.b.1.toArray⟩, .string ⟨c.b.2.toArray⟩, .string ⟨c.c.1.toArray⟩, .string ⟨c.c.2.toArray⟩, .string ⟨c.w2.toArray⟩] 36)
      obtain ⟨v5, w5, hap0, ho5, hc5, _⟩ := run_append_cred 22 ho1 (heap_alloc_new wr (.cells #[.int .i64 c.kind, .string ⟨c.head.1.toArray⟩, .string ⟨c.head.2.toArray⟩, .string ⟨c.who.toArray⟩, .string ⟨c.b.1.toArray⟩, .string ⟨c.b.2.toArray⟩, .string ⟨c.c.1.toArray⟩, .string ⟨c.c.2.toArray⟩, .string ⟨c.w2.toArray⟩] 36)) (by omega) hch1.size
      have hap : (Builtin.append_ #[22, 22] 22 #[u7, .slice (some ⟨wr.heap.size, 0, none⟩) 1 1]).run Try.prog (wr.alloc (.cells #[.int .i64 c.kind, .string ⟨c.head.1.toArray⟩, .string ⟨c.head.2.toArray⟩, .string ⟨c.who.toArray⟩, .string ⟨c.b.1.toArray⟩, .string ⟨c.b.2.toArray⟩, .string ⟨c.c.1.toArray⟩, .string ⟨c.c.2.toArray⟩, .string ⟨c.w2.toArray⟩] 36)) = .ok v5 w5 := hap0
      have HHX : Hid (OwnC w4.heap.size w5 v5 (ls.reverse.take (j + 1)) ∧ Chg (fun _ => False) w4 w5) := hid (by
       rw [htk]
       refine ⟨ho5, hch1.trans hc5 (fun i hi h => ?_)⟩
       have := (ownsRow_lt ho1 i h).1
       omega)
      have HLT := hid hlt
      clear hrel htk hlen ho1 hch1 hap0 ho5 hc5 hp
      subst hao2
      go_wp2_with (at_builtin; refine wpList_append_run rfl (.tmp 54) (.tmp 63) 22 rfl rfl rfl hap ?_)
      go_roundw
      case rel => exact ⟨j + 1, v5, HLT.out, by go_num, rfl, HHX⟩
      case measure => have := HLT.out; simp [intOf]; omega
     ·have hje : j = ls.length := by omega
      have hr := hrel.out
      rw [hje, ← List.length_reverse, List.take_length] at hr
      have HF5 := hid (And.intro HF4.out.1 (HF4.out.2.keep hr.2 (fun _ _ => id)))
      have HC5 := hid (HC4.out.trans hr.2 (fun _ _ h => h))
      have HB5 := hid (blk_keep HB4.out hr.2 id)
      have hcr := HX.out.1.keep HC5.out (fun _ _ => id)
      have HCR := hid hcr
      have HAB := hid (lt_blk HB4.out)
      have HLS := hid (And.intro hll (creds_short hcr))
      have HFS := hid (find_same w4.heap.size ls (ls.reverse ++ ls) want R b HF4.out.1 hll (by rw [List.length_append, List.length_reverse]; omega) (fun c => by simp) HLS.out.2 (HX.out.2.2.2.mono (by decide)))
      have HE1 := hid (fun w (h : BackR0 w4.heap.size wr ls.reverse u7 w) => h.append (ls := ls) hr.1 22 hcr HX.out.2.2.1 (by rw [List.length_reverse]; omega) hr.2.size)
      have HBK := hid hr
      have HBS := hid (fun k (hk : (Value.slice av n cv).ownBlock = some k) => (HF4.out.2.blt hk).2)
      have HSZ := hid (And.intro HC4.out.size hr.2.size)
      clear hrel hr hje hcr
      go_wp2
      refine wp_region_stateAD (Chg (fun k => w4.heap.size ≤ k ∧ k < wr.heap.size)) (Duo 2 4 69 (BackR0 w4.heap.size wr ls.reverse u7) (BackR w4.heap.size wr (ls.reverse ++ ls)) (fun w => Chg (fun k => w4.heap.size ≤ k ∧ k < wr.heap.size) wr w)) (specAtR [.eq (.slice ao ls.length cp), .any, .any, .eq (.pointer (some ⟨A, 0, none⟩)), .any, .any, .any, .eq (u7), .any, .exFO w4.heap.size wr.heap.size R, .eq (.bool b), .any, .any, .any, .any, .any, .any, .any, .any, .any, .any, .any, .any, .any, .any, .any, .any, .any, .any, .any, .any, .any, .any, .any, .any, .any, .any, .any, .any, .any, .any, .any, .any, .any, .any, .any, .any, .any, .any, .any, .any, .any, .any, .any, .any, .any, .any, .any, .any, .any, .any, .any, .any, .any, .any, .any, .exFT w4.heap.size wr.heap.size R b, .eq (u7), .eq (.slice ao ls.length cp), .any, .eq (.agg #[.string ⟨want.1.1.toArray⟩, .string ⟨want.1.2.toArray⟩, .string ⟨want.2.toArray⟩]), .exFT w4.heap.size wr.heap.size R b, .exFO w4.heap.size wr.heap.size R, .eq (.bool b), .any, .any, .any, .any, .any, .any, .any, .any, .any, .any, .any, .any, .any, .any, .any, .any, .any, .any, .any, .any, .any, .any, .any, .any, .any, .any, .any, .any, .any, .any, .any, .any, .any, .any, .any, .any, .any, .any, .any, .any, .any, .any, .any, .any, .any, .any, .any, .any, .any, .any, .any, .any, .any, .any, .any, .any, .any, .any, .any]) [67, 68, 69, 70, 71, 66, 72, 73, 9, 10] [0, 3, 7] (by kernel_rfl) (by kernel_rfl) (Duo.start (show (69 : Nat) < 133 by decide) ⟨HBK.out.1.keep ((Chg.refl _ _).drew) (fun _ _ => id), (Chg.refl _ _).drew⟩) (fun t v w w' hc h => specAtR_st _ t v w w' hc h) (by rfl) (by kernel_rfl) ?start14 ?obs14 ?fin14
      case start14 =>
       simp only [List.forall_mem_cons]; exact ⟨⟨_, rfl, rfl⟩, ⟨_, rfl, rfl⟩, ⟨_, rfl, rfl⟩, fun _ h => by cases h⟩
      case obs14 =>
       skip
       refine ObsAD.cons none (by kernel_rfl) ?_ ?_
       ·refine ObAD.plain fun L a w hi he hD hW hk K k => ?_
        obtain ⟨_, e7, rfl⟩ := hk 7 (by decide)
        clear hk
        have hS := hid (fun (v : Value) (w2 : World) (hc : Chg (fun _ => False) w w2) => hW.step (j := 0) (d := (some 67)) v (by decide) hc (fun _ _ h c => h.quiet c) (fun _ _ _ h c => h.quiet c) (fun _ _ h c => h.trans c (fun _ _ h => h.elim)))
        clear hi he hW hD
        go_simp
        exact k _ _ (Chg.refl _ _) (hS.out _ _ (Chg.refl _ _)) rfl
       refine ObsAD.cons none (by kernel_rfl) ?_ ?_
       ·refine ObAD.plain fun L a w hi he hD hW hk K k => ?_
        obtain ⟨_, e0, rfl⟩ := hk 0 (by decide)
        clear hk
        have hS := hid (fun (v : Value) (w2 : World) (hc : Chg (fun _ => False) w w2) => hW.step (j := 1) (d := (some 68)) v (by decide) hc (fun _ _ h c => h.quiet c) (fun _ _ _ h c => h.quiet c) (fun _ _ h c => h.trans c (fun _ _ h => h.elim)))
        clear hi he hW hD
        go_simp
        exact k _ _ (Chg.refl _ _) (hS.out _ _ (Chg.refl _ _)) rfl
       refine ObsAD.cons none (by kernel_rfl) ?_ ?_
       ·refine ObAD.plain fun L a w hi he hD hW hk K k => ?_
        obtain ⟨_, e67, rfl⟩ := hk 67 (by decide)
        obtain ⟨_, e68, rfl⟩ := hk 68 (by decide)
        clear hk
        have h0 := hW.p0 hi
        obtain ⟨v2, w5, hr, hF, hS⟩ := HE1.out w h0
        clear he hD
        refine ob_appendK 22 rfl e67 e68 hr ?_
        exact k _ _ hS (hW.first (by decide) hi hF) trivial
       refine ObsAD.cons none (by kernel_rfl) ?_ ?_
       ·refine ObAD.plain fun L a w hi he hD hW hk K k => ?_
        obtain ⟨_, e3, rfl⟩ := hk 3 (by decide)
        clear hk
        have hB := hW.early (by decide) hi (B := fun w => w.heap[A]? = some (.cells (factBox want) 26 (0, 0))) (fun w h => blk_keep HB5.out h.2 id) (fun x w h => blk_keep HB5.out h.2 (fun h => by have := HAB.out; omega))
        have f0 : w.cell? ⟨A, 0, none⟩ = some (.string ⟨want.1.1.toArray⟩) := cell_blk hB 0
        have f1 : w.cell? ⟨A, 1, none⟩ = some (.string ⟨want.1.2.toArray⟩) := cell_blk hB 1
        have f2 : w.cell? ⟨A, 2, none⟩ = some (.string ⟨want.2.toArray⟩) := cell_blk hB 2
        clear hB
        have hS := hid (fun (v : Value) (w2 : World) (hc : Chg (fun _ => False) w w2) => hW.step (j := 3) (d := (some 70)) v (by decide) hc (fun _ _ h c => h.quiet c) (fun _ _ _ h c => h.quiet c) (fun _ _ h c => h.trans c (fun _ _ h => h.elim)))
        clear hi he hW hD
        go_simp
        exact k _ _ (Chg.refl _ _) (hS.out _ _ (Chg.refl _ _)) rfl
       refine ObsAD.cons none (by kernel_rfl) ?_ ?_
       ·refine ObAD.plain fun L a w hi he hD hW hk K k => ?_
        obtain ⟨_, e70, rfl⟩ := hk 70 (by decide)
        clear hk
        have hall := behind_all (n := 4) hD rfl he (by kernel_rfl)
        obtain ⟨v2, e69, hF⟩ := hW.p1 (hall 2 (by decide)) hi
        have hq := HFS.out v2 w hF.1
        have HS := hid (And.intro hW (And.intro hall hF.2))
        clear hF hall he hD hW hi
        go_simp
        refine hq.mono ?_
        rintro e w5 ⟨x, rfl, h1, h2⟩
        exact k _ _ h2.none9 (HS.out.1.second (by decide) HS.out.2.1 (HS.out.2.2.trans h2 (fun _ _ h => h.elim))) ⟨x, rfl, ownsRow_lowK h1 HS.out.2.2.size⟩
       refine ObsAD.cons none (by kernel_rfl) ?_ ?_
       ·refine ObAD.plain fun L a w hi he hD hW hk K k => ?_
        obtain ⟨_, e71, f71⟩ := hk 71 (by decide)
        clear hk
        have hS := hid (fun (v : Value) (w2 : World) (hc : Chg (fun _ => False) w w2) => hW.step (j := 5) (d := (some 66)) v (by decide) hc (fun _ _ h c => h.quiet c) (fun _ _ _ h c => h.quiet c) (fun _ _ h c => h.trans c (fun _ _ h => h.elim)))
        clear hi he hW hD
        go_simp
        exact k _ _ (Chg.refl _ _) (hS.out _ _ (Chg.refl _ _)) f71
       refine ObsAD.cons none (by kernel_rfl) ?_ ?_
       ·refine ObAD.plain fun L a w hi he hD hW hk K k => ?_
        obtain ⟨_, e66, f66⟩ := hk 66 (by decide)
        clear hk
        obtain ⟨x, rfl, hx⟩ := f66
        have HH := hid hx
        clear hx
        have hS := hid (fun (v : Value) (w2 : World) (hc : Chg (fun _ => False) w w2) => hW.step (j := 6) (d := (some 72)) v (by decide) hc (fun _ _ h c => h.quiet c) (fun _ _ _ h c => h.quiet c) (fun _ _ h c => h.trans c (fun _ _ h => h.elim)))
        clear hi he hW hD
        go_simp
        exact k _ _ (Chg.refl _ _) (hS.out _ _ (Chg.refl _ _)) HH.out
       refine ObsAD.cons none (by kernel_rfl) ?_ ?_
       ·refine ObAD.plain fun L a w hi he hD hW hk K k => ?_
        obtain ⟨_, e66, f66⟩ := hk 66 (by decide)
        clear hk
        obtain ⟨x, rfl, hx⟩ := f66
        clear hx
        have hS := hid (fun (v : Value) (w2 : World) (hc : Chg (fun _ => False) w w2) => hW.step (j := 7) (d := (some 73)) v (by decide) hc (fun _ _ h c => h.quiet c) (fun _ _ _ h c => h.quiet c) (fun _ _ h c => h.trans c (fun _ _ h => h.elim)))
        clear hi he hW hD
        go_simp
        exact k _ _ (Chg.refl _ _) (hS.out _ _ (Chg.refl _ _)) rfl
       refine ObsAD.cons none (by kernel_rfl) ?_ ?_
       ·refine ObAD.plain fun L a w hi he hD hW hk K k => ?_
        obtain ⟨_, e72, f72⟩ := hk 72 (by decide)
        clear hk
        have hS := hid (fun (v : Value) (w2 : World) (hc : Chg (fun _ => False) w w2) => hW.step (j := 8) (d := (some 9)) v (by decide) hc (fun _ _ h c => h.quiet c) (fun _ _ _ h c => h.quiet c) (fun _ _ h c => h.trans c (fun _ _ h => h.elim)))
        clear hi he hW hD
        go_simp
        exact k _ _ (Chg.refl _ _) (hS.out _ _ (Chg.refl _ _)) f72
       refine ObsAD.cons none (by kernel_rfl) ?_ ?_
       ·refine ObAD.plain fun L a w hi he hD hW hk K k => ?_
        obtain ⟨_, e73, rfl⟩ := hk 73 (by decide)
        clear hk
        have hS := hid (fun (v : Value) (w2 : World) (hc : Chg (fun _ => False) w w2) => hW.step (j := 9) (d := (some 10)) v (by decide) hc (fun _ _ h c => h.quiet c) (fun _ _ _ h c => h.quiet c) (fun _ _ h c => h.trans c (fun _ _ h => h.elim)))
        clear hi he hW hD
        go_simp
        exact k _ _ (Chg.refl _ _) (hS.out _ _ (Chg.refl _ _)) rfl
       exact ObsAD.nil
      case fin14 =>
       intro L vals w9 hL hWL hv
       have HEND := hid (hWL.p2 (hL 4 (by decide)))
       have h9 := hv 9 (by decide)
       have h10 : vals 10 = .bool b := hv 10 (by decide)
       obtain ⟨a9, c9, hs9⟩ := OwnSt.shape h9
       have h9 : OwnSt wr.heap.size w9 (vals 9) R := h9
       rw [hs9, ← HNR.out] at h9
       rw [← HNR.out] at hs9
       have HS9 := hid h9
       have HF9 := hid (And.intro HF5.out.1 (HF5.out.2.keep HEND.out (fun k hk h => by have := HBS.out k hk; omega)))
       have HC9 := hid (HC5.out.trans HEND.out (fun k hk h => by have := HSZ.out.1; omega))
       have HB9 := hid (blk_keep HB5.out HEND.out (fun h => by have := HAB.out; omega))
       simp only [putAll, List.setIfInBounds_toArray, List.set_cons_zero, List.set_cons_succ, hs9, h10]
       clear hL hWL hv h9 h10 hs9 HEND HE1 HFS HBK HF5 HC5 HB5 HCR HF4 HC4 HB4 HBS HSZ HAB
       have HST := hid (HF9.out.2.steps HF9.out.1.short)
       have hfew := HF9.out.1.few hll
       have HFW := hid hfew
       have hsame : sameK R R = true := by simp [sameK]
       have hq : Calls Try.prog 12 #[.slice av n cv, .slice a9 n c9] w9 fun e w' => e = .returned (.bool true) ∧ Chg (fun _ => False) w9 w' := by
        obtain ⟨x1, x2, k1, k2, _⟩ := HST.out
        obtain ⟨y1, y2, l1, l2, _⟩ := HS9.out.steps HF9.out.1.short
        injection k1 with k1 _ k3
        injection l1 with l1 _ l3
        subst k1 k3 l1 l3
        have := rksame av a9 cv c9 R R w9 (by omega) (by omega) k2 l2
        rw [hsame, ← HNR.out] at this
        exact this
       have HQ := hid hq
       clear hq hsame hfew
       cases b with
       | false =>
        have hn0 : n = 0 := by rw [HNR.out, (HF9.out.1.spec).2.1 rfl]; rfl
        subst hn0
        go_wp2_with fail
        refine HQ.out.mono ?_
        rintro e w10 ⟨rfl, hc10⟩
        have HC10 := hid (HC9.out.trans hc10 (fun _ _ h => h))
        clear hc10 HQ HC9
        go_wp2
        go_ret
        exact ⟨rfl, HC10.out⟩
       | true =>
        go_wp2_with fail
        refine HQ.out.mono ?_
        rintro e w10 ⟨rfl, hc10⟩
        have HC10 := hid (HC9.out.trans hc10 (fun _ _ h => h))
        have HF10 := hid (And.intro HF9.out.1 (HF9.out.2.keep hc10 (fun _ _ => id)))
        have HB10 := hid (blk_keep HB9.out hc10 id)
        clear hc10 HQ HC9 HF9 HB9 HST HS9
        go_wp2
        refine wp_region_specs [.eq (.slice ao ls.length cp), .any, .any, .eq (.pointer (some ⟨A, 0, none⟩)), .any, .eq (.slice av n cv), .any, .any, .any, .any, .any, .eq (.int .i64 (n : Nat)), .eq (.int .i64 0), .any, .any, .any, .any, .any, .any, .any, .any, .any, .any, .any, .any, .any, .any, .any, .any, .any, .any, .any, .any, .any, .any, .any, .any, .any, .any, .any, .any, .any, .any, .any, .any, .any, .any, .any, .any, .any, .any, .any, .any, .any, .any, .any, .any, .any, .any, .any, .any, .any, .any, .any, .any, .any, .any, .any, .any, .any, .any, .any, .any, .any, .any, .any, .any, .any, .any, .any, .any, .any, .any, .any, .any, .any, .any, .any, .any, .any, .any, .any, .any, .any, .any, .any, .any, .any, .any, .any, .any, .any, .any, .eq (.tuple #[.int .i64 (n : Nat), .int .i64 0]), .eq (.slice av n cv), .eq (.slice ao ls.length cp), .setS ls, .eq (.agg #[.string ⟨want.1.1.toArray⟩, .string ⟨want.1.2.toArray⟩, .string ⟨want.2.toArray⟩]), .eq (.tuple #[.int .i64 (n : Nat), .int .i64 0]), .eq (.int .i64 (n : Nat)), .eq (.int .i64 0), .any, .any, .any, .any, .any, .any, .any, .any, .any, .any, .any, .any, .any, .any, .any, .any, .any, .any, .any, .any, .any, .any] [104, 105, 106, 107, 108, 103, 109, 110, 11, 12] [0, 3, 5] (by kernel_rfl) (by kernel_rfl) (by rfl) (by kernel_rfl) ?start17 ?obs17 ?fin17
        case start17 =>
         simp only [List.forall_mem_cons]; exact ⟨⟨_, rfl, rfl⟩, ⟨_, rfl, rfl⟩, ⟨_, rfl, rfl⟩, fun _ h => by cases h⟩
        case obs17 =>
         skip
         refine Obs.cons none (by kernel_rfl) ?_ ?_
         ·refine Ob.plain fun a w hR hk K k => ?_
          obtain ⟨_, e5, f5⟩ := hk 5 (by decide)
          clear hk
          go_simp
          exact k _ _ (Chg.refl _ _) f5
         refine Obs.cons none (by kernel_rfl) ?_ ?_
         ·refine Ob.plain fun a w hR hk K k => ?_
          obtain ⟨_, e0, f0⟩ := hk 0 (by decide)
          clear hk
          go_simp
          exact k _ _ (Chg.refl _ _) f0
         refine Obs.cons none (by kernel_rfl) ?_ ?_
         ·refine Ob.plain fun a w hR hk K k => ?_
          obtain ⟨_, e105, rfl⟩ := hk 105 (by decide)
          clear hk
          have hq := cset_ref ao cp ls w (by omega) (HX.out.1.keep (HC10.out.trans hR (fun _ _ h => h)) (fun _ _ => id)) (fun i hi => Nat.lt_of_lt_of_le (HX.out.2.1 i hi) (HC10.out.trans hR (fun _ _ h => h)).size)
          clear hR
          go_simp
          refine hq.mono ?_
          rintro e w5 ⟨out, ao5, cap5, rfl, h1, h2, h3, _⟩
          exact k _ _ h3 ⟨out, ao5, cap5, rfl, h1, h2.mono (fun _ h => h.2)⟩
         refine Obs.cons none (by kernel_rfl) ?_ ?_
         ·refine Ob.plain fun a w hR hk K k => ?_
          obtain ⟨_, e3, rfl⟩ := hk 3 (by decide)
          clear hk
          have hb := blk_keep HB10.out hR id
          have f0 : w.cell? ⟨A, 0, none⟩ = some (.string ⟨want.1.1.toArray⟩) := cell_blk hb 0
          have f1 : w.cell? ⟨A, 1, none⟩ = some (.string ⟨want.1.2.toArray⟩) := cell_blk hb 1
          have f2 : w.cell? ⟨A, 2, none⟩ = some (.string ⟨want.2.toArray⟩) := cell_blk hb 2
          clear hb
          go_simp
          exact k _ _ (Chg.refl _ _) rfl
         refine Obs.cons none (by kernel_rfl) ?_ ?_
         ·refine Ob.plain fun a w hR hk K k => ?_
          obtain ⟨_, e104, rfl⟩ := hk 104 (by decide)
          obtain ⟨_, e106, f106⟩ := hk 106 (by decide)
          obtain ⟨_, e107, rfl⟩ := hk 107 (by decide)
          clear hk
          obtain ⟨cs, ao5, cap5, rfl, h1, h2⟩ := f106
          have hq : Calls Try.prog 13 #[.slice av n cv, .slice ao5 cs.length cap5, .agg #[.string ⟨want.1.1.toArray⟩, .string ⟨want.1.2.toArray⟩, .string ⟨want.2.toArray⟩]] w fun e w' => e = .returned (.tuple #[.int .i64 (n : Nat), .int .i64 0]) ∧ Chg (fun _ => False) w w' := by
           obtain ⟨x1, x2, k1, k2, _⟩ := HF10.out.2.steps HF10.out.1.short
           have hcap := HF10.out.2.caps
           injection k1 with k1 _ k3
           subst k1 k3
           have hfw := HFW.out
           have hcs := setC_few h1 HLS.out.1
           have := rkcheck av ao5 cv cap5 R cs want w (by omega) (by omega) hcap.1 hcap.2 (k2.keep hR (fun _ _ => id)) h2
           rw [← HNR.out] at this
           refine this.mono ?_
           rintro e w' ⟨m, f, rfl, _, hI, hc⟩
           obtain ⟨e1, e2⟩ := hI.one (HF10.out.1.checks h1)
           exact ⟨by rw [e1, e2, ← HNR.out], hc⟩
          have HQ := hid hq
          clear hq h1 h2 hR
          obtain ⟨cl, hcl⟩ : ∃ cl, cl = cs.length := ⟨_, rfl⟩
          simp only [← hcl] at *
          clear hcl
          have hq := HQ.out
          go_simp
          refine hq.mono ?_
          rintro e w5 ⟨rfl, hc⟩
          exact k _ _ hc rfl
         refine Obs.cons none (by kernel_rfl) ?_ ?_
         ·refine Ob.plain fun a w hR hk K k => ?_
          obtain ⟨_, e108, f108⟩ := hk 108 (by decide)
          clear hk
          go_simp
          exact k _ _ (Chg.refl _ _) f108
         refine Obs.cons none (by kernel_rfl) ?_ ?_
         ·refine Ob.plain fun a w hR hk K k => ?_
          obtain ⟨_, e103, rfl⟩ := hk 103 (by decide)
          clear hk
          go_simp
          exact k _ _ (Chg.refl _ _) rfl
         refine Obs.cons none (by kernel_rfl) ?_ ?_
         ·refine Ob.plain fun a w hR hk K k => ?_
          obtain ⟨_, e103, rfl⟩ := hk 103 (by decide)
          clear hk
          go_simp
          exact k _ _ (Chg.refl _ _) rfl
         refine Obs.cons none (by kernel_rfl) ?_ ?_
         ·refine Ob.plain fun a w hR hk K k => ?_
          obtain ⟨_, e109, f109⟩ := hk 109 (by decide)
          clear hk
          go_simp
          exact k _ _ (Chg.refl _ _) f109
         refine Obs.cons none (by kernel_rfl) ?_ ?_
         ·refine Ob.plain fun a w hR hk K k => ?_
          obtain ⟨_, e110, f110⟩ := hk 110 (by decide)
          clear hk
          go_simp
          exact k _ _ (Chg.refl _ _) f110
         exact Obs.nil
        case fin17 =>
         intro vals w11 hc9 hv
         have h11 : vals 11 = .int .i64 (n : Nat) := hv 11 (by decide)
         have h12 : vals 12 = .int .i64 0 := hv 12 (by decide)
         have HC11 := hid (HC10.out.trans hc9 (fun _ _ h => h))
         have HF11 := hid (And.intro HF10.out.1 (HF10.out.2.keep hc9 (fun _ _ => id)))
         have HB11 := hid (blk_keep HB10.out hc9 id)
         simp only [putAll, List.setIfInBounds_toArray, List.set_cons_zero, List.set_cons_succ, h11, h12]
         clear hv h11 h12 hc9 HC10 HF10 HB10
         obtain ⟨R0, s0, hR0, hs0⟩ := ((HF11.out.1.spec).2.2 rfl).2.2.1
         have hlen : R.length = R0.length + 1 := by rw [hR0]; simp
         obtain ⟨p, hp⟩ : ∃ p : Nat, p = R0.length := ⟨_, rfl⟩
         have hpn : n = p + 1 := by rw [HNR.out, hlen, hp]
         have HPN := hid hpn
         have hpl : p < R.length := by omega
         obtain ⟨x1, x2, k1, hst, _⟩ := HF11.out.2.steps HF11.out.1.short
         injection k1 with k1 k2 k3
         subst k1 k3
         clear k2
         have hTI := fun w' (hc : Chg (fun _ => False) w11 w') => rktight av cv R w' (by have := HFW.out; omega) HF11.out.2.caps.1 HF11.out.2.caps.2 (hst.keep hc (fun _ _ => id)) (fun i hi => Nat.lt_of_lt_of_le hi.2 hc.size)
         rw [((HF11.out.1.spec).2.2 rfl).2.1, ← HNR.out] at hTI
         have HTI := hid hTI
         obtain ⟨bR, oR, hav, _, hAt, hss9⟩ := hst p hpl
         have hRp : R[p].f = want := by
          have : R[p] = s0 := by simp [hR0, hp]
          rw [this, hs0]
         have hAt2 := hAt.f
         rw [hRp] at hAt2
         subst hav
         have HAT := hid hAt2
         have HPI := hid (show (n : Int) - 1 = (p : Int) by omega)
         have HWP := hid (show IntKind.i64.wrap (p : Int) = (p : Int) by have := HFW.out; rw [IntKind.wrap_i64]; omega)
         clear hst hTI hAt hAt2 hss9 hpl hp hlen hR0 hs0 hRp hpn
         go_wp2
         refine wp_region_specs [.any, .any, .any, .eq (.pointer (some ⟨A, 0, none⟩)), .eq (.bool true), .eq (.slice (some ⟨bR, oR, none⟩) n cv), .any, .any, .any, .any, .any, .eq (.int .i64 (n : Nat)), .eq (.int .i64 0), .any, .any, .any, .any, .any, .any, .any, .any, .any, .any, .any, .any, .any, .any, .any, .any, .any, .any, .any, .any, .any, .any, .any, .any, .any, .any, .any, .any, .any, .any, .any, .any, .any, .any, .any, .any, .any, .any, .any, .any, .any, .any, .any, .any, .any, .any, .any, .any, .any, .any, .any, .any, .any, .any, .any, .any, .any, .any, .any, .any, .any, .any, .any, .any, .any, .any, .any, .any, .any, .any, .any, .any, .any, .any, .any, .any, .any, .any, .any, .any, .any, .any, .any, .any, .any, .any, .any, .any, .any, .any, .any, .any, .any, .any, .any, .any, .any, .any, .eq (.int .i64 0), .eq (.bool true), .eq (.bool true), .eq (.int .i64 (n : Nat)), .eq (.slice (some ⟨bR, oR, none⟩) n cv), .eq (.int .i64 (n : Nat)), .eq (.bool true), .eq (.bool true), .eq (.bool true), .eq (.slice (some ⟨bR, oR, none⟩) n cv), .eq (.bool true), .eq (.bool true), .eq (.bool true), .eq (.slice (some ⟨bR, oR, none⟩) n cv), .eq (.int .i64 (n : Nat)), .eq (.int .i64 (p : Nat)), .eq (.pointer (some ⟨bR, oR + p * 12, none⟩)), .eq (.pointer (some ⟨bR, oR + p * 12 + 9, none⟩)), .eq (.agg #[.string ⟨want.1.1.toArray⟩, .string ⟨want.1.2.toArray⟩, .string ⟨want.2.toArray⟩]), .eq (.agg #[.string ⟨want.1.1.toArray⟩, .string ⟨want.1.2.toArray⟩, .string ⟨want.2.toArray⟩]), .eq (.bool true), .eq (.bool true)] [111, 112, 113, 114, 115, 116, 117, 118, 119, 120, 121, 122, 123, 124, 125, 126, 127, 128, 129, 130, 131, 132, 4] [3, 5, 11, 12] (by kernel_rfl) (by kernel_rfl) (by rfl) (by kernel_rfl) ?start18 ?obs18 ?fin18
         case start18 =>
          simp only [List.forall_mem_cons]; exact ⟨⟨_, rfl, rfl⟩, ⟨_, rfl, rfl⟩, ⟨_, rfl, rfl⟩, ⟨_, rfl, rfl⟩, fun _ h => by cases h⟩
         case obs18 =>
          skip
          refine Obs.cons none (by kernel_rfl) ?_ ?_
          ·refine Ob.plain fun a w hR hk K k => ?_
           obtain ⟨_, e12, f12⟩ := hk 12 (by decide)
           clear hk
           go_simp
           exact k _ _ (Chg.refl _ _) f12
          refine Obs.cons none (by kernel_rfl) ?_ ?_
          ·refine Ob.plain fun a w hR hk K k => ?_
           obtain ⟨_, e111, rfl⟩ := hk 111 (by decide)
           clear hk
           go_simp
           exact k _ _ (Chg.refl _ _) rfl
          refine Obs.cons none (by kernel_rfl) ?_ ?_
          ·refine Ob.plain fun a w hR hk K k => ?_
           obtain ⟨_, e112, f112⟩ := hk 112 (by decide)
           clear hk
           go_simp
           exact k _ _ (Chg.refl _ _) f112
          refine Obs.cons (some (113, true)) (by kernel_rfl) ?_ ?_
          ·refine Ob.yes (fun _ _ h => h) fun a w hR hk K k => ?_
           obtain ⟨_, e11, f11⟩ := hk 11 (by decide)
           clear hk
           go_simp
           exact k _ _ (Chg.refl _ _) f11
          refine Obs.cons (some (113, true)) (by kernel_rfl) ?_ ?_
          ·refine Ob.yes (fun _ _ h => h) fun a w hR hk K k => ?_
           obtain ⟨_, e5, f5⟩ := hk 5 (by decide)
           clear hk
           go_simp
           exact k _ _ (Chg.refl _ _) f5
          refine Obs.cons (some (113, true)) (by kernel_rfl) ?_ ?_
          ·refine Ob.yes (fun _ _ h => h) fun a w hR hk K k => ?_
           obtain ⟨_, e115, rfl⟩ := hk 115 (by decide)
           clear hk
           go_simp
           exact k _ _ (Chg.refl _ _) rfl
          refine Obs.cons (some (113, true)) (by kernel_rfl) ?_ ?_
          ·refine Ob.yes (fun _ _ h => h) fun a w hR hk K k => ?_
           obtain ⟨_, e114, rfl⟩ := hk 114 (by decide)
           obtain ⟨_, e116, rfl⟩ := hk 116 (by decide)
           clear hk
           go_simp
           exact k _ _ (Chg.refl _ _) rfl
          refine Obs.cons none (by kernel_rfl) ?_ ?_
          ·refine Ob.plain fun a w hR hk K k => ?_
           obtain ⟨_, e113, rfl⟩ := hk 113 (by decide)
           obtain ⟨_, e117, rfl⟩ := hk 117 (by decide)
           clear hk
           go_simp
           exact k _ _ (Chg.refl _ _) rfl
          refine Obs.cons none (by kernel_rfl) ?_ ?_
          ·refine Ob.plain fun a w hR hk K k => ?_
           obtain ⟨_, e118, f118⟩ := hk 118 (by decide)
           clear hk
           go_simp
           exact k _ _ (Chg.refl _ _) f118
          refine Obs.cons (some (119, true)) (by kernel_rfl) ?_ ?_
          ·refine Ob.yes (fun _ _ h => h) fun a w hR hk K k => ?_
           obtain ⟨_, e5, f5⟩ := hk 5 (by decide)
           clear hk
           go_simp
           exact k _ _ (Chg.refl _ _) f5
          refine Obs.cons (some (119, true)) (by kernel_rfl) ?_ ?_
          ·refine Ob.yes (fun _ _ h => h) fun a w hR hk K k => ?_
           obtain ⟨_, e120, rfl⟩ := hk 120 (by decide)
           clear hk
           have hq := HTI.out w hR
           clear hR
           go_simp
           refine hq.mono ?_
           rintro e w5 ⟨rfl, hc⟩
           exact k _ _ hc rfl
          refine Obs.cons none (by kernel_rfl) ?_ ?_
          ·refine Ob.plain fun a w hR hk K k => ?_
           obtain ⟨_, e119, rfl⟩ := hk 119 (by decide)
           obtain ⟨_, e121, rfl⟩ := hk 121 (by decide)
           clear hk
           go_simp
           exact k _ _ (Chg.refl _ _) rfl
          refine Obs.cons none (by kernel_rfl) ?_ ?_
          ·refine Ob.plain fun a w hR hk K k => ?_
           obtain ⟨_, e122, f122⟩ := hk 122 (by decide)
           clear hk
           go_simp
           exact k _ _ (Chg.refl _ _) f122
          refine Obs.cons (some (123, true)) (by kernel_rfl) ?_ ?_
          ·refine Ob.yes (fun _ _ h => h) fun a w hR hk K k => ?_
           obtain ⟨_, e5, f5⟩ := hk 5 (by decide)
           clear hk
           go_simp
           exact k _ _ (Chg.refl _ _) f5
          refine Obs.cons (some (123, true)) (by kernel_rfl) ?_ ?_
          ·refine Ob.yes (fun _ _ h => h) fun a w hR hk K k => ?_
           obtain ⟨_, e11, f11⟩ := hk 11 (by decide)
           clear hk
           go_simp
           exact k _ _ (Chg.refl _ _) f11
          refine Obs.cons (some (123, true)) (by kernel_rfl) ?_ ?_
          ·refine Ob.yes (fun _ _ h => h) fun a w hR hk K k => ?_
           obtain ⟨_, e125, rfl⟩ := hk 125 (by decide)
           clear hk
           have hpi := HPI.out
           have hwp := HWP.out
           go_simp
           exact k _ _ (Chg.refl _ _) rfl
          refine Obs.cons (some (123, true)) (by kernel_rfl) ?_ ?_
          ·refine Ob.yes (fun _ _ h => h) fun a w hR hk K k => ?_
           obtain ⟨_, e124, rfl⟩ := hk 124 (by decide)
           obtain ⟨_, e126, rfl⟩ := hk 126 (by decide)
           clear hk
           have hpn := HPN.out
           have hlt : p < n := by omega
           clear hpn
           go_simp
           exact k _ _ (Chg.refl _ _) rfl
          refine Obs.cons (some (123, true)) (by kernel_rfl) ?_ ?_
          ·refine Ob.yes (fun _ _ h => h) fun a w hR hk K k => ?_
           obtain ⟨_, e127, rfl⟩ := hk 127 (by decide)
           clear hk
           go_simp
           exact k _ _ (Chg.refl _ _) rfl
          refine Obs.cons (some (123, true)) (by kernel_rfl) ?_ ?_
          ·refine Ob.yes (fun _ _ h => h) fun a w hR hk K k => ?_
           obtain ⟨_, e128, rfl⟩ := hk 128 (by decide)
           clear hk
           have hA := HAT.out.keep hR id
           obtain ⟨f0, f1, f2⟩ := hA
           go_simp
           exact k _ _ (Chg.refl _ _) rfl
          refine Obs.cons (some (123, true)) (by kernel_rfl) ?_ ?_
          ·refine Ob.yes (fun _ _ h => h) fun a w hR hk K k => ?_
           obtain ⟨_, e3, rfl⟩ := hk 3 (by decide)
           clear hk
           have hb := blk_keep HB11.out hR id
           have f0 : w.cell? ⟨A, 0, none⟩ = some (.string ⟨want.1.1.toArray⟩) := cell_blk hb 0
           have f1 : w.cell? ⟨A, 1, none⟩ = some (.string ⟨want.1.2.toArray⟩) := cell_blk hb 1
           have f2 : w.cell? ⟨A, 2, none⟩ = some (.string ⟨want.2.toArray⟩) := cell_blk hb 2
           clear hb
           go_simp
           exact k _ _ (Chg.refl _ _) rfl
          refine Obs.cons (some (123, true)) (by kernel_rfl) ?_ ?_
          ·refine Ob.yes (fun _ _ h => h) fun a w hR hk K k => ?_
           obtain ⟨_, e129, rfl⟩ := hk 129 (by decide)
           obtain ⟨_, e130, rfl⟩ := hk 130 (by decide)
           clear hk
           go_simp
           exact k _ _ (Chg.refl _ _) rfl
          refine Obs.cons none (by kernel_rfl) ?_ ?_
          ·refine Ob.plain fun a w hR hk K k => ?_
           obtain ⟨_, e123, rfl⟩ := hk 123 (by decide)
           obtain ⟨_, e131, rfl⟩ := hk 131 (by decide)
           clear hk
           go_simp
           exact k _ _ (Chg.refl _ _) rfl
          refine Obs.cons none (by kernel_rfl) ?_ ?_
          ·refine Ob.plain fun a w hR hk K k => ?_
           obtain ⟨_, e132, f132⟩ := hk 132 (by decide)
           clear hk
           go_simp
           exact k _ _ (Chg.refl _ _) f132
          exact Obs.nil
         case fin18 =>
          intro vals w12 hc9 hv
          have h4 : vals 4 = .bool true := hv 4 (by decide)
          have HC12 := hid (HC11.out.trans hc9 (fun _ _ h => h))
          simp only [putAll, List.setIfInBounds_toArray, List.set_cons_zero, List.set_cons_succ, h4]
          clear hv h4 hc9 HC11
          go_wp2
          go_ret
          exact ⟨rfl, HC12.out⟩

  ·have z1 : decide ((1000 : Int) < (totalC ls : Int)) = false := decide_eq_false (by omega)
   have z2 : decide ((200 : Int) < (want.2.length : Int) + (want.1.1.length : Int) + (want.1.2.length : Int)) = true := decide_eq_true (by omega)
   go_wp2
   go_ret
   exact ⟨rfl, HC2.out⟩
 ·have z1 : decide ((1000 : Int) < (totalC ls : Int)) = true := decide_eq_true (by omega)
  go_wp2
  go_ret
  exact ⟨rfl, HC2.out⟩
end Go.Proofs.Ytjaplnainlbldaa
