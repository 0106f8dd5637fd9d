/- The ways to a linked step. -/
import Derived.Test.YtjaplnainlbldaaFc13
import Derived.Test.YtjaplnainlbldaaFc23
import Derived.Test.YtjaplnainlbldaaFc7
namespace Go.Proofs.Ytjaplnainlbldaa
open Go.RowKit

theorem alQ {v : Value} {w w' w1 : World} {ty : TypeId} {cells : Array Value} (h : ∃ b, v = .pointer (some ⟨b, 0, none⟩) ∧ w.heap[b]? = some (.cells cells ty (0, 0)) ∧ w1.heap.size ≤ b ∧ Chg (fun b => w1.heap.size ≤ b) w1 w) (c : Chg (fun _ => False) w w') : ∃ b, v = .pointer (some ⟨b, 0, none⟩) ∧ w'.heap[b]? = some (.cells cells ty (0, 0)) ∧ w1.heap.size ≤ b ∧ Chg (fun b => w1.heap.size ≤ b) w1 w' := by
 obtain ⟨b, h1, h2, h3, h4⟩ := h
 exact ⟨b, h1, blk_keep h2 c id, h3, h4.trans c (fun _ _ h => h.elim)⟩

def kl5 (g C B off nn cap2 y : Nat) (wy : List UInt8) (c : CredB) {n : Nat} : List (SpecR (Chg (fun b => n ≤ b))) := [.eq (.pointer (some ⟨g, 0, none⟩)), .any, .any, .any, .any, .any, .eq (.pointer (some ⟨C, 0, none⟩)), .any, .any, .any, .any, .eq (.int .i64 (y : Nat)), .any, .any, .any, .any, .any, .any, .any, .any, .any, .any, .any, .any, .any, .any, .any, .eq (.pointer (some ⟨g, 0, none⟩)), .eq (.pointer (some ⟨g, 0, none⟩)), .eq (.pointer (some ⟨g, 0, none⟩)), .eq (.slice (some ⟨B, off, none⟩) nn cap2), .eq (.int .i64 (y : Nat)), .eq (.pointer (some ⟨B, off + y * 12, none⟩)), .eq (.pointer (some ⟨B, off + y * 12 + 9, none⟩)), .eq (.pointer (some ⟨B, off + y * 12 + 11, none⟩)), .eq (.string ⟨wy.toArray⟩), .eq (.pointer (some ⟨C, 8, none⟩)), .eq (.string ⟨c.w2.toArray⟩), .eq (.agg #[.string ⟨wy.toArray⟩, .string ⟨c.w2.toArray⟩]), .any, .any, .any, .any, .any, .any, .any, .any, .any, .any, .any, .any, .any, .any, .any, .any, .any, .any, .any, .any, .any, .any, .any, .any, .any, .any, .any]

set_option maxRecDepth 100000 in
set_option maxHeartbeats 8000000 in
theorem ch_linked {T : Nat → Option KTag} (g m3 m4 : Nat) (S : List StepB) (c : CredB) (rr : RoleB) (who : List UInt8) (i : Nat) (w0 : World) (h : GS T w0 g m3 m4 S) (hc : credShort c 9223372036854775807) (hw : who.length ≤ 9223372036854775807) (hS : S.length ≤ 33554432) (_ : i ≤ 33554432) :
  Calls Try.prog 113 #[.pointer (some ⟨g, 0, none⟩), .int .i64 (i : Nat), .agg #[.int .i64 c.kind, .string ⟨c.head.1.toArray⟩, .string ⟨c.head.2.toArray⟩, .string ⟨c.who.toArray⟩, .string ⟨c.b.1.toArray⟩, .string ⟨c.b.2.toArray⟩, .string ⟨c.c.1.toArray⟩, .string ⟨c.c.2.toArray⟩, .string ⟨c.w2.toArray⟩], .string ⟨who.toArray⟩] w0 fun e w' => ∃ v, e = .returned v ∧ OwnWy w0.heap.size w' v ((placesK (factsK S) c.b).filterMap (linkW S ⟨c, (rr, who)⟩ i)) ∧ Chg (fun _ => False) w0 w' := by
 obtain ⟨i0, hi0, hz0, hz1, hz2⟩ := info_parts Try.info175
 have HI := hid (And.intro hi0 (And.intro hz0 (And.intro hz1 hz2)))
 clear hi0 hz0 hz1 hz2
 have hc1 : Chg (fun _ => False) w0 (w0.alloc (.cells #[.int .i64 c.kind, .string ⟨c.head.1.toArray⟩, .string ⟨c.head.2.toArray⟩, .string ⟨c.who.toArray⟩, .string ⟨c.b.1.toArray⟩, .string ⟨c.b.2.toArray⟩, .string ⟨c.c.1.toArray⟩, .string ⟨c.c.2.toArray⟩, .string ⟨c.w2.toArray⟩] 36)) := (Chg.refl _ w0).alloc _
 have hbC : (w0.alloc (.cells #[.int .i64 c.kind, .string ⟨c.head.1.toArray⟩, .string ⟨c.head.2.toArray⟩, .string ⟨c.who.toArray⟩, .string ⟨c.b.1.toArray⟩, .string ⟨c.b.2.toArray⟩, .string ⟨c.c.1.toArray⟩, .string ⟨c.c.2.toArray⟩, .string ⟨c.w2.toArray⟩] 36)).heap[w0.heap.size]? = some (.cells #[.int .i64 c.kind, .string ⟨c.head.1.toArray⟩, .string ⟨c.head.2.toArray⟩, .string ⟨c.who.toArray⟩, .string ⟨c.b.1.toArray⟩, .string ⟨c.b.2.toArray⟩, .string ⟨c.c.1.toArray⟩, .string ⟨c.c.2.toArray⟩, .string ⟨c.w2.toArray⟩] 36 (0, 0)) := heap_alloc_new w0 _
 have hgs := h.quiet hc1
 obtain ⟨m2, u, l1, l2, l3, l4⟩ := hgs.look (r := c.b) ⟨hc.2.2.2.1, hc.2.2.2.2.1⟩
 obtain ⟨ps, hps⟩ : ∃ ps, ps = placesK (factsK S) c.b := ⟨_, rfl⟩
 rw [← hps] at l2
 obtain ⟨ao, cap, hu⟩ := l2.shape
 obtain ⟨m, hm⟩ : ∃ m, m = ps.length := ⟨_, rfl⟩
 rw [← hm] at hu
 subst hu
 have HPS := hid hps
 have HM := hid hm.symm
 have HML : Hid (m ≤ 33554432) := hid (by have := placesK_len (factsK S) c.b; rw [factsK_len] at this; rw [hm, hps]; omega)
 have HSL := hid hS
 have HSW : Hid (c.w2.length ≤ 9223372036854775807 ∧ who.length ≤ 9223372036854775807) := hid ⟨hc.2.2.2.2.2.2.2, hw⟩
 have z4 := cell_blk hbC 4
 have z5 := cell_blk hbC 5
 simp only [List.getElem?_toArray, List.getElem?_cons_zero, List.getElem?_cons_succ] at z4 z5
 have HX := hid (And.intro l1 (And.intro z4 z5))
 have HL := hid l4
 have HQ1 := hid l2
 have HGS := hid hgs
 have HBC := hid hbC
 have HC1 := hid hc1
 clear h hc hw hS hc1 hbC hgs l1 l2 l3 l4 hps hm z4 z5
 go_enter Try.func113, Try.ntmps113
 go_wp2_with fail
 generalize (w0.alloc (.cells #[.int .i64 c.kind, .string ⟨c.head.1.toArray⟩, .string ⟨c.head.2.toArray⟩, .string ⟨c.who.toArray⟩, .string ⟨c.b.1.toArray⟩, .string ⟨c.b.2.toArray⟩, .string ⟨c.c.1.toArray⟩, .string ⟨c.c.2.toArray⟩, .string ⟨c.w2.toArray⟩] 36)) = w1 at *
 generalize hC : w0.heap.size = C at HX HL HBC ⊢
 refine wp_region_specs [.eq (.pointer (some ⟨g, 0, none⟩)), .any, .any, .any, .any, .any, .eq (.pointer (some ⟨C, 0, none⟩)), .any, .any, .any, .any, .any, .any, .any, .any, .eq (.pointer (some ⟨g, 0, none⟩)), .eq (.pointer (some ⟨g, 0, none⟩)), .eq (.pointer (some ⟨g, 2, none⟩)), .eq (.map (some m2)), .eq (.pointer (some ⟨C, 4, none⟩)), .eq (.agg #[.string ⟨c.b.1.toArray⟩, .string ⟨c.b.2.toArray⟩]), .eq (.slice ao m cap), .eq (.int .i64 m), .eq (.int .i64 0), .any, .any, .any, .any, .any, .any, .any, .any, .any, .any, .any, .any, .any, .any, .any, .any, .any, .any, .any, .any, .any, .any, .any, .any, .any, .any, .any, .any, .any, .any, .any, .any, .any, .any, .any, .any, .any, .any, .any, .any, .any, .any] [15, 16, 17, 18, 19, 20, 21, 22, 23] [0, 6] (by kernel_rfl) (by kernel_rfl) (by rfl) (by kernel_rfl) ?start2 ?obs2 ?fin2
 case start2 =>
  simp only [List.forall_mem_cons]; exact ⟨⟨_, rfl, rfl⟩, ⟨_, rfl, rfl⟩, fun _ h => by cases h⟩
 case obs2 =>
  clear HPS HM HML HQ1 HC1 HGS HBC HSW HSL HI
  refine Obs.cons none (by kernel_rfl) ?_ ?_
  ·refine Ob.plain fun a w hR hk K k => ?_
   obtain ⟨_, e0, f0⟩ := hk 0 (by decide)
   clear hk
   go_simp
   exact k _ _ (Chg.refl _ _) f0
  refine Obs.cons none (by kernel_rfl) ?_ ?_
  ·refine Ob.plain fun a w hR hk K k => ?_
   obtain ⟨_, e15, rfl⟩ := hk 15 (by decide)
   clear hk
   go_simp
   exact k _ _ (Chg.refl _ _) rfl
  refine Obs.cons none (by kernel_rfl) ?_ ?_
  ·refine Ob.plain fun a w hR hk K k => ?_
   obtain ⟨_, e16, rfl⟩ := hk 16 (by decide)
   clear hk
   go_simp
   exact k _ _ (Chg.refl _ _) rfl
  refine Obs.cons none (by kernel_rfl) ?_ ?_
  ·refine Ob.plain fun a w hR hk K k => ?_
   obtain ⟨_, e17, rfl⟩ := hk 17 (by decide)
   clear hk
   have zz := hR.cell HX.out.1 id
   go_simp
   exact k _ _ (Chg.refl _ _) rfl
  refine Obs.cons none (by kernel_rfl) ?_ ?_
  ·refine Ob.plain fun a w hR hk K k => ?_
   obtain ⟨_, e6, rfl⟩ := hk 6 (by decide)
   clear hk
   go_simp
   exact k _ _ (Chg.refl _ _) rfl
  refine Obs.cons none (by kernel_rfl) ?_ ?_
  ·refine Ob.plain fun a w hR hk K k => ?_
   obtain ⟨_, e19, rfl⟩ := hk 19 (by decide)
   clear hk
   have z4 := hR.cell HX.out.2.1 id
   have z5 := hR.cell HX.out.2.2 id
   go_simp
   exact k _ _ (Chg.refl _ _) rfl
  refine Obs.cons none (by kernel_rfl) ?_ ?_
  ·refine Ob.plain fun a w hR hk K k => ?_
   obtain ⟨_, e18, rfl⟩ := hk 18 (by decide)
   obtain ⟨_, e20, rfl⟩ := hk 20 (by decide)
   clear hk
   have q := HL.out w hR
   go_simp
   exact k _ _ (Chg.refl _ _) rfl
  refine Obs.cons none (by kernel_rfl) ?_ ?_
  ·refine Ob.plain fun a w hR hk K k => ?_
   obtain ⟨_, e21, rfl⟩ := hk 21 (by decide)
   clear hk
   go_simp
   exact k _ _ (Chg.refl _ _) rfl
  refine Obs.cons none (by kernel_rfl) ?_ ?_
  ·refine Ob.plain fun a w hR hk K k => ?_
   clear hk
   go_simp
   exact k _ _ (Chg.refl _ _) rfl
  exact Obs.nil
 case fin2 =>
  intro vals w9 hc9 hv
  have h21 : vals 21 = .slice ao m cap := hv 21 (by decide)
  have h22 : vals 22 = .int .i64 m := hv 22 (by decide)
  have h23 : vals 23 = .int .i64 0 := hv 23 (by decide)
  simp only [putAll, List.setIfInBounds_toArray, List.set_cons_zero, List.set_cons_succ, h21, h22, h23]
  obtain ⟨wq, hwq⟩ : ∃ wq, wq = w9 := ⟨_, rfl⟩
  rw [← hwq] at hc9 hv ⊢
  have HC9 := hid (HC1.out.trans hc9 (fun _ _ h => h))
  have HG9 := hid (HGS.out.quiet hc9)
  have HB9 := hid (blk_keep HBC.out hc9 id)
  have HQ9 := hid (HQ1.out.keep hc9 (fun _ _ => id))
  have hml := HML.out
  clear hc9 hv h21 h22 h23 HX HL HC1 HGS HBC HQ1 hwq
  go_wp2
  go_loopw [9, 23] (fun s9 s23 wr => ∃ (j : Nat) (out : List WayB), j ≤ m ∧ s23 = .int .i64 j ∧ Hid (out = (ps.take j).filterMap (linkW S ⟨c, (rr, who)⟩ i) ∧ OwnWy wq.heap.size wr s9 out ∧ Chg (fun _ => False) wq wr)) (fun _ s23 _ => m - (intOf s23).toNat)
  case atStart => exact ⟨0, [], Nat.zero_le _, rfl, hid ⟨by simp, OwnWy.nil _ _, Chg.refl _ _⟩⟩
  case round =>
   obtain ⟨jj, out, hjj, rfl, hrel⟩ := hrel
   obtain ⟨hout, hown, hch⟩ := hrel.out
   by_cases hltm : jj < m
   ·have hjp : jj < ps.length := by rw [HM.out]; exact hltm
    obtain ⟨b, hao, p1, _⟩ := (HQ9.out.keep hch (fun _ _ => id)).cells hjp
    have hym := List.getElem_mem hjp
    have htk := List.take_succ_eq_append_getElem hjp
    generalize ps[jj] = y at *
    rw [HPS.out] at hym
    have hys := placesK_lt hym
    rw [factsK_len] at hys
    have hgr := HG9.out.quiet hch
    obtain ⟨ao2, cap2, z1, z2, z3⟩ := hgr.steps
    obtain ⟨B, off, hao2, hDD, ⟨hcc9, ⟨hf0, hf1, f2⟩⟩, hss⟩ := z2 y hys
    clear hDD hcc9 hf0 hf1 hss
    have hwy : whoAt S y = (S[y]'hys).f.2 := by
     unfold whoAt factsK
     rw [List.getD_eq_getElem?_getD, List.getElem?_map, List.getElem?_eq_getElem hys]
     rfl
    have hws : (S[y]'hys).f.2.length ≤ 9223372036854775807 := (hgr.sh _ (List.getElem_mem hys)).2.2.2
    obtain ⟨wy, hwyy⟩ : ∃ wy, wy = (S[y]'hys).f.2 := ⟨_, rfl⟩
    rw [← hwyy] at f2 hwy hws
    have hbc := blk_keep HB9.out hch id
    obtain ⟨m1, k1, k2⟩ := hgr.place (f := ((wy, c.w2), who)) ⟨hws, HSW.out.1, HSW.out.2⟩
    have HM1 := hid (And.intro k1 k2)
    obtain ⟨nn, hnn⟩ : ∃ nn, nn = S.length := ⟨_, rfl⟩
    have hsz2 : ∀ {a : Addr} {v : Value}, wr.cell? a = some v → ∀ w, Chg (fun b => wr.heap.size ≤ b) wr w → w.cell? a = some v := fun {a v} ha w hw => hw.cell ha (fun h => by have := World.block_lt_of_cell? wr a ha; omega)
    have HB : Hid (∀ w, Chg (fun b => wr.heap.size ≤ b) wr w → w.cell? ⟨g, 0, none⟩ = some (.slice (some ⟨B, off, none⟩) nn cap2) ∧ w.cell? ⟨B, off + y * 12 + 11, none⟩ = some (.string ⟨wy.toArray⟩) ∧ w.cell? ⟨C, 8, none⟩ = some (.string ⟨c.w2.toArray⟩)) := hid (fun w hw => ⟨hsz2 (by rw [z1, hao2, hnn]) w hw, hsz2 f2 w hw, hsz2 (cell_blk hbc 8) w hw⟩)
    have HY : Hid (y < nn ∧ nn ≤ 33554432) := hid ⟨by rw [hnn]; exact hys, by rw [hnn]; exact HSL.out⟩
    have HNS := hid hnn
    have HPUT : Hid ((∀ x, linkW S ⟨c, (rr, who)⟩ i y = some x → out ++ [x] = (ps.take (jj + 1)).filterMap (linkW S ⟨c, (rr, who)⟩ i)) ∧ (linkW S ⟨c, (rr, who)⟩ i y = none → out = (ps.take (jj + 1)).filterMap (linkW S ⟨c, (rr, who)⟩ i))) := hid ⟨fun x hx => by rw [htk, List.filterMap_append, ← hout]; simp [hx], fun hx => by rw [htk, List.filterMap_append, ← hout]; simp [hx]⟩
    have HWY := hid hwy
    have HCR := hid hch
    have HOL : Hid (out.length ≤ 33554432) := hid (by
     rw [hout]
     refine Nat.le_trans (List.length_filterMap_le _ _) ?_
     rw [List.length_take]
     omega)
    obtain ⟨ao9, cap9, hs9⟩ := hown.shape
    subst hs9
    have HOR := hid hown
    subst hao
    clear hjp hym htk hys hgr z1 z2 z3 f2 hwyy hws hbc k1 k2 hsz2 hnn hout hown hch hwy hrel hao2
    go_wp2_with fail
    clear p1
    refine wp_region_stateAD (Chg (fun b => wr.heap.size ≤ b)) (AlS 12 13 12 (fun w => Chg (fun b => wr.heap.size ≤ b) wr w) (fun v w => ∃ b, v = .pointer (some ⟨b, 0, none⟩) ∧ w.heap[b]? = some (.cells #[.string ⟨#[]⟩, .string ⟨#[]⟩] 24 (0, 0)) ∧ wr.heap.size ≤ b ∧ Chg (fun b => wr.heap.size ≤ b) wr w) (fun v w => ∃ b, v = .pointer (some ⟨b, 0, none⟩) ∧ w.heap[b]? = some (.cells #[.string ⟨wy.toArray⟩, .string ⟨c.w2.toArray⟩] 24 (0, 0)) ∧ wr.heap.size ≤ b ∧ Chg (fun b => wr.heap.size ≤ b) wr w)) (specAtR (kl5 g C B off nn cap2 y wy c)) [27, 28, 29, 30, 31, 32, 33, 34, 35, 36, 37, 38, 12] [0, 6, 11] (by kernel_rfl) (by kernel_rfl) (AlS.start (show (12 : Nat) < 66 by decide) ((Chg.refl _ _).drew)) (fun t v w w' hc h => specAtR_st _ t v w w' hc h) (by rfl) (by kernel_rfl) ?start5 ?obs5 ?fin5
    case start5 =>
     simp only [List.forall_mem_cons]; exact ⟨⟨_, rfl, rfl⟩, ⟨_, rfl, rfl⟩, ⟨_, rfl, rfl⟩, fun _ h => by cases h⟩
    case obs5 =>
     clear HPUT HWY HM1 HCR HOR
     refine ObsAD.cons none (by kernel_rfl) ?_ ?_
     ·refine ObAD.plain fun L a w hi he hD hW hk K k => ?_
      obtain ⟨_, e0, rfl⟩ := hk 0 (by decide)
      clear hk
      have hS := hid (hW.step (j := 0) (d := (some 27)) · (by decide) (Chg.refl (fun _ => False) w) (fun _ _ h c => h.trans c (fun _ _ h => h.elim)) (fun _ _ _ h c => alQ h c) (fun _ _ _ h c => alQ h c))
      clear hi he hW hD
      go_simp
      exact k _ _ (Chg.refl _ _) (hS.out _) rfl
     refine ObsAD.cons none (by kernel_rfl) ?_ ?_
     ·refine ObAD.plain fun L a w hi he hD hW hk K k => ?_
      obtain ⟨_, e27, rfl⟩ := hk 27 (by decide)
      clear hk
      have hS := hid (hW.step (j := 1) (d := (some 28)) · (by decide) (Chg.refl (fun _ => False) w) (fun _ _ h c => h.trans c (fun _ _ h => h.elim)) (fun _ _ _ h c => alQ h c) (fun _ _ _ h c => alQ h c))
      clear hi he hW hD
      go_simp
      exact k _ _ (Chg.refl _ _) (hS.out _) rfl
     refine ObsAD.cons none (by kernel_rfl) ?_ ?_
     ·refine ObAD.plain fun L a w hi he hD hW hk K k => ?_
      obtain ⟨_, e28, rfl⟩ := hk 28 (by decide)
      clear hk
      have hS := hid (hW.step (j := 2) (d := (some 29)) · (by decide) (Chg.refl (fun _ => False) w) (fun _ _ h c => h.trans c (fun _ _ h => h.elim)) (fun _ _ _ h c => alQ h c) (fun _ _ _ h c => alQ h c))
      clear hi he hW hD
      go_simp
      exact k _ _ (Chg.refl _ _) (hS.out _) rfl
     refine ObsAD.cons none (by kernel_rfl) ?_ ?_
     ·refine ObAD.plain fun L a w hi he hD hW hk K k => ?_
      obtain ⟨_, e29, rfl⟩ := hk 29 (by decide)
      clear hk
      have hB := hW.ever (fun w h => HB.out w h) (fun v w h => HB.out w h.choose_spec.2.2.2) (fun v w h => HB.out w (h.choose_spec.2.2.2))
      obtain ⟨zz, _, _⟩ := hB
      have hS := hid (hW.step (j := 3) (d := (some 30)) · (by decide) (Chg.refl (fun _ => False) w) (fun _ _ h c => h.trans c (fun _ _ h => h.elim)) (fun _ _ _ h c => alQ h c) (fun _ _ _ h c => alQ h c))
      clear hi he hW hD
      go_simp
      exact k _ _ (Chg.refl _ _) (hS.out _) rfl
     refine ObsAD.cons none (by kernel_rfl) ?_ ?_
     ·refine ObAD.plain fun L a w hi he hD hW hk K k => ?_
      obtain ⟨_, e11, rfl⟩ := hk 11 (by decide)
      clear hk
      have hS := hid (hW.step (j := 4) (d := (some 31)) · (by decide) (Chg.refl (fun _ => False) w) (fun _ _ h c => h.trans c (fun _ _ h => h.elim)) (fun _ _ _ h c => alQ h c) (fun _ _ _ h c => alQ h c))
      clear hi he hW hD
      go_simp
      exact k _ _ (Chg.refl _ _) (hS.out _) rfl
     refine ObsAD.cons none (by kernel_rfl) ?_ ?_
     ·refine ObAD.plain fun L a w hi he hD hW hk K k => ?_
      obtain ⟨_, e30, rfl⟩ := hk 30 (by decide)
      obtain ⟨_, e31, rfl⟩ := hk 31 (by decide)
      clear hk
      have hB := hW.ever (fun w h => HB.out w h) (fun v w h => HB.out w h.choose_spec.2.2.2) (fun v w h => HB.out w (h.choose_spec.2.2.2))
      have hlt := HY.out.1
      have hS := hid (hW.step (j := 5) (d := (some 32)) · (by decide) (Chg.refl (fun _ => False) w) (fun _ _ h c => h.trans c (fun _ _ h => h.elim)) (fun _ _ _ h c => alQ h c) (fun _ _ _ h c => alQ h c))
      clear hi he hW hD
      go_simp
      exact k _ _ (Chg.refl _ _) (hS.out _) rfl
     refine ObsAD.cons none (by kernel_rfl) ?_ ?_
     ·refine ObAD.plain fun L a w hi he hD hW hk K k => ?_
      obtain ⟨_, e32, rfl⟩ := hk 32 (by decide)
      clear hk
      have hS := hid (hW.step (j := 6) (d := (some 33)) · (by decide) (Chg.refl (fun _ => False) w) (fun _ _ h c => h.trans c (fun _ _ h => h.elim)) (fun _ _ _ h c => alQ h c) (fun _ _ _ h c => alQ h c))
      clear hi he hW hD
      go_simp
      exact k _ _ (Chg.refl _ _) (hS.out _) rfl
     refine ObsAD.cons none (by kernel_rfl) ?_ ?_
     ·refine ObAD.plain fun L a w hi he hD hW hk K k => ?_
      obtain ⟨_, e33, rfl⟩ := hk 33 (by decide)
      clear hk
      have hS := hid (hW.step (j := 7) (d := (some 34)) · (by decide) (Chg.refl (fun _ => False) w) (fun _ _ h c => h.trans c (fun _ _ h => h.elim)) (fun _ _ _ h c => alQ h c) (fun _ _ _ h c => alQ h c))
      clear hi he hW hD
      go_simp
      exact k _ _ (Chg.refl _ _) (hS.out _) rfl
     refine ObsAD.cons none (by kernel_rfl) ?_ ?_
     ·refine ObAD.plain fun L a w hi he hD hW hk K k => ?_
      obtain ⟨_, e34, rfl⟩ := hk 34 (by decide)
      clear hk
      have hB := hW.ever (fun w h => HB.out w h) (fun v w h => HB.out w h.choose_spec.2.2.2) (fun v w h => HB.out w (h.choose_spec.2.2.2))
      obtain ⟨_, zz, _⟩ := hB
      have hS := hid (hW.step (j := 8) (d := (some 35)) · (by decide) (Chg.refl (fun _ => False) w) (fun _ _ h c => h.trans c (fun _ _ h => h.elim)) (fun _ _ _ h c => alQ h c) (fun _ _ _ h c => alQ h c))
      clear hi he hW hD
      go_simp
      exact k _ _ (Chg.refl _ _) (hS.out _) rfl
     refine ObsAD.cons none (by kernel_rfl) ?_ ?_
     ·refine ObAD.plain fun L a w hi he hD hW hk K k => ?_
      obtain ⟨_, e6, rfl⟩ := hk 6 (by decide)
      clear hk
      have hS := hid (hW.step (j := 9) (d := (some 36)) · (by decide) (Chg.refl (fun _ => False) w) (fun _ _ h c => h.trans c (fun _ _ h => h.elim)) (fun _ _ _ h c => alQ h c) (fun _ _ _ h c => alQ h c))
      clear hi he hW hD
      go_simp
      exact k _ _ (Chg.refl _ _) (hS.out _) rfl
     refine ObsAD.cons none (by kernel_rfl) ?_ ?_
     ·refine ObAD.plain fun L a w hi he hD hW hk K k => ?_
      obtain ⟨_, e36, rfl⟩ := hk 36 (by decide)
      clear hk
      have hB := hW.ever (fun w h => HB.out w h) (fun v w h => HB.out w h.choose_spec.2.2.2) (fun v w h => HB.out w (h.choose_spec.2.2.2))
      obtain ⟨_, _, zz⟩ := hB
      have hS := hid (hW.step (j := 10) (d := (some 37)) · (by decide) (Chg.refl (fun _ => False) w) (fun _ _ h c => h.trans c (fun _ _ h => h.elim)) (fun _ _ _ h c => alQ h c) (fun _ _ _ h c => alQ h c))
      clear hi he hW hD
      go_simp
      exact k _ _ (Chg.refl _ _) (hS.out _) rfl
     refine ObsAD.cons none (by kernel_rfl) ?_ ?_
     ·refine ObAD.plain fun L a w hi he hD hW hk K k => ?_
      obtain ⟨_, e35, rfl⟩ := hk 35 (by decide)
      obtain ⟨_, e37, rfl⟩ := hk 37 (by decide)
      clear hk
      have hS := hid (hW.step (j := 11) (d := (some 38)) · (by decide) (Chg.refl (fun _ => False) w) (fun _ _ h c => h.trans c (fun _ _ h => h.elim)) (fun _ _ _ h c => alQ h c) (fun _ _ _ h c => alQ h c))
      clear hi he hW hD
      go_simp
      exact k _ _ (Chg.refl _ _) (hS.out _) rfl
     refine ObsAD.cons none (by kernel_rfl) ?_ ?_
     ·refine ObAD.plain fun L a w hi he hD hW hk K k => ?_
      clear hk
      have h0 := hW.p0 hi
      have hsz := h0.size
      have HS := hid (And.intro hW hi)
      clear hi he hW hD
      go_simp
      exact k _ _ ((Chg.refl _ _).alloc _) (HS.out.1.first (by decide) HS.out.2 ⟨w.heap.size, rfl, heap_alloc_new w _, hsz, h0.alloc _⟩) trivial
     refine ObsAD.cons none (by kernel_rfl) ?_ ?_
     ·refine ObAD.plain fun L a w hi he hD hW hk K k => ?_
      obtain ⟨_, e38, rfl⟩ := hk 38 (by decide)
      clear hk
      have hall : L 12 = true := he ⟨12, Ground.data⟩ (by simp) (by decide)
      obtain ⟨v2, e12, b, rfl, hb, hle, hc⟩ := hW.p1 hall hi
      have z0 := cell_blk hb 0
      have z1 := cell_blk hb 1
      have f0 := froz_blk hb 0
      have f1 := froz_blk hb 1
      simp only [List.getElem?_toArray, List.getElem?_cons_zero, List.getElem?_cons_succ] at z0 z1
      have HS := hid (And.intro hW (And.intro hall (And.intro (set_blk (set_blk hb 0 (.string ⟨wy.toArray⟩)) 1 (.string ⟨c.w2.toArray⟩)) (And.intro hle (And.intro ((hc.setCell (p := ⟨b, 0, none⟩) (fun _ => hle) (.string ⟨wy.toArray⟩)).setCell (p := ⟨b, 1, none⟩) (fun _ => hle) (.string ⟨c.w2.toArray⟩)) (((Chg.refl (fun b => wr.heap.size ≤ b) w).setCell (p := ⟨b, 0, none⟩) (fun _ => hle) (.string ⟨wy.toArray⟩)).setCell (p := ⟨b, 1, none⟩) (fun _ => hle) (.string ⟨c.w2.toArray⟩)))))))
      have H12 := hid e12
      clear hW hall hb hle hc hi he hD
      go_simp
      exact k undef _ HS.out.2.2.2.2.2 (HS.out.1.second (by decide) HS.out.2.1 H12.out ⟨b, rfl, HS.out.2.2.1, HS.out.2.2.2.1, HS.out.2.2.2.2.1⟩) trivial
     exact ObsAD.nil
    case fin5 =>
     intro L vals w9 hL hWL hv
     obtain ⟨vv, hvv, b5, rfl, hb5, hle5, hc5⟩ := hWL.p2 (hL 13 (by decide))
     simp only [putAll, List.setIfInBounds_toArray, List.set_cons_zero, List.set_cons_succ, List.getElem?_toArray, List.getElem?_cons_zero, List.getElem?_cons_succ, Option.some.injEq] at hvv
     have hv12 := hvv
     clear hL hWL hvv
     obtain ⟨w6, hw6⟩ : ∃ w6, w6 = w9 := ⟨_, rfl⟩
     rw [← hw6] at hb5 hc5 ⊢
     have hcN : Chg (fun _ => False) wr w6 := hc5.mono (fun i hi h => by omega)
     have z12 : vals 12 = .pointer (some ⟨b5, 0, none⟩) := hv12
     simp only [putAll, List.setIfInBounds_toArray, List.set_cons_zero, List.set_cons_succ, z12]
     have HX6 := hid (And.intro (hcN.cell HM1.out.1 id) (And.intro (show w6.cell? ⟨b5, 0, none⟩ = some (.string ⟨wy.toArray⟩) from cell_blk hb5 0) (show w6.cell? ⟨b5, 1, none⟩ = some (.string ⟨c.w2.toArray⟩) from cell_blk hb5 1)))
     have HL6 : Hid (∀ w', Chg (fun _ => False) w6 w' → (Instr.lookup 82 (.map (some m1)) (.agg #[.string ⟨wy.toArray⟩, .string ⟨c.w2.toArray⟩, .string ⟨who.toArray⟩]) true).run Try.prog w' = .ok (.tuple #[(atF (factsK S) ((wy, c.w2), who)).getD (.int .i64 0), .bool (decide (((wy, c.w2), who) ∈ factsK S))]) w') := hid (fun w' hc => (HM1.out.2 w' (hcN.trans hc (fun _ _ h => h))).2)
     have HC6 := hid (HCR.out.trans hcN (fun _ _ h => h))
     have HO6 := hid (HOR.out.keep hcN (fun _ _ => id))
     clear hv hw6 hb5 hc5 hcN z12 hle5 hv12 HM1 HCR HOR HB
     go_wp2_with fail
     by_cases hin : ((wy, c.w2), who) ∈ factsK S
     ·obtain ⟨z, hz⟩ : ∃ z, z = (factsK S).idxOf ((wy, c.w2), who) := ⟨_, rfl⟩
      have hat : (atF (factsK S) ((wy, c.w2), who)).getD (.int .i64 0) = .int .i64 (z : Nat) := by unfold atF; rw [if_pos hin, ← hz]; rfl
      have hzl : z < (factsK S).length := by rw [hz]; exact List.idxOf_lt_length_of_mem hin
      rw [hat, decide_eq_true hin] at HL6
      have HYES : Hid (max y z < i → out ++ [(y, z)] = (ps.take (jj + 1)).filterMap (linkW S ⟨c, (rr, who)⟩ i)) := hid (fun h => HPUT.out.1 (y, z) (by unfold linkW; rw [HWY.out]; rw [if_pos ⟨hin, by rw [← hz]; exact h⟩, ← hz]))
      have HNO : Hid (¬ max y z < i → out = (ps.take (jj + 1)).filterMap (linkW S ⟨c, (rr, who)⟩ i)) := hid (fun h => HPUT.out.2 (by unfold linkW; rw [HWY.out]; exact if_neg (fun hh => h (by rw [hz]; exact hh.2))))
      have HY2 : Hid (y < nn ∧ y ≤ 33554432 ∧ z ≤ 33554432) := hid ⟨HY.out.1, by have := HY.out; omega, by rw [factsK_len] at hzl; have := HY.out; have h2 := HNS.out; omega⟩
      clear HY
      have HY := HY2
      clear HY2 hin hz hat hzl HPUT HWY
      refine wp_region_specs [.eq (.pointer (some ⟨g, 0, none⟩)), .any, .any, .eq (.string ⟨who.toArray⟩), .any, .any, .any, .any, .any, .any, .any, .any, .eq (.pointer (some ⟨b5, 0, none⟩)), .eq ((.int .i64 (z : Nat))), .eq (.bool true), .any, .any, .any, .any, .any, .any, .any, .any, .any, .any, .any, .any, .any, .any, .any, .any, .any, .any, .any, .any, .any, .any, .any, .any, .eq (.tuple #[(.int .i64 (z : Nat)), .bool true]), .eq (.pointer (some ⟨g, 0, none⟩)), .eq (.pointer (some ⟨g, 0, none⟩)), .eq (.pointer (some ⟨g, 1, none⟩)), .eq (.map (some m1)), .eq (.agg #[.string ⟨wy.toArray⟩, .string ⟨c.w2.toArray⟩]), .eq (.string ⟨who.toArray⟩), .eq (.agg #[.string ⟨wy.toArray⟩, .string ⟨c.w2.toArray⟩, .string ⟨who.toArray⟩]), .eq (.tuple #[(.int .i64 (z : Nat)), .bool true]), .eq ((.int .i64 (z : Nat))), .eq (.bool true), .any, .any, .any, .any, .any, .any, .any, .any, .any, .any, .any, .any, .any, .any, .any, .any] [40, 41, 42, 43, 44, 45, 46, 47, 39, 48, 49, 13, 14] [0, 3, 12] (by kernel_rfl) (by kernel_rfl) (by rfl) (by kernel_rfl) ?start6 ?obs6 ?fin6
      case start6 =>
       simp only [List.forall_mem_cons]; exact ⟨⟨_, rfl, rfl⟩, ⟨_, rfl, rfl⟩, ⟨_, rfl, rfl⟩, fun _ h => by cases h⟩
      case obs6 =>
       clear HC6 HO6 HYES HNO HOL HI
       refine Obs.cons none (by kernel_rfl) ?_ ?_
       ·refine Ob.plain fun a w hR hk K k => ?_
        obtain ⟨_, e0, f0⟩ := hk 0 (by decide)
        clear hk
        go_simp
        exact k _ _ (Chg.refl _ _) f0
       refine Obs.cons none (by kernel_rfl) ?_ ?_
       ·refine Ob.plain fun a w hR hk K k => ?_
        obtain ⟨_, e40, rfl⟩ := hk 40 (by decide)
        clear hk
        go_simp
        exact k _ _ (Chg.refl _ _) rfl
       refine Obs.cons none (by kernel_rfl) ?_ ?_
       ·refine Ob.plain fun a w hR hk K k => ?_
        obtain ⟨_, e41, rfl⟩ := hk 41 (by decide)
        clear hk
        go_simp
        exact k _ _ (Chg.refl _ _) rfl
       refine Obs.cons none (by kernel_rfl) ?_ ?_
       ·refine Ob.plain fun a w hR hk K k => ?_
        obtain ⟨_, e42, rfl⟩ := hk 42 (by decide)
        clear hk
        have zz := hR.cell HX6.out.1 id
        go_simp
        exact k _ _ (Chg.refl _ _) rfl
       refine Obs.cons none (by kernel_rfl) ?_ ?_
       ·refine Ob.plain fun a w hR hk K k => ?_
        obtain ⟨_, e12, rfl⟩ := hk 12 (by decide)
        clear hk
        have z0 := hR.cell HX6.out.2.1 id
        have z1 := hR.cell HX6.out.2.2 id
        go_simp
        exact k _ _ (Chg.refl _ _) rfl
       refine Obs.cons none (by kernel_rfl) ?_ ?_
       ·refine Ob.plain fun a w hR hk K k => ?_
        obtain ⟨_, e3, f3⟩ := hk 3 (by decide)
        clear hk
        go_simp
        exact k _ _ (Chg.refl _ _) f3
       refine Obs.cons none (by kernel_rfl) ?_ ?_
       ·refine Ob.plain fun a w hR hk K k => ?_
        obtain ⟨_, e44, rfl⟩ := hk 44 (by decide)
        obtain ⟨_, e45, rfl⟩ := hk 45 (by decide)
        clear hk
        go_simp
        exact k _ _ (Chg.refl _ _) rfl
       refine Obs.cons none (by kernel_rfl) ?_ ?_
       ·refine Ob.plain fun a w hR hk K k => ?_
        obtain ⟨_, e43, rfl⟩ := hk 43 (by decide)
        obtain ⟨_, e46, rfl⟩ := hk 46 (by decide)
        clear hk
        have q := HL6.out w hR
        go_simp
        exact k _ _ (Chg.refl _ _) rfl
       refine Obs.cons none (by kernel_rfl) ?_ ?_
       ·refine Ob.plain fun a w hR hk K k => ?_
        obtain ⟨_, e47, f47⟩ := hk 47 (by decide)
        clear hk
        go_simp
        exact k _ _ (Chg.refl _ _) f47
       refine Obs.cons none (by kernel_rfl) ?_ ?_
       ·refine Ob.plain fun a w hR hk K k => ?_
        obtain ⟨_, e39, rfl⟩ := hk 39 (by decide)
        clear hk
        go_simp
        exact k _ _ (Chg.refl _ _) rfl
       refine Obs.cons none (by kernel_rfl) ?_ ?_
       ·refine Ob.plain fun a w hR hk K k => ?_
        obtain ⟨_, e39, rfl⟩ := hk 39 (by decide)
        clear hk
        go_simp
        exact k _ _ (Chg.refl _ _) rfl
       refine Obs.cons none (by kernel_rfl) ?_ ?_
       ·refine Ob.plain fun a w hR hk K k => ?_
        obtain ⟨_, e48, f48⟩ := hk 48 (by decide)
        clear hk
        go_simp
        exact k _ _ (Chg.refl _ _) f48
       refine Obs.cons none (by kernel_rfl) ?_ ?_
       ·refine Ob.plain fun a w hR hk K k => ?_
        obtain ⟨_, e49, f49⟩ := hk 49 (by decide)
        clear hk
        go_simp
        exact k _ _ (Chg.refl _ _) f49
       exact Obs.nil
      case fin6 =>
       intro vals w9 hc9 hv
       have h13 : vals 13 = .int .i64 (z : Nat) := hv 13 (by decide)
       have h14 : vals 14 = .bool true := hv 14 (by decide)
       simp only [putAll, List.setIfInBounds_toArray, List.set_cons_zero, List.set_cons_succ, h13, h14]
       have HC9 := hid (HC6.out.trans hc9 (fun _ _ h => h))
       have HO9 := hid (HO6.out.keep hc9 (fun _ _ => id))
       clear hc9 hv h13 h14 HX6 HL6 HC6 HO6
       by_cases hz : max y z < i
       ·have HZ := hid (HYES.out hz)
        have hyi : (y : Int) < (i : Int) := by omega
        have hzi : (z : Int) < (i : Int) := by omega
        clear HNO HYES hz
        rcases Nat.lt_trichotomy y z with h1 | h1 | h1
        ·have q1 : (y : Int) < (z : Int) := by omega
         have q2 : ¬ (z : Int) < (y : Int) := by omega
         clear h1
         have hyl := HY.out.2.1
         have hzl := HY.out.2.2
         go_wp2_with (at_builtin; refine wpList_append_own_at _ rfl (.tmp 58) (.tmp 62) 142 rfl wq.heap.size 175 i0 (.agg #[.int .i64 0, .int .i64 0]) 2 16 Try.underlying142 HI.out.1 HI.out.2.1 HI.out.2.2.1 HI.out.2.2.2 rfl (by decide) _ _ _ rfl (World.ownsRow.alloc HO9.out (.cells #[.int .i64 (y : Nat), .int .i64 (z : Nat)] 175)) ⟨w9.heap.size, 0, none⟩ 1 1 (wayCells (y, z)) rfl rfl ?c1 ?c2 ?c3 ?c4 ?c5 ?_)
         case c1 =>
          intro j u hj
          exact hj
         case c2 => intro u hu; simp only [wayCells, List.mem_cons, List.not_mem_nil, or_false] at hu; rcases hu with rfl | rfl <;> rfl
         case c3 => have := HOL.out; unfold maxLen; omega
         case c4 => have := HOL.out; omega
         case c5 => have := HC9.out.size; simp; omega
         intro v' w3 hown hgrow _ _
         have ho2 : OwnWy wq.heap.size w3 v' (out ++ [(y, z)]) := by
          unfold OwnWy
          rw [wayRow_snoc, List.length_append]
          exact hown
         have hc7 : Chg (fun _ => False) wq w3 := (HC9.out.alloc _).grown hgrow (fun k e hk => by have := (OwnWy.blt HO9.out e).1; omega)
         obtain ⟨zs, HZS⟩ : ∃ zs, Hid (zs = out ++ [(y, z)]) := ⟨_, hid rfl⟩
         rw [← HZS.out] at ho2 HZ
         have HN := hid (And.intro HZ.out (And.intro ho2 hc7))
         clear hown hgrow ho2 hc7 HO9 HC9 HZ HZS
         go_wp2
         go_roundw
         case rel => exact ⟨jj + 1, zs, by omega, by go_num, hid HN.out⟩
         case measure => simp [intOf]; omega
        ·subst h1
         have q1 : ¬ (y : Int) < (y : Int) := by omega
         have hyl := HY.out.2.1
         have hzl := HY.out.2.2
         go_wp2_with (at_builtin; refine wpList_append_own_at _ rfl (.tmp 58) (.tmp 62) 142 rfl wq.heap.size 175 i0 (.agg #[.int .i64 0, .int .i64 0]) 2 16 Try.underlying142 HI.out.1 HI.out.2.1 HI.out.2.2.1 HI.out.2.2.2 rfl (by decide) _ _ _ rfl (World.ownsRow.alloc HO9.out (.cells #[.int .i64 (y : Nat), .int .i64 (y : Nat)] 175)) ⟨w9.heap.size, 0, none⟩ 1 1 (wayCells (y, y)) rfl rfl ?c1 ?c2 ?c3 ?c4 ?c5 ?_)
         case c1 =>
          intro j u hj
          exact hj
         case c2 => intro u hu; simp only [wayCells, List.mem_cons, List.not_mem_nil, or_false] at hu; rcases hu with rfl | rfl <;> rfl
         case c3 => have := HOL.out; unfold maxLen; omega
         case c4 => have := HOL.out; omega
         case c5 => have := HC9.out.size; simp; omega
         intro v' w3 hown hgrow _ _
         have ho2 : OwnWy wq.heap.size w3 v' (out ++ [(y, y)]) := by
          unfold OwnWy
          rw [wayRow_snoc, List.length_append]
          exact hown
         have hc7 : Chg (fun _ => False) wq w3 := (HC9.out.alloc _).grown hgrow (fun k e hk => by have := (OwnWy.blt HO9.out e).1; omega)
         obtain ⟨zs, HZS⟩ : ∃ zs, Hid (zs = out ++ [(y, y)]) := ⟨_, hid rfl⟩
         rw [← HZS.out] at ho2 HZ
         have HN := hid (And.intro HZ.out (And.intro ho2 hc7))
         clear hown hgrow ho2 hc7 HO9 HC9 HZ HZS
         go_wp2
         go_roundw
         case rel => exact ⟨jj + 1, zs, by omega, by go_num, hid HN.out⟩
         case measure => simp [intOf]; omega
        ·have q1 : (z : Int) < (y : Int) := by omega
         have q2 : ¬ (y : Int) < (z : Int) := by omega
         clear h1
         have hyl := HY.out.2.1
         have hzl := HY.out.2.2
         go_wp2_with (at_builtin; refine wpList_append_own_at _ rfl (.tmp 58) (.tmp 62) 142 rfl wq.heap.size 175 i0 (.agg #[.int .i64 0, .int .i64 0]) 2 16 Try.underlying142 HI.out.1 HI.out.2.1 HI.out.2.2.1 HI.out.2.2.2 rfl (by decide) _ _ _ rfl (World.ownsRow.alloc HO9.out (.cells #[.int .i64 (y : Nat), .int .i64 (z : Nat)] 175)) ⟨w9.heap.size, 0, none⟩ 1 1 (wayCells (y, z)) rfl rfl ?c1 ?c2 ?c3 ?c4 ?c5 ?_)
         case c1 =>
          intro j u hj
          exact hj
         case c2 => intro u hu; simp only [wayCells, List.mem_cons, List.not_mem_nil, or_false] at hu; rcases hu with rfl | rfl <;> rfl
         case c3 => have := HOL.out; unfold maxLen; omega
         case c4 => have := HOL.out; omega
         case c5 => have := HC9.out.size; simp; omega
         intro v' w3 hown hgrow _ _
         have ho2 : OwnWy wq.heap.size w3 v' (out ++ [(y, z)]) := by
          unfold OwnWy
          rw [wayRow_snoc, List.length_append]
          exact hown
         have hc7 : Chg (fun _ => False) wq w3 := (HC9.out.alloc _).grown hgrow (fun k e hk => by have := (OwnWy.blt HO9.out e).1; omega)
         obtain ⟨zs, HZS⟩ : ∃ zs, Hid (zs = out ++ [(y, z)]) := ⟨_, hid rfl⟩
         rw [← HZS.out] at ho2 HZ
         have HN := hid (And.intro HZ.out (And.intro ho2 hc7))
         clear hown hgrow ho2 hc7 HO9 HC9 HZ HZS
         go_wp2
         go_roundw
         case rel => exact ⟨jj + 1, zs, by omega, by go_num, hid HN.out⟩
         case measure => simp [intOf]; omega
       ·have HNO2 := hid (HNO.out hz)
        clear HNO HYES
        rcases Nat.lt_trichotomy y z with h1 | h1 | h1
        ·have q1 : (y : Int) < (z : Int) := by omega
         have q2 : ¬ (z : Int) < (y : Int) := by omega
         have q3 : ¬ (z : Int) < (i : Int) := by omega
         clear h1 hz
         have HN := hid (And.intro HNO2.out (And.intro HO9.out HC9.out))
         clear HO9 HC9 HNO2
         go_wp2
         go_roundw
         case rel => exact ⟨jj + 1, out, by omega, by go_num, hid HN.out⟩
         case measure => simp [intOf]; omega
        ·subst h1
         have q1 : ¬ (y : Int) < (y : Int) := by omega
         have q3 : ¬ (y : Int) < (i : Int) := by omega
         clear hz
         have HN := hid (And.intro HNO2.out (And.intro HO9.out HC9.out))
         clear HO9 HC9 HNO2
         go_wp2
         go_roundw
         case rel => exact ⟨jj + 1, out, by omega, by go_num, hid HN.out⟩
         case measure => simp [intOf]; omega
        ·have q1 : (z : Int) < (y : Int) := by omega
         have q2 : ¬ (y : Int) < (z : Int) := by omega
         have q3 : ¬ (y : Int) < (i : Int) := by omega
         clear h1 hz
         have HN := hid (And.intro HNO2.out (And.intro HO9.out HC9.out))
         clear HO9 HC9 HNO2
         go_wp2
         go_roundw
         case rel => exact ⟨jj + 1, out, by omega, by go_num, hid HN.out⟩
         case measure => simp [intOf]; omega

     ·have hat : (atF (factsK S) ((wy, c.w2), who)).getD (.int .i64 0) = .int .i64 0 := by unfold atF; rw [if_neg hin]; rfl
      rw [hat, decide_eq_false hin] at HL6
      have HNO : Hid (out = (ps.take (jj + 1)).filterMap (linkW S ⟨c, (rr, who)⟩ i)) := hid (HPUT.out.2 (by unfold linkW; rw [HWY.out]; exact if_neg (fun hh => hin hh.1)))
      clear hin hat HPUT HWY HY
      refine wp_region_specs [.eq (.pointer (some ⟨g, 0, none⟩)), .any, .any, .eq (.string ⟨who.toArray⟩), .any, .any, .any, .any, .any, .any, .any, .any, .eq (.pointer (some ⟨b5, 0, none⟩)), .eq ((.int .i64 0)), .eq (.bool false), .any, .any, .any, .any, .any, .any, .any, .any, .any, .any, .any, .any, .any, .any, .any, .any, .any, .any, .any, .any, .any, .any, .any, .any, .eq (.tuple #[(.int .i64 0), .bool false]), .eq (.pointer (some ⟨g, 0, none⟩)), .eq (.pointer (some ⟨g, 0, none⟩)), .eq (.pointer (some ⟨g, 1, none⟩)), .eq (.map (some m1)), .eq (.agg #[.string ⟨wy.toArray⟩, .string ⟨c.w2.toArray⟩]), .eq (.string ⟨who.toArray⟩), .eq (.agg #[.string ⟨wy.toArray⟩, .string ⟨c.w2.toArray⟩, .string ⟨who.toArray⟩]), .eq (.tuple #[(.int .i64 0), .bool false]), .eq ((.int .i64 0)), .eq (.bool false), .any, .any, .any, .any, .any, .any, .any, .any, .any, .any, .any, .any, .any, .any, .any, .any] [40, 41, 42, 43, 44, 45, 46, 47, 39, 48, 49, 13, 14] [0, 3, 12] (by kernel_rfl) (by kernel_rfl) (by rfl) (by kernel_rfl) ?start6 ?obs6 ?fin6
      case start6 =>
       simp only [List.forall_mem_cons]; exact ⟨⟨_, rfl, rfl⟩, ⟨_, rfl, rfl⟩, ⟨_, rfl, rfl⟩, fun _ h => by cases h⟩
      case obs6 =>
       clear HC6 HO6 HNO HI
       refine Obs.cons none (by kernel_rfl) ?_ ?_
       ·refine Ob.plain fun a w hR hk K k => ?_
        obtain ⟨_, e0, f0⟩ := hk 0 (by decide)
        clear hk
        go_simp
        exact k _ _ (Chg.refl _ _) f0
       refine Obs.cons none (by kernel_rfl) ?_ ?_
       ·refine Ob.plain fun a w hR hk K k => ?_
        obtain ⟨_, e40, rfl⟩ := hk 40 (by decide)
        clear hk
        go_simp
        exact k _ _ (Chg.refl _ _) rfl
       refine Obs.cons none (by kernel_rfl) ?_ ?_
       ·refine Ob.plain fun a w hR hk K k => ?_
        obtain ⟨_, e41, rfl⟩ := hk 41 (by decide)
        clear hk
        go_simp
        exact k _ _ (Chg.refl _ _) rfl
       refine Obs.cons none (by kernel_rfl) ?_ ?_
       ·refine Ob.plain fun a w hR hk K k => ?_
        obtain ⟨_, e42, rfl⟩ := hk 42 (by decide)
        clear hk
        have zz := hR.cell HX6.out.1 id
        go_simp
        exact k _ _ (Chg.refl _ _) rfl
       refine Obs.cons none (by kernel_rfl) ?_ ?_
       ·refine Ob.plain fun a w hR hk K k => ?_
        obtain ⟨_, e12, rfl⟩ := hk 12 (by decide)
        clear hk
        have z0 := hR.cell HX6.out.2.1 id
        have z1 := hR.cell HX6.out.2.2 id
        go_simp
        exact k _ _ (Chg.refl _ _) rfl
       refine Obs.cons none (by kernel_rfl) ?_ ?_
       ·refine Ob.plain fun a w hR hk K k => ?_
        obtain ⟨_, e3, f3⟩ := hk 3 (by decide)
        clear hk
        go_simp
        exact k _ _ (Chg.refl _ _) f3
       refine Obs.cons none (by kernel_rfl) ?_ ?_
       ·refine Ob.plain fun a w hR hk K k => ?_
        obtain ⟨_, e44, rfl⟩ := hk 44 (by decide)
        obtain ⟨_, e45, rfl⟩ := hk 45 (by decide)
        clear hk
        go_simp
        exact k _ _ (Chg.refl _ _) rfl
       refine Obs.cons none (by kernel_rfl) ?_ ?_
       ·refine Ob.plain fun a w hR hk K k => ?_
        obtain ⟨_, e43, rfl⟩ := hk 43 (by decide)
        obtain ⟨_, e46, rfl⟩ := hk 46 (by decide)
        clear hk
        have q := HL6.out w hR
        go_simp
        exact k _ _ (Chg.refl _ _) rfl
       refine Obs.cons none (by kernel_rfl) ?_ ?_
       ·refine Ob.plain fun a w hR hk K k => ?_
        obtain ⟨_, e47, f47⟩ := hk 47 (by decide)
        clear hk
        go_simp
        exact k _ _ (Chg.refl _ _) f47
       refine Obs.cons none (by kernel_rfl) ?_ ?_
       ·refine Ob.plain fun a w hR hk K k => ?_
        obtain ⟨_, e39, rfl⟩ := hk 39 (by decide)
        clear hk
        go_simp
        exact k _ _ (Chg.refl _ _) rfl
       refine Obs.cons none (by kernel_rfl) ?_ ?_
       ·refine Ob.plain fun a w hR hk K k => ?_
        obtain ⟨_, e39, rfl⟩ := hk 39 (by decide)
        clear hk
        go_simp
        exact k _ _ (Chg.refl _ _) rfl
       refine Obs.cons none (by kernel_rfl) ?_ ?_
       ·refine Ob.plain fun a w hR hk K k => ?_
        obtain ⟨_, e48, f48⟩ := hk 48 (by decide)
        clear hk
        go_simp
        exact k _ _ (Chg.refl _ _) f48
       refine Obs.cons none (by kernel_rfl) ?_ ?_
       ·refine Ob.plain fun a w hR hk K k => ?_
        obtain ⟨_, e49, f49⟩ := hk 49 (by decide)
        clear hk
        go_simp
        exact k _ _ (Chg.refl _ _) f49
       exact Obs.nil
      case fin6 =>
       intro vals w9 hc9 hv
       have h13 : vals 13 = .int .i64 0 := hv 13 (by decide)
       have h14 : vals 14 = .bool false := hv 14 (by decide)
       simp only [putAll, List.setIfInBounds_toArray, List.set_cons_zero, List.set_cons_succ, h13, h14]
       have HC9 := hid (HC6.out.trans hc9 (fun _ _ h => h))
       have HO9 := hid (HO6.out.keep hc9 (fun _ _ => id))
       clear hc9 hv h13 h14 HX6 HL6 HC6 HO6
       have HN := hid (And.intro HNO.out (And.intro HO9.out HC9.out))
       clear HO9 HC9
       go_wp2
       go_roundw
       case rel => exact ⟨jj + 1, out, by omega, by go_num, hid HN.out⟩
       case measure => simp [intOf]; omega
   ·have hj2 : jj = m := by omega
    have e : (ps.take jj).filterMap (linkW S ⟨c, (rr, who)⟩ i) = (placesK (factsK S) c.b).filterMap (linkW S ⟨c, (rr, who)⟩ i) := by rw [hj2, ← HM.out, List.take_length, HPS.out]
    rw [e] at hout
    have HRES : Hid (OwnWy w0.heap.size wr u9 ((placesK (factsK S) c.b).filterMap (linkW S ⟨c, (rr, who)⟩ i)) ∧ Chg (fun _ => False) w0 wr) := hid ⟨by rw [← hout]; exact ownsRow_lowK hown HC9.out.size, HC9.out.trans hch (fun _ _ h => h)⟩
    clear hj2 e hout hown hch hrel
    go_wp2
    go_ret
    exact ⟨_, rfl, HRES.out⟩

end Go.Proofs.Ytjaplnainlbldaa
