/- The document's Of. -/
import Derived.Test.YtcbfieodjbfjdaaNc33
import Derived.Test.YtcbfieodjbfjdaaNc25
import Derived.Test.YtcbfieodjbfjdaaNc10
namespace Go.Proofs.Ytcbfieodjbfjdaa
open Go.RowKit

def zDE : DE := ⟨zFm, none, 0⟩
theorem zDE_ok (D : Nat → Prop) (w : World) : DOk D w zDE := ⟨⟨0, FmsAt.nil _ _ _ _⟩, ⟨by simp [zDE, zFm, FmB.r], by simp [zDE, zFm, FmB.r]⟩, fun _ => rfl, by simp [zDE, zFm, nodesF, nodesL], fun _ a ha => by cases ha⟩
/-- What the document's Of hands back. -/
def DOfPost (D : Nat → Prop) (f : FmB) (w : World) (e : Ending) (w' : World) : Prop :=
  ∃ (x : DE) (k : Int), e = .returned (.tuple #[valD x, .int .i64 k]) ∧ DOk (fun i => D i ∨ (w.heap.size ≤ i ∧ i < w'.heap.size)) w' x ∧ Chg (fun _ => False) w w' ∧
    ((isF f = false ∧ x.f = zFm ∧ k = 11) ∨ (isF f = true ∧ ∃ y, ShapeR f y ∧ ((isF y = true ∧ x.f = y ∧ k = 0) ∨ (isF y = false ∧ x.f = zFm ∧ k = 12))))

set_option maxRecDepth 100000 in
set_option maxHeartbeats 8000000 in
theorem rnof {D : Nat → Prop} (f : FmB) (m : Nat) (ao : Option Addr) (cp : Nat) (w : World) (h : FmsAt D w m ao f.kids) (hD : ∀ i, D i → i < w.heap.size) (hok : FmOk f) (hzc : ao = none → cp = 0) (hN4 : nodesF f ≤ 1048576) :
    Calls Try.prog 9 #[.agg #[.int .i64 f.op, .int .i64 f.k, .string ⟨f.r.1.toArray⟩, .string ⟨f.r.2.toArray⟩, .slice ao f.kids.length cp]] w (DOfPost D f w) := by
  have hcA : Chg (fun _ => False) w (w.alloc (.cells #[.int .i64 f.op, .int .i64 f.k, .string ⟨f.r.1.toArray⟩, .string ⟨f.r.2.toArray⟩, .slice ao f.kids.length cp] 26)) := (Chg.refl _ w).alloc _
  have hcB : Chg (fun _ => False) (w.alloc (.cells #[.int .i64 f.op, .int .i64 f.k, .string ⟨f.r.1.toArray⟩, .string ⟨f.r.2.toArray⟩, .slice ao f.kids.length cp] 26)) ((w.alloc (.cells #[.int .i64 f.op, .int .i64 f.k, .string ⟨f.r.1.toArray⟩, .string ⟨f.r.2.toArray⟩, .slice ao f.kids.length cp] 26)).alloc (.cells #[.int .i64 0, .int .i64 0, .string ⟨#[]⟩, .string ⟨#[]⟩, .slice none 0 0] 26)) := (Chg.refl _ _).alloc _
  have hba0 := blk_keep (heap_alloc_new w (.cells #[.int .i64 f.op, .int .i64 f.k, .string ⟨f.r.1.toArray⟩, .string ⟨f.r.2.toArray⟩, .slice ao f.kids.length cp] 26)) hcB id
  have hz0 := heap_alloc_new (w.alloc (.cells #[.int .i64 f.op, .int .i64 f.k, .string ⟨f.r.1.toArray⟩, .string ⟨f.r.2.toArray⟩, .slice ao f.kids.length cp] 26)) (.cells #[.int .i64 0, .int .i64 0, .string ⟨#[]⟩, .string ⟨#[]⟩, .slice none 0 0] 26)
  rw [show (w.alloc (.cells #[.int .i64 f.op, .int .i64 f.k, .string ⟨f.r.1.toArray⟩, .string ⟨f.r.2.toArray⟩, .slice ao f.kids.length cp] 26)).heap.size = w.heap.size + 1 by simp] at hz0
  have hc2 := hcA.trans hcB (fun _ _ h => h)
  have hsz2 : ((w.alloc (.cells #[.int .i64 f.op, .int .i64 f.k, .string ⟨f.r.1.toArray⟩, .string ⟨f.r.2.toArray⟩, .slice ao f.kids.length cp] 26)).alloc (.cells #[.int .i64 0, .int .i64 0, .string ⟨#[]⟩, .string ⟨#[]⟩, .slice none 0 0] 26)).heap.size = w.heap.size + 2 := by simp
  have s0 := cell_blk hba0 0
  have s1 := cell_blk hba0 1
  have s2 := cell_blk hba0 2
  have s3 := cell_blk hba0 3
  have s4 := cell_blk hba0 4
  simp only [List.getElem?_toArray, List.getElem?_cons_zero, List.getElem?_cons_succ] at s0 s1 s2 s3 s4
  have HR := hid (rn_right m f ao cp ((w.alloc (.cells #[.int .i64 f.op, .int .i64 f.k, .string ⟨f.r.1.toArray⟩, .string ⟨f.r.2.toArray⟩, .slice ao f.kids.length cp] 26)).alloc (.cells #[.int .i64 0, .int .i64 0, .string ⟨#[]⟩, .string ⟨#[]⟩, .slice none 0 0] 26)) (h.keep hc2 (fun _ _ => id)) hok hN4)
  have HX := hid (And.intro hba0 (And.intro hz0 (And.intro hc2 hsz2)))
  have H := hid (And.intro h (And.intro hD (And.intro hok (And.intro hN4 hzc))))
  clear h hD hok hN4 hcA hcB hba0 hz0 hc2 hsz2 hzc
  go_enter Try.func9, Try.ntmps9
  go_wp2_with fail
  refine HR.out.mono ?_
  clear HR
  rintro e w2 ⟨rfl, hc2⟩
  have hba2 := blk_keep HX.out.1 hc2 id
  have hz2 := blk_keep HX.out.2.1 hc2 id
  have hcw2 := HX.out.2.2.1.trans hc2 (fun _ _ h => h)
  have hs2 : w.heap.size + 2 ≤ w2.heap.size := by have := hc2.size; have := HX.out.2.2.2; omega
  clear s0 s1 s2 s3 s4
  have s0 := cell_blk hba2 0
  have s1 := cell_blk hba2 1
  have s2 := cell_blk hba2 2
  have s3 := cell_blk hba2 3
  have s4 := cell_blk hba2 4
  simp only [List.getElem?_toArray, List.getElem?_cons_zero, List.getElem?_cons_succ] at s0 s1 s2 s3 s4
  have r0 := cell_blk hz2 0
  have r1 := cell_blk hz2 1
  have r2 := cell_blk hz2 2
  have r3 := cell_blk hz2 3
  have r4 := cell_blk hz2 4
  have g0 := froz_blk hz2 0
  have g1 := froz_blk hz2 1
  have g2 := froz_blk hz2 2
  have g3 := froz_blk hz2 3
  have g4 := froz_blk hz2 4
  simp only [List.getElem?_toArray, List.getElem?_cons_zero, List.getElem?_cons_succ] at r0 r1 r2 r3 r4
  cases hf : isF f with
  | false =>
    have HZ := hid (And.intro hz2 (And.intro hcw2 hf))
    clear hba2 hz2 hcw2 hs2 hf hc2 HX
    go_wp2
    obtain ⟨hend, hcz⟩ := storeR HZ.out.1 (.int .i64 0) (.int .i64 0) (.string ⟨#[]⟩) (.string ⟨#[]⟩) (.slice none 0 0)
    refine bodyPost_ret (results_fmn rfl _ _ (w.heap.size + 1) rfl hend) rfl ?_
    exact ⟨zDE, 11, rfl, zDE_ok _ _, HZ.out.2.1.trans hcz (fun i hi e => by have e2 : i = w.heap.size + 1 := e; omega), .inl ⟨HZ.out.2.2, rfl, rfl⟩⟩
  | true =>
    have hcS : Chg (fun _ => False) w2 (w2.alloc (.cells #[.bool false] 51)) := (Chg.refl _ w2).alloc _
    have hsb := heap_alloc_new w2 (.cells #[.bool false] 51)
    have hcw3 := hcw2.trans hcS (fun _ _ h => h)
    have hss := hcS.size
    have HB := hid (rnshape (D := D) w2.heap.size (nodesF f) f (Nat.le_refl _) m ao cp (w2.alloc (.cells #[.bool false] 51)) (H.out.1.keep hcw3 (fun _ _ => id)) (fun i hi => by have := H.out.2.1 i hi; omega) H.out.2.2.1 (isF_parts.1 hf).2.2 (isF_parts.1 hf).1 H.out.2.2.2.2 hsb)
    have HZ := hid (And.intro (blk_keep hz2 hcS id) (And.intro hcw3 (And.intro hf (And.intro hs2 (And.intro hss hsb)))))
    have hba3 := blk_keep hba2 hcS id
    clear s0 s1 s2 s3 s4
    have s0 := cell_blk hba3 0
    have s1 := cell_blk hba3 1
    have s2 := cell_blk hba3 2
    have s3 := cell_blk hba3 3
    have s4 := cell_blk hba3 4
    simp only [List.getElem?_toArray, List.getElem?_cons_zero, List.getElem?_cons_succ] at s0 s1 s2 s3 s4
    clear hba2 hba3 hz2 hcw2 hs2 hf hc2 HX hcS hsb hcw3 hss r0 r1 r2 r3 r4 g0 g1 g2 g3 g4
    go_wp2_with fail
    refine HB.out.mono ?_
    clear HB
    rintro e w3 ⟨x, rfl, dx, rx, cx⟩
    unfold valD
    have hcC : Chg (fun _ => False) w3 (w3.alloc (.cells #[.int .i64 x.f.op, .int .i64 x.f.k, .string ⟨x.f.r.1.toArray⟩, .string ⟨x.f.r.2.toArray⟩, .slice x.ao x.f.kids.length x.cp] 26)) := (Chg.refl _ w3).alloc _
    have hyb := heap_alloc_new w3 (.cells #[.int .i64 x.f.op, .int .i64 x.f.k, .string ⟨x.f.r.1.toArray⟩, .string ⟨x.f.r.2.toArray⟩, .slice x.ao x.f.kids.length x.cp] 26)
    have hz3 := blk_keep (blk_keep HZ.out.1 cx id) hcC id
    have hsb3 := blk_keep (blk_keep HZ.out.2.2.2.2.2 cx id) hcC id
    have hcw3 := (HZ.out.2.1.trans cx (fun _ _ h => h)).trans hcC (fun _ _ h => h)
    have hsx := cx.size
    have hsc := hcC.size
    have hs0 := HZ.out.2.2.2.1
    have hs1 := HZ.out.2.2.2.2.1
    have dE : DOk (fun i => D i ∨ (w.heap.size + 2 ≤ i ∧ i < (w3.alloc (.cells #[.int .i64 x.f.op, .int .i64 x.f.k, .string ⟨x.f.r.1.toArray⟩, .string ⟨x.f.r.2.toArray⟩, .slice x.ao x.f.kids.length x.cp] 26)).heap.size)) (w3.alloc (.cells #[.int .i64 x.f.op, .int .i64 x.f.k, .string ⟨x.f.r.1.toArray⟩, .string ⟨x.f.r.2.toArray⟩, .slice x.ao x.f.kids.length x.cp] 26)) x := (dx.keep hcC (fun _ _ => id)).wide (fun i hi => by
      rcases hi with hi | hi
      · exact .inl hi
      · exact .inr ⟨by omega, by omega⟩)
    have hR2 : Calls Try.prog 26 #[.agg #[.int .i64 x.f.op, .int .i64 x.f.k, .string ⟨x.f.r.1.toArray⟩, .string ⟨x.f.r.2.toArray⟩, .slice x.ao x.f.kids.length x.cp]] (w3.alloc (.cells #[.int .i64 x.f.op, .int .i64 x.f.k, .string ⟨x.f.r.1.toArray⟩, .string ⟨x.f.r.2.toArray⟩, .slice x.ao x.f.kids.length x.cp] 26)) fun e w' => e = .returned (.bool (isF x.f)) ∧ Chg (fun _ => False) (w3.alloc (.cells #[.int .i64 x.f.op, .int .i64 x.f.k, .string ⟨x.f.r.1.toArray⟩, .string ⟨x.f.r.2.toArray⟩, .slice x.ao x.f.kids.length x.cp] 26)) w' := by
      obtain ⟨m9, hm9⟩ := dE.at_
      exact rn_right m9 x.f x.ao x.cp _ hm9 dE.ok (by have := dE.n; omega)
    have y0 := cell_blk hyb 0
    have y1 := cell_blk hyb 1
    have y2 := cell_blk hyb 2
    have y3 := cell_blk hyb 3
    have y4 := cell_blk hyb 4
    simp only [List.getElem?_toArray, List.getElem?_cons_zero, List.getElem?_cons_succ] at y0 y1 y2 y3 y4
    have b0 := cell_blk hsb3 0
    simp only [List.getElem?_toArray, List.getElem?_cons_zero] at b0
    have HR2 := hid hR2
    have HY := hid (And.intro hz3 (And.intro hcw3 (And.intro dE (And.intro rx (And.intro hyb HZ.out.2.2.1)))))
    clear dx rx cx hcC hyb hz3 hsb3 hcw3 hsx hsc hs0 hs1 dE hR2 HZ s0 s1 s2 s3 s4
    go_wp2_with fail
    refine HR2.out.mono ?_
    clear HR2
    rintro e w4 ⟨rfl, hc4⟩
    have hz4 := blk_keep HY.out.1 hc4 id
    have hyb4 := blk_keep HY.out.2.2.2.2.1 hc4 id
    have hcw4 := HY.out.2.1.trans hc4 (fun _ _ h => h)
    have hs4 := hc4.size
    have dF : DOk (fun i => D i ∨ (w.heap.size + 2 ≤ i ∧ i < w4.heap.size)) w4 x := (HY.out.2.2.1.keep hc4 (fun _ _ => id)).wide (fun i hi => hi.imp id (fun h => ⟨h.1, by omega⟩))
    clear y0 y1 y2 y3 y4
    have y0 := cell_blk hyb4 0
    have y1 := cell_blk hyb4 1
    have y2 := cell_blk hyb4 2
    have y3 := cell_blk hyb4 3
    have y4 := cell_blk hyb4 4
    simp only [List.getElem?_toArray, List.getElem?_cons_zero, List.getElem?_cons_succ] at y0 y1 y2 y3 y4
    have r0 := cell_blk hz4 0
    have r1 := cell_blk hz4 1
    have r2 := cell_blk hz4 2
    have r3 := cell_blk hz4 3
    have r4 := cell_blk hz4 4
    have g0 := froz_blk hz4 0
    have g1 := froz_blk hz4 1
    have g2 := froz_blk hz4 2
    have g3 := froz_blk hz4 3
    have g4 := froz_blk hz4 4
    simp only [List.getElem?_toArray, List.getElem?_cons_zero, List.getElem?_cons_succ] at r0 r1 r2 r3 r4
    have HZ := hid (And.intro hz4 (And.intro hcw4 dF))
    clear hz4 hyb4 hcw4 hc4 hs4 dF
    cases hfx : isF x.f with
    | false =>
      have HF := hid hfx
      clear hfx
      go_wp2
      obtain ⟨hend, hcz⟩ := storeR HZ.out.1 (.int .i64 0) (.int .i64 0) (.string ⟨#[]⟩) (.string ⟨#[]⟩) (.slice none 0 0)
      refine bodyPost_ret (results_fmn rfl _ _ (w.heap.size + 1) rfl hend) rfl ?_
      exact ⟨zDE, 12, rfl, zDE_ok _ _, HZ.out.2.1.trans hcz (fun i hi e => by have e2 : i = w.heap.size + 1 := e; omega), .inr ⟨HY.out.2.2.2.2.2, _, HY.out.2.2.2.1, .inr ⟨HF.out, rfl, rfl⟩⟩⟩
    | true =>
      have HF := hid hfx
      clear hfx
      go_wp2
      obtain ⟨hend, hcz⟩ := storeR HZ.out.1 (.int .i64 x.f.op) (.int .i64 x.f.k) (.string ⟨x.f.r.1.toArray⟩) (.string ⟨x.f.r.2.toArray⟩) (.slice x.ao x.f.kids.length x.cp)
      refine bodyPost_ret (results_fmn rfl _ _ (w.heap.size + 1) rfl hend) rfl ?_
      have hsz := hcz.size
      exact ⟨x, 0, rfl, (HZ.out.2.2.keep hcz (fun i hi e => by have e2 : i = w.heap.size + 1 := e; exact hi.elim (fun h => by have := H.out.2.1 i h; omega) (fun h => by omega))).wide (fun i hi => hi.imp id (fun h => ⟨by omega, by omega⟩)), HZ.out.2.1.trans hcz (fun i hi e => by have e2 : i = w.heap.size + 1 := e; omega), .inr ⟨HY.out.2.2.2.2.2, _, HY.out.2.2.2.1, .inl ⟨HF.out, rfl, rfl⟩⟩⟩
end Go.Proofs.Ytcbfieodjbfjdaa
