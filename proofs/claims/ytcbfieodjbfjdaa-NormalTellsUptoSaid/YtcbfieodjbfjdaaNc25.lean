/- Texts that the proof leans on, in one: NnOf, NnIs. -/
import Derived.Test.YtcbfieodjbfjdaaNc24
import Derived.Laws.ResultCell
/- Of, Is, Both. -/
namespace Go.Proofs.Ytcbfieodjbfjdaa
open Go.RowKit Go.Lib Go.Sort

theorem results_fmn {fn : Func} {p u : Tmp} (h : fn.results = #[.cell p 26, .tmp u]) (tmps : Array Value) (w : World) (g : Nat) {a0 a1 a2 a3 a4 : Value} (hp : tmps.getD p undef = .pointer (some ⟨g, 0, none⟩)) (hg : w.heap[g]? = some (.cells #[a0, a1, a2, a3, a4] 26 (0, 0))) :
    (results fn tmps).run Try.prog w = .ok (.tuple #[.agg #[a0, a1, a2, a3, a4], tmps.getD u undef]) w := by
  have hl := run_loadVar_row (P := Try.prog) w g 26 26 #[a0, a1, a2, a3, a4] (0, 0) _ hg Try.underlying26 rfl (by kernel_rfl)
  rw [results_cell_tmp h, hp]
  simp [asAddr, Result.andThen, hl]

def zFm : FmB := .mk 0 0 ([], []) []
def zAT : AT := .mk 0 0 ([], []) (.slice none 0 0) []
theorem zAT_own (B : Nat) (w : World) : OwnA B w zAT := by
  unfold zAT
  rw [ownA_eq]
  exact ⟨⟨by simp [AT.r], by simp [AT.r]⟩, World.ownsRow_nil _ _ _ _, trivial⟩
theorem zAT_nd : (blksA zAT).Nodup := by simp [zAT, blksA, blksL, Value.ownBlock]
theorem zFm_no : isF zFm = false := by decide

/-- What Of hands back. -/
def OfPost (f : FmB) (w : World) (e : Ending) (w' : World) : Prop :=
  ∃ (x : AT) (k : Int), e = .returned (.tuple #[fmV x, .int .i64 k]) ∧ OwnA w.heap.size w' x ∧ (blksA x).Nodup ∧ Chg (fun _ => False) w w' ∧
    ((isF f = false ∧ eraseA x = zFm ∧ k = 11) ∨ (isF f = true ∧ ∃ y, ShapeR f y ∧ ((isF y = true ∧ eraseA x = y ∧ k = 0) ∨ (isF y = false ∧ eraseA x = zFm ∧ k = 12))))

set_option maxRecDepth 100000 in
set_option maxHeartbeats 8000000 in
theorem pnOf {D : Nat → Prop} (f : FmB) (m : Nat) (ao : Option Addr) (cp : Nat) (w : World) (h : FmsAt D w m ao f.kids) (hD : ∀ i, D i → i < w.heap.size) (hok : FmOk f) (hN4 : nodesF f ≤ 4000) :
    Calls Try.prog 8 #[.agg #[.int .i64 f.op, .int .i64 f.k, .string ⟨f.r.1.toArray⟩, .string ⟨f.r.2.toArray⟩, .slice ao f.kids.length cp]] w (OfPost f w) := by
  have hcA : Chg (fun _ => False) w (w.alloc (.cells #[.int .i64 f.op, .int .i64 f.k, .string ⟨f.r.1.toArray⟩, .string ⟨f.r.2.toArray⟩, .slice ao f.kids.length cp] 26)) := (Chg.refl _ w).alloc _
  have hcB : Chg (fun _ => False) (w.alloc (.cells #[.int .i64 f.op, .int .i64 f.k, .string ⟨f.r.1.toArray⟩, .string ⟨f.r.2.toArray⟩, .slice ao f.kids.length cp] 26)) ((w.alloc (.cells #[.int .i64 f.op, .int .i64 f.k, .string ⟨f.r.1.toArray⟩, .string ⟨f.r.2.toArray⟩, .slice ao f.kids.length cp] 26)).alloc (.cells #[.int .i64 0, .int .i64 0, .string ⟨#[]⟩, .string ⟨#[]⟩, .slice none 0 0] 26)) := (Chg.refl _ _).alloc _
  have hba0 := blk_keep (heap_alloc_new w (.cells #[.int .i64 f.op, .int .i64 f.k, .string ⟨f.r.1.toArray⟩, .string ⟨f.r.2.toArray⟩, .slice ao f.kids.length cp] 26)) hcB id
  have hz0 := heap_alloc_new (w.alloc (.cells #[.int .i64 f.op, .int .i64 f.k, .string ⟨f.r.1.toArray⟩, .string ⟨f.r.2.toArray⟩, .slice ao f.kids.length cp] 26)) (.cells #[.int .i64 0, .int .i64 0, .string ⟨#[]⟩, .string ⟨#[]⟩, .slice none 0 0] 26)
  rw [show (w.alloc (.cells #[.int .i64 f.op, .int .i64 f.k, .string ⟨f.r.1.toArray⟩, .string ⟨f.r.2.toArray⟩, .slice ao f.kids.length cp] 26)).heap.size = w.heap.size + 1 by simp] at hz0
  have hc2 := hcA.trans hcB (fun _ _ h => h)
  have hsz2 : ((w.alloc (.cells #[.int .i64 f.op, .int .i64 f.k, .string ⟨f.r.1.toArray⟩, .string ⟨f.r.2.toArray⟩, .slice ao f.kids.length cp] 26)).alloc (.cells #[.int .i64 0, .int .i64 0, .string ⟨#[]⟩, .string ⟨#[]⟩, .slice none 0 0] 26)).heap.size = w.heap.size + 2 := by simp
  have s0 := cell_blk hba0 0
  have s1 := cell_blk hba0 1
  have s2 := cell_blk hba0 2
  have s3 := cell_blk hba0 3
  have s4 := cell_blk hba0 4
  simp only [List.getElem?_toArray, List.getElem?_cons_zero, List.getElem?_cons_succ] at s0 s1 s2 s3 s4
  have HR := hid (fm_right m f ao cp _ (h.keep hc2 (fun _ _ => id)) (fun i hi => by have := hD i hi; have := hc2.size; omega) hok (by omega))
  have HX := hid (And.intro hba0 (And.intro hz0 (And.intro hc2 hsz2)))
  have H := hid (And.intro h (And.intro hD (And.intro hok hN4)))
  clear h hD hok hN4 hcA hcB hba0 hz0 hc2 hsz2
  go_enter Try.func8, Try.ntmps8
  go_wp2_with fail
  refine HR.out.mono ?_
  rintro e w2 ⟨rfl, hc2⟩
  have hba2 := blk_keep HX.out.1 hc2 id
  have hz2 := blk_keep HX.out.2.1 hc2 id
  have hcw2 := HX.out.2.2.1.trans hc2 (fun _ _ h => h)
  have hs2 : w.heap.size + 2 ≤ w2.heap.size := by have := hc2.size; have := HX.out.2.2.2; omega
  have s0 := cell_blk hba2 0
  have s1 := cell_blk hba2 1
  have s2 := cell_blk hba2 2
  have s3 := cell_blk hba2 3
  have s4 := cell_blk hba2 4
  have r0 := cell_blk hz2 0
  have r1 := cell_blk hz2 1
  have r2 := cell_blk hz2 2
  have r3 := cell_blk hz2 3
  have r4 := cell_blk hz2 4
  have q0 := froz_blk hz2 0
  have q1 := froz_blk hz2 1
  have q2 := froz_blk hz2 2
  have q3 := froz_blk hz2 3
  have q4 := froz_blk hz2 4
  simp only [List.getElem?_toArray, List.getElem?_cons_zero, List.getElem?_cons_succ] at s0 s1 s2 s3 s4 r0 r1 r2 r3 r4
  cases hf : isF f with
  | false =>
    have HZ := hid (And.intro hz2 (And.intro hcw2 hf))
    clear hba2 hz2 hcw2 hs2 hf hc2 HR HX
    go_wp2
    obtain ⟨hend, hcz⟩ := store5n HZ.out.1 (.int .i64 0) (.int .i64 0) (.string ⟨#[]⟩) (.string ⟨#[]⟩) (.slice none 0 0)
    refine bodyPost_ret (results_fmn rfl _ _ (w.heap.size + 1) rfl hend) rfl ?_
    exact ⟨zAT, 11, rfl, zAT_own _ _, zAT_nd, HZ.out.2.1.trans hcz (fun i hi e => by have : i = w.heap.size + 1 := e; omega), .inl ⟨HZ.out.2.2, rfl, rfl⟩⟩
  | true =>
    have HB := hid (pbrought (nodesF f) f (Nat.le_refl _) m ao cp w2 (H.out.1.keep hcw2 (fun _ _ => id)) (fun i hi => by have := H.out.2.1 i hi; omega) H.out.2.2.1 (isF_parts.1 hf).2.2 H.out.2.2.2)
    have HZ := hid (And.intro hz2 (And.intro hcw2 (And.intro hf hs2)))
    clear hba2 hz2 hcw2 hs2 hf hc2 HR HX
    go_wp2_with fail
    refine HB.out.mono ?_
    rintro e w3 ⟨x, rfl, g1, g2, g3, g4, g5⟩
    obtain ⟨xo, xc, x1, x5, x2, x3, x4⟩ := own_val g1
    have hnx : nodesF (eraseA x) ≤ 4000 := Nat.le_trans (shape_nodes _ _ g4) H.out.2.2.2
    have hxl := ownA_lt x g1
    have hfm : fmV x = .agg #[.int .i64 (eraseA x).op, .int .i64 (eraseA x).k, .string ⟨(eraseA x).r.1.toArray⟩, .string ⟨(eraseA x).r.2.toArray⟩, .slice xo (eraseA x).kids.length xc] := by rw [← x1]; rfl
    rw [hfm]
    have hcC : Chg (fun _ => False) w3 (w3.alloc (.cells #[.int .i64 (eraseA x).op, .int .i64 (eraseA x).k, .string ⟨(eraseA x).r.1.toArray⟩, .string ⟨(eraseA x).r.2.toArray⟩, .slice xo (eraseA x).kids.length xc] 26)) := (Chg.refl _ w3).alloc _
    have hyb := heap_alloc_new w3 (.cells #[.int .i64 (eraseA x).op, .int .i64 (eraseA x).k, .string ⟨(eraseA x).r.1.toArray⟩, .string ⟨(eraseA x).r.2.toArray⟩, .slice xo (eraseA x).kids.length xc] 26)
    have hz3 := blk_keep (blk_keep HZ.out.1 g5 id) hcC id
    have hcw3 := (HZ.out.2.1.trans g5 (fun _ _ h => h)).trans hcC (fun _ _ h => h)
    have hox := ownA_low (A := w.heap.size) (by have := HZ.out.2.2.2; omega) x (ownA_keep hcC x g1 (fun _ _ => id))
    have hR2 := fm_right _ (eraseA x) xo xc _ (x3.keep hcC (fun _ _ => id)) (fun i hi => by have := hi.2; have := hcC.size; omega) x4 (by omega)
    have y0 := cell_blk hyb 0
    have y1 := cell_blk hyb 1
    have y2 := cell_blk hyb 2
    have y3 := cell_blk hyb 3
    have y4 := cell_blk hyb 4
    simp only [List.getElem?_toArray, List.getElem?_cons_zero, List.getElem?_cons_succ] at y0 y1 y2 y3 y4
    have HR2 := hid hR2
    have HY := hid (And.intro hz3 (And.intro hcw3 (And.intro hox (And.intro g2 (And.intro g4 (And.intro hfm (And.intro hyb (And.intro HZ.out.2.2.1 (show ∀ b ∈ blksA x, w.heap.size + 2 ≤ b from fun b hb => by have := (hxl b hb).1; have := HZ.out.2.2.2; omega)))))))))
    clear g1 g2 g3 g4 g5 x1 x2 x3 x4 x5 hnx hxl hfm hcC hyb hz3 hcw3 hox hR2 HB HZ s0 s1 s2 s3 s4 r0 r1 r2 r3 r4
    go_wp2_with fail
    refine HR2.out.mono ?_
    rintro e w4 ⟨rfl, hc4⟩
    have hz4 := blk_keep HY.out.1 hc4 id
    have hyb4 := blk_keep HY.out.2.2.2.2.2.2.1 hc4 id
    have hcw4 := HY.out.2.1.trans hc4 (fun _ _ h => h)
    have hox4 := ownA_keep hc4 x HY.out.2.2.1 (fun _ _ => id)
    have y0 := cell_blk hyb4 0
    have y1 := cell_blk hyb4 1
    have y2 := cell_blk hyb4 2
    have y3 := cell_blk hyb4 3
    have y4 := cell_blk hyb4 4
    have r0 := cell_blk hz4 0
    have r1 := cell_blk hz4 1
    have r2 := cell_blk hz4 2
    have r3 := cell_blk hz4 3
    have r4 := cell_blk hz4 4
    have q0 := froz_blk hz4 0
    have q1 := froz_blk hz4 1
    have q2 := froz_blk hz4 2
    have q3 := froz_blk hz4 3
    have q4 := froz_blk hz4 4
    simp only [List.getElem?_toArray, List.getElem?_cons_zero, List.getElem?_cons_succ] at y0 y1 y2 y3 y4 r0 r1 r2 r3 r4
    have HZ := hid (And.intro hz4 (And.intro hcw4 hox4))
    clear hz4 hyb4 hcw4 hox4 hc4 HR2
    cases hfx : isF (eraseA x) with
    | false =>
      have HF := hid hfx
      clear hfx
      go_wp2
      obtain ⟨hend, hcz⟩ := store5n HZ.out.1 (.int .i64 0) (.int .i64 0) (.string ⟨#[]⟩) (.string ⟨#[]⟩) (.slice none 0 0)
      refine bodyPost_ret (results_fmn rfl _ _ (w.heap.size + 1) rfl hend) rfl ?_
      exact ⟨zAT, 12, rfl, zAT_own _ _, zAT_nd, HZ.out.2.1.trans hcz (fun i hi e => by have : i = w.heap.size + 1 := e; omega), .inr ⟨HY.out.2.2.2.2.2.2.2.1, _, HY.out.2.2.2.2.1, .inr ⟨HF.out, rfl, rfl⟩⟩⟩
    | true =>
      have HF := hid hfx
      clear hfx
      go_wp2
      obtain ⟨hend, hcz⟩ := store5n HZ.out.1 (.int .i64 (eraseA x).op) (.int .i64 (eraseA x).k) (.string ⟨(eraseA x).r.1.toArray⟩) (.string ⟨(eraseA x).r.2.toArray⟩) (.slice xo (eraseA x).kids.length xc)
      refine bodyPost_ret (results_fmn rfl _ _ (w.heap.size + 1) rfl hend) rfl ?_
      have hlo := HY.out.2.2.2.2.2.2.2.2
      exact ⟨x, 0, by rw [HY.out.2.2.2.2.2.1]; rfl, ownA_keep hcz x HZ.out.2.2 (fun b hb e => by have := hlo b hb; have e : b = w.heap.size + 1 := e; omega), HY.out.2.2.2.1, HZ.out.2.1.trans hcz (fun i hi e => by have : i = w.heap.size + 1 := e; omega), .inr ⟨HY.out.2.2.2.2.2.2.2.1, _, HY.out.2.2.2.2.1, .inl ⟨HF.out, rfl, rfl⟩⟩⟩
end Go.Proofs.Ytcbfieodjbfjdaa

/- Is, Both. -/
namespace Go.Proofs.Ytcbfieodjbfjdaa
open Go.RowKit Go.Lib Go.Sort

/-- Same of a formula and any of the call's own. -/
def SameWith (f : FmB) (ao : Option Addr) (cp : Nat) (w : World) : Prop :=
  ∀ (W : World) (x : AT) (B : Nat), Chg (fun _ => False) w W → w.heap.size ≤ B → OwnA B W x → (blksA x).Nodup → nodesF (eraseA x) ≤ 4000 →
    Calls Try.prog 21 #[.agg #[.int .i64 f.op, .int .i64 f.k, .string ⟨f.r.1.toArray⟩, .string ⟨f.r.2.toArray⟩, .slice ao f.kids.length cp], fmV x] W fun e w' => ∃ b : Bool, e = .returned (.bool b) ∧ (b = true ↔ f = eraseA x) ∧ Chg (fun _ => False) W w'
theorem same_with_own {B0 : Nat} {w : World} {t : AT} (h : OwnA B0 w t) (hB : B0 ≤ w.heap.size) (hnd : (blksA t).Nodup) (hN : nodesF (eraseA t) ≤ 4000) (ao : Option Addr) (cp : Nat) (hv : t.v = .slice ao t.kids.length cp) : SameWith (eraseA t) ao cp w := by
  intro W x B hc hBw hx hndx hNx
  have e1 : fmV t = .agg #[.int .i64 (eraseA t).op, .int .i64 (eraseA t).k, .string ⟨(eraseA t).r.1.toArray⟩, .string ⟨(eraseA t).r.2.toArray⟩, .slice ao (eraseA t).kids.length cp] := by
    rw [eraseA_eq]
    simp only [fmV, FmB.op, FmB.k, FmB.r, FmB.kids, eraseL_len, hv]
  have := same_own (ownA_keep hc t h (fun _ _ => id)) hnd (by omega) (ownA_low (A := B0) (by omega) x hx) (by omega)
  rw [e1] at this
  refine this.mono ?_
  rintro e w' ⟨rfl, hc'⟩
  exact ⟨_, rfl, sameA_yes, hc'⟩
def IsPost (f : FmB) (w : World) (e : Ending) (w' : World) : Prop :=
  ∃ b : Bool, e = .returned (.bool b) ∧ Chg (fun _ => False) w w' ∧ ((isF f = false ∧ b = false) ∨ (isF f = true ∧ ∃ y, ShapeR f y ∧ (b = true ↔ isF y = true ∧ f = y)))

set_option maxRecDepth 100000 in
set_option maxHeartbeats 8000000 in
theorem pnIs {D : Nat → Prop} (f : FmB) (m : Nat) (ao : Option Addr) (cp : Nat) (w : World) (h : FmsAt D w m ao f.kids) (hD : ∀ i, D i → i < w.heap.size) (hok : FmOk f) (hN4 : nodesF f ≤ 4000) (hs : SameWith f ao cp w) :
    Calls Try.prog 12 #[.agg #[.int .i64 f.op, .int .i64 f.k, .string ⟨f.r.1.toArray⟩, .string ⟨f.r.2.toArray⟩, .slice ao f.kids.length cp]] w (IsPost f w) := by
  have hcA : Chg (fun _ => False) w (w.alloc (.cells #[.int .i64 f.op, .int .i64 f.k, .string ⟨f.r.1.toArray⟩, .string ⟨f.r.2.toArray⟩, .slice ao f.kids.length cp] 26)) := (Chg.refl _ w).alloc _
  have hba0 := heap_alloc_new w (.cells #[.int .i64 f.op, .int .i64 f.k, .string ⟨f.r.1.toArray⟩, .string ⟨f.r.2.toArray⟩, .slice ao f.kids.length cp] 26)
  have hsz1 : (w.alloc (.cells #[.int .i64 f.op, .int .i64 f.k, .string ⟨f.r.1.toArray⟩, .string ⟨f.r.2.toArray⟩, .slice ao f.kids.length cp] 26)).heap.size = w.heap.size + 1 := by simp
  have s0 := cell_blk hba0 0
  have s1 := cell_blk hba0 1
  have s2 := cell_blk hba0 2
  have s3 := cell_blk hba0 3
  have s4 := cell_blk hba0 4
  simp only [List.getElem?_toArray, List.getElem?_cons_zero, List.getElem?_cons_succ] at s0 s1 s2 s3 s4
  have HO := hid (pnOf f m ao cp _ (h.keep hcA (fun _ _ => id)) (fun i hi => by have := hD i hi; omega) hok hN4)
  have HX := hid (And.intro hba0 (And.intro hcA (And.intro hs (And.intro hsz1 hN4))))
  clear h hD hok hN4 hcA hba0 hs hsz1
  go_enter Try.func12, Try.ntmps12
  go_wp2_with fail
  refine HO.out.mono ?_
  rintro e w2 ⟨x, k, rfl, g1, g2, g3, hcase⟩
  obtain ⟨xo, xc, x1, x5, x2, x3, x4⟩ := own_val g1
  have hfm : fmV x = .agg #[.int .i64 (eraseA x).op, .int .i64 (eraseA x).k, .string ⟨(eraseA x).r.1.toArray⟩, .string ⟨(eraseA x).r.2.toArray⟩, .slice xo (eraseA x).kids.length xc] := by rw [← x1]; rfl
  rw [hfm]
  have hcC : Chg (fun _ => False) w2 (w2.alloc (.cells #[.int .i64 (eraseA x).op, .int .i64 (eraseA x).k, .string ⟨(eraseA x).r.1.toArray⟩, .string ⟨(eraseA x).r.2.toArray⟩, .slice xo (eraseA x).kids.length xc] 26)) := (Chg.refl _ w2).alloc _
  have hyb := heap_alloc_new w2 (.cells #[.int .i64 (eraseA x).op, .int .i64 (eraseA x).k, .string ⟨(eraseA x).r.1.toArray⟩, .string ⟨(eraseA x).r.2.toArray⟩, .slice xo (eraseA x).kids.length xc] 26)
  have hba3 := blk_keep (blk_keep HX.out.1 g3 id) hcC id
  have hcw3 := (HX.out.2.1.trans g3 (fun _ _ h => h)).trans hcC (fun _ _ h => h)
  have hsx : nodesF (eraseA x) ≤ 4000 → Calls Try.prog 21 #[.agg #[.int .i64 f.op, .int .i64 f.k, .string ⟨f.r.1.toArray⟩, .string ⟨f.r.2.toArray⟩, .slice ao f.kids.length cp], .agg #[.int .i64 (eraseA x).op, .int .i64 (eraseA x).k, .string ⟨(eraseA x).r.1.toArray⟩, .string ⟨(eraseA x).r.2.toArray⟩, .slice xo (eraseA x).kids.length xc]] (w2.alloc (.cells #[.int .i64 (eraseA x).op, .int .i64 (eraseA x).k, .string ⟨(eraseA x).r.1.toArray⟩, .string ⟨(eraseA x).r.2.toArray⟩, .slice xo (eraseA x).kids.length xc] 26)) fun e w' => ∃ b : Bool, e = .returned (.bool b) ∧ (b = true ↔ f = eraseA x) ∧ Chg (fun _ => False) (w2.alloc (.cells #[.int .i64 (eraseA x).op, .int .i64 (eraseA x).k, .string ⟨(eraseA x).r.1.toArray⟩, .string ⟨(eraseA x).r.2.toArray⟩, .slice xo (eraseA x).kids.length xc] 26)) w' := fun hn => by
    have := HX.out.2.2.1 _ x _ hcw3 (by have := HX.out.2.2.2.1; omega) (ownA_keep hcC x g1 (fun _ _ => id)) g2 hn
    rw [hfm] at this
    exact this
  have s0 := cell_blk hba3 0
  have s1 := cell_blk hba3 1
  have s2 := cell_blk hba3 2
  have s3 := cell_blk hba3 3
  have s4 := cell_blk hba3 4
  have y0 := cell_blk hyb 0
  have y1 := cell_blk hyb 1
  have y2 := cell_blk hyb 2
  have y3 := cell_blk hyb 3
  have y4 := cell_blk hyb 4
  simp only [List.getElem?_toArray, List.getElem?_cons_zero, List.getElem?_cons_succ] at s0 s1 s2 s3 s4 y0 y1 y2 y3 y4
  have HC3 := hid hcw3
  rcases hcase with ⟨hf, hx, rfl⟩ | ⟨hf, y, hy, ⟨hfy, hx, rfl⟩ | ⟨hfy, hx, rfl⟩⟩
  · have HF := hid hf
    clear x1 x2 x3 x4 x5 hfm hcC hyb hba3 hcw3 hsx g1 g2 g3 hf hx HO
    go_wp2
    go_ret
    exact ⟨false, rfl, HC3.out, .inl ⟨HF.out, rfl⟩⟩
  · have HS := hid (hsx (by rw [hx]; exact Nat.le_trans (shape_nodes _ _ hy) HX.out.2.2.2.2))
    have HF := hid (And.intro hf (And.intro hy (And.intro hfy hx)))
    clear x1 x2 x3 x4 x5 hfm hcC hyb hba3 hcw3 hsx g1 g2 g3 hf hx hy hfy HO
    go_wp2_with fail
    refine HS.out.mono ?_
    rintro e w4 ⟨b, rfl, hb, hc4⟩
    have HB := hid (And.intro hb hc4)
    clear hb hc4 HS
    go_wp2
    go_ret
    refine ⟨b, rfl, HC3.out.trans HB.out.2 (fun _ _ h => h), .inr ⟨HF.out.1, y, HF.out.2.1, ?_⟩⟩
    rw [HB.out.1, HF.out.2.2.2]
    exact ⟨fun e => ⟨HF.out.2.2.1, e⟩, fun e => e.2⟩
  · have HF := hid (And.intro hf (And.intro hy hfy))
    clear x1 x2 x3 x4 x5 hfm hcC hyb hba3 hcw3 hsx g1 g2 g3 hf hx hy hfy HO
    go_wp2
    go_ret
    exact ⟨false, rfl, HC3.out, .inr ⟨HF.out.1, y, HF.out.2.1, ⟨fun e => (by cases e), fun e => by rw [HF.out.2.2] at e; cases e.1⟩⟩⟩

theorem FmAt.more {D : Nat → Prop} {w : World} {b o : Nat} {f : FmB} : ∀ (k n : Nat), FmAt D w n b o f → FmAt D w (n + k) b o f
  | 0, _, h => h
  | k + 1, n, h => by rw [Nat.add_succ]; exact (FmAt.more k n h).up
theorem FmsAt.more {D : Nat → Prop} {w : World} {ao : Option Addr} {ls : List FmB} (k n : Nat) (h : FmsAt D w n ao ls) : FmsAt D w (n + k) ao ls := fun i hi => by
  obtain ⟨b, off, h1, h2, h3⟩ := h i hi
  exact ⟨b, off, h1, h2, FmAt.more k n h3⟩
theorem fm_at_cells {D : Nat → Prop} {w : World} {n b o : Nat} {f : FmB} {ao : Option Addr} {cp : Nat} (hc : CellsF w b o (.mk f.op f.k f.r (.slice ao f.kids.length cp) [])) (hok : FmOk f) (hz : ao = none → cp = 0) (hk : FmsAt D w n ao f.kids) : FmAt D w (n + 1) b o f :=
  ⟨hc.1, hc.2.1, hc.2.2.1, hc.2.2.2.1, hok, ao, cp, hc.2.2.2.2, hz, hk⟩

set_option maxRecDepth 100000 in
set_option maxHeartbeats 8000000 in
theorem pnBoth {D E : Nat → Prop} (f : FmB) (m : Nat) (ao : Option Addr) (cp : Nat) (g : FmB) (m2 : Nat) (bo : Option Addr) (bp : Nat) (w : World) (h : FmsAt D w m ao f.kids) (hD : ∀ i, D i → i < w.heap.size) (hok : FmOk f) (hz : ao = none → cp = 0) (h2 : FmsAt E w m2 bo g.kids) (hE : ∀ i, E i → i < w.heap.size) (hok2 : FmOk g) (hz2 : bo = none → bp = 0) (hN4 : nodesF f + nodesF g ≤ 3990) :
    Calls Try.prog 10 #[.agg #[.int .i64 f.op, .int .i64 f.k, .string ⟨f.r.1.toArray⟩, .string ⟨f.r.2.toArray⟩, .slice ao f.kids.length cp], .agg #[.int .i64 g.op, .int .i64 g.k, .string ⟨g.r.1.toArray⟩, .string ⟨g.r.2.toArray⟩, .slice bo g.kids.length bp]] w (OfPost (.mk 2 0 ([], []) [f, g]) w) := by
  have k1 := (Chg.refl (fun _ => False) w).alloc (.cells #[.int .i64 f.op, .int .i64 f.k, .string ⟨f.r.1.toArray⟩, .string ⟨f.r.2.toArray⟩, .slice ao f.kids.length cp] 26)
  have k2 := k1.alloc (.cells #[.int .i64 g.op, .int .i64 g.k, .string ⟨g.r.1.toArray⟩, .string ⟨g.r.2.toArray⟩, .slice bo g.kids.length bp] 26)
  have k3 := k2.alloc (.cells #[.int .i64 0, .int .i64 0, .string ⟨#[]⟩, .string ⟨#[]⟩, .slice none 0 0] 26)
  have k4 := k3.alloc (.cells #[.int .i64 f.op, .int .i64 f.k, .string ⟨f.r.1.toArray⟩, .string ⟨f.r.2.toArray⟩, .slice ao f.kids.length cp, .int .i64 g.op, .int .i64 g.k, .string ⟨g.r.1.toArray⟩, .string ⟨g.r.2.toArray⟩, .slice bo g.kids.length bp] 26)
  have e1 : (w.alloc (.cells #[.int .i64 f.op, .int .i64 f.k, .string ⟨f.r.1.toArray⟩, .string ⟨f.r.2.toArray⟩, .slice ao f.kids.length cp] 26)).heap.size = w.heap.size + 1 := by simp
  have e2 : ((w.alloc (.cells #[.int .i64 f.op, .int .i64 f.k, .string ⟨f.r.1.toArray⟩, .string ⟨f.r.2.toArray⟩, .slice ao f.kids.length cp] 26)).alloc (.cells #[.int .i64 g.op, .int .i64 g.k, .string ⟨g.r.1.toArray⟩, .string ⟨g.r.2.toArray⟩, .slice bo g.kids.length bp] 26)).heap.size = w.heap.size + 2 := by simp
  have e3 : (((w.alloc (.cells #[.int .i64 f.op, .int .i64 f.k, .string ⟨f.r.1.toArray⟩, .string ⟨f.r.2.toArray⟩, .slice ao f.kids.length cp] 26)).alloc (.cells #[.int .i64 g.op, .int .i64 g.k, .string ⟨g.r.1.toArray⟩, .string ⟨g.r.2.toArray⟩, .slice bo g.kids.length bp] 26)).alloc (.cells #[.int .i64 0, .int .i64 0, .string ⟨#[]⟩, .string ⟨#[]⟩, .slice none 0 0] 26)).heap.size = w.heap.size + 3 := by simp
  have e4 : ((((w.alloc (.cells #[.int .i64 f.op, .int .i64 f.k, .string ⟨f.r.1.toArray⟩, .string ⟨f.r.2.toArray⟩, .slice ao f.kids.length cp] 26)).alloc (.cells #[.int .i64 g.op, .int .i64 g.k, .string ⟨g.r.1.toArray⟩, .string ⟨g.r.2.toArray⟩, .slice bo g.kids.length bp] 26)).alloc (.cells #[.int .i64 0, .int .i64 0, .string ⟨#[]⟩, .string ⟨#[]⟩, .slice none 0 0] 26)).alloc (.cells #[.int .i64 f.op, .int .i64 f.k, .string ⟨f.r.1.toArray⟩, .string ⟨f.r.2.toArray⟩, .slice ao f.kids.length cp, .int .i64 g.op, .int .i64 g.k, .string ⟨g.r.1.toArray⟩, .string ⟨g.r.2.toArray⟩, .slice bo g.kids.length bp] 26)).heap.size = w.heap.size + 4 := by simp
  have hfb := blk_keep (heap_alloc_new w (.cells #[.int .i64 f.op, .int .i64 f.k, .string ⟨f.r.1.toArray⟩, .string ⟨f.r.2.toArray⟩, .slice ao f.kids.length cp] 26)) (((Chg.refl (fun _ => False) (w.alloc (.cells #[.int .i64 f.op, .int .i64 f.k, .string ⟨f.r.1.toArray⟩, .string ⟨f.r.2.toArray⟩, .slice ao f.kids.length cp] 26))).alloc (.cells #[.int .i64 g.op, .int .i64 g.k, .string ⟨g.r.1.toArray⟩, .string ⟨g.r.2.toArray⟩, .slice bo g.kids.length bp] 26)).alloc (.cells #[.int .i64 0, .int .i64 0, .string ⟨#[]⟩, .string ⟨#[]⟩, .slice none 0 0] 26)) id
  have hgb := blk_keep (heap_alloc_new (w.alloc (.cells #[.int .i64 f.op, .int .i64 f.k, .string ⟨f.r.1.toArray⟩, .string ⟨f.r.2.toArray⟩, .slice ao f.kids.length cp] 26)) (.cells #[.int .i64 g.op, .int .i64 g.k, .string ⟨g.r.1.toArray⟩, .string ⟨g.r.2.toArray⟩, .slice bo g.kids.length bp] 26)) ((Chg.refl (fun _ => False) ((w.alloc (.cells #[.int .i64 f.op, .int .i64 f.k, .string ⟨f.r.1.toArray⟩, .string ⟨f.r.2.toArray⟩, .slice ao f.kids.length cp] 26)).alloc (.cells #[.int .i64 g.op, .int .i64 g.k, .string ⟨g.r.1.toArray⟩, .string ⟨g.r.2.toArray⟩, .slice bo g.kids.length bp] 26))).alloc (.cells #[.int .i64 0, .int .i64 0, .string ⟨#[]⟩, .string ⟨#[]⟩, .slice none 0 0] 26)) id
  have hzb := blk_keep (heap_alloc_new ((w.alloc (.cells #[.int .i64 f.op, .int .i64 f.k, .string ⟨f.r.1.toArray⟩, .string ⟨f.r.2.toArray⟩, .slice ao f.kids.length cp] 26)).alloc (.cells #[.int .i64 g.op, .int .i64 g.k, .string ⟨g.r.1.toArray⟩, .string ⟨g.r.2.toArray⟩, .slice bo g.kids.length bp] 26)) (.cells #[.int .i64 0, .int .i64 0, .string ⟨#[]⟩, .string ⟨#[]⟩, .slice none 0 0] 26)) ((Chg.refl (fun _ => False) (((w.alloc (.cells #[.int .i64 f.op, .int .i64 f.k, .string ⟨f.r.1.toArray⟩, .string ⟨f.r.2.toArray⟩, .slice ao f.kids.length cp] 26)).alloc (.cells #[.int .i64 g.op, .int .i64 g.k, .string ⟨g.r.1.toArray⟩, .string ⟨g.r.2.toArray⟩, .slice bo g.kids.length bp] 26)).alloc (.cells #[.int .i64 0, .int .i64 0, .string ⟨#[]⟩, .string ⟨#[]⟩, .slice none 0 0] 26))).alloc (.cells #[.int .i64 f.op, .int .i64 f.k, .string ⟨f.r.1.toArray⟩, .string ⟨f.r.2.toArray⟩, .slice ao f.kids.length cp, .int .i64 g.op, .int .i64 g.k, .string ⟨g.r.1.toArray⟩, .string ⟨g.r.2.toArray⟩, .slice bo g.kids.length bp] 26)) id
  have hkb := heap_alloc_new (((w.alloc (.cells #[.int .i64 f.op, .int .i64 f.k, .string ⟨f.r.1.toArray⟩, .string ⟨f.r.2.toArray⟩, .slice ao f.kids.length cp] 26)).alloc (.cells #[.int .i64 g.op, .int .i64 g.k, .string ⟨g.r.1.toArray⟩, .string ⟨g.r.2.toArray⟩, .slice bo g.kids.length bp] 26)).alloc (.cells #[.int .i64 0, .int .i64 0, .string ⟨#[]⟩, .string ⟨#[]⟩, .slice none 0 0] 26)) (.cells #[.int .i64 f.op, .int .i64 f.k, .string ⟨f.r.1.toArray⟩, .string ⟨f.r.2.toArray⟩, .slice ao f.kids.length cp, .int .i64 g.op, .int .i64 g.k, .string ⟨g.r.1.toArray⟩, .string ⟨g.r.2.toArray⟩, .slice bo g.kids.length bp] 26)
  rw [e1] at hgb
  rw [e2] at hzb
  rw [e3] at hkb
  have s0 := cell_blk hfb 0
  have s1 := cell_blk hfb 1
  have s2 := cell_blk hfb 2
  have s3 := cell_blk hfb 3
  have s4 := cell_blk hfb 4
  have t0 := cell_blk hgb 0
  have t1 := cell_blk hgb 1
  have t2 := cell_blk hgb 2
  have t3 := cell_blk hgb 3
  have t4 := cell_blk hgb 4
  simp only [List.getElem?_toArray, List.getElem?_cons_zero, List.getElem?_cons_succ] at s0 s1 s2 s3 s4 t0 t1 t2 t3 t4
  have hfms : FmsAt (fun i => D i ∨ E i ∨ i = w.heap.size + 3) ((((w.alloc (.cells #[.int .i64 f.op, .int .i64 f.k, .string ⟨f.r.1.toArray⟩, .string ⟨f.r.2.toArray⟩, .slice ao f.kids.length cp] 26)).alloc (.cells #[.int .i64 g.op, .int .i64 g.k, .string ⟨g.r.1.toArray⟩, .string ⟨g.r.2.toArray⟩, .slice bo g.kids.length bp] 26)).alloc (.cells #[.int .i64 0, .int .i64 0, .string ⟨#[]⟩, .string ⟨#[]⟩, .slice none 0 0] 26)).alloc (.cells #[.int .i64 f.op, .int .i64 f.k, .string ⟨f.r.1.toArray⟩, .string ⟨f.r.2.toArray⟩, .slice ao f.kids.length cp, .int .i64 g.op, .int .i64 g.k, .string ⟨g.r.1.toArray⟩, .string ⟨g.r.2.toArray⟩, .slice bo g.kids.length bp] 26)) (m + m2 + 1) (some ⟨w.heap.size + 3, 0, none⟩) [f, g] := by
    intro i hi
    refine ⟨_, _, rfl, .inr (.inr rfl), ?_⟩
    rcases (show i = 0 ∨ i = 1 by simp at hi; omega) with rfl | rfl
    · exact fm_at_cells (f := f) (ao := ao) (cp := cp) ⟨cell_blk hkb 0, cell_blk hkb 1, cell_blk hkb 2, cell_blk hkb 3, cell_blk hkb 4⟩ hok hz (((h.keep k4 (fun _ _ => id)).mono (fun i h => .inl h)).more m2 m)
    · have := (((h2.keep k4 (fun _ _ => id)).mono (E := fun i => D i ∨ E i ∨ i = w.heap.size + 3) (fun i h => .inr (.inl h))).more m m2)
      rw [Nat.add_comm m2 m] at this
      exact fm_at_cells (f := g) (ao := bo) (cp := bp) ⟨cell_blk hkb 5, cell_blk hkb 6, cell_blk hkb 7, cell_blk hkb 8, cell_blk hkb 9⟩ hok2 hz2 this
  have HO := hid (pnOf (.mk 2 0 ([], []) [f, g]) _ (some ⟨w.heap.size + 3, 0, none⟩) 2 _ hfms (fun i hi => hi.elim (fun hi => by have := hD i hi; omega) (fun hi => hi.elim (fun hi => by have := hE i hi; omega) (fun hi => by omega))) ⟨by simp [FmB.r], by simp [FmB.r]⟩ (by simp [nodesF, nodesL]; omega))
  have HX := hid (And.intro hzb (And.intro k4 e4))
  clear h hD hok hz h2 hE hok2 hz2 hN4 k1 k2 k3 k4 e1 e2 e3 e4 hfb hgb hzb hkb hfms
  go_enter Try.func10, Try.ntmps10
  go_wp2_with fail
  refine HO.out.mono ?_
  rintro e w2 ⟨x, k, rfl, g1, g2, g3, hcase⟩
  obtain ⟨xo, xc, x1, x5, x2, x3, x4⟩ := own_val g1
  have hfm : fmV x = .agg #[.int .i64 (eraseA x).op, .int .i64 (eraseA x).k, .string ⟨(eraseA x).r.1.toArray⟩, .string ⟨(eraseA x).r.2.toArray⟩, .slice xo (eraseA x).kids.length xc] := by rw [← x1]; rfl
  rw [hfm]
  have hz2 := blk_keep HX.out.1 g3 id
  have hcw := HX.out.2.1.trans g3 (fun _ _ h => h)
  have hxl := ownA_lt x g1
  have r0 := cell_blk hz2 0
  have r1 := cell_blk hz2 1
  have r2 := cell_blk hz2 2
  have r3 := cell_blk hz2 3
  have r4 := cell_blk hz2 4
  have f0 := froz_blk hz2 0
  have f1 := froz_blk hz2 1
  have f2 := froz_blk hz2 2
  have f3 := froz_blk hz2 3
  have f4 := froz_blk hz2 4
  simp only [List.getElem?_toArray, List.getElem?_cons_zero, List.getElem?_cons_succ] at r0 r1 r2 r3 r4
  have HZ := hid (And.intro hz2 (And.intro hcw (And.intro g1 (And.intro g2 (And.intro hcase (And.intro hfm (show ∀ b ∈ blksA x, w.heap.size + 4 ≤ b from fun b hb => by have := (hxl b hb).1; have := HX.out.2.2; omega)))))))
  clear x1 x2 x3 x4 x5 hfm hz2 hcw g1 g2 g3 hcase hxl HO s0 s1 s2 s3 s4 t0 t1 t2 t3 t4
  go_wp2
  obtain ⟨hend, hcz⟩ := store5n HZ.out.1 (.int .i64 (eraseA x).op) (.int .i64 (eraseA x).k) (.string ⟨(eraseA x).r.1.toArray⟩) (.string ⟨(eraseA x).r.2.toArray⟩) (.slice xo (eraseA x).kids.length xc)
  refine bodyPost_ret (results_fmn rfl _ _ (w.heap.size + 2) rfl hend) rfl ?_
  have hlo := HZ.out.2.2.2.2.2.2
  exact ⟨x, k, by rw [HZ.out.2.2.2.2.2.1]; rfl, ownA_keep hcz x (ownA_low (by have := HX.out.2.2; omega) x HZ.out.2.2.1) (fun b hb e => by have := hlo b hb; have e : b = w.heap.size + 2 := e; omega), HZ.out.2.2.2.1, HZ.out.2.1.trans hcz (fun i hi e => by have : i = w.heap.size + 2 := e; omega), HZ.out.2.2.2.2.1⟩
end Go.Proofs.Ytcbfieodjbfjdaa
