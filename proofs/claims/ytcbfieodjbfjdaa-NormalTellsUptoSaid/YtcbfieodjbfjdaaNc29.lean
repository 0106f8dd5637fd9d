/- The document's Compare of two formulas; none. -/
import Derived.Test.YtcbfieodjbfjdaaNc28
namespace Go.Proofs.Ytcbfieodjbfjdaa
open Go.RowKit
@[local go_sem] theorem binOp_string_gtrN (t : TypeId) (a b : ByteArray) : binOp .gtr t (.string a) (.string b) = pure (.bool !(Op.bytesLess a.toList b.toList || a.toList == b.toList)) := by simp [binOp, Op.stringOp]

def cmpN (f g : FmB) : Int := if ltS (wrN f) (wrN g) = true then -1 else if ltS (wrN g) (wrN f) = true then 1 else 0
theorem cmpN_pos (f g : FmB) : (0 < cmpN f g) ↔ gtN g f = true := by
  unfold cmpN gtN
  by_cases h1 : ltS (wrN f) (wrN g) = true
  · rw [if_pos h1]
    constructor
    · intro h; omega
    · intro h; have := ltS_trans _ _ _ h1 h; rw [ltS_irrefl] at this; cases this
  · rw [if_neg h1]
    by_cases h2 : ltS (wrN g) (wrN f) = true
    · rw [if_pos h2]; exact ⟨fun _ => h2, fun _ => by omega⟩
    · rw [if_neg h2]; exact ⟨fun h => by omega, fun h => absurd h h2⟩

set_option maxRecDepth 100000 in
set_option maxHeartbeats 4000000 in
theorem rncompare {D E : Nat → Prop} (n : Nat) (f : FmB) (ao : Option Addr) (cp : Nat) (m : Nat) (g : FmB) (bo : Option Addr) (bp : Nat) (w : World) (h : FmsAt D w n ao f.kids) (hok : FmOk f) (hN : nodesF f ≤ 4096) (h2 : FmsAt E w m bo g.kids) (hok2 : FmOk g) (hN2 : nodesF g ≤ 4096) :
    Calls Try.prog 80 #[.agg #[.int .i64 f.op, .int .i64 f.k, .string ⟨f.r.1.toArray⟩, .string ⟨f.r.2.toArray⟩, .slice ao f.kids.length cp], .agg #[.int .i64 g.op, .int .i64 g.k, .string ⟨g.r.1.toArray⟩, .string ⟨g.r.2.toArray⟩, .slice bo g.kids.length bp]] w fun e w' => e = .returned (.int .i64 (cmpN f g)) ∧ Chg (fun _ => False) w w' := by
  have c1 := (Chg.refl (fun _ => False) w).alloc (.cells #[.int .i64 f.op, .int .i64 f.k, .string ⟨f.r.1.toArray⟩, .string ⟨f.r.2.toArray⟩, .slice ao f.kids.length cp] 26)
  have c2 := c1.alloc (.cells #[.int .i64 g.op, .int .i64 g.k, .string ⟨g.r.1.toArray⟩, .string ⟨g.r.2.toArray⟩, .slice bo g.kids.length bp] 26)
  have e1 : (w.alloc (.cells #[.int .i64 f.op, .int .i64 f.k, .string ⟨f.r.1.toArray⟩, .string ⟨f.r.2.toArray⟩, .slice ao f.kids.length cp] 26)).heap.size = w.heap.size + 1 := by simp
  have hfb := blk_keep (heap_alloc_new w (.cells #[.int .i64 f.op, .int .i64 f.k, .string ⟨f.r.1.toArray⟩, .string ⟨f.r.2.toArray⟩, .slice ao f.kids.length cp] 26)) ((Chg.refl (fun _ => False) (w.alloc (.cells #[.int .i64 f.op, .int .i64 f.k, .string ⟨f.r.1.toArray⟩, .string ⟨f.r.2.toArray⟩, .slice ao f.kids.length cp] 26))).alloc (.cells #[.int .i64 g.op, .int .i64 g.k, .string ⟨g.r.1.toArray⟩, .string ⟨g.r.2.toArray⟩, .slice bo g.kids.length bp] 26)) id
  have hgb := heap_alloc_new (w.alloc (.cells #[.int .i64 f.op, .int .i64 f.k, .string ⟨f.r.1.toArray⟩, .string ⟨f.r.2.toArray⟩, .slice ao f.kids.length cp] 26)) (.cells #[.int .i64 g.op, .int .i64 g.k, .string ⟨g.r.1.toArray⟩, .string ⟨g.r.2.toArray⟩, .slice bo g.kids.length bp] 26)
  rw [e1] at hgb
  have s0 := cell_blk hfb 0
  have s1 := cell_blk hfb 1
  have s2 := cell_blk hfb 2
  have s3 := cell_blk hfb 3
  have s4 := cell_blk hfb 4
  simp only [List.getElem?_toArray, List.getElem?_cons_zero, List.getElem?_cons_succ] at s0 s1 s2 s3 s4
  have t0 := cell_blk hgb 0
  have t1 := cell_blk hgb 1
  have t2 := cell_blk hgb 2
  have t3 := cell_blk hgb 3
  have t4 := cell_blk hgb 4
  simp only [List.getElem?_toArray, List.getElem?_cons_zero, List.getElem?_cons_succ] at t0 t1 t2 t3 t4
  have HR1 := hid (rn_right n f ao cp _ (h.keep c2 (fun _ _ => id)) hok (by omega))
  have HX := hid (And.intro hfb (And.intro hgb c2))
  have H := hid (And.intro h (And.intro hok (And.intro hN (And.intro h2 (And.intro hok2 hN2)))))
  clear c1 c2 e1 hfb hgb h hok hN h2 hok2 hN2
  go_enter Try.func80, Try.ntmps80
  go_wp2_with fail
  refine HR1.out.mono ?_
  clear HR1
  rintro e w3 ⟨rfl, hc3⟩
  have hf3 := blk_keep HX.out.1 hc3 id
  have hg3 := blk_keep HX.out.2.1 hc3 id
  have HC3 := hid (And.intro hf3 (And.intro hg3 (HX.out.2.2.trans hc3 (fun _ _ h => h))))
  have s0 := cell_blk hf3 0
  have s1 := cell_blk hf3 1
  have s2 := cell_blk hf3 2
  have s3 := cell_blk hf3 3
  have s4 := cell_blk hf3 4
  simp only [List.getElem?_toArray, List.getElem?_cons_zero, List.getElem?_cons_succ] at s0 s1 s2 s3 s4
  have t0 := cell_blk hg3 0
  have t1 := cell_blk hg3 1
  have t2 := cell_blk hg3 2
  have t3 := cell_blk hg3 3
  have t4 := cell_blk hg3 4
  simp only [List.getElem?_toArray, List.getElem?_cons_zero, List.getElem?_cons_succ] at t0 t1 t2 t3 t4
  clear hf3 hg3 hc3 HX
  cases hf : isF f with
  | true =>
    have HB := hid (rnbytes n f ao cp w3 (H.out.1.keep HC3.out.2.2 (fun _ _ => id)) H.out.2.1 (isF_parts.1 hf).2.2 (isF_parts.1 hf).1)
    obtain ⟨X9, hX9⟩ : ∃ X9, X9 = encF f := ⟨_, rfl⟩
    rw [← hX9] at HB
    have HWF : Hid (X9 = wrN f) := hid (by rw [hX9]; unfold wrN; rw [hf]; rfl)
    clear hf hX9
    go_wp2_with fail
    refine HB.out.mono ?_
    clear HB
    rintro e w4 ⟨rfl, hc4⟩
    have hg4 := blk_keep HC3.out.2.1 hc4 id
    have HC4 := hid (And.intro hg4 (HC3.out.2.2.trans hc4 (fun _ _ h => h)))
    clear s0 s1 s2 s3 s4 t0 t1 t2 t3 t4
    have t0 := cell_blk hg4 0
    have t1 := cell_blk hg4 1
    have t2 := cell_blk hg4 2
    have t3 := cell_blk hg4 3
    have t4 := cell_blk hg4 4
    simp only [List.getElem?_toArray, List.getElem?_cons_zero, List.getElem?_cons_succ] at t0 t1 t2 t3 t4
    clear hg4 hc4 HC3
    have HR2 := hid (rn_right m g bo bp _ (H.out.2.2.2.1.keep HC4.out.2 (fun _ _ => id)) H.out.2.2.2.2.1 (by have := H.out.2.2.2.2.2; omega))
    go_wp2_with fail
    refine HR2.out.mono ?_
    clear HR2
    rintro e w5 ⟨rfl, hc5⟩
    have hg5 := blk_keep HC4.out.1 hc5 id
    have HC5 := hid (HC4.out.2.trans hc5 (fun _ _ h => h))
    clear t0 t1 t2 t3 t4
    have t0 := cell_blk hg5 0
    have t1 := cell_blk hg5 1
    have t2 := cell_blk hg5 2
    have t3 := cell_blk hg5 3
    have t4 := cell_blk hg5 4
    simp only [List.getElem?_toArray, List.getElem?_cons_zero, List.getElem?_cons_succ] at t0 t1 t2 t3 t4
    clear hg5 hc5 HC4
    cases hg : isF g with
    | true =>
      have HB2 := hid (rnbytes m g bo bp w5 (H.out.2.2.2.1.keep HC5.out (fun _ _ => id)) H.out.2.2.2.2.1 (isF_parts.1 hg).2.2 (isF_parts.1 hg).1)
      obtain ⟨Y9, hY9⟩ : ∃ Y9, Y9 = encF g := ⟨_, rfl⟩
      rw [← hY9] at HB2
      have HWG : Hid (Y9 = wrN g) := hid (by rw [hY9]; unfold wrN; rw [hg]; rfl)
      clear hg hY9
      go_wp2_with fail
      refine HB2.out.mono ?_
      clear HB2
      rintro e w6 ⟨rfl, hc6⟩
      have HCE := hid (HC5.out.trans hc6 (fun _ _ h => h))
      clear hc6 HC5 t0 t1 t2 t3 t4
      have HCM : Hid (cmpN f g = if ltS (X9) (Y9) = true then -1 else if ltS (Y9) (X9) = true then 1 else 0) := hid (by rw [HWF.out, HWG.out]; rfl)
      have zl : Op.bytesLess (X9) (Y9) = ltS (X9) (Y9) := rfl
      cases h1 : ltS (X9) (Y9) with
      | true =>
        rw [h1] at zl HCM
        clear h1
        go_wp2
        go_ret
        exact ⟨by rw [HCM.out]; rfl, HCE.out⟩
      | false =>
        rw [h1] at zl HCM
        cases h2 : ltS (Y9) (X9) with
        | true =>
          rw [h2] at HCM
          have hne : (X9) ≠ (Y9) := fun e => by rw [e, ltS_irrefl] at h2; cases h2
          have z5 : ((X9) == (Y9)) = false := beq_eq_false_iff_ne.2 hne
          have HNE := hid hne
          clear h1 h2 hne
          go_wp2
          go_ret
          exact ⟨by rw [HCM.out]; rfl, HCE.out⟩
        | false =>
          rw [h2] at HCM
          have he : (X9) = (Y9) := by
            rcases ltS_tri (X9) (Y9) with k | k | k
            · rw [h1] at k; cases k
            · exact k
            · rw [h2] at k; cases k
          have z5 : ((X9) == (Y9)) = true := beq_iff_eq.2 he
          have HNE := hid he
          clear h1 h2 he
          go_wp2
          go_ret
          exact ⟨by rw [HCM.out]; rfl, HCE.out⟩
    | false =>
      have HWG : Hid (([] : List UInt8) = wrN g) := hid (by unfold wrN; rw [hg]; rfl)
      have HCE := hid HC5.out
      clear hg t0 t1 t2 t3 t4
      have HCM : Hid (cmpN f g = if ltS (X9) (([] : List UInt8)) = true then -1 else if ltS (([] : List UInt8)) (X9) = true then 1 else 0) := hid (by rw [HWF.out, HWG.out]; rfl)
      have zl : Op.bytesLess (X9) (([] : List UInt8)) = ltS (X9) (([] : List UInt8)) := rfl
      cases h1 : ltS (X9) (([] : List UInt8)) with
      | true =>
        rw [h1] at zl HCM
        clear h1
        go_wp2
        go_ret
        exact ⟨by rw [HCM.out]; rfl, HCE.out⟩
      | false =>
        rw [h1] at zl HCM
        cases h2 : ltS (([] : List UInt8)) (X9) with
        | true =>
          rw [h2] at HCM
          have hne : (X9) ≠ (([] : List UInt8)) := fun e => by rw [e, ltS_irrefl] at h2; cases h2
          have z5 : ((X9) == (([] : List UInt8))) = false := beq_eq_false_iff_ne.2 hne
          have HNE := hid hne
          clear h1 h2 hne
          go_wp2
          go_ret
          exact ⟨by rw [HCM.out]; rfl, HCE.out⟩
        | false =>
          rw [h2] at HCM
          have he : (X9) = (([] : List UInt8)) := by
            rcases ltS_tri (X9) (([] : List UInt8)) with k | k | k
            · rw [h1] at k; cases k
            · exact k
            · rw [h2] at k; cases k
          have z5 : ((X9) == (([] : List UInt8))) = true := beq_iff_eq.2 he
          have HNE := hid he
          clear h1 h2 he
          go_wp2
          go_ret
          exact ⟨by rw [HCM.out]; rfl, HCE.out⟩
  | false =>
    have HWF : Hid (([] : List UInt8) = wrN f) := hid (by unfold wrN; rw [hf]; rfl)
    have HC4 := hid (And.intro HC3.out.2.1 HC3.out.2.2)
    clear hf s0 s1 s2 s3 s4
    have HR2 := hid (rn_right m g bo bp _ (H.out.2.2.2.1.keep HC4.out.2 (fun _ _ => id)) H.out.2.2.2.2.1 (by have := H.out.2.2.2.2.2; omega))
    go_wp2_with fail
    refine HR2.out.mono ?_
    clear HR2
    rintro e w5 ⟨rfl, hc5⟩
    have hg5 := blk_keep HC4.out.1 hc5 id
    have HC5 := hid (HC4.out.2.trans hc5 (fun _ _ h => h))
    clear t0 t1 t2 t3 t4
    have t0 := cell_blk hg5 0
    have t1 := cell_blk hg5 1
    have t2 := cell_blk hg5 2
    have t3 := cell_blk hg5 3
    have t4 := cell_blk hg5 4
    simp only [List.getElem?_toArray, List.getElem?_cons_zero, List.getElem?_cons_succ] at t0 t1 t2 t3 t4
    clear hg5 hc5 HC4
    cases hg : isF g with
    | true =>
      have HB2 := hid (rnbytes m g bo bp w5 (H.out.2.2.2.1.keep HC5.out (fun _ _ => id)) H.out.2.2.2.2.1 (isF_parts.1 hg).2.2 (isF_parts.1 hg).1)
      obtain ⟨Y9, hY9⟩ : ∃ Y9, Y9 = encF g := ⟨_, rfl⟩
      rw [← hY9] at HB2
      have HWG : Hid (Y9 = wrN g) := hid (by rw [hY9]; unfold wrN; rw [hg]; rfl)
      clear hg hY9
      go_wp2_with fail
      refine HB2.out.mono ?_
      clear HB2
      rintro e w6 ⟨rfl, hc6⟩
      have HCE := hid (HC5.out.trans hc6 (fun _ _ h => h))
      clear hc6 HC5 t0 t1 t2 t3 t4
      have HCM : Hid (cmpN f g = if ltS (([] : List UInt8)) (Y9) = true then -1 else if ltS (Y9) (([] : List UInt8)) = true then 1 else 0) := hid (by rw [HWF.out, HWG.out]; rfl)
      have zl : Op.bytesLess (([] : List UInt8)) (Y9) = ltS (([] : List UInt8)) (Y9) := rfl
      cases h1 : ltS (([] : List UInt8)) (Y9) with
      | true =>
        rw [h1] at zl HCM
        clear h1
        go_wp2
        go_ret
        exact ⟨by rw [HCM.out]; rfl, HCE.out⟩
      | false =>
        rw [h1] at zl HCM
        cases h2 : ltS (Y9) (([] : List UInt8)) with
        | true =>
          rw [h2] at HCM
          have hne : (([] : List UInt8)) ≠ (Y9) := fun e => by rw [e, ltS_irrefl] at h2; cases h2
          have z5 : ((([] : List UInt8)) == (Y9)) = false := beq_eq_false_iff_ne.2 hne
          have HNE := hid hne
          clear h1 h2 hne
          go_wp2
          go_ret
          exact ⟨by rw [HCM.out]; rfl, HCE.out⟩
        | false =>
          rw [h2] at HCM
          have he : (([] : List UInt8)) = (Y9) := by
            rcases ltS_tri (([] : List UInt8)) (Y9) with k | k | k
            · rw [h1] at k; cases k
            · exact k
            · rw [h2] at k; cases k
          have z5 : ((([] : List UInt8)) == (Y9)) = true := beq_iff_eq.2 he
          have HNE := hid he
          clear h1 h2 he
          go_wp2
          go_ret
          exact ⟨by rw [HCM.out]; rfl, HCE.out⟩
    | false =>
      have HWG : Hid (([] : List UInt8) = wrN g) := hid (by unfold wrN; rw [hg]; rfl)
      have HCE := hid HC5.out
      clear hg t0 t1 t2 t3 t4
      have HCM : Hid (cmpN f g = 0) := hid (by unfold cmpN; rw [← HWF.out, ← HWG.out]; rfl)
      have z1 : Op.bytesLess ([] : List UInt8) [] = false := rfl
      go_wp2
      go_ret
      exact ⟨by rw [HCM.out]; rfl, HCE.out⟩
set_option maxRecDepth 100000 in
theorem rnnone (op k : Int) (r : RoleB) (ao : Option Addr) (n cp : Nat) (o : Int) (w : World) :
    Calls Try.prog 51 #[.agg #[.int .i64 op, .int .i64 k, .string ⟨r.1.toArray⟩, .string ⟨r.2.toArray⟩, .slice ao n cp], .int .i64 o] w fun e w' => e = .returned (.bool (decide (op = o) && decide (n = 0))) ∧ Chg (fun _ => False) w w' := by
  have hc : Chg (fun _ => False) w (w.alloc (.cells #[.int .i64 op, .int .i64 k, .string ⟨r.1.toArray⟩, .string ⟨r.2.toArray⟩, .slice ao n cp] 26)) := (Chg.refl _ w).alloc _
  have hb := heap_alloc_new w (.cells #[.int .i64 op, .int .i64 k, .string ⟨r.1.toArray⟩, .string ⟨r.2.toArray⟩, .slice ao n cp] 26)
  have s0 := cell_blk hb 0
  have s1 := cell_blk hb 1
  have s2 := cell_blk hb 2
  have s3 := cell_blk hb 3
  have s4 := cell_blk hb 4
  simp only [List.getElem?_toArray, List.getElem?_cons_zero, List.getElem?_cons_succ] at s0 s1 s2 s3 s4
  have HC := hid hc
  clear hc hb
  go_enter Try.func51, Try.ntmps51
  by_cases h1 : op = o
  · subst h1
    by_cases h2 : n = 0
    · subst h2
      go_wp2
      go_ret
      exact ⟨by simp, HC.out⟩
    · have z2 : ((n : Int) == 0) = false := by simpa using h2
      go_wp2
      go_ret
      exact ⟨by simp, HC.out⟩
  · have z0 : (op == o) = false := by simpa using h1
    go_wp2
    go_ret
    exact ⟨by simp [h1], HC.out⟩
end Go.Proofs.Ytcbfieodjbfjdaa
