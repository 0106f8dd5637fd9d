/- Texts that the proof leans on, in one: RefCredParse, RefCredText, RefCredHas. -/
import Derived.Test.YtjohiggfjpfbeaaCm8
import Derived.Test.YtjohiggfjpfbeaaTm1
import Derived.Test.YtjohiggfjpfbeaaCm14
import Derived.StillTailTactics
import Derived.Test.YtjohiggfjpfbeaaCm4
import Derived.Test.YtjohiggfjpfbeaaCm5
import Derived.Test.YtjohiggfjpfbeaaCm1
import Derived.Test.YtjohiggfjpfbeaaProg
import Derived.Test.YtjohiggfjpfbeaaChecked
import Derived.Deep.QuietTactic
import Derived.BigQuiet
/- The contract of the document's Parse of layer 5. -/
namespace Go.Proofs.Ytjohiggfjpfbeaa
open Go.RowKit

theorem roleOr_len (s : List UInt8) : (roleOr s).1.length ≤ 16 ∧ (roleOr s).2.length ≤ 16 := by
  unfold roleOr parseR
  cases cutDot s with
  | none => simp [noRole]
  | some r =>
    dsimp only
    by_cases h : isRole r = true
    · rw [if_pos h]
      simp only [isRole, Bool.and_eq_true] at h
      exact ⟨(isName_len h.1).2, (isName_len h.2).2⟩
    · rw [if_neg h]; simp [noRole]

theorem one_of {α : Type} {l : List α} (h : l.length = 1) : ∃ x, l = [x] := by
  match l, h with
  | [x], _ => exact ⟨x, rfl⟩

theorem three_of {α : Type} {l : List α} (h : l.length = 3) : ∃ x y z, l = [x, y, z] := by
  match l, h with
  | [x, y, z], _ => exact ⟨x, y, z, rfl⟩

theorem two_of {α : Type} {l : List α} (h : l.length = 2) : ∃ x y, l = [x, y] := by
  match l, h with
  | [x, y], _ => exact ⟨x, y, rfl⟩

set_option maxRecDepth 100000 in
set_option maxHeartbeats 8000000 in
theorem cparse_ref (s : List UInt8) (w : World) (hs : s.length ≤ 1048576) :
    Calls Try.prog 13 #[.string ⟨s.toArray⟩] w (ParsePostC s w) := by
  have hc0 : Chg (fun _ => False) w (w.alloc (.cells (credBox noCred) 25)) := (Chg.refl _ w).alloc _
  have hA := heap_alloc_new w (.cells (credBox noCred) 25)
  have hsp := split_ref s [32, 60, 45, 32] (w.alloc (.cells (credBox noCred) 25)) hs (by decide) (by decide)
  have HH := hid (And.intro hsp (And.intro hc0 hA))
  clear hsp hc0 hA
  go_enter Try.func13, Try.ntmps13
  go_wp2_with fail
  obtain ⟨hsp, hc0, hA⟩ := HH.out
  refine hsp.mono ?_
  rintro e w2 ⟨ao, cap, rfl, hst, hc12⟩
  have hA2 := blk_keep hA hc12 id
  have hc2 := hc0.trans hc12 (fun _ _ h => h)
  have hAlt : w.heap.size < w2.heap.size := lt_blk hA2
  have hwA : w.heap.size ≤ w.heap.size := Nat.le_refl _
  replace hst := hst.mono (D' := fun k => k < w2.heap.size ∧ k ≠ w.heap.size) (fun k h => ⟨h.2, by have := h.1; simp at this; omega⟩)
  clear HH hsp hc0 hA hc12
  have hPC : Hid (∀ h body, splitL [32, 60, 45, 32] s = [h, body] → parseC s = parseBody (roleOr h) body (splitL [32, 38, 32] body) (splitL [46] body)) := hid (fun h body hP => by rw [parseC, hP])
  have hPN : Hid ((splitL [32, 60, 45, 32] s).length ≠ 2 → parseC s = none) := hid (fun hP => by
    rw [parseC]
    match hL : splitL [32, 60, 45, 32] s, hP with
    | [], _ => rfl
    | [_], _ => rfl
    | [_, _], hP => exact absurd rfl hP
    | _ :: _ :: _ :: _, _ => rfl)
  have hPL : Hid (∀ x ∈ splitL [32, 60, 45, 32] s, x.length ≤ 1048576) := hid (fun x hx => Nat.le_trans (splitL_len hx) hs)
  generalize hgP : splitL [32, 60, 45, 32] s = P at *
  clear hgP
  generalize hAA : w.heap.size = A at *
  by_cases hlen : P.length = 2
  · obtain ⟨h, body, rfl⟩ := two_of hlen
    have hpc := hid (hPC.out h body rfl)
    have hlh : h.length ≤ 1048576 := hPL.out h (by simp)
    have hlb : body.length ≤ 1048576 := hPL.out body (by simp)
    clear hPC hPN hPL hlen
    have hc23 : Chg (fun _ => False) w2 (w2.alloc (.cells #[.int .i64 0, .string ⟨#[]⟩, .string ⟨#[]⟩, .string ⟨#[]⟩, .string ⟨#[]⟩, .string ⟨#[]⟩, .string ⟨#[]⟩, .string ⟨#[]⟩, .string ⟨#[]⟩] 25)) := (Chg.refl _ w2).alloc _
    have hB3 : (w2.alloc (.cells #[.int .i64 0, .string ⟨#[]⟩, .string ⟨#[]⟩, .string ⟨#[]⟩, .string ⟨#[]⟩, .string ⟨#[]⟩, .string ⟨#[]⟩, .string ⟨#[]⟩, .string ⟨#[]⟩] 25)).heap[w2.heap.size]? = some (.cells (credBox noCred) 25 (0, 0)) := heap_alloc_new w2 _
    have hA3 := blk_keep hA2 hc23 id
    have hst3 := hst.keep hc23 (fun _ _ => id)
    have hcw3 := hc2.trans hc23 (fun _ _ h => h)
    obtain ⟨pb, poff, rfl, hpD, p0, _⟩ := hst3 0 (by simp)
    obtain ⟨_, _, e1, _, p1, _⟩ := hst3 1 (by simp)
    cases e1
    simp only [Nat.add_zero, List.getElem_cons_zero, List.getElem_cons_succ] at p0 p1
    have hrp := rparse_ref h (w2.alloc (.cells #[.int .i64 0, .string ⟨#[]⟩, .string ⟨#[]⟩, .string ⟨#[]⟩, .string ⟨#[]⟩, .string ⟨#[]⟩, .string ⟨#[]⟩, .string ⟨#[]⟩, .string ⟨#[]⟩] 25)) (by omega)
    have H3 := hid (And.intro hrp (And.intro hA3 (And.intro hB3 (And.intro hcw3 (And.intro p1 hpD)))))
    clear hrp hA3 hB3 hcw3 hc23 hst3 hst hA2 hc2 p1 hpD
    go_wp2_with fail
    obtain ⟨hrp, hA3, hB3, hcw3, p1, hpD⟩ := H3.out
    clear H3 p0
    generalize w2.alloc (.cells #[.int .i64 0, .string ⟨#[]⟩, .string ⟨#[]⟩, .string ⟨#[]⟩, .string ⟨#[]⟩, .string ⟨#[]⟩, .string ⟨#[]⟩, .string ⟨#[]⟩, .string ⟨#[]⟩] 25) = w3 at *
    generalize hBB : w2.heap.size = B at *
    clear hBB
    refine hrp.mono ?_
    rintro e w4 ⟨rfl, hc34⟩
    have hA4 := blk_keep hA3 hc34 id
    have hB4 := blk_keep hB3 hc34 id
    have hcw4 := hcw3.trans hc34 (fun _ _ h => h)
    replace p1 := hc34.cell p1 id
    clear hrp hA3 hB3 hcw3 hc34
    rw [show (Value.tuple #[roleV ((parseR h).getD noRole), Value.bool (parseR h).isSome]) = .tuple #[roleV (roleOr h), .bool (parseR h).isSome] from rfl]
    have hrl := roleOr_len h
    generalize roleOr h = r0 at *
    generalize (parseR h).isSome = ok0 at *
    obtain ⟨ro, rx⟩ := r0
    dsimp only at hrl
    rw [show roleV (ro, rx) = .agg #[.string ⟨ro.toArray⟩, .string ⟨rx.toArray⟩] from rfl]
    obtain ⟨b0, b1, b2, b3, b4, b5, b6, b7, b8⟩ := cred_at_blk hB4
    simp only [Nat.zero_add, credBox, noCred, noneR] at b0 b1 b2 b3 b4 b5 b6 b7 b8
    have g1 := froz_blk hB4 1
    have g2 := froz_blk hB4 2
    have hc45 : Chg (· = B) w4 ((w4.setCell ⟨B, 1, none⟩ (.string ⟨ro.toArray⟩)).setCell ⟨B, 2, none⟩ (.string ⟨rx.toArray⟩)) := ((setCell_chg w4 B 1 (.string ⟨ro.toArray⟩)).trans (setCell_chg (w4.setCell ⟨B, 1, none⟩ (.string ⟨ro.toArray⟩)) B 2 (.string ⟨rx.toArray⟩)) (fun _ _ h => h))
    have hB5 : (((w4.setCell ⟨B, 1, none⟩ (.string ⟨ro.toArray⟩)).setCell ⟨B, 2, none⟩ (.string ⟨rx.toArray⟩))).heap[B]? = some (.cells (credBox ⟨0, (ro, rx), [], noneR, noneR, []⟩) 25 (0, 0)) := by
      have hset := (set_blk (set_blk hB4 1 (.string ⟨ro.toArray⟩)) 2 (.string ⟨rx.toArray⟩))
      simpa [credBox, noCred, noneR] using hset
    have hA5 := blk_keep hA4 hc45 (show ¬ A = B by omega)
    have hcw5 : Chg (fun _ => False) w ((w4.setCell ⟨B, 1, none⟩ (.string ⟨ro.toArray⟩)).setCell ⟨B, 2, none⟩ (.string ⟨rx.toArray⟩)) := hcw4.trans hc45 (fun i hi h => by have : i = B := h; omega)
    have p5 := hc45.cell p1 (show ¬ pb = B by omega)
    have hsp5 := split_ref body [32, 38, 32] ((w4.setCell ⟨B, 1, none⟩ (.string ⟨ro.toArray⟩)).setCell ⟨B, 2, none⟩ (.string ⟨rx.toArray⟩)) hlb (by decide) (by decide)
    have H5 := hid (And.intro hsp5 (And.intro hA5 (And.intro hB5 (And.intro hcw5 p5))))
    clear hsp5 hA5 hB5 hcw5 hc45 hA4 hB4 hcw4 p1
    go_wp2_with fail
    clear b0 b1 b2 b3 b4 b5 b6 b7 b8 g1 g2 p5
    obtain ⟨hsp5, hA5, hB5, hcw5, p5⟩ := H5.out
    clear H5
    generalize ((w4.setCell ⟨B, 1, none⟩ (.string ⟨ro.toArray⟩)).setCell ⟨B, 2, none⟩ (.string ⟨rx.toArray⟩)) = w5 at *
    refine hsp5.mono ?_
    rintro e w6 ⟨ao6, cap6, rfl, hst6, hc56⟩
    have hA6 := blk_keep hA5 hc56 id
    have hB6 := blk_keep hB5 hc56 id
    have hcw6 := hcw5.trans hc56 (fun _ _ h => h)
    have p6 := hc56.cell p5 id
    have hBl : B < w5.heap.size := lt_blk hB5
    replace hst6 := hst6.mono (D' := fun k => k ≠ A ∧ k ≠ B) (fun k h => ⟨by have := h.1; omega, by have := h.1; omega⟩)
    clear hsp5 hA5 hB5 hcw5 hc56 p5
    have hbl : ∀ x ∈ splitL [32, 38, 32] body, x.length ≤ 1048576 := fun x hx => Nat.le_trans (splitL_len hx) hlb
    generalize splitL [32, 38, 32] body = both at *
    have hsp6 := split_ref body [46] w6 hlb (by decide) (by decide)
    have H6 := hid (And.intro hsp6 (And.intro hst6 hbl))
    clear hsp6 hst6 hbl
    go_wp2_with fail
    obtain ⟨hsp6, hst6, hbl⟩ := H6.out
    clear H6
    refine hsp6.mono ?_
    rintro e w7 ⟨ao7, cap7, rfl, hst7, hc67⟩
    have hA7 := blk_keep hA6 hc67 id
    have hB7 := blk_keep hB6 hc67 id
    have hcw7 := hcw6.trans hc67 (fun _ _ h => h)
    have p7 := hc67.cell p6 id
    have hBl6 : B < w6.heap.size := lt_blk hB6
    replace hst7 := hst7.mono (D' := fun k => k ≠ A ∧ k ≠ B) (fun k h => ⟨by have := h.1; omega, by have := h.1; omega⟩)
    replace hst6 := hst6.keep hc67 (fun _ _ => id)
    clear hsp6 hA6 hB6 hcw6 hc67 p6 hBl hBl6
    have hdl : ∀ x ∈ splitL [46] body, x.length ≤ 1048576 := fun x hx => Nat.le_trans (splitL_len hx) hlb
    have hdp := splitL_pos [46] body
    generalize splitL [46] body = dots at *
    clear hlh
    by_cases lb : both.length = 2
    · obtain ⟨x, y, rfl⟩ := two_of lb
      have hp : Hid (parseC s = someIf ⟨4, (ro, rx), [], roleOr x, roleOr y, []⟩) := hid (by rw [hpc.out]; rfl)
      have hlx : x.length ≤ 1048576 := hbl x (by simp)
      have hly : y.length ≤ 1048576 := hbl y (by simp)
      obtain ⟨qb, qoff, rfl, hqD, x0, _⟩ := hst6 0 (by simp)
      obtain ⟨_, _, e1, _, y0, _⟩ := hst6 1 (by simp)
      cases e1
      simp only [Nat.add_zero, List.getElem_cons_zero, List.getElem_cons_succ] at x0 y0
      clear hpc lb hbl hst6 hst7 hdl hdp p7 hpD
      obtain ⟨b0, b1, b2, b3, b4, b5, b6, b7, b8⟩ := cred_at_blk hB7
      simp only [Nat.zero_add, credBox, noCred, noneR] at b0 b1 b2 b3 b4 b5 b6 b7 b8
      have g0 := froz_blk hB7 0
      have hc78 : Chg (· = B) w7 (w7.setCell ⟨B, 0, none⟩ (.int .i64 4)) := (setCell_chg w7 B 0 (.int .i64 4))
      have hB8 : ((w7.setCell ⟨B, 0, none⟩ (.int .i64 4))).heap[B]? = some (.cells (credBox ⟨4, (ro, rx), [], noneR, noneR, []⟩) 25 (0, 0)) := by
        have hset := (set_blk hB7 0 (.int .i64 4))
        simpa [credBox, noCred, noneR] using hset
      have hA8 := blk_keep hA7 hc78 (show ¬ A = B by omega)
      have hcw8 : Chg (fun _ => False) w (w7.setCell ⟨B, 0, none⟩ (.int .i64 4)) := hcw7.trans hc78 (fun i hi h => by have : i = B := h; omega)
      have x8 := hc78.cell x0 hqD.2
      have y8 := hc78.cell y0 hqD.2
      have hrp8 := rparse_ref x (w7.setCell ⟨B, 0, none⟩ (.int .i64 4)) (by omega)
      have H8 := hid (And.intro hrp8 (And.intro hA8 (And.intro hB8 (And.intro hcw8 y8))))
      clear hrp8 hA8 hB8 hcw8 hc78 hA7 hB7 hcw7 x0 y0 y8
      go_wp2_with fail
      clear b0 b1 b2 b3 b4 b5 b6 b7 b8 g0 x8
      obtain ⟨hrp8, hA8, hB8, hcw8, y8⟩ := H8.out
      clear H8
      generalize (w7.setCell ⟨B, 0, none⟩ (.int .i64 4)) = w8 at *
      refine hrp8.mono ?_
      rintro e w10 ⟨rfl, hc810⟩
      have hA10 := blk_keep hA8 hc810 id
      have hB10 := blk_keep hB8 hc810 id
      have hcw10 := hcw8.trans hc810 (fun _ _ h => h)
      have y10 := hc810.cell y8 id
      clear hrp8 hA8 hB8 hcw8 hc810 y8
      rw [show (Value.tuple #[roleV ((parseR x).getD noRole), Value.bool (parseR x).isSome]) = .tuple #[roleV (roleOr x), .bool (parseR x).isSome] from rfl]
      have hxl := roleOr_len x
      generalize roleOr x = r1 at *
      generalize (parseR x).isSome = ok1 at *
      obtain ⟨xo, xw⟩ := r1
      dsimp only at hxl
      rw [show roleV (xo, xw) = .agg #[.string ⟨xo.toArray⟩, .string ⟨xw.toArray⟩] from rfl]
      obtain ⟨b0, b1, b2, b3, b4, b5, b6, b7, b8⟩ := cred_at_blk hB10
      simp only [Nat.zero_add, credBox, noCred, noneR] at b0 b1 b2 b3 b4 b5 b6 b7 b8
      have g4 := froz_blk hB10 4
      have g5 := froz_blk hB10 5
      have hc1011 : Chg (· = B) w10 ((w10.setCell ⟨B, 4, none⟩ (.string ⟨xo.toArray⟩)).setCell ⟨B, 5, none⟩ (.string ⟨xw.toArray⟩)) := ((setCell_chg w10 B 4 (.string ⟨xo.toArray⟩)).trans (setCell_chg (w10.setCell ⟨B, 4, none⟩ (.string ⟨xo.toArray⟩)) B 5 (.string ⟨xw.toArray⟩)) (fun _ _ h => h))
      have hB11 : (((w10.setCell ⟨B, 4, none⟩ (.string ⟨xo.toArray⟩)).setCell ⟨B, 5, none⟩ (.string ⟨xw.toArray⟩))).heap[B]? = some (.cells (credBox ⟨4, (ro, rx), [], (xo, xw), noneR, []⟩) 25 (0, 0)) := by
        have hset := (set_blk (set_blk hB10 4 (.string ⟨xo.toArray⟩)) 5 (.string ⟨xw.toArray⟩))
        simpa [credBox, noCred, noneR] using hset
      have hA11 := blk_keep hA10 hc1011 (show ¬ A = B by omega)
      have hcw11 : Chg (fun _ => False) w ((w10.setCell ⟨B, 4, none⟩ (.string ⟨xo.toArray⟩)).setCell ⟨B, 5, none⟩ (.string ⟨xw.toArray⟩)) := hcw10.trans hc1011 (fun i hi h => by have : i = B := h; omega)
      have y11 := hc1011.cell y10 hqD.2
      have hrp11 := rparse_ref y ((w10.setCell ⟨B, 4, none⟩ (.string ⟨xo.toArray⟩)).setCell ⟨B, 5, none⟩ (.string ⟨xw.toArray⟩)) (by omega)
      have H11 := hid (And.intro hrp11 (And.intro hA11 (And.intro hB11 hcw11)))
      clear hrp11 hA11 hB11 hcw11 hc1011 hA10 hB10 hcw10 y10
      go_wp2_with fail
      clear b0 b1 b2 b3 b4 b5 b6 b7 b8 g4 g5 y11
      obtain ⟨hrp11, hA11, hB11, hcw11⟩ := H11.out
      clear H11
      generalize ((w10.setCell ⟨B, 4, none⟩ (.string ⟨xo.toArray⟩)).setCell ⟨B, 5, none⟩ (.string ⟨xw.toArray⟩)) = w11 at *
      refine hrp11.mono ?_
      rintro e w12 ⟨rfl, hc1112⟩
      have hA12 := blk_keep hA11 hc1112 id
      have hB12 := blk_keep hB11 hc1112 id
      have hcw12 := hcw11.trans hc1112 (fun _ _ h => h)
      clear hrp11 hA11 hB11 hcw11 hc1112
      rw [show (Value.tuple #[roleV ((parseR y).getD noRole), Value.bool (parseR y).isSome]) = .tuple #[roleV (roleOr y), .bool (parseR y).isSome] from rfl]
      have hyl := roleOr_len y
      generalize roleOr y = r2 at *
      generalize (parseR y).isSome = ok2 at *
      obtain ⟨yo, yw⟩ := r2
      dsimp only at hyl
      rw [show roleV (yo, yw) = .agg #[.string ⟨yo.toArray⟩, .string ⟨yw.toArray⟩] from rfl]
      obtain ⟨d0, d1, d2, d3, d4, d5, d6, d7, d8⟩ := cred_at_blk hB12
      simp only [Nat.zero_add, credBox, noCred, noneR] at d0 d1 d2 d3 d4 d5 d6 d7 d8
      have g6 := froz_blk hB12 6
      have g7 := froz_blk hB12 7
      have hc1213 : Chg (· = B) w12 ((w12.setCell ⟨B, 6, none⟩ (.string ⟨yo.toArray⟩)).setCell ⟨B, 7, none⟩ (.string ⟨yw.toArray⟩)) := ((setCell_chg w12 B 6 (.string ⟨yo.toArray⟩)).trans (setCell_chg (w12.setCell ⟨B, 6, none⟩ (.string ⟨yo.toArray⟩)) B 7 (.string ⟨yw.toArray⟩)) (fun _ _ h => h))
      have hB13 : (((w12.setCell ⟨B, 6, none⟩ (.string ⟨yo.toArray⟩)).setCell ⟨B, 7, none⟩ (.string ⟨yw.toArray⟩))).heap[B]? = some (.cells (credBox ⟨4, (ro, rx), [], (xo, xw), (yo, yw), []⟩) 25 (0, 0)) := by
        have hset := (set_blk (set_blk hB12 6 (.string ⟨yo.toArray⟩)) 7 (.string ⟨yw.toArray⟩))
        simpa [credBox, noCred, noneR] using hset
      have hA13 := blk_keep hA12 hc1213 (show ¬ A = B by omega)
      have hcw13 : Chg (fun _ => False) w ((w12.setCell ⟨B, 6, none⟩ (.string ⟨yo.toArray⟩)).setCell ⟨B, 7, none⟩ (.string ⟨yw.toArray⟩)) := hcw12.trans hc1213 (fun i hi h => by have : i = B := h; omega)
      clear hc1213 hA12 hB12 hcw12
      have hsh : credShort ⟨4, (ro, rx), [], (xo, xw), (yo, yw), []⟩ 9223372036854775807 := ⟨by show ro.length ≤ _; omega, by show rx.length ≤ _; omega, by simp, by show xo.length ≤ _; omega, by show xw.length ≤ _; omega, by show yo.length ≤ _; omega, by show yw.length ≤ _; omega, by simp⟩
      have hrt := cright_ref ⟨4, (ro, rx), [], (xo, xw), (yo, yw), []⟩ ((w12.setCell ⟨B, 6, none⟩ (.string ⟨yo.toArray⟩)).setCell ⟨B, 7, none⟩ (.string ⟨yw.toArray⟩)) hsh
      obtain ⟨b0, b1, b2, b3, b4, b5, b6, b7, b8⟩ := cred_at_blk hB13
      simp only [Nat.zero_add, credBox, noCred, noneR] at b0 b1 b2 b3 b4 b5 b6 b7 b8
      have HT := hid (And.intro hrt (And.intro hA13 (And.intro hB13 hcw13)))
      have HP : Hid (parseC s = if isCred ⟨4, (ro, rx), [], (xo, xw), (yo, yw), []⟩ then some ⟨4, (ro, rx), [], (xo, xw), (yo, yw), []⟩ else none) := hid (by rw [hp.out]; rfl)
      clear hrt hA13 hB13 hcw13 hsh
      go_wp2_with fail
      obtain ⟨hrt, hAt, hBt, hct⟩ := HT.out
      refine hrt.mono ?_
      rintro e w9 ⟨rfl, hc9⟩
      have hA9 := blk_keep hAt hc9 id
      have hB9 := blk_keep hBt hc9 id
      have hcw9 := hct.trans hc9 (fun _ _ h => h)
      clear HT hrt hAt hBt hct hc9 b0 b1 b2 b3 b4 b5 b6 b7 b8
      obtain ⟨b0, b1, b2, b3, b4, b5, b6, b7, b8⟩ := cred_at_blk hB9
      simp only [Nat.zero_add, credBox, noCred, noneR] at b0 b1 b2 b3 b4 b5 b6 b7 b8
      obtain ⟨q0, q1, q2, q3, q4, q5, q6, q7, q8⟩ := cred_at_blk hA9
      simp only [Nat.zero_add, credBox, noCred, noneR] at q0 q1 q2 q3 q4 q5 q6 q7 q8
      have f0 := froz_blk hA9 0
      have f1 := froz_blk hA9 1
      have f2 := froz_blk hA9 2
      have f3 := froz_blk hA9 3
      have f4 := froz_blk hA9 4
      have f5 := froz_blk hA9 5
      have f6 := froz_blk hA9 6
      have f7 := froz_blk hA9 7
      have f8 := froz_blk hA9 8
      cases hr : isCred ⟨4, (ro, rx), [], (xo, xw), (yo, yw), []⟩ with
      | true =>
        have hD := setCred_blk ⟨4, (ro, rx), [], (xo, xw), (yo, yw), []⟩ hA9
        have hch : Chg (fun _ => False) w (setCred w9 A ⟨4, (ro, rx), [], (xo, xw), (yo, yw), []⟩) := hcw9.trans (setCred_chg w9 A ⟨4, (ro, rx), [], (xo, xw), (yo, yw), []⟩) (fun i hi h => by omega)
        have HH := hid (And.intro hD hch)
        rw [hr, if_pos rfl] at HP
        clear hD hch hA9 hB9 hcw9
        go_wp2
        refine bodyPost_ret (results_cred rfl _ _ A ⟨4, (ro, rx), [], (xo, xw), (yo, yw), []⟩ rfl HH.out.1) rfl ?_
        exact ⟨by rw [HP.out]; rfl, HH.out.2⟩
      | false =>
        have hD := setCred_blk noCred hA9
        have hch : Chg (fun _ => False) w (setCred w9 A noCred) := hcw9.trans (setCred_chg w9 A noCred) (fun i hi h => by omega)
        have HH := hid (And.intro hD hch)
        rw [hr, if_neg (by decide)] at HP
        clear hD hch hA9 hB9 hcw9
        go_wp2
        refine bodyPost_ret (results_cred rfl _ _ A noCred rfl HH.out.1) rfl ?_
        exact ⟨by rw [HP.out]; rfl, HH.out.2⟩
    · have zb : ((both.length : Int) == 2) = false := beq_eq_false_iff_ne.2 (by omega)
      by_cases m1 : 2 < both.length
      · have zm : decide ((both.length : Int) > 2) = true := decide_eq_true (by omega)
        clear hst6 hst7 hbl hdl p7 hB7
        have HP : Hid (parseC s = none) := hid (by rw [hpc.out, parseBody_many lb (.inl m1)])
        obtain ⟨q0, q1, q2, q3, q4, q5, q6, q7, q8⟩ := cred_at_blk hA7
        simp only [Nat.zero_add, credBox, noCred, noneR] at q0 q1 q2 q3 q4 q5 q6 q7 q8
        have f0 := froz_blk hA7 0
        have f1 := froz_blk hA7 1
        have f2 := froz_blk hA7 2
        have f3 := froz_blk hA7 3
        have f4 := froz_blk hA7 4
        have f5 := froz_blk hA7 5
        have f6 := froz_blk hA7 6
        have f7 := froz_blk hA7 7
        have f8 := froz_blk hA7 8
        have hD := setCred_blk noCred hA7
        have hch : Chg (fun _ => False) w (setCred w7 A noCred) := hcw7.trans (setCred_chg w7 A noCred) (fun i hi h => by omega)
        have HH := hid (And.intro hD hch)
        clear hD hch hA7 hcw7
        go_wp2
        refine bodyPost_ret (results_cred rfl _ _ A noCred rfl HH.out.1) rfl ?_
        exact ⟨by rw [HP.out]; rfl, HH.out.2⟩
      · have zm : ¬ (2 < (both.length : Int)) := by omega
        by_cases m2 : 3 < dots.length
        · clear hst6 hst7 hbl hdl p7 hB7
          have HP : Hid (parseC s = none) := hid (by rw [hpc.out, parseBody_many lb (.inr m2)])
          obtain ⟨q0, q1, q2, q3, q4, q5, q6, q7, q8⟩ := cred_at_blk hA7
          simp only [Nat.zero_add, credBox, noCred, noneR] at q0 q1 q2 q3 q4 q5 q6 q7 q8
          have f0 := froz_blk hA7 0
          have f1 := froz_blk hA7 1
          have f2 := froz_blk hA7 2
          have f3 := froz_blk hA7 3
          have f4 := froz_blk hA7 4
          have f5 := froz_blk hA7 5
          have f6 := froz_blk hA7 6
          have f7 := froz_blk hA7 7
          have f8 := froz_blk hA7 8
          have hD := setCred_blk noCred hA7
          have hch : Chg (fun _ => False) w (setCred w7 A noCred) := hcw7.trans (setCred_chg w7 A noCred) (fun i hi h => by omega)
          have HH := hid (And.intro hD hch)
          clear hD hch hA7 hcw7
          go_wp2
          refine bodyPost_ret (results_cred rfl _ _ A noCred rfl HH.out.1) rfl ?_
          exact ⟨by rw [HP.out]; rfl, HH.out.2⟩
        · by_cases d1 : dots.length = 1
          · obtain ⟨z, rfl⟩ := one_of d1
            have hp : Hid (parseC s = someIf ⟨1, (ro, rx), body, noneR, noneR, []⟩) := hid (by rw [hpc.out, parseBody_few lb (fun h => h.elim m1 m2)]; rfl)
            clear hpc hbl hst6 hst7 hdl hdp m2
            obtain ⟨d0, d1, d2, d3, d4, d5, d6, d7, d8⟩ := cred_at_blk hB7
            simp only [Nat.zero_add, credBox, noCred, noneR] at d0 d1 d2 d3 d4 d5 d6 d7 d8
            have g0 := froz_blk hB7 0
            have g3 := froz_blk hB7 3
            have hc78 : Chg (· = B) w7 (w7.setCell ⟨B, 0, none⟩ (.int .i64 1)) := (setCell_chg w7 B 0 (.int .i64 1))
            have hc79 : Chg (· = B) w7 ((w7.setCell ⟨B, 0, none⟩ (.int .i64 1)).setCell ⟨B, 3, none⟩ (.string ⟨body.toArray⟩)) := ((setCell_chg w7 B 0 (.int .i64 1)).trans (setCell_chg (w7.setCell ⟨B, 0, none⟩ (.int .i64 1)) B 3 (.string ⟨body.toArray⟩)) (fun _ _ h => h))
            have hB8 : (((w7.setCell ⟨B, 0, none⟩ (.int .i64 1)).setCell ⟨B, 3, none⟩ (.string ⟨body.toArray⟩))).heap[B]? = some (.cells (credBox ⟨1, (ro, rx), body, noneR, noneR, []⟩) 25 (0, 0)) := by
              have hset := (set_blk (set_blk hB7 0 (.int .i64 1)) 3 (.string ⟨body.toArray⟩))
              simpa [credBox, noCred, noneR] using hset
            have hA8 := blk_keep hA7 hc79 (show ¬ A = B by omega)
            have hcw8 : Chg (fun _ => False) w ((w7.setCell ⟨B, 0, none⟩ (.int .i64 1)).setCell ⟨B, 3, none⟩ (.string ⟨body.toArray⟩)) := hcw7.trans hc79 (fun i hi h => by have : i = B := h; omega)
            have p8 := hc78.cell p7 (show ¬ pb = B by omega)
            clear hc78 hc79 hA7 hB7 hcw7
            have hsh : credShort ⟨1, (ro, rx), body, noneR, noneR, []⟩ 9223372036854775807 := ⟨by show ro.length ≤ _; omega, by show rx.length ≤ _; omega, by show body.length ≤ _; omega, by simp [noneR], by simp [noneR], by simp [noneR], by simp [noneR], by simp⟩
            have hrt := cright_ref ⟨1, (ro, rx), body, noneR, noneR, []⟩ ((w7.setCell ⟨B, 0, none⟩ (.int .i64 1)).setCell ⟨B, 3, none⟩ (.string ⟨body.toArray⟩)) hsh
            obtain ⟨b0, b1, b2, b3, b4, b5, b6, b7, b8⟩ := cred_at_blk hB8
            simp only [Nat.zero_add, credBox, noCred, noneR] at b0 b1 b2 b3 b4 b5 b6 b7 b8
            have HT := hid (And.intro hrt (And.intro hA8 (And.intro hB8 hcw8)))
            have HP : Hid (parseC s = if isCred ⟨1, (ro, rx), body, noneR, noneR, []⟩ then some ⟨1, (ro, rx), body, noneR, noneR, []⟩ else none) := hid (by rw [hp.out]; rfl)
            clear hrt hA8 hB8 hcw8 hsh
            go_wp2_with fail
            obtain ⟨hrt, hAt, hBt, hct⟩ := HT.out
            refine hrt.mono ?_
            rintro e w9 ⟨rfl, hc9⟩
            have hA9 := blk_keep hAt hc9 id
            have hB9 := blk_keep hBt hc9 id
            have hcw9 := hct.trans hc9 (fun _ _ h => h)
            clear HT hrt hAt hBt hct hc9 b0 b1 b2 b3 b4 b5 b6 b7 b8
            obtain ⟨b0, b1, b2, b3, b4, b5, b6, b7, b8⟩ := cred_at_blk hB9
            simp only [Nat.zero_add, credBox, noCred, noneR] at b0 b1 b2 b3 b4 b5 b6 b7 b8
            obtain ⟨q0, q1, q2, q3, q4, q5, q6, q7, q8⟩ := cred_at_blk hA9
            simp only [Nat.zero_add, credBox, noCred, noneR] at q0 q1 q2 q3 q4 q5 q6 q7 q8
            have f0 := froz_blk hA9 0
            have f1 := froz_blk hA9 1
            have f2 := froz_blk hA9 2
            have f3 := froz_blk hA9 3
            have f4 := froz_blk hA9 4
            have f5 := froz_blk hA9 5
            have f6 := froz_blk hA9 6
            have f7 := froz_blk hA9 7
            have f8 := froz_blk hA9 8
            cases hr : isCred ⟨1, (ro, rx), body, noneR, noneR, []⟩ with
            | true =>
              have hD := setCred_blk ⟨1, (ro, rx), body, noneR, noneR, []⟩ hA9
              have hch : Chg (fun _ => False) w (setCred w9 A ⟨1, (ro, rx), body, noneR, noneR, []⟩) := hcw9.trans (setCred_chg w9 A ⟨1, (ro, rx), body, noneR, noneR, []⟩) (fun i hi h => by omega)
              have HH := hid (And.intro hD hch)
              rw [hr, if_pos rfl] at HP
              clear hD hch hA9 hB9 hcw9
              go_wp2
              refine bodyPost_ret (results_cred rfl _ _ A ⟨1, (ro, rx), body, noneR, noneR, []⟩ rfl HH.out.1) rfl ?_
              exact ⟨by rw [HP.out]; rfl, HH.out.2⟩
            | false =>
              have hD := setCred_blk noCred hA9
              have hch : Chg (fun _ => False) w (setCred w9 A noCred) := hcw9.trans (setCred_chg w9 A noCred) (fun i hi h => by omega)
              have HH := hid (And.intro hD hch)
              rw [hr, if_neg (by decide)] at HP
              clear hD hch hA9 hB9 hcw9
              go_wp2
              refine bodyPost_ret (results_cred rfl _ _ A noCred rfl HH.out.1) rfl ?_
              exact ⟨by rw [HP.out]; rfl, HH.out.2⟩
          · by_cases d2 : dots.length = 2
            · obtain ⟨x, y, rfl⟩ := two_of d2
              clear d1 d2
              have hp : Hid (parseC s = someIf ⟨2, (ro, rx), [], (x, y), noneR, []⟩) := hid (by rw [hpc.out, parseBody_few lb (fun h => h.elim m1 m2)]; rfl)
              have hlx : x.length ≤ 1048576 := hdl x (by simp)
              have hly : y.length ≤ 1048576 := hdl y (by simp)
              obtain ⟨qb, qoff, rfl, hqD, x0, _⟩ := hst7 0 (by simp)
              obtain ⟨_, _, e1, _, y0, _⟩ := hst7 1 (by simp)
              cases e1
              simp only [Nat.add_zero, List.getElem_cons_zero, List.getElem_cons_succ] at x0 y0
              clear hpc hbl hst6 hst7 hdl hdp m2 p7 hpD
              obtain ⟨d0, d1, d2, d3, d4, d5, d6, d7, d8⟩ := cred_at_blk hB7
              simp only [Nat.zero_add, credBox, noCred, noneR] at d0 d1 d2 d3 d4 d5 d6 d7 d8
              have g0 := froz_blk hB7 0
              have hc78 : Chg (· = B) w7 (w7.setCell ⟨B, 0, none⟩ (.int .i64 2)) := (setCell_chg w7 B 0 (.int .i64 2))
              have hB8 : ((w7.setCell ⟨B, 0, none⟩ (.int .i64 2))).heap[B]? = some (.cells (credBox ⟨2, (ro, rx), [], noneR, noneR, []⟩) 25 (0, 0)) := by
                have hset := (set_blk hB7 0 (.int .i64 2))
                simpa [credBox, noCred, noneR] using hset
              have hA8 := blk_keep hA7 hc78 (show ¬ A = B by omega)
              have hcw8 : Chg (fun _ => False) w (w7.setCell ⟨B, 0, none⟩ (.int .i64 2)) := hcw7.trans hc78 (fun i hi h => by have : i = B := h; omega)
              have x8 := hc78.cell x0 hqD.2
              have y8 := hc78.cell y0 hqD.2
              have H8 := hid (And.intro hA8 (And.intro hB8 (And.intro hcw8 (And.intro x8 y8))))
              clear hA8 hB8 hcw8 hc78 hA7 hB7 hcw7 x0 y0 x8 y8
              go_wp2_with fail
              clear d0 d1 d2 d3 d4 d5 d6 d7 d8 g0
              obtain ⟨hA8, hB8, hcw8, x8, y8⟩ := H8.out
              clear H8
              generalize (w7.setCell ⟨B, 0, none⟩ (.int .i64 2)) = w8 at *
              obtain ⟨d0, d1, d2, d3, d4, d5, d6, d7, d8⟩ := cred_at_blk hB8
              simp only [Nat.zero_add, credBox, noCred, noneR] at d0 d1 d2 d3 d4 d5 d6 d7 d8
              have g4 := froz_blk hB8 4
              have g5 := froz_blk hB8 5
              have x8' : ({ heap := w8.heap, tape := w8.tape, drawn := w8.drawn + 1, os := w8.os, output := w8.output } : World).cell? ⟨qb, qoff, none⟩ = some (.string ⟨x.toArray⟩) := x8
              have y8' : ({ heap := w8.heap, tape := w8.tape, drawn := w8.drawn + 1, os := w8.os, output := w8.output } : World).cell? ⟨qb, qoff + 1, none⟩ = some (.string ⟨y.toArray⟩) := y8
              have hc811 : Chg (· = B) w8 ((w8.setCell ⟨B, 4, none⟩ (.string ⟨x.toArray⟩)).setCell ⟨B, 5, none⟩ (.string ⟨y.toArray⟩)) := ((setCell_chg w8 B 4 (.string ⟨x.toArray⟩)).trans (setCell_chg (w8.setCell ⟨B, 4, none⟩ (.string ⟨x.toArray⟩)) B 5 (.string ⟨y.toArray⟩)) (fun _ _ h => h))
              have hB11 : (((w8.setCell ⟨B, 4, none⟩ (.string ⟨x.toArray⟩)).setCell ⟨B, 5, none⟩ (.string ⟨y.toArray⟩))).heap[B]? = some (.cells (credBox ⟨2, (ro, rx), [], (x, y), noneR, []⟩) 25 (0, 0)) := by
                have hset := (set_blk (set_blk hB8 4 (.string ⟨x.toArray⟩)) 5 (.string ⟨y.toArray⟩))
                simpa [credBox, noCred, noneR] using hset
              have hA11 : ((w8.setCell ⟨B, 4, none⟩ (.string ⟨x.toArray⟩)).setCell ⟨B, 5, none⟩ (.string ⟨y.toArray⟩)).drew.heap[A]? = some (.cells (credBox noCred) 25 (0, 0)) := by
                have hk := blk_keep hA8 hc811 (show ¬ A = B by omega)
                exact hk
              have hcw11 : Chg (fun _ => False) w ((w8.setCell ⟨B, 4, none⟩ (.string ⟨x.toArray⟩)).setCell ⟨B, 5, none⟩ (.string ⟨y.toArray⟩)).drew := (hcw8.trans hc811 (fun i hi h => by have : i = B := h; omega)).drew
              have hB11' : ((w8.setCell ⟨B, 4, none⟩ (.string ⟨x.toArray⟩)).setCell ⟨B, 5, none⟩ (.string ⟨y.toArray⟩)).drew.heap[B]? = some (.cells (credBox ⟨2, (ro, rx), [], (x, y), noneR, []⟩) 25 (0, 0)) := hB11
              clear hB11 hc811 hA8 hB8 hcw8
              go_still_tail 8, (by kernel_rfl)
              change wpList _ _ _ _ _ w8.drew
              clear x8' y8'
              have hsh : credShort ⟨2, (ro, rx), [], (x, y), noneR, []⟩ 9223372036854775807 := ⟨by show ro.length ≤ _; omega, by show rx.length ≤ _; omega, by simp, by show x.length ≤ _; omega, by show y.length ≤ _; omega, by simp [noneR], by simp [noneR], by simp⟩
              have hrt := cright_ref ⟨2, (ro, rx), [], (x, y), noneR, []⟩ ((w8.setCell ⟨B, 4, none⟩ (.string ⟨x.toArray⟩)).setCell ⟨B, 5, none⟩ (.string ⟨y.toArray⟩)).drew hsh
              obtain ⟨b0, b1, b2, b3, b4, b5, b6, b7, b8⟩ := cred_at_blk hB11'
              simp only [Nat.zero_add, credBox, noCred, noneR] at b0 b1 b2 b3 b4 b5 b6 b7 b8
              have HT := hid (And.intro hrt (And.intro hA11 (And.intro hB11' hcw11)))
              have HP : Hid (parseC s = if isCred ⟨2, (ro, rx), [], (x, y), noneR, []⟩ then some ⟨2, (ro, rx), [], (x, y), noneR, []⟩ else none) := hid (by rw [hp.out]; rfl)
              clear hrt hA11 hB11' hcw11 hsh
              go_wp2_with fail
              obtain ⟨hrt, hAt, hBt, hct⟩ := HT.out
              refine hrt.mono ?_
              rintro e w9 ⟨rfl, hc9⟩
              have hA9 := blk_keep hAt hc9 id
              have hB9 := blk_keep hBt hc9 id
              have hcw9 := hct.trans hc9 (fun _ _ h => h)
              clear HT hrt hAt hBt hct hc9 b0 b1 b2 b3 b4 b5 b6 b7 b8
              obtain ⟨b0, b1, b2, b3, b4, b5, b6, b7, b8⟩ := cred_at_blk hB9
              simp only [Nat.zero_add, credBox, noCred, noneR] at b0 b1 b2 b3 b4 b5 b6 b7 b8
              obtain ⟨q0, q1, q2, q3, q4, q5, q6, q7, q8⟩ := cred_at_blk hA9
              simp only [Nat.zero_add, credBox, noCred, noneR] at q0 q1 q2 q3 q4 q5 q6 q7 q8
              have f0 := froz_blk hA9 0
              have f1 := froz_blk hA9 1
              have f2 := froz_blk hA9 2
              have f3 := froz_blk hA9 3
              have f4 := froz_blk hA9 4
              have f5 := froz_blk hA9 5
              have f6 := froz_blk hA9 6
              have f7 := froz_blk hA9 7
              have f8 := froz_blk hA9 8
              cases hr : isCred ⟨2, (ro, rx), [], (x, y), noneR, []⟩ with
              | true =>
                have hD := setCred_blk ⟨2, (ro, rx), [], (x, y), noneR, []⟩ hA9
                have hch : Chg (fun _ => False) w (setCred w9 A ⟨2, (ro, rx), [], (x, y), noneR, []⟩) := hcw9.trans (setCred_chg w9 A ⟨2, (ro, rx), [], (x, y), noneR, []⟩) (fun i hi h => by omega)
                have HH := hid (And.intro hD hch)
                rw [hr, if_pos rfl] at HP
                clear hD hch hA9 hB9 hcw9
                go_wp2
                refine bodyPost_ret (results_cred rfl _ _ A ⟨2, (ro, rx), [], (x, y), noneR, []⟩ rfl HH.out.1) rfl ?_
                exact ⟨by rw [HP.out]; rfl, HH.out.2⟩
              | false =>
                have hD := setCred_blk noCred hA9
                have hch : Chg (fun _ => False) w (setCred w9 A noCred) := hcw9.trans (setCred_chg w9 A noCred) (fun i hi h => by omega)
                have HH := hid (And.intro hD hch)
                rw [hr, if_neg (by decide)] at HP
                clear hD hch hA9 hB9 hcw9
                go_wp2
                refine bodyPost_ret (results_cred rfl _ _ A noCred rfl HH.out.1) rfl ?_
                exact ⟨by rw [HP.out]; rfl, HH.out.2⟩
            · obtain ⟨x, y, z, rfl⟩ := three_of (show dots.length = 3 by omega)
              clear d1 d2
              have hp : Hid (parseC s = someIf ⟨3, (ro, rx), [], (x, y), noneR, z⟩) := hid (by rw [hpc.out, parseBody_few lb (fun h => h.elim m1 m2)]; rfl)
              have hlx : x.length ≤ 1048576 := hdl x (by simp)
              have hly : y.length ≤ 1048576 := hdl y (by simp)
              have hlz : z.length ≤ 1048576 := hdl z (by simp)
              obtain ⟨qb, qoff, rfl, hqD, x0, _⟩ := hst7 0 (by simp)
              obtain ⟨_, _, e1, _, y0, _⟩ := hst7 1 (by simp)
              cases e1
              obtain ⟨_, _, e1, _, z0, _⟩ := hst7 2 (by simp)
              cases e1
              simp only [Nat.add_zero, List.getElem_cons_zero, List.getElem_cons_succ] at x0 y0 z0
              clear hpc hbl hst6 hst7 hdl hdp m2 p7 hpD
              obtain ⟨d0, d1, d2, d3, d4, d5, d6, d7, d8⟩ := cred_at_blk hB7
              simp only [Nat.zero_add, credBox, noCred, noneR] at d0 d1 d2 d3 d4 d5 d6 d7 d8
              have g0 := froz_blk hB7 0
              have hc78 : Chg (· = B) w7 (w7.setCell ⟨B, 0, none⟩ (.int .i64 3)) := (setCell_chg w7 B 0 (.int .i64 3))
              have hB8 : ((w7.setCell ⟨B, 0, none⟩ (.int .i64 3))).heap[B]? = some (.cells (credBox ⟨3, (ro, rx), [], noneR, noneR, []⟩) 25 (0, 0)) := by
                have hset := (set_blk hB7 0 (.int .i64 3))
                simpa [credBox, noCred, noneR] using hset
              have hA8 := blk_keep hA7 hc78 (show ¬ A = B by omega)
              have hcw8 : Chg (fun _ => False) w (w7.setCell ⟨B, 0, none⟩ (.int .i64 3)) := hcw7.trans hc78 (fun i hi h => by have : i = B := h; omega)
              have x8 := hc78.cell x0 hqD.2
              have y8 := hc78.cell y0 hqD.2
              have z8 := hc78.cell z0 hqD.2
              have H8 := hid (And.intro hA8 (And.intro hB8 (And.intro hcw8 (And.intro x8 (And.intro y8 z8)))))
              clear hA8 hB8 hcw8 hc78 hA7 hB7 hcw7 x0 y0 x8 y8 z0 z8
              go_wp2_with fail
              clear d0 d1 d2 d3 d4 d5 d6 d7 d8 g0
              obtain ⟨hA8, hB8, hcw8, x8, y8, z8⟩ := H8.out
              clear H8
              generalize (w7.setCell ⟨B, 0, none⟩ (.int .i64 3)) = w8 at *
              obtain ⟨d0, d1, d2, d3, d4, d5, d6, d7, d8⟩ := cred_at_blk hB8
              simp only [Nat.zero_add, credBox, noCred, noneR] at d0 d1 d2 d3 d4 d5 d6 d7 d8
              have g4 := froz_blk hB8 4
              have g5 := froz_blk hB8 5
              have x8' : ({ heap := w8.heap, tape := w8.tape, drawn := w8.drawn + 1, os := w8.os, output := w8.output } : World).cell? ⟨qb, qoff, none⟩ = some (.string ⟨x.toArray⟩) := x8
              have y8' : ({ heap := w8.heap, tape := w8.tape, drawn := w8.drawn + 1, os := w8.os, output := w8.output } : World).cell? ⟨qb, qoff + 1, none⟩ = some (.string ⟨y.toArray⟩) := y8
              have hc811 : Chg (· = B) w8 (((w8.setCell ⟨B, 4, none⟩ (.string ⟨x.toArray⟩)).setCell ⟨B, 5, none⟩ (.string ⟨y.toArray⟩)).setCell ⟨B, 8, none⟩ (.string ⟨z.toArray⟩)) := (((setCell_chg w8 B 4 (.string ⟨x.toArray⟩)).trans (setCell_chg (w8.setCell ⟨B, 4, none⟩ (.string ⟨x.toArray⟩)) B 5 (.string ⟨y.toArray⟩)) (fun _ _ h => h)).trans (setCell_chg ((w8.setCell ⟨B, 4, none⟩ (.string ⟨x.toArray⟩)).setCell ⟨B, 5, none⟩ (.string ⟨y.toArray⟩)) B 8 (.string ⟨z.toArray⟩)) (fun _ _ h => h))
              have hB11 : ((((w8.setCell ⟨B, 4, none⟩ (.string ⟨x.toArray⟩)).setCell ⟨B, 5, none⟩ (.string ⟨y.toArray⟩)).setCell ⟨B, 8, none⟩ (.string ⟨z.toArray⟩))).heap[B]? = some (.cells (credBox ⟨3, (ro, rx), [], (x, y), noneR, z⟩) 25 (0, 0)) := by
                have hset := (set_blk (set_blk (set_blk hB8 4 (.string ⟨x.toArray⟩)) 5 (.string ⟨y.toArray⟩)) 8 (.string ⟨z.toArray⟩))
                simpa [credBox, noCred, noneR] using hset
              have hA11 : (((w8.setCell ⟨B, 4, none⟩ (.string ⟨x.toArray⟩)).setCell ⟨B, 5, none⟩ (.string ⟨y.toArray⟩)).setCell ⟨B, 8, none⟩ (.string ⟨z.toArray⟩)).drew.heap[A]? = some (.cells (credBox noCred) 25 (0, 0)) := by
                have hk := blk_keep hA8 hc811 (show ¬ A = B by omega)
                exact hk
              have hcw11 : Chg (fun _ => False) w (((w8.setCell ⟨B, 4, none⟩ (.string ⟨x.toArray⟩)).setCell ⟨B, 5, none⟩ (.string ⟨y.toArray⟩)).setCell ⟨B, 8, none⟩ (.string ⟨z.toArray⟩)).drew := (hcw8.trans hc811 (fun i hi h => by have : i = B := h; omega)).drew
              have hB11' : (((w8.setCell ⟨B, 4, none⟩ (.string ⟨x.toArray⟩)).setCell ⟨B, 5, none⟩ (.string ⟨y.toArray⟩)).setCell ⟨B, 8, none⟩ (.string ⟨z.toArray⟩)).drew.heap[B]? = some (.cells (credBox ⟨3, (ro, rx), [], (x, y), noneR, z⟩) 25 (0, 0)) := hB11
              have hc811a : Chg (· = B) w8 ((w8.setCell ⟨B, 4, none⟩ (.string ⟨x.toArray⟩)).setCell ⟨B, 5, none⟩ (.string ⟨y.toArray⟩)) := ((setCell_chg w8 B 4 (.string ⟨x.toArray⟩)).trans (setCell_chg (w8.setCell ⟨B, 4, none⟩ (.string ⟨x.toArray⟩)) B 5 (.string ⟨y.toArray⟩)) (fun _ _ h => h))
              have z11 : ((w8.setCell ⟨B, 4, none⟩ (.string ⟨x.toArray⟩)).setCell ⟨B, 5, none⟩ (.string ⟨y.toArray⟩)).drew.cell? ⟨qb, qoff + 2, none⟩ = some (.string ⟨z.toArray⟩) := hc811a.cell z8 hqD.2
              have g8 := froz_blk hB8 8
              have e8 : ((w8.setCell ⟨B, 4, none⟩ (.string ⟨x.toArray⟩)).setCell ⟨B, 5, none⟩ (.string ⟨y.toArray⟩)).drew.cell? ⟨B, 8, none⟩ = some (.string ⟨#[]⟩) := cell_blk (set_blk (set_blk hB8 4 (.string ⟨x.toArray⟩)) 5 (.string ⟨y.toArray⟩)) 8
              have h8 : ((w8.setCell ⟨B, 4, none⟩ (.string ⟨x.toArray⟩)).setCell ⟨B, 5, none⟩ (.string ⟨y.toArray⟩)).drew.frozen? ⟨B, 8, none⟩ = false := froz_blk (set_blk (set_blk hB8 4 (.string ⟨x.toArray⟩)) 5 (.string ⟨y.toArray⟩)) 8
              clear hc811a z8
              clear hB11 hc811 hA8 hB8 hcw8
              go_still_tail 8, (by kernel_rfl)
              change wpList _ _ _ _ _ w8.drew
              clear x8' y8'
              have hsh : credShort ⟨3, (ro, rx), [], (x, y), noneR, z⟩ 9223372036854775807 := ⟨by show ro.length ≤ _; omega, by show rx.length ≤ _; omega, by simp, by show x.length ≤ _; omega, by show y.length ≤ _; omega, by simp [noneR], by simp [noneR], by show z.length ≤ _; omega⟩
              have hrt := cright_ref ⟨3, (ro, rx), [], (x, y), noneR, z⟩ (((w8.setCell ⟨B, 4, none⟩ (.string ⟨x.toArray⟩)).setCell ⟨B, 5, none⟩ (.string ⟨y.toArray⟩)).setCell ⟨B, 8, none⟩ (.string ⟨z.toArray⟩)).drew hsh
              obtain ⟨b0, b1, b2, b3, b4, b5, b6, b7, b8⟩ := cred_at_blk hB11'
              simp only [Nat.zero_add, credBox, noCred, noneR] at b0 b1 b2 b3 b4 b5 b6 b7 b8
              have HT := hid (And.intro hrt (And.intro hA11 (And.intro hB11' hcw11)))
              have HP : Hid (parseC s = if isCred ⟨3, (ro, rx), [], (x, y), noneR, z⟩ then some ⟨3, (ro, rx), [], (x, y), noneR, z⟩ else none) := hid (by rw [hp.out]; rfl)
              clear hrt hA11 hB11' hcw11 hsh
              go_wp2_with fail
              obtain ⟨hrt, hAt, hBt, hct⟩ := HT.out
              refine hrt.mono ?_
              rintro e w9 ⟨rfl, hc9⟩
              have hA9 := blk_keep hAt hc9 id
              have hB9 := blk_keep hBt hc9 id
              have hcw9 := hct.trans hc9 (fun _ _ h => h)
              clear HT hrt hAt hBt hct hc9 b0 b1 b2 b3 b4 b5 b6 b7 b8
              obtain ⟨b0, b1, b2, b3, b4, b5, b6, b7, b8⟩ := cred_at_blk hB9
              simp only [Nat.zero_add, credBox, noCred, noneR] at b0 b1 b2 b3 b4 b5 b6 b7 b8
              obtain ⟨q0, q1, q2, q3, q4, q5, q6, q7, q8⟩ := cred_at_blk hA9
              simp only [Nat.zero_add, credBox, noCred, noneR] at q0 q1 q2 q3 q4 q5 q6 q7 q8
              have f0 := froz_blk hA9 0
              have f1 := froz_blk hA9 1
              have f2 := froz_blk hA9 2
              have f3 := froz_blk hA9 3
              have f4 := froz_blk hA9 4
              have f5 := froz_blk hA9 5
              have f6 := froz_blk hA9 6
              have f7 := froz_blk hA9 7
              have f8 := froz_blk hA9 8
              cases hr : isCred ⟨3, (ro, rx), [], (x, y), noneR, z⟩ with
              | true =>
                have hD := setCred_blk ⟨3, (ro, rx), [], (x, y), noneR, z⟩ hA9
                have hch : Chg (fun _ => False) w (setCred w9 A ⟨3, (ro, rx), [], (x, y), noneR, z⟩) := hcw9.trans (setCred_chg w9 A ⟨3, (ro, rx), [], (x, y), noneR, z⟩) (fun i hi h => by omega)
                have HH := hid (And.intro hD hch)
                rw [hr, if_pos rfl] at HP
                clear hD hch hA9 hB9 hcw9
                go_wp2
                refine bodyPost_ret (results_cred rfl _ _ A ⟨3, (ro, rx), [], (x, y), noneR, z⟩ rfl HH.out.1) rfl ?_
                exact ⟨by rw [HP.out]; rfl, HH.out.2⟩
              | false =>
                have hD := setCred_blk noCred hA9
                have hch : Chg (fun _ => False) w (setCred w9 A noCred) := hcw9.trans (setCred_chg w9 A noCred) (fun i hi h => by omega)
                have HH := hid (And.intro hD hch)
                rw [hr, if_neg (by decide)] at HP
                clear hD hch hA9 hB9 hcw9
                go_wp2
                refine bodyPost_ret (results_cred rfl _ _ A noCred rfl HH.out.1) rfl ?_
                exact ⟨by rw [HP.out]; rfl, HH.out.2⟩
  · have zl : ((P.length : Int) != 2) = true := by simp; omega
    have HP : Hid (parseC s = none) := hid (hPN.out hlen)
    obtain ⟨q0, q1, q2, q3, q4, q5, q6, q7, q8⟩ := cred_at_blk hA2
    simp only [Nat.zero_add, credBox, noCred, noneR] at q0 q1 q2 q3 q4 q5 q6 q7 q8
    have f0 := froz_blk hA2 0
    have f1 := froz_blk hA2 1
    have f2 := froz_blk hA2 2
    have f3 := froz_blk hA2 3
    have f4 := froz_blk hA2 4
    have f5 := froz_blk hA2 5
    have f6 := froz_blk hA2 6
    have f7 := froz_blk hA2 7
    have f8 := froz_blk hA2 8
    have hD := setCred_blk noCred hA2
    have hch : Chg (fun _ => False) w (setCred w2 A noCred) := hc2.trans (setCred_chg w2 A noCred) (fun i hi h => by omega)
    have HH := hid (And.intro hD hch)
    clear hD hch hA2 hc2
    go_wp2
    refine bodyPost_ret (results_cred rfl _ _ A noCred rfl HH.out.1) rfl ?_
    exact ⟨by rw [HP.out]; rfl, HH.out.2⟩
end Go.Proofs.Ytjohiggfjpfbeaa

/- The contract of the document's Text of layer 5. -/
namespace Go.Proofs.Ytjohiggfjpfbeaa
open Go.RowKit

theorem rtext_ref (r : RoleB) (w : World) (h1 : r.1.length ≤ 1048576) (h2 : r.2.length ≤ 1048576) :
    Calls Try.prog 37 #[roleV r] w fun e w' => e = .returned (.string ⟨(roleText r).toArray⟩) ∧ Chg (fun _ => False) w w' := by
  obtain ⟨o, x⟩ := r
  dsimp only at h1 h2
  have hc : Chg (fun _ => False) w (w.alloc (.cells #[.string ⟨o.toArray⟩, .string ⟨x.toArray⟩] 23)) := (Chg.refl _ w).alloc _
  have HC := hid hc
  clear hc
  show Calls Try.prog 37 #[.agg #[.string ⟨o.toArray⟩, .string ⟨x.toArray⟩]] w _
  have hb1 : ¬ 9223372036854775807 < o.length + 1 := by omega
  have hb2 : ¬ 9223372036854775807 < o.length + 1 + x.length := by omega
  go_enter Try.func37, Try.ntmps37
  go_wp2
  go_ret
  refine ⟨congrArg (fun b => Ending.returned (.string b)) ?_, HC.out⟩
  show (⟨o.toArray⟩ : ByteArray) ++ ⟨([46] : List UInt8).toArray⟩ ++ ⟨x.toArray⟩ = ⟨(roleText (o, x)).toArray⟩
  rw [ByteArray.mk_append_mk, ByteArray.mk_append_mk]
  simp [roleText]

theorem roleText_len (r : RoleB) : (roleText r).length = r.1.length + 1 + r.2.length := by
  simp [roleText]; omega

set_option maxRecDepth 100000 in
set_option maxHeartbeats 1000000 in
theorem ctext_ref (c : CredB) (w : World) (hs : credShort c 1048576) :
    Calls Try.prog 10 #[credV c] w fun e w' => e = .returned (.string ⟨(credText c).toArray⟩) ∧ Chg (fun _ => False) w w' := by
  have hc0 : Chg (fun _ => False) w (w.alloc (.cells (credBox c) 25)) := (Chg.refl _ w).alloc _
  have hd := cred_at_blk (heap_alloc_new w (.cells (credBox c) 25))
  obtain ⟨k, ⟨ho, hw⟩, who, ⟨bo, bw⟩, ⟨co, cw⟩, w2⟩ := c
  obtain ⟨s1, s2, s3, s4, s5, s6, s7, s8⟩ := hs
  dsimp only at s1 s2 s3 s4 s5 s6 s7 s8
  obtain ⟨a0, a1, a2, a3, a4, a5, a6, a7, a8⟩ := hd
  simp only [Nat.zero_add] at a0 a1 a2 a3 a4 a5 a6 a7 a8
  show Calls Try.prog 10 #[.agg #[.int .i64 k, .string ⟨ho.toArray⟩, .string ⟨hw.toArray⟩, .string ⟨who.toArray⟩, .string ⟨bo.toArray⟩, .string ⟨bw.toArray⟩, .string ⟨co.toArray⟩, .string ⟨cw.toArray⟩, .string ⟨w2.toArray⟩]] w _
  have l1 := roleText_len (ho, hw)
  have l2 := roleText_len (bo, bw)
  have l3 := roleText_len (co, cw)
  dsimp only at l1 l2 l3
  go_enter Try.func10, Try.ntmps10
  go_wp2_with fail
  refine (rtext_ref (ho, hw) _ s1 s2).mono ?_
  rintro e w1 ⟨rfl, hc1⟩
  have hcw := hc0.trans hc1 (fun _ _ h => h)
  replace a0 := hc1.cell a0 id
  replace a3 := hc1.cell a3 id
  replace a4 := hc1.cell a4 id
  replace a5 := hc1.cell a5 id
  replace a6 := hc1.cell a6 id
  replace a7 := hc1.cell a7 id
  replace a8 := hc1.cell a8 id
  have HC := hid hcw
  clear hc0 hc1 hcw a1 a2
  generalize hT : roleText (ho, hw) = th at *
  have b1 : ¬ 9223372036854775807 < th.length + 4 := by omega
  by_cases k1 : k = 1
  · subst k1
    have b2 : ¬ 9223372036854775807 < th.length + 4 + who.length := by omega
    go_wp2
    go_ret
    refine ⟨congrArg (fun b => Ending.returned (.string b)) ?_, HC.out⟩
    show (⟨th.toArray⟩ : ByteArray) ++ ⟨([32, 60, 45, 32] : List UInt8).toArray⟩ ++ ⟨who.toArray⟩ = _
    rw [ByteArray.mk_append_mk, ByteArray.mk_append_mk]
    simp [credText, credBody, hT]
  · have z1 : (k == 1) = false := beq_eq_false_iff_ne.2 k1
    go_wp2_with fail
    refine (rtext_ref (bo, bw) _ s4 s5).mono ?_
    rintro e w3 ⟨rfl, hc3⟩
    replace a0 := hc3.cell a0 id
    replace a6 := hc3.cell a6 id
    replace a7 := hc3.cell a7 id
    replace a8 := hc3.cell a8 id
    have HC2 := hid (HC.out.trans hc3 (fun _ _ h => h))
    clear HC hc3 a3 a4 a5
    generalize hB : roleText (bo, bw) = tb at *
    have b3 : ¬ 9223372036854775807 < th.length + 4 + tb.length := by omega
    by_cases k3 : k = 3
    · subst k3
      have b4 : ¬ 9223372036854775807 < 1 + w2.length := by omega
      have b5 : ¬ 9223372036854775807 < th.length + 4 + tb.length + (1 + w2.length) := by omega
      go_wp2
      go_ret
      refine ⟨congrArg (fun b => Ending.returned (.string b)) ?_, HC2.out⟩
      show (⟨th.toArray⟩ : ByteArray) ++ ⟨([32, 60, 45, 32] : List UInt8).toArray⟩ ++ ⟨tb.toArray⟩ ++ (⟨([46] : List UInt8).toArray⟩ ++ ⟨w2.toArray⟩) = _
      rw [ByteArray.mk_append_mk, ByteArray.mk_append_mk, ByteArray.mk_append_mk, ByteArray.mk_append_mk]
      simp [credText, credBody, hT, hB]
    · have z3 : (k == 3) = false := beq_eq_false_iff_ne.2 k3
      by_cases k4 : k = 4
      · subst k4
        go_wp2_with fail
        refine (rtext_ref (co, cw) _ s6 s7).mono ?_
        rintro e w4 ⟨rfl, hc4⟩
        have HC3 := hid (HC2.out.trans hc4 (fun _ _ h => h))
        clear HC2 hc4 a0 a6 a7 a8
        generalize hD : roleText (co, cw) = tc at *
        have b4 : ¬ 9223372036854775807 < 3 + tc.length := by omega
        have b5 : ¬ 9223372036854775807 < th.length + 4 + tb.length + (3 + tc.length) := by omega
        go_wp2
        go_ret
        refine ⟨congrArg (fun b => Ending.returned (.string b)) ?_, HC3.out⟩
        show (⟨th.toArray⟩ : ByteArray) ++ ⟨([32, 60, 45, 32] : List UInt8).toArray⟩ ++ ⟨tb.toArray⟩ ++ (⟨([32, 38, 32] : List UInt8).toArray⟩ ++ ⟨tc.toArray⟩) = _
        rw [ByteArray.mk_append_mk, ByteArray.mk_append_mk, ByteArray.mk_append_mk, ByteArray.mk_append_mk]
        simp [credText, credBody, hT, hB, hD]
      · have z4 : (k == 4) = false := beq_eq_false_iff_ne.2 k4
        go_wp2
        go_ret
        refine ⟨congrArg (fun b => Ending.returned (.string b)) ?_, HC2.out⟩
        show (⟨th.toArray⟩ : ByteArray) ++ ⟨([32, 60, 45, 32] : List UInt8).toArray⟩ ++ ⟨tb.toArray⟩ = _
        rw [ByteArray.mk_append_mk, ByteArray.mk_append_mk]
        simp [credText, credBody, hT, hB, k1, k3, k4]
end Go.Proofs.Ytjohiggfjpfbeaa

/- The contracts of the document's Has of layer 5, and of how great credentials are. -/
namespace Go.Proofs.Ytjohiggfjpfbeaa
open Go.RowKit

/-- How great credentials are. -/
def sizeC (c : CredB) : Nat := 20 + c.head.1.length + c.head.2.length + c.who.length + c.b.1.length + c.b.2.length + c.c.1.length + c.c.2.length + c.w2.length
def totalC : List CredB → Nat
  | [] => 0
  | c :: l => sizeC c + totalC l

theorem totalC_append (a b : List CredB) : totalC (a ++ b) = totalC a + totalC b := by
  induction a with
  | nil => simp [totalC]
  | cons x l ih => rw [List.cons_append, totalC, totalC, ih]; omega

theorem totalC_len (a : List CredB) : a.length ≤ totalC a := by
  induction a with
  | nil => simp [totalC]
  | cons x l ih => rw [totalC, List.length_cons, sizeC]; omega

theorem totalC_mem {a : List CredB} {x : CredB} (h : x ∈ a) : sizeC x ≤ totalC a := by
  induction a with
  | nil => simp at h
  | cons y l ih =>
    rw [totalC]
    rcases List.mem_cons.1 h with rfl | h
    · omega
    · have := ih h; omega

theorem totalC_take (ls : List CredB) (k : Nat) (h : k < ls.length) : totalC (ls.take (k + 1)) = totalC (ls.take k) + sizeC ls[k] := by
  rw [List.take_succ_eq_append_getElem h, totalC_append]; simp [totalC]

theorem totalC_take_le (ls : List CredB) (k : Nat) : totalC (ls.take k) ≤ totalC ls := by
  conv => rhs; rw [← List.take_append_drop k ls]
  rw [totalC_append]; omega

theorem sizeC_short {c : CredB} {n : Nat} (h : sizeC c ≤ n) : credShort c n := by
  unfold sizeC at h
  exact ⟨by omega, by omega, by omega, by omega, by omega, by omega, by omega, by omega⟩

set_option maxRecDepth 100000 in
set_option maxHeartbeats 2000000 in
theorem great_any {D : Nat → Prop} (ao : Option Addr) (cp : Nat) (ls : List CredB) (w : World) (hn : totalC ls ≤ 4503599627370496) (h : CredsAt D w ao ls) :
    Calls Try.prog 8 #[.slice ao ls.length cp] w fun e w' => e = .returned (.int .i64 (totalC ls)) ∧ Chg (fun _ => False) w w' := by
  have hl := totalC_len ls
  go_enter Try.func8, Try.ntmps8
  go_wp2
  go_loopw [3, 8] (fun n i wr => ∃ k m : Nat, k ≤ ls.length ∧ i = .int .i64 k ∧ n = .int .i64 m ∧ Hid (m = totalC (ls.take k)) ∧ m ≤ 4503599627370496 ∧ Chg (fun _ => False) w wr) (fun _ i _ => ls.length - (intOf i).toNat)
  case atStart => exact ⟨0, 0, Nat.zero_le _, rfl, rfl, rfl, by omega, Chg.refl _ _⟩
  case round =>
    obtain ⟨k, m, hk, rfl, rfl, hm, hml, hc⟩ := hrel
    by_cases hlt : k < ls.length
    · obtain ⟨b, off, rfl, _, hat, hs⟩ := (h.keep hc (fun _ _ => id)) k hlt
      have ht := totalC_take ls k hlt
      have hle := totalC_take_le ls (k + 1)
      rw [ht, ← hm.out] at hle
      have hx : Hid (m + sizeC ls[k] = totalC (ls.take (k + 1))) := hid (by rw [ht, hm.out])
      clear h ht
      have hsl2 : m + sizeC ls[k] ≤ 4503599627370496 := by omega
      clear hle
      generalize ls[k] = s at *
      obtain ⟨kk, ⟨ho, hw⟩, who, ⟨bo, bw⟩, ⟨co, cw⟩, w2⟩ := s
      obtain ⟨a0, a1, a2, a3, a4, a5, a6, a7, a8⟩ := hat
      obtain ⟨s1, s2, s3, s4, s5, s6, s7, s8⟩ := hs
      simp only [sizeC] at a0 a1 a2 a3 a4 a5 a6 a7 a8 s1 s2 s3 s4 s5 s6 s7 s8 hx hsl2
      have HC := hid hc
      clear hc
      go_wp2
      go_roundw
      case rel => exact ⟨k + 1, m + (20 + ho.length + hw.length + who.length + bo.length + bw.length + co.length + cw.length + w2.length), by omega, by go_num, by go_num, hx, hsl2, HC.out.alloc _⟩
      case measure => simp [intOf]; omega
    · have hk2 : k = ls.length := by omega
      have hx : m = totalC ls := by have := hm.out; rwa [List.take_of_length_le (by omega)] at this
      subst hx
      have HC := hid hc
      clear h hc
      go_wp2
      go_ret
      exact ⟨rfl, HC.out⟩

set_option maxRecDepth 100000 in
set_option maxHeartbeats 2000000 in
theorem chas_ref {D : Nat → Prop} (ao : Option Addr) (cp : Nat) (ls : List CredB) (c : CredB) (w : World) (hn : ls.length ≤ 9223372036854775807) (h : CredsAt D w ao ls) :
    Calls Try.prog 31 #[.slice ao ls.length cp, credV c] w fun e w' => e = .returned (.bool (hasC ls c)) ∧ Chg (fun _ => False) w w' := by
  have hc : Chg (fun _ => False) w (w.alloc (.cells (credBox c) 25)) := (Chg.refl _ w).alloc _
  have hA := heap_alloc_new w (.cells (credBox c) 25)
  have h' := h.keep hc (fun _ _ => id)
  obtain ⟨k', ⟨ho', hw'⟩, who', ⟨bo', bw'⟩, ⟨co', cw'⟩, w2'⟩ := c
  show Calls Try.prog 31 #[.slice ao ls.length cp, .agg #[.int .i64 k', .string ⟨ho'.toArray⟩, .string ⟨hw'.toArray⟩, .string ⟨who'.toArray⟩, .string ⟨bo'.toArray⟩, .string ⟨bw'.toArray⟩, .string ⟨co'.toArray⟩, .string ⟨cw'.toArray⟩, .string ⟨w2'.toArray⟩]] w _
  simp only [credBox] at hc hA h'
  go_enter Try.func31, Try.ntmps31
  go_wp2
  generalize hw1 : w.alloc (.cells #[.int .i64 k', .string ⟨ho'.toArray⟩, .string ⟨hw'.toArray⟩, .string ⟨who'.toArray⟩, .string ⟨bo'.toArray⟩, .string ⟨bw'.toArray⟩, .string ⟨co'.toArray⟩, .string ⟨cw'.toArray⟩, .string ⟨w2'.toArray⟩] 25) = w1 at *
  generalize w.heap.size = A at *
  clear h hw1
  go_loopw [9] (fun i wr => ∃ k : Nat, k ≤ ls.length ∧ i = .int .i64 k ∧ Hid (hasC (ls.take k) ⟨k', (ho', hw'), who', (bo', bw'), (co', cw'), w2'⟩ = false) ∧ Chg (fun _ => False) w1 wr) (fun i _ => ls.length - (intOf i).toNat)
  case atStart => exact ⟨0, Nat.zero_le _, rfl, by rw [List.take_zero]; rfl, Chg.refl _ _⟩
  case round =>
    obtain ⟨k, hk, rfl, hf, hc1⟩ := hrel
    have hA1 := cred_at_blk (c := ⟨k', (ho', hw'), who', (bo', bw'), (co', cw'), w2'⟩) (blk_keep hA hc1 id)
    by_cases hlt : k < ls.length
    · obtain ⟨b, off, rfl, _, hat, _⟩ := (h'.keep hc1 (fun _ _ => id)) k hlt
      have HFT := hid (hasC_take ls _ k hlt hf.out)
      clear h'
      have hmem : Hid (ls[k] ∈ ls) := hid (List.getElem_mem hlt)
      generalize ls[k] = q at *
      by_cases e : q = ⟨k', (ho', hw'), who', (bo', bw'), (co', cw'), w2'⟩
      · subst e
        have hh : Hid (hasC ls ⟨k', (ho', hw'), who', (bo', bw'), (co', cw'), w2'⟩ = true) := hid (by simpa [hasC] using hmem.out)
        have hal : Chg (fun _ => False) wr (wr.alloc (.cells (credBox ⟨k', (ho', hw'), who', (bo', bw'), (co', cw'), w2'⟩) 25)) := (Chg.refl _ wr).alloc _
        have hA2 := hA1.keep hal id
        obtain ⟨a0, a1, a2, a3, a4, a5, a6, a7, a8⟩ := hat
        obtain ⟨b0, b1, b2, b3, b4, b5, b6, b7, b8⟩ := hA2
        simp only [Nat.zero_add, credBox] at b0 b1 b2 b3 b4 b5 b6 b7 b8 a0 a1 a2 a3 a4 a5 a6 a7 a8
        have HC := hid (hc.trans (hc1.trans hal (fun _ _ h => h)) (fun _ _ h => h))
        clear hc hc1 hA hA1 hal HFT hf
        go_wp2
        go_ret
        exact ⟨by rw [hh.out]; rfl, HC.out⟩
      · have hx := hid (HFT.out e)
        obtain ⟨k0, ⟨ho, hw⟩, who, ⟨bo, bw⟩, ⟨co, cw⟩, w2⟩ := q
        have hal : Chg (fun _ => False) wr (wr.alloc (.cells (credBox ⟨k0, (ho, hw), who, (bo, bw), (co, cw), w2⟩) 25)) := (Chg.refl _ wr).alloc _
        have hA2 := hA1.keep hal id
        obtain ⟨a0, a1, a2, a3, a4, a5, a6, a7, a8⟩ := hat
        obtain ⟨b0, b1, b2, b3, b4, b5, b6, b7, b8⟩ := hA2
        simp only [Nat.zero_add, credBox] at b0 b1 b2 b3 b4 b5 b6 b7 b8 a0 a1 a2 a3 a4 a5 a6 a7 a8
        have HC := hid hc1
        have HE := hid e
        clear hc hc1 hA hA1 hal HFT hf e hmem
        go_wp2
        all_goals first
          | (refine (HE.out ?_).elim; simp only [CredB.mk.injEq, Prod.mk.injEq]; refine ⟨?_, ⟨?_, ?_⟩, ?_, ⟨?_, ?_⟩, ⟨?_, ?_⟩, ?_⟩ <;> assumption)
          | (go_roundw <;> first | exact ⟨k + 1, by omega, by go_num, hx, HC.out.alloc _⟩ | (simp [intOf]; omega))
    · have hk2 : k = ls.length := by omega
      have hh : Hid (hasC ls ⟨k', (ho', hw'), who', (bo', bw'), (co', cw'), w2'⟩ = false) := by have := hf.out; rwa [List.take_of_length_le (by omega)] at this
      have HC := hid (hc.trans hc1 (fun _ _ h => h))
      clear h' hc hc1 hA hA1
      go_wp2
      go_ret
      exact ⟨by rw [hh.out]; rfl, HC.out⟩
end Go.Proofs.Ytjohiggfjpfbeaa
