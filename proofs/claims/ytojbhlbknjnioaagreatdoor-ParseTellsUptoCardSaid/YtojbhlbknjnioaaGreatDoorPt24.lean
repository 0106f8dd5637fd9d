/- Texts that the proof leans on, in one: PcParse, ShelfJn. -/
import Derived.Test.YtojbhlbknjnioaaGreatDoorPt21
import Derived.Test.YtojbhlbknjnioaaGreatDoorPt22
import Derived.Test.YtojbhlbknjnioaaGreatDoorPt23
import Derived.Test.YtojbhlbknjnioaaGreatDoorPt9
import Derived.Shelf.Strings.OnBuilder
import Derived.Test.YtojbhlbknjnioaaGreatDoorProg
/- The document's Parse of layer 12. -/
namespace Go.Proofs.YtojbhlbknjnioaaGreatDoor
open Go.RowKit

/-- All of the document's reader. -/
theorem rread_all (D : Nat → Prop) (R : Nat) : ∀ N, N ≤ 4096 → PartS D 23 R N anyG := by
  intro N
  induction N using Nat.strongRecOn with
  | _ N ih =>
    intro hN
    have h1 : ∀ M, M < N → PartS D 23 R M anyG := fun M hM => ih M hM (by omega)
    have h2 : ∀ M, M < N → ListS D R M := fun M hM => rlist D R M (by omega) (fun K hK => h1 K (by omega))
    exact rany D R N hN (rboth D R N hN (rone D R N hN h1 h2))
theorem words_each : ∀ (s cur : List UInt8) (l : List Tok), wordsP s cur = some l → ∀ y ∈ l, y.length ≤ s.length + cur.length := by
  intro s
  induction s with
  | nil =>
    intro cur l h y hy
    have : l = flushP cur [] := (Option.some.inj h).symm
    subst this
    unfold flushP at hy
    split at hy
    · cases hy
    · rw [List.mem_singleton.1 hy]; omega
  | cons c s ih =>
    intro cur l h y hy
    rw [wordsP] at h
    split at h
    · have := ih _ _ h y hy
      simp only [List.length_append, List.length_cons, List.length_nil] at this ⊢
      omega
    · split at h
      · obtain ⟨l2, h2, rfl⟩ := Option.map_eq_some_iff.1 h
        rw [flush_app] at hy
        rcases List.mem_append.1 hy with hy | hy
        · unfold flushP at hy
          split at hy
          · cases hy
          · rw [List.mem_singleton.1 hy]; simp
        · rcases List.mem_cons.1 hy with rfl | hy
          · simp; omega
          · have := ih _ _ h2 y hy
            simp only [List.length_cons, List.length_nil] at this ⊢
            omega
      · split at h
        · obtain ⟨l2, h2, rfl⟩ := Option.map_eq_some_iff.1 h
          rw [flush_app] at hy
          rcases List.mem_append.1 hy with hy | hy
          · unfold flushP at hy
            split at hy
            · cases hy
            · rw [List.mem_singleton.1 hy]; simp
          · have := ih _ _ h2 y hy
            simp only [List.length_cons, List.length_nil] at this ⊢
            omega
        · cases h
theorem OwnS.capsP {B : Nat} {w : World} {ao : Option Addr} {n cp : Nat} {ls : List Tok} (h : OwnS B w (.slice ao n cp) ls) : ls.length ≤ cp ∧ cp ≤ 9223372036854775807 := by
  rcases h.2 with ⟨e, h0⟩ | ⟨g, cap, cur, e, hg, hh, k1, k2, k3, k4⟩
  · injection e with e1 e2 e3
    omega
  · injection e with e1 e2 e3
    unfold maxLen at k2
    omega

set_option maxRecDepth 100000 in
set_option maxHeartbeats 8000000 in
theorem rparseF (s : List UInt8) (hs : s.length ≤ 9223372036854775807) (w : World) :
    Calls Tryz.prog 10 #[.string ⟨s.toArray⟩] w (ParsedPost s w) := by
  have hcA : Chg (fun _ => False) w (w.alloc (.cells #[.int .i64 0, .int .i64 0, .string ⟨#[]⟩, .string ⟨#[]⟩, .slice none 0 0] 26)) := (Chg.refl _ w).alloc _
  have hZ := heap_alloc_new w (.cells #[.int .i64 0, .int .i64 0, .string ⟨#[]⟩, .string ⟨#[]⟩, .slice none 0 0] 26)
  by_cases hl : 2048 < s.length
  · have HP : Hid (parseF s = (zeroF, 12)) := hid (by unfold parseF; rw [if_pos hl])
    have z : decide ((2048 : Int) < (s.length : Int)) = true := decide_eq_true (by omega)
    have HZ := hid (And.intro hZ hcA)
    have g0 := froz_blk hZ 0
    have g1 := froz_blk hZ 1
    have g2 := froz_blk hZ 2
    have g3 := froz_blk hZ 3
    have g4 := froz_blk hZ 4
    have r0 := cell_blk hZ 0
    have r1 := cell_blk hZ 1
    have r2 := cell_blk hZ 2
    have r3 := cell_blk hZ 3
    have r4 := cell_blk hZ 4
    simp only [List.getElem?_toArray, List.getElem?_cons_zero, List.getElem?_cons_succ] at r0 r1 r2 r3 r4
    clear hZ hcA hl
    go_enter Tryz.func10, Tryz.ntmps10
    go_wp2
    have hend := HZ.out.1
    refine bodyPost_ret (results_row_tmp Tryz.results10 _ _ w.heap.size _ rfl (run_loadVar_row (P := Tryz.prog) _ w.heap.size 26 26 _ (0, 0) _ hend Tryz.underlying26 rfl (by kernel_rfl))) rfl ?_
    exact .zero HP.out HZ.out.2
  · have z : decide ((2048 : Int) < (s.length : Int)) = false := decide_eq_false (by omega)
    have HWD := hid (rwords s (w.alloc (.cells #[.int .i64 0, .int .i64 0, .string ⟨#[]⟩, .string ⟨#[]⟩, .slice none 0 0] 26)) (by omega))
    have HZ0 := hid (And.intro hZ hcA)
    have HL := hid hl
    have hsz : (w.alloc (.cells #[.int .i64 0, .int .i64 0, .string ⟨#[]⟩, .string ⟨#[]⟩, .slice none 0 0] 26)).heap.size = w.heap.size + 1 := by simp
    have HSZ := hid hsz
    clear hZ hcA hl hsz
    go_enter Tryz.func10, Tryz.ntmps10
    go_wp2_with fail
    refine HWD.out.mono ?_
    rintro e w1 ⟨hc1, ⟨hwn, rfl⟩ | ⟨ts, ao1, n1, cp1, hws, hn1, rfl, hown1⟩⟩
    · have hZ1 := blk_keep HZ0.out.1 hc1 id
      have hcw1 := HZ0.out.2.trans hc1 (fun _ _ h => h)
      have HPF : Hid (parseF s = (zeroF, 11)) := hid (by unfold parseF; rw [if_neg HL.out, hwn])
      obtain ⟨R, hR⟩ : ∃ R, R = w1.heap.size := ⟨_, rfl⟩
      obtain ⟨D, hD⟩ : ∃ D : Nat → Prop, D = fun k => w.heap.size ≤ k ∧ k < R := ⟨_, rfl⟩
      obtain ⟨W2, hW2⟩ : ∃ W2, W2 = (w1.alloc (.cells #[.slice none 0 0, .bool true] 50)) := ⟨_, rfl⟩
      have hbR := heap_alloc_new w1 (.cells #[.slice none 0 0, .bool true] 50)
      rw [← hR, ← hW2] at hbR
      have hal1 : Chg (fun _ => False) w1 W2 := by rw [hW2]; exact (Chg.refl _ w1).alloc _
      have hrd : RdS D R (none) W2 := ⟨none, 0, 0, true, [], hbR, rfl, Nat.le_refl _, by decide, fun i hi => absurd hi (by simp), fun k hk => by rw [hD] at hk; exact hk.2, ⟨by simp, fun y hy => (by cases hy)⟩, rfl⟩
      have HANY := hid (rread_all D R 4096 (Nat.le_refl _) (none) W2 (by exact Nat.zero_le _) hrd)
      have hZ2 := blk_keep hZ1 hal1 id
      have hwR : w.heap.size < R := by rw [hR]; exact lt_blk hZ1
      have hws2 : w.heap.size ≤ W2.heap.size := (hcw1.trans hal1 (fun _ _ h => h)).size
      have HC := hid (And.intro hZ2 (And.intro (hcw1.trans hal1 (fun _ _ h => h)) (And.intro hwR hws2)))
      clear hwn hrd hZ2 hwR hws2 hal1 hbR hZ1 hcw1 hc1 HWD HZ0 hD
      go_wp2_with fail
      rw [← hR, ← hW2]
      clear hR hW2
      refine HANY.out.mono ?_
      rintro e w3 ⟨t, ao, q, cp, h2, rfl, h3, h4, h1, h5, h6⟩
      have hal : Chg (fun _ => False) w3 (w3.alloc (.cells #[.int .i64 t.op, .int .i64 t.k, .string ⟨t.r.1.toArray⟩, .string ⟨t.r.2.toArray⟩, .slice ao q cp] 26)) := (Chg.refl _ w3).alloc _
      have hbn := heap_alloc_new w3 (.cells #[.int .i64 t.op, .int .i64 t.k, .string ⟨t.r.1.toArray⟩, .string ⟨t.r.2.toArray⟩, .slice ao q cp] 26)
      have hrd := h5.keep hal (fun _ h => h.elim)
      have hZ3 := blk_keep (blk_keep HC.out.1 h6 (fun e => by have : w.heap.size = R := e; have := HC.out.2.2.1; omega)) hal id
      have hcw3 : Chg (fun _ => False) w (w3.alloc (.cells #[.int .i64 t.op, .int .i64 t.k, .string ⟨t.r.1.toArray⟩, .string ⟨t.r.2.toArray⟩, .slice ao q cp] 26)) := (HC.out.2.1.trans h6 (fun i hi e => by have : i = R := e; have := HC.out.2.2.1; omega)).trans hal (fun _ _ h => h)
      have HOWN := hid (And.intro (ownA_keep hal t h3 (fun _ _ => id)) (And.intro h4 h2))
      have hs3 : w.heap.size < (w3.alloc (.cells #[.int .i64 t.op, .int .i64 t.k, .string ⟨t.r.1.toArray⟩, .string ⟨t.r.2.toArray⟩, .slice ao q cp] 26)).heap.size := lt_blk hZ3
      have hb3 : w3.heap.size < (w3.alloc (.cells #[.int .i64 t.op, .int .i64 t.k, .string ⟨t.r.1.toArray⟩, .string ⟨t.r.2.toArray⟩, .slice ao q cp] 26)).heap.size := lt_blk hbn
      have g0 := froz_blk hZ3 0
      have g1 := froz_blk hZ3 1
      have g2 := froz_blk hZ3 2
      have g3 := froz_blk hZ3 3
      have g4 := froz_blk hZ3 4
      have r0 := cell_blk hZ3 0
      have r1 := cell_blk hZ3 1
      have r2 := cell_blk hZ3 2
      have r3 := cell_blk hZ3 3
      have r4 := cell_blk hZ3 4
      simp only [List.getElem?_toArray, List.getElem?_cons_zero, List.getElem?_cons_succ] at r0 r1 r2 r3 r4
      have s0 := cell_blk hbn 0
      have s1 := cell_blk hbn 1
      have s2 := cell_blk hbn 2
      have s3 := cell_blk hbn 3
      have s4 := cell_blk hbn 4
      simp only [List.getElem?_toArray, List.getElem?_cons_zero, List.getElem?_cons_succ] at s0 s1 s2 s3 s4
      have HZ := hid (And.intro hZ3 (And.intro hcw3 (And.intro hbn hs3)))
      clear hal hbn h3 h4 h5 h6 hZ3 hcw3 hs3 hb3 HANY
      unfold FmVal
      have hrd : RdS D R none (w3.alloc (.cells #[.int .i64 t.op, .int .i64 t.k, .string ⟨t.r.1.toArray⟩, .string ⟨t.r.2.toArray⟩, .slice ao q cp] 26)) := hrd
      obtain ⟨c1, f1⟩ := hrd.cell1
      have c1 : (w3.alloc (.cells #[.int .i64 t.op, .int .i64 t.k, .string ⟨t.r.1.toArray⟩, .string ⟨t.r.2.toArray⟩, .slice ao q cp] 26)).cell? ⟨R, 1, none⟩ = some (.bool true) := c1
      have HP : Hid (parseF s = (zeroF, 11)) := hid (HPF.out)
      clear hrd h1
      go_wp2
      obtain ⟨hend, hcz⟩ := st5 HZ.out.1 (.int .i64 0) (.int .i64 0) (.string ⟨#[]⟩) (.string ⟨#[]⟩) (.slice none 0 0)
      refine bodyPost_ret (results_row_tmp Tryz.results10 _ _ w.heap.size _ rfl (run_loadVar_row (P := Tryz.prog) _ w.heap.size 26 26 _ (0, 0) _ hend Tryz.underlying26 rfl (by kernel_rfl))) rfl ?_
      exact .zero HP.out (HZ.out.2.1.trans hcz (fun i hi e => by have : i = w.heap.size := e; omega))
    · have hZ1 := blk_keep HZ0.out.1 hc1 id
      have hcw1 := HZ0.out.2.trans hc1 (fun _ _ h => h)
      have hlen := words_len s [] ts hws
      have heach := words_each s [] ts hws
      simp only [if_true, Nat.add_zero, List.length_nil] at hlen heach
      have HPF : Hid (parseF s = match (some ts).bind anyG with
        | none => (zeroF, 11)
        | some (f, r) => if r ≠ [] then (zeroF, 11) else if isF f then (f, 0) else (zeroF, 12)) := hid (by unfold parseF; rw [if_neg HL.out, hws]; rfl)
      have hcaps := hown1.capsP
      obtain ⟨ao9, cp9, e9, hstr⟩ := hown1.strs (fun x hx => by have := heach x hx; have := HL.out; omega)
      injection e9 with e91 e92 e93
      subst e91 e93
      rw [HSZ.out] at hstr
      obtain ⟨R, hR⟩ : ∃ R, R = w1.heap.size := ⟨_, rfl⟩
      obtain ⟨D, hD⟩ : ∃ D : Nat → Prop, D = fun k => w.heap.size ≤ k ∧ k < R := ⟨_, rfl⟩
      obtain ⟨W2, hW2⟩ : ∃ W2, W2 = (w1.alloc (.cells #[.slice ao1 n1 cp1, .bool false] 50)) := ⟨_, rfl⟩
      have hbR := heap_alloc_new w1 (.cells #[.slice ao1 n1 cp1, .bool false] 50)
      rw [← hR, ← hW2] at hbR
      have hal1 : Chg (fun _ => False) w1 W2 := by rw [hW2]; exact (Chg.refl _ w1).alloc _
      have hrd : RdS D R (some ts) W2 := ⟨ao1, n1, cp1, false, ts, hbR, hn1, by omega, hcaps.2, (fun i hi => by obtain ⟨b, off, q1, q2, q3, q4⟩ := (hstr.keep hal1 (fun _ _ => id)) i hi; exact ⟨b, off, q1, by rw [hD, hR]; exact ⟨by omega, q2.2⟩, q3, q4⟩), fun k hk => by rw [hD] at hk; exact hk.2, ⟨by have := HL.out; omega, fun y hy => by have := heach y hy; have := HL.out; omega⟩, rfl⟩
      have HANY := hid (rread_all D R 4096 (Nat.le_refl _) (some ts) W2 (by show ts.length ≤ 4096; have := HL.out; omega) hrd)
      have hZ2 := blk_keep hZ1 hal1 id
      have hwR : w.heap.size < R := by rw [hR]; exact lt_blk hZ1
      have hws2 : w.heap.size ≤ W2.heap.size := (hcw1.trans hal1 (fun _ _ h => h)).size
      have HC := hid (And.intro hZ2 (And.intro (hcw1.trans hal1 (fun _ _ h => h)) (And.intro hwR hws2)))
      have HN : Hid (ts.length ≤ 2048) := hid (by have := HL.out; omega)
      clear hws hrd hZ2 hwR hws2 hal1 hbR hZ1 hcw1 hc1 HWD HZ0 hD hlen heach hcaps hstr hn1 e92 hown1
      go_wp2_with fail
      rw [← hR, ← hW2]
      clear hR hW2
      refine HANY.out.mono ?_
      rintro e w3 ⟨t, ao, q, cp, h2, rfl, h3, h4, h1, h5, h6⟩
      have hal : Chg (fun _ => False) w3 (w3.alloc (.cells #[.int .i64 t.op, .int .i64 t.k, .string ⟨t.r.1.toArray⟩, .string ⟨t.r.2.toArray⟩, .slice ao q cp] 26)) := (Chg.refl _ w3).alloc _
      have hbn := heap_alloc_new w3 (.cells #[.int .i64 t.op, .int .i64 t.k, .string ⟨t.r.1.toArray⟩, .string ⟨t.r.2.toArray⟩, .slice ao q cp] 26)
      have hrd := h5.keep hal (fun _ h => h.elim)
      have hZ3 := blk_keep (blk_keep HC.out.1 h6 (fun e => by have : w.heap.size = R := e; have := HC.out.2.2.1; omega)) hal id
      have hcw3 : Chg (fun _ => False) w (w3.alloc (.cells #[.int .i64 t.op, .int .i64 t.k, .string ⟨t.r.1.toArray⟩, .string ⟨t.r.2.toArray⟩, .slice ao q cp] 26)) := (HC.out.2.1.trans h6 (fun i hi e => by have : i = R := e; have := HC.out.2.2.1; omega)).trans hal (fun _ _ h => h)
      have HOWN := hid (And.intro (ownA_keep hal t h3 (fun _ _ => id)) (And.intro h4 h2))
      have hs3 : w.heap.size < (w3.alloc (.cells #[.int .i64 t.op, .int .i64 t.k, .string ⟨t.r.1.toArray⟩, .string ⟨t.r.2.toArray⟩, .slice ao q cp] 26)).heap.size := lt_blk hZ3
      have hb3 : w3.heap.size < (w3.alloc (.cells #[.int .i64 t.op, .int .i64 t.k, .string ⟨t.r.1.toArray⟩, .string ⟨t.r.2.toArray⟩, .slice ao q cp] 26)).heap.size := lt_blk hbn
      have g0 := froz_blk hZ3 0
      have g1 := froz_blk hZ3 1
      have g2 := froz_blk hZ3 2
      have g3 := froz_blk hZ3 3
      have g4 := froz_blk hZ3 4
      have r0 := cell_blk hZ3 0
      have r1 := cell_blk hZ3 1
      have r2 := cell_blk hZ3 2
      have r3 := cell_blk hZ3 3
      have r4 := cell_blk hZ3 4
      simp only [List.getElem?_toArray, List.getElem?_cons_zero, List.getElem?_cons_succ] at r0 r1 r2 r3 r4
      have s0 := cell_blk hbn 0
      have s1 := cell_blk hbn 1
      have s2 := cell_blk hbn 2
      have s3 := cell_blk hbn 3
      have s4 := cell_blk hbn 4
      simp only [List.getElem?_toArray, List.getElem?_cons_zero, List.getElem?_cons_succ] at s0 s1 s2 s3 s4
      have HZ := hid (And.intro hZ3 (And.intro hcw3 (And.intro hbn hs3)))
      clear hal hbn h3 h4 h5 h6 hZ3 hcw3 hs3 hb3 HANY
      unfold FmVal
      cases hq : (some ts).bind anyG with
      | none =>
        rw [hq] at hrd
        obtain ⟨c1, f1⟩ := hrd.cell1
        have c1 : (w3.alloc (.cells #[.int .i64 t.op, .int .i64 t.k, .string ⟨t.r.1.toArray⟩, .string ⟨t.r.2.toArray⟩, .slice ao q cp] 26)).cell? ⟨R, 1, none⟩ = some (.bool true) := c1
        have HP : Hid (parseF s = (zeroF, 11)) := hid (by rw [HPF.out, hq])
        clear hrd hq h1
        go_wp2
        obtain ⟨hend, hcz⟩ := st5 HZ.out.1 (.int .i64 0) (.int .i64 0) (.string ⟨#[]⟩) (.string ⟨#[]⟩) (.slice none 0 0)
        refine bodyPost_ret (results_row_tmp Tryz.results10 _ _ w.heap.size _ rfl (run_loadVar_row (P := Tryz.prog) _ w.heap.size 26 26 _ (0, 0) _ hend Tryz.underlying26 rfl (by kernel_rfl))) rfl ?_
        exact .zero HP.out (HZ.out.2.1.trans hcz (fun i hi e => by have : i = w.heap.size := e; omega))
      | some p =>
        obtain ⟨f, r⟩ := p
        rw [hq] at hrd h1
        have hrd : RdS D R (some r) (w3.alloc (.cells #[.int .i64 t.op, .int .i64 t.k, .string ⟨t.r.1.toArray⟩, .string ⟨t.r.2.toArray⟩, .slice ao q cp] 26)) := hrd
        cases r with
        | cons y r =>
          obtain ⟨ao4, n4, cp4, bad4, ts4, k1, k2, k3, k4, k5, k6, k7, k8⟩ := hrd
          have hb4 : bad4 = false := by
            cases bad4 with
            | true => cases k8
            | false => rfl
          subst hb4
          have k8 : y :: r = ts4 := by simpa using k8
          have hn4 : 0 < n4 := by rw [k2, ← k8]; simp
          have c0 := cell_blk k1 0
          have c1 := cell_blk k1 1
          simp only [List.getElem?_toArray, List.getElem?_cons_zero, List.getElem?_cons_succ] at c0 c1
          have zn : decide ((0 : Int) < (n4 : Int)) = true := decide_eq_true (by omega)
          have HP : Hid (parseF s = (zeroF, 11)) := hid (by rw [HPF.out, hq]; simp)
          clear k1 k2 k3 k4 k5 k6 k7 k8 hq h1
          go_wp2
          obtain ⟨hend, hcz⟩ := st5 HZ.out.1 (.int .i64 0) (.int .i64 0) (.string ⟨#[]⟩) (.string ⟨#[]⟩) (.slice none 0 0)
          refine bodyPost_ret (results_row_tmp Tryz.results10 _ _ w.heap.size _ rfl (run_loadVar_row (P := Tryz.prog) _ w.heap.size 26 26 _ (0, 0) _ hend Tryz.underlying26 rfl (by kernel_rfl))) rfl ?_
          exact .zero HP.out (HZ.out.2.1.trans hcz (fun i hi e => by have : i = w.heap.size := e; omega))
        | nil =>
          obtain ⟨ao4, cp4, c0, c1, f0, f1⟩ := hrd.open_nil
          have h1 : eraseA t = f := h1 _ rfl
          have hnl := any_len (show anyG ts = some (f, []) from hq)
          obtain ⟨ao2, cp2, k1, k2, k3, k4⟩ := own_fms HOWN.out.1
          rw [h2] at k1
          injection k1 with k1 k5 k6
          subst k1 k6
          have hrt := rn_right (D := fun k => W2.heap.size ≤ k ∧ k < (w3.alloc (.cells #[.int .i64 t.op, .int .i64 t.k, .string ⟨t.r.1.toArray⟩, .string ⟨t.r.2.toArray⟩, .slice ao q cp] 26)).heap.size) _ (eraseA t) ao cp (w3.alloc (.cells #[.int .i64 t.op, .int .i64 t.k, .string ⟨t.r.1.toArray⟩, .string ⟨t.r.2.toArray⟩, .slice ao q cp] 26)) (by rw [eraseA_eq]; exact k3) k4 (by rw [h1]; have := HN.out; simp at hnl; omega)
          have hq2 : (eraseA t).kids.length = q := by rw [eraseA_eq]; simp only [FmB.kids, eraseL_len]; exact k5.symm
          have e1 : (eraseA t).op = t.op := by rw [eraseA_eq]; rfl
          have e2 : (eraseA t).k = t.k := by rw [eraseA_eq]; rfl
          have e3 : (eraseA t).r = t.r := by rw [eraseA_eq]; rfl
          rw [hq2, e1, e2, e3, h1] at hrt
          have HRT := hid hrt
          have HQ := hid hq
          have HZ2 := hid (And.intro HOWN.out.1 (And.intro HOWN.out.2.1 (And.intro h1 h2)))
          clear hrt hq2 e1 e2 e3 h1 h2 k2 k3 k4 k5 hnl hq hrd
          go_wp2_with fail
          refine HRT.out.mono ?_
          rintro e w4 ⟨rfl, hc4⟩
          have hZ4 := blk_keep HZ.out.1 hc4 id
          have hB4 := blk_keep HZ.out.2.2.1 hc4 id
          have HC4 := hid (And.intro hZ4 (And.intro (HZ.out.2.1.trans hc4 (fun _ _ h => h)) (ownA_keep hc4 t HZ2.out.1 (fun _ _ => id))))
          clear r0 r1 r2 r3 r4 g0 g1 g2 g3 g4 s0 s1 s2 s3 s4
          have g0 := froz_blk hZ4 0
          have g1 := froz_blk hZ4 1
          have g2 := froz_blk hZ4 2
          have g3 := froz_blk hZ4 3
          have g4 := froz_blk hZ4 4
          have r0 := cell_blk hZ4 0
          have r1 := cell_blk hZ4 1
          have r2 := cell_blk hZ4 2
          have r3 := cell_blk hZ4 3
          have r4 := cell_blk hZ4 4
          simp only [List.getElem?_toArray, List.getElem?_cons_zero, List.getElem?_cons_succ] at r0 r1 r2 r3 r4
          have s0 := cell_blk hB4 0
          have s1 := cell_blk hB4 1
          have s2 := cell_blk hB4 2
          have s3 := cell_blk hB4 3
          have s4 := cell_blk hB4 4
          simp only [List.getElem?_toArray, List.getElem?_cons_zero, List.getElem?_cons_succ] at s0 s1 s2 s3 s4
          clear hZ4 hB4 hc4 HRT
          cases hf : isF f with
          | false =>
            have HP : Hid (parseF s = (zeroF, 12)) := hid (by rw [HPF.out, HQ.out]; simp [hf])
            clear hf
            go_wp2
            obtain ⟨hend, hcz⟩ := st5 HC4.out.1 (.int .i64 0) (.int .i64 0) (.string ⟨#[]⟩) (.string ⟨#[]⟩) (.slice none 0 0)
            refine bodyPost_ret (results_row_tmp Tryz.results10 _ _ w.heap.size _ rfl (run_loadVar_row (P := Tryz.prog) _ w.heap.size 26 26 _ (0, 0) _ hend Tryz.underlying26 rfl (by kernel_rfl))) rfl ?_
            exact .zero HP.out (HC4.out.2.1.trans hcz (fun i hi e => by have : i = w.heap.size := e; omega))
          | true =>
            have HP : Hid (parseF s = (f, 0)) := hid (by rw [HPF.out, HQ.out]; simp [hf])
            clear hf
            go_wp2
            obtain ⟨hend, hcz⟩ := st5 HC4.out.1 (.int .i64 t.op) (.int .i64 t.k) (.string ⟨t.r.1.toArray⟩) (.string ⟨t.r.2.toArray⟩) (.slice ao q cp)
            refine bodyPost_ret (results_row_tmp Tryz.results10 _ _ w.heap.size _ rfl (run_loadVar_row (P := Tryz.prog) _ w.heap.size 26 26 _ (0, 0) _ hend Tryz.underlying26 rfl (by kernel_rfl))) rfl ?_
            have hown := HC4.out.2.2
            have hws := lt_blk HC.out.1
            refine ⟨HC4.out.2.1.trans hcz (fun i hi e => by have : i = w.heap.size := e; omega), t, ao, q, cp, by rw [HP.out]; exact HZ2.out.2.2.1, HZ2.out.2.2.2, by rw [HP.out]; rfl, ownA_low (by omega) t (ownA_keep hcz t hown (fun b hb e => by have := (ownA_lt t hown b hb).1; have : b = w.heap.size := e; omega)), HZ2.out.2.1⟩
end Go.Proofs.YtojbhlbknjnioaaGreatDoor

/-
  DERIVED: THE SHELF's CONTRACTS AT THIS DUMP, IN PLAIN WORDS (tools/lay-plain.mjs out of 'TryzShelfJn.lean', which tools/lay-shelf.mjs wrote): THE SAME DECLARATIONS UNDER THE SAME NAMES: 'import', 'namespace', 'open', 'def', 'theorem' AND NOTHING ELSE: no command of the shelf's: FOR A HAND-IN. Each laying: the table of numbers ('.._ren') and one theorem, a field a fact of the dump's own or the kernel's comparison; each contract: ONE APPLICATION.
-/
namespace Go.Proofs
open Go.Shelf
def Tryz.lays156_ren : Go.Shelf.Ren := ⟨fun | 156 => 40 | 165 => 51 | 166 => 52 | 169 => 53 | 240 => 65 | 241 => 66 | 276 => 76 | 277 => 77 | n => n, fun | 31 => 45 | 9 => 9 | 3 => 3 | 4 => 4 | 0 => 0 | 20 => 20 | 72 => 78 | 76 => 82 | 70 => 76 | 37 => 44 | 75 => 81 | 127 => 97 | 164 => 104 | 5 => 5 | 80 => 84 | n => n, fun | n => n⟩
theorem Tryz.lays156 : Go.Proofs.Lays.n156 Tryz.prog Tryz.lays156_ren := {
  mixed := by kernel_rfl
  f156 := Tryz.func40.trans (congrArg some (by kernel_rfl))
  f165 := Tryz.func51.trans (congrArg some (by kernel_rfl))
  f166 := Tryz.func52.trans (congrArg some (by kernel_rfl))
  f169 := Tryz.func53.trans (congrArg some (by kernel_rfl))
  f240 := Tryz.func65.trans (congrArg some (by kernel_rfl))
  f241 := Tryz.func66.trans (congrArg some (by kernel_rfl))
  f276 := Tryz.func76.trans (congrArg some (by kernel_rfl))
  f277 := Tryz.func77.trans (congrArg some (by kernel_rfl))
  t0 := Tryz.underlying0
  a0 := Tryz.isAgg0
  z0 := Tryz.sizeOf0
  v0 := Tryz.zeroValue0
  t3 := Tryz.underlying3
  a3 := Tryz.isAgg3
  z3 := Tryz.sizeOf3
  v3 := Tryz.zeroValue3
  t4 := Tryz.underlying4
  a4 := Tryz.isAgg4
  z4 := Tryz.sizeOf4
  v4 := Tryz.zeroValue4
  t9 := Tryz.underlying9
  a9 := Tryz.isAgg9
  z9 := Tryz.sizeOf9
  v9 := Tryz.zeroValue9
  t20 := Tryz.underlying20
  a20 := Tryz.isAgg20
  z20 := Tryz.sizeOf20
  v20 := Tryz.zeroValue20
  t31 := Tryz.underlying45
  a31 := Tryz.isAgg45
  z31 := Tryz.sizeOf45
  v31 := Tryz.zeroValue45
  t37 := Tryz.underlying44
  a37 := Tryz.isAgg44
  z37 := Tryz.sizeOf44
  v37 := Tryz.zeroValue44
  t70 := Tryz.underlying76
  a70 := Tryz.isAgg76
  z70 := Tryz.sizeOf76
  v70 := Tryz.zeroValue76
  t72 := Tryz.underlying78
  a72 := Tryz.isAgg78
  z72 := Tryz.sizeOf78
  v72 := Tryz.zeroValue78
  t75 := Tryz.underlying81
  a75 := Tryz.isAgg81
  z75 := Tryz.sizeOf81
  v75 := Tryz.zeroValue81
  t76 := Tryz.underlying82
  a76 := Tryz.isAgg82
  z76 := Tryz.sizeOf82
  v76 := Tryz.zeroValue82
  t127 := Tryz.underlying97
  a127 := Tryz.isAgg97
  z127 := Tryz.sizeOf97
  v127 := Tryz.zeroValue97
  t164 := Tryz.underlying104
  a164 := Tryz.isAgg104
  z164 := Tryz.sizeOf104
  v164 := Tryz.zeroValue104 }
theorem Tryz.Builder_Extra_156 : Builder.Extra Tryz.prog Tryz.lays156_ren := {
  sizeBuilder := by kernel_rfl
  liesBuilder := by kernel_rfl
  t5 := Tryz.underlying5
  a5 := Tryz.isAgg5
  z5 := Tryz.sizeOf5
  v5 := Tryz.zeroValue5
  infoByte := by kernel_rfl
  cellsByte := by kernel_rfl
  sizeByte := by kernel_rfl
  neB5 := by decide }
open Go.RowKit in
/-- strings.Join: "Join concatenates the elements of its first argument to create a single string. The separator string sep is placed between elements in the resulting string.": HOWEVER MANY ELEMENTS. Below the heap's end the world is as it was. (LAID: no walk: one application.) -/
theorem Tryz.strings_Join (bk o c : Nat) (xs : List ByteArray) (sep : ByteArray) (w : World) (hcells : ∀ (j : Nat) x, xs[j]? = some x → w.cell? ⟨bk, o + j, none⟩ = some (.string x)) (hbk : bk < w.heap.size) (hN : xs.length ≤ 140737488355328) (hcap : xs.length ≤ c) (hlen : (Lib.join (xs.map (·.data.toList)) sep.data.toList).length ≤ 140737488355328) :
    Calls Tryz.prog 40 #[.slice (some ⟨bk, o, none⟩) xs.length c, .string sep] w fun e w' => e = .returned (.string ⟨(Lib.join (xs.map (·.data.toList)) sep.data.toList).toArray⟩) ∧ Below w.heap.size w w' := Any.strings_Join Tryz.lays156 Tryz.Builder_Extra_156 bk o c xs sep w hcells hbk hN hcap hlen
end Go.Proofs
