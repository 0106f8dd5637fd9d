/- Texts that the proof leans on, in one: PcSaid, PcParse. -/
import Derived.Test.YtjohiggfjpfbeaaCm9
import Derived.Test.YtjohiggfjpfbeaaCm10
import Derived.Test.YtjohiggfjpfbeaaCm4
import Derived.IntWalk
/- cred.parseRole, cred.parseSaid: the program's contract. -/
namespace Go.Proofs.Ytjohiggfjpfbeaa
open Go.RowKit

set_option maxRecDepth 100000 in
theorem pparserole (s : List UInt8) (w : World) (hs : s.length ≤ 1048576) :
    Calls Try.prog 43 #[.string ⟨s.toArray⟩] w fun e w' => e = .returned (roleV (roleOr s)) ∧ Chg (fun _ => False) w w' := by
  have hc0 : Chg (fun _ => False) w (w.alloc (.cells #[.string ⟨#[]⟩, .string ⟨#[]⟩] 23)) := (Chg.refl _ w).alloc _
  have hA := heap_alloc_new w (.cells #[.string ⟨#[]⟩, .string ⟨#[]⟩] 23)
  have hcall := pparse s (w.alloc (.cells #[.string ⟨#[]⟩, .string ⟨#[]⟩] 23)) hs
  have HG := hid (And.intro hcall (And.intro hA hc0))
  clear hcall hA hc0
  go_enter Try.func43, Try.ntmps43
  go_wp2_with fail
  obtain ⟨hcall, hA, hc0⟩ := HG.out
  clear HG
  generalize w.alloc (.cells #[.string ⟨#[]⟩, .string ⟨#[]⟩] 23) = w1 at *
  refine hcall.mono ?_
  rintro e w2 ⟨rfl, hc2⟩
  have hA2 := blk_keep hA hc2 id
  have hcw := hc0.trans hc2 (fun _ _ h => h)
  clear hcall hA hc0 hc2
  generalize (parseR s).isSome = ok at *
  have HR : Hid ((parseR s).getD noRole = roleOr s) := hid rfl
  obtain ⟨⟨p, q⟩, hr⟩ : ∃ r, (parseR s).getD noRole = r := ⟨_, rfl⟩
  rw [hr, show roleV (p, q) = .agg #[.string ⟨p.toArray⟩, .string ⟨q.toArray⟩] from rfl]
  have HR2 : Hid (roleOr s = (p, q)) := hid hr
  clear hr HR
  generalize hAe : w.heap.size = A at *
  have HA := hid hAe
  clear hAe
  have q0 := cell_blk hA2 0
  have q1 := cell_blk hA2 1
  have f0 := froz_blk hA2 0
  have f1 := froz_blk hA2 1
  simp only [List.getElem?_toArray, List.getElem?_cons_zero, List.getElem?_cons_succ] at q0 q1
  have hAlt := lt_blk hA2
  have hcB : Chg (fun _ => False) w2 (w2.alloc (.cells #[.string ⟨p.toArray⟩, .string ⟨q.toArray⟩] 23)) := (Chg.refl _ w2).alloc _
  have hA3 := blk_keep hA2 hcB id
  have hcw3 := hcw.trans hcB (fun _ _ h => h)
  have hD := set_blk (set_blk hA3 0 (.string ⟨p.toArray⟩)) 1 (.string ⟨q.toArray⟩)
  have hD2 : (((w2.alloc (.cells #[.string ⟨p.toArray⟩, .string ⟨q.toArray⟩] 23)).setCell ⟨A, 0, none⟩ (.string ⟨p.toArray⟩)).setCell ⟨A, 1, none⟩ (.string ⟨q.toArray⟩)).heap[A]? = some (.cells #[.string ⟨p.toArray⟩, .string ⟨q.toArray⟩] 23 (0, 0)) := hD
  have hD3 : (((w2.setCell ⟨A, 0, none⟩ (.string ⟨p.toArray⟩)).setCell ⟨A, 1, none⟩ (.string ⟨q.toArray⟩)).alloc (.cells #[.string ⟨p.toArray⟩, .string ⟨q.toArray⟩] 23)).heap[A]? = some (.cells #[.string ⟨p.toArray⟩, .string ⟨q.toArray⟩] 23 (0, 0)) :=
    blk_keep (S := fun _ => False) (set_blk (set_blk hA2 0 (.string ⟨p.toArray⟩)) 1 (.string ⟨q.toArray⟩)) ((Chg.refl _ _).alloc _) id
  have hch : Chg (fun _ => False) w (((w2.setCell ⟨A, 0, none⟩ (.string ⟨p.toArray⟩)).setCell ⟨A, 1, none⟩ (.string ⟨q.toArray⟩)).alloc (.cells #[.string ⟨p.toArray⟩, .string ⟨q.toArray⟩] 23)) :=
    ((hcw.trans (setCell_chg w2 A 0 (.string ⟨p.toArray⟩)) (fun i hi e => by have := HA.out; have : i = A := e; omega)).trans (setCell_chg _ A 1 (.string ⟨q.toArray⟩)) (fun i hi e => by have := HA.out; have : i = A := e; omega)).alloc _
  have HX := hid (And.intro hD3 hch)
  clear hcB hA3 hcw3 hD hD2 hD3 hch hA2 hcw
  go_wp2
  refine bodyPost_ret (results_cell_row (P := Try.prog) rfl _ _ A 23 _ (0, 0) _ rfl HX.out.1 Try.underlying23 rfl (by kernel_rfl)) rfl ?_
  exact ⟨by rw [HR2.out]; rfl, HX.out.2⟩

set_option maxRecDepth 100000 in
set_option maxHeartbeats 2000000 in
theorem psaid_both (s x y : List UInt8) (w : World) (hs : s.length ≤ 1048576) (hm : MaxAt w) (hcut : Lib.cut s ampB = (x, y, true)) :
    Calls Try.prog 42 #[.string ⟨s.toArray⟩] w fun e w' => e = .returned (credV (saidC s)) ∧ Chg (fun _ => False) w w' := by
  have HS0 : Hid (saidC s = ⟨4, noneR, [], roleOr x, roleOr y, []⟩) := hid (by rw [saidC, hcut]; exact if_pos rfl)
  have hln := cut_len s ampB
  rw [hcut] at hln
  have hx : x.length ≤ 1048576 := Nat.le_trans hln.1 hs
  have hy : y.length ≤ 1048576 := Nat.le_trans hln.2 hs
  clear hln
  have hc0 : Chg (fun _ => False) w (w.alloc (.cells #[.int .i64 0, .string ⟨#[]⟩, .string ⟨#[]⟩, .string ⟨#[]⟩, .string ⟨#[]⟩, .string ⟨#[]⟩, .string ⟨#[]⟩, .string ⟨#[]⟩, .string ⟨#[]⟩] 25)) := (Chg.refl _ w).alloc _
  have hA : (w.alloc (.cells #[.int .i64 0, .string ⟨#[]⟩, .string ⟨#[]⟩, .string ⟨#[]⟩, .string ⟨#[]⟩, .string ⟨#[]⟩, .string ⟨#[]⟩, .string ⟨#[]⟩, .string ⟨#[]⟩] 25)).heap[w.heap.size]? = some (.cells (credBox noCred) 25 (0, 0)) := heap_alloc_new w (.cells #[.int .i64 0, .string ⟨#[]⟩, .string ⟨#[]⟩, .string ⟨#[]⟩, .string ⟨#[]⟩, .string ⟨#[]⟩, .string ⟨#[]⟩, .string ⟨#[]⟩, .string ⟨#[]⟩] 25)
  have hcall := pcut_any s ampB x y true (w.alloc (.cells #[.int .i64 0, .string ⟨#[]⟩, .string ⟨#[]⟩, .string ⟨#[]⟩, .string ⟨#[]⟩, .string ⟨#[]⟩, .string ⟨#[]⟩, .string ⟨#[]⟩, .string ⟨#[]⟩] 25)) hs (hm.keep hc0 id) hcut
  have HG := hid (And.intro hcall (And.intro hA hc0))
  clear hcall hA hc0 hcut hm
  go_enter Try.func42, Try.ntmps42
  go_wp2_with fail
  obtain ⟨hcall, hA, hc0⟩ := HG.out
  clear HG
  generalize (w.alloc (.cells #[.int .i64 0, .string ⟨#[]⟩, .string ⟨#[]⟩, .string ⟨#[]⟩, .string ⟨#[]⟩, .string ⟨#[]⟩, .string ⟨#[]⟩, .string ⟨#[]⟩, .string ⟨#[]⟩] 25)) = w1 at *
  refine hcall.mono ?_
  rintro e w2 ⟨rfl, hc2⟩
  have hA2 := blk_keep hA hc2 id
  have hcw2 := hc0.trans hc2 (fun _ _ h => h)
  clear hcall hA hc0 hc2
  generalize hAe : w.heap.size = A at *
  have HA := hid hAe
  clear hAe
  go_wp2_with fail
  refine (pparserole x w2 hx).mono ?_
  rintro e w3 ⟨rfl, hcc⟩
  have hA3 := blk_keep hA2 hcc id
  have hcw3 := hcw2.trans hcc (fun _ _ h => h)
  clear hcc hA2 hcw2
  obtain ⟨⟨p1, q1⟩, hr2⟩ : ∃ r, roleOr x = r := ⟨_, rfl⟩
  rw [hr2, show roleV (p1, q1) = .agg #[.string ⟨p1.toArray⟩, .string ⟨q1.toArray⟩] from rfl]
  have HR2 := hid hr2
  clear hr2
  go_wp2_with fail
  refine (pparserole y w3 hy).mono ?_
  rintro e w4 ⟨rfl, hcc⟩
  have hA4 := blk_keep hA3 hcc id
  have hcw4 := hcw3.trans hcc (fun _ _ h => h)
  clear hcc hA3 hcw3
  obtain ⟨⟨p2, q2⟩, hr3⟩ : ∃ r, roleOr y = r := ⟨_, rfl⟩
  rw [hr3, show roleV (p2, q2) = .agg #[.string ⟨p2.toArray⟩, .string ⟨q2.toArray⟩] from rfl]
  have HR3 := hid hr3
  clear hr3
  have HS : Hid (saidC s = ⟨4, noneR, [], (p1, q1), (p2, q2), []⟩) := hid (by rw [HS0.out, HR2.out, HR3.out])
  clear HS0 HR2 HR3 hx hy hs
  have hD := setCred_blk ⟨4, noneR, [], (p1, q1), (p2, q2), []⟩ hA4
  have hck := setCred_chg w4 A ⟨4, noneR, [], (p1, q1), (p2, q2), []⟩
  have hch : Chg (fun _ => False) w (setCred w4 A ⟨4, noneR, [], (p1, q1), (p2, q2), []⟩) := hcw4.trans hck (fun i hi e => by have := HA.out; have : i = A := e; omega)
  have HX := hid (And.intro hD hch)
  clear hD hck hch
  obtain ⟨a0, a1, a2, a3, a4, a5, a6, a7, a8⟩ := cred_at_blk hA4
  simp only [Nat.zero_add, noCred, noneR] at a0 a1 a2 a3 a4 a5 a6 a7 a8
  have f0 := froz_blk hA4 0
  have f1 := froz_blk hA4 1
  have f2 := froz_blk hA4 2
  have f3 := froz_blk hA4 3
  have f4 := froz_blk hA4 4
  have f5 := froz_blk hA4 5
  have f6 := froz_blk hA4 6
  have f7 := froz_blk hA4 7
  have f8 := froz_blk hA4 8
  clear hA4 hcw4
  go_wp2
  refine bodyPost_ret (results_get_cred rfl _ _ A ⟨4, noneR, [], (p1, q1), (p2, q2), []⟩ rfl HX.out.1) rfl ?_
  exact ⟨by rw [HS.out], HX.out.2⟩

set_option maxRecDepth 100000 in
set_option maxHeartbeats 2000000 in
theorem psaid_none (s x y : List UInt8) (w : World) (hs : s.length ≤ 1048576) (hm : MaxAt w) (hcut : Lib.cut s ampB = (x, y, false)) (hn : Lib.countByte s 46 = 0) :
    Calls Try.prog 42 #[.string ⟨s.toArray⟩] w fun e w' => e = .returned (credV (saidC s)) ∧ Chg (fun _ => False) w w' := by
  have HS : Hid (saidC s = ⟨1, noneR, s, noneR, noneR, []⟩) := hid (by rw [saidC, hcut]; exact (if_neg (show ¬ (false = true) by decide)).trans (if_pos hn))
  have HN := hid hn
  clear hn
  have hc0 : Chg (fun _ => False) w (w.alloc (.cells #[.int .i64 0, .string ⟨#[]⟩, .string ⟨#[]⟩, .string ⟨#[]⟩, .string ⟨#[]⟩, .string ⟨#[]⟩, .string ⟨#[]⟩, .string ⟨#[]⟩, .string ⟨#[]⟩] 25)) := (Chg.refl _ w).alloc _
  have hA : (w.alloc (.cells #[.int .i64 0, .string ⟨#[]⟩, .string ⟨#[]⟩, .string ⟨#[]⟩, .string ⟨#[]⟩, .string ⟨#[]⟩, .string ⟨#[]⟩, .string ⟨#[]⟩, .string ⟨#[]⟩] 25)).heap[w.heap.size]? = some (.cells (credBox noCred) 25 (0, 0)) := heap_alloc_new w (.cells #[.int .i64 0, .string ⟨#[]⟩, .string ⟨#[]⟩, .string ⟨#[]⟩, .string ⟨#[]⟩, .string ⟨#[]⟩, .string ⟨#[]⟩, .string ⟨#[]⟩, .string ⟨#[]⟩] 25)
  have hcall := pcut_any s ampB x y false (w.alloc (.cells #[.int .i64 0, .string ⟨#[]⟩, .string ⟨#[]⟩, .string ⟨#[]⟩, .string ⟨#[]⟩, .string ⟨#[]⟩, .string ⟨#[]⟩, .string ⟨#[]⟩, .string ⟨#[]⟩] 25)) hs (hm.keep hc0 id) hcut
  have HG := hid (And.intro hcall (And.intro hA hc0))
  clear hcall hA hc0 hcut hm
  go_enter Try.func42, Try.ntmps42
  go_wp2_with fail
  obtain ⟨hcall, hA, hc0⟩ := HG.out
  clear HG
  generalize (w.alloc (.cells #[.int .i64 0, .string ⟨#[]⟩, .string ⟨#[]⟩, .string ⟨#[]⟩, .string ⟨#[]⟩, .string ⟨#[]⟩, .string ⟨#[]⟩, .string ⟨#[]⟩, .string ⟨#[]⟩] 25)) = w1 at *
  refine hcall.mono ?_
  rintro e w2 ⟨rfl, hc2⟩
  have hA2 := blk_keep hA hc2 id
  have hcw2 := hc0.trans hc2 (fun _ _ h => h)
  clear hcall hA hc0 hc2
  generalize hAe : w.heap.size = A at *
  have HA := hid hAe
  clear hAe
  go_wp2_with fail
  refine (pcount_dot s w2).mono ?_
  rintro e w3 ⟨rfl, rfl⟩
  rw [HN.out, show ((0 : Nat) : Int) = 0 from rfl]
  clear hs
  have hD := setCred_blk ⟨1, noneR, s, noneR, noneR, []⟩ hA2
  have hck := setCred_chg w2 A ⟨1, noneR, s, noneR, noneR, []⟩
  have hch : Chg (fun _ => False) w (setCred w2 A ⟨1, noneR, s, noneR, noneR, []⟩) := hcw2.trans hck (fun i hi e => by have := HA.out; have : i = A := e; omega)
  have HX := hid (And.intro hD hch)
  clear hD hck hch
  obtain ⟨a0, a1, a2, a3, a4, a5, a6, a7, a8⟩ := cred_at_blk hA2
  simp only [Nat.zero_add, noCred, noneR] at a0 a1 a2 a3 a4 a5 a6 a7 a8
  have f0 := froz_blk hA2 0
  have f1 := froz_blk hA2 1
  have f2 := froz_blk hA2 2
  have f3 := froz_blk hA2 3
  have f4 := froz_blk hA2 4
  have f5 := froz_blk hA2 5
  have f6 := froz_blk hA2 6
  have f7 := froz_blk hA2 7
  have f8 := froz_blk hA2 8
  clear hA2 hcw2
  go_wp2
  refine bodyPost_ret (results_get_cred rfl _ _ A ⟨1, noneR, s, noneR, noneR, []⟩ rfl HX.out.1) rfl ?_
  exact ⟨by rw [HS.out], HX.out.2⟩

set_option maxRecDepth 100000 in
set_option maxHeartbeats 2000000 in
theorem psaid_one (s x y : List UInt8) (w : World) (hs : s.length ≤ 1048576) (hm : MaxAt w) (hcut : Lib.cut s ampB = (x, y, false)) (hn : Lib.countByte s 46 = 1) :
    Calls Try.prog 42 #[.string ⟨s.toArray⟩] w fun e w' => e = .returned (credV (saidC s)) ∧ Chg (fun _ => False) w w' := by
  have HS0 : Hid (saidC s = ⟨2, noneR, [], roleOr s, noneR, []⟩) := hid (by rw [saidC, hcut]; exact (if_neg (show ¬ (false = true) by decide)).trans ((if_neg (by omega)).trans (if_pos hn)))
  have HN := hid hn
  clear hn
  have hc0 : Chg (fun _ => False) w (w.alloc (.cells #[.int .i64 0, .string ⟨#[]⟩, .string ⟨#[]⟩, .string ⟨#[]⟩, .string ⟨#[]⟩, .string ⟨#[]⟩, .string ⟨#[]⟩, .string ⟨#[]⟩, .string ⟨#[]⟩] 25)) := (Chg.refl _ w).alloc _
  have hA : (w.alloc (.cells #[.int .i64 0, .string ⟨#[]⟩, .string ⟨#[]⟩, .string ⟨#[]⟩, .string ⟨#[]⟩, .string ⟨#[]⟩, .string ⟨#[]⟩, .string ⟨#[]⟩, .string ⟨#[]⟩] 25)).heap[w.heap.size]? = some (.cells (credBox noCred) 25 (0, 0)) := heap_alloc_new w (.cells #[.int .i64 0, .string ⟨#[]⟩, .string ⟨#[]⟩, .string ⟨#[]⟩, .string ⟨#[]⟩, .string ⟨#[]⟩, .string ⟨#[]⟩, .string ⟨#[]⟩, .string ⟨#[]⟩] 25)
  have hcall := pcut_any s ampB x y false (w.alloc (.cells #[.int .i64 0, .string ⟨#[]⟩, .string ⟨#[]⟩, .string ⟨#[]⟩, .string ⟨#[]⟩, .string ⟨#[]⟩, .string ⟨#[]⟩, .string ⟨#[]⟩, .string ⟨#[]⟩] 25)) hs (hm.keep hc0 id) hcut
  have HG := hid (And.intro hcall (And.intro hA hc0))
  clear hcall hA hc0 hcut hm
  go_enter Try.func42, Try.ntmps42
  go_wp2_with fail
  obtain ⟨hcall, hA, hc0⟩ := HG.out
  clear HG
  generalize (w.alloc (.cells #[.int .i64 0, .string ⟨#[]⟩, .string ⟨#[]⟩, .string ⟨#[]⟩, .string ⟨#[]⟩, .string ⟨#[]⟩, .string ⟨#[]⟩, .string ⟨#[]⟩, .string ⟨#[]⟩] 25)) = w1 at *
  refine hcall.mono ?_
  rintro e w2 ⟨rfl, hc2⟩
  have hA2 := blk_keep hA hc2 id
  have hcw2 := hc0.trans hc2 (fun _ _ h => h)
  clear hcall hA hc0 hc2
  generalize hAe : w.heap.size = A at *
  have HA := hid hAe
  clear hAe
  go_wp2_with fail
  refine (pcount_dot s w2).mono ?_
  rintro e w3 ⟨rfl, rfl⟩
  rw [HN.out, show ((1 : Nat) : Int) = 1 from rfl]
  go_wp2_with fail
  refine (pparserole s w2 hs).mono ?_
  rintro e w3 ⟨rfl, hcc⟩
  have hA3 := blk_keep hA2 hcc id
  have hcw3 := hcw2.trans hcc (fun _ _ h => h)
  clear hcc hA2 hcw2
  obtain ⟨⟨p1, q1⟩, hr2⟩ : ∃ r, roleOr s = r := ⟨_, rfl⟩
  rw [hr2, show roleV (p1, q1) = .agg #[.string ⟨p1.toArray⟩, .string ⟨q1.toArray⟩] from rfl]
  have HR2 := hid hr2
  clear hr2
  have HS : Hid (saidC s = ⟨2, noneR, [], (p1, q1), noneR, []⟩) := hid (by rw [HS0.out, HR2.out])
  clear HS0 HR2 hs
  have hD := setCred_blk ⟨2, noneR, [], (p1, q1), noneR, []⟩ hA3
  have hck := setCred_chg w3 A ⟨2, noneR, [], (p1, q1), noneR, []⟩
  have hch : Chg (fun _ => False) w (setCred w3 A ⟨2, noneR, [], (p1, q1), noneR, []⟩) := hcw3.trans hck (fun i hi e => by have := HA.out; have : i = A := e; omega)
  have HX := hid (And.intro hD hch)
  clear hD hck hch
  obtain ⟨a0, a1, a2, a3, a4, a5, a6, a7, a8⟩ := cred_at_blk hA3
  simp only [Nat.zero_add, noCred, noneR] at a0 a1 a2 a3 a4 a5 a6 a7 a8
  have f0 := froz_blk hA3 0
  have f1 := froz_blk hA3 1
  have f2 := froz_blk hA3 2
  have f3 := froz_blk hA3 3
  have f4 := froz_blk hA3 4
  have f5 := froz_blk hA3 5
  have f6 := froz_blk hA3 6
  have f7 := froz_blk hA3 7
  have f8 := froz_blk hA3 8
  clear hA3 hcw3
  go_wp2
  refine bodyPost_ret (results_get_cred rfl _ _ A ⟨2, noneR, [], (p1, q1), noneR, []⟩ rfl HX.out.1) rfl ?_
  exact ⟨by rw [HS.out], HX.out.2⟩

def saidSpecs (A : Nat) (s : List UInt8) (d : Nat) (p1 q1 : List UInt8) : List (SpecR (Chg (· = A))) :=
  [.eq (.string ⟨s.toArray⟩), .any, .eq (.pointer (some ⟨A, 0, none⟩)), .any, .any, .any, .eq (.int .i64 d), .any, .any, .any, .any, .any, .any, .any, .any, .any, .any, .any, .any, .any, .any, .any, .any, .any, .any, .any, .any, .any, .any, .any, .any, .any,
   .eq (.string ⟨s.toArray⟩), .eq (.int .i64 d), .eq (.string ⟨(s.take d).toArray⟩), .eq (.agg #[.string ⟨p1.toArray⟩, .string ⟨q1.toArray⟩]), .eq (.string ⟨s.toArray⟩), .eq (.int .i64 d), .eq (.int .i64 ((d : Int) + 1)), .eq (.string ⟨(s.drop (d + 1)).toArray⟩), .eq (.agg #[.int .i64 3, .string ⟨#[]⟩, .string ⟨#[]⟩, .string ⟨#[]⟩, .string ⟨p1.toArray⟩, .string ⟨q1.toArray⟩, .string ⟨#[]⟩, .string ⟨#[]⟩, .string ⟨(s.drop (d + 1)).toArray⟩])]

set_option maxRecDepth 100000 in
set_option maxHeartbeats 4000000 in
theorem psaid_many (s x y : List UInt8) (w : World) (hs : s.length ≤ 1048576) (hm : MaxAt w) (hcut : Lib.cut s ampB = (x, y, false)) (hn : 2 ≤ Lib.countByte s 46) :
    Calls Try.prog 42 #[.string ⟨s.toArray⟩] w fun e w' => e = .returned (credV (saidC s)) ∧ Chg (fun _ => False) w w' := by
  have HS0 : Hid (saidC s = ⟨3, noneR, [], roleOr (s.take (lastDot s)), noneR, s.drop (lastDot s + 1)⟩) := hid (by rw [saidC, hcut]; exact (if_neg (show ¬ (false = true) by decide)).trans ((if_neg (by omega)).trans (if_neg (by omega))))
  obtain ⟨hd, hz⟩ := lastDot_spec (s := s) (by omega)
  clear hz
  have hlast := plast_dot s
  generalize lastDot s = d at *
  obtain ⟨n, hne⟩ : ∃ n, Lib.countByte s 46 = n := ⟨_, rfl⟩
  rw [hne] at hn
  have z0 : ((n : Int) == 0) = false := beq_eq_false_iff_ne.2 (by omega)
  have z1 : ((n : Int) == 1) = false := beq_eq_false_iff_ne.2 (by omega)
  have HN := hid (And.intro hne hn)
  have HL := hid hlast
  have HZ := hid (And.intro z0 z1)
  clear hne hn hlast z0 z1
  have hc0 : Chg (fun _ => False) w (w.alloc (.cells #[.int .i64 0, .string ⟨#[]⟩, .string ⟨#[]⟩, .string ⟨#[]⟩, .string ⟨#[]⟩, .string ⟨#[]⟩, .string ⟨#[]⟩, .string ⟨#[]⟩, .string ⟨#[]⟩] 25)) := (Chg.refl _ w).alloc _
  have hA : (w.alloc (.cells #[.int .i64 0, .string ⟨#[]⟩, .string ⟨#[]⟩, .string ⟨#[]⟩, .string ⟨#[]⟩, .string ⟨#[]⟩, .string ⟨#[]⟩, .string ⟨#[]⟩, .string ⟨#[]⟩] 25)).heap[w.heap.size]? = some (.cells (credBox noCred) 25 (0, 0)) := heap_alloc_new w (.cells #[.int .i64 0, .string ⟨#[]⟩, .string ⟨#[]⟩, .string ⟨#[]⟩, .string ⟨#[]⟩, .string ⟨#[]⟩, .string ⟨#[]⟩, .string ⟨#[]⟩, .string ⟨#[]⟩] 25)
  have hcall := pcut_any s ampB x y false (w.alloc (.cells #[.int .i64 0, .string ⟨#[]⟩, .string ⟨#[]⟩, .string ⟨#[]⟩, .string ⟨#[]⟩, .string ⟨#[]⟩, .string ⟨#[]⟩, .string ⟨#[]⟩, .string ⟨#[]⟩] 25)) hs (hm.keep hc0 id) hcut
  have HG := hid (And.intro hcall (And.intro hA hc0))
  clear hcall hA hc0 hcut hm
  go_enter Try.func42, Try.ntmps42
  go_wp2_with fail
  obtain ⟨hcall, hA, hc0⟩ := HG.out
  clear HG
  generalize (w.alloc (.cells #[.int .i64 0, .string ⟨#[]⟩, .string ⟨#[]⟩, .string ⟨#[]⟩, .string ⟨#[]⟩, .string ⟨#[]⟩, .string ⟨#[]⟩, .string ⟨#[]⟩, .string ⟨#[]⟩] 25)) = w1 at *
  refine hcall.mono ?_
  rintro e w2 ⟨rfl, hc2⟩
  have hA2 := blk_keep hA hc2 id
  have hcw2 := hc0.trans hc2 (fun _ _ h => h)
  clear hcall hA hc0 hc2
  generalize hAe : w.heap.size = A at *
  have HA := hid hAe
  clear hAe
  go_wp2_with fail
  refine (pcount_dot s w2).mono ?_
  rintro e w3 ⟨rfl, rfl⟩
  rw [HN.out.1]
  obtain ⟨z0, z1⟩ := HZ.out
  go_wp2_with fail
  refine (HL.out w2 hs (by have := HN.out; omega)).mono ?_
  rintro e w3 ⟨rfl, rfl⟩
  clear z0 z1 HZ HL
  have hdl : (s.take d).length ≤ 1048576 := by rw [List.length_take]; omega
  have hcall := pparserole (s.take d)
  obtain ⟨⟨p1, q1⟩, hr⟩ : ∃ r, roleOr (s.take d) = r := ⟨_, rfl⟩
  rw [hr, show roleV (p1, q1) = .agg #[.string ⟨p1.toArray⟩, .string ⟨q1.toArray⟩] from rfl] at hcall
  have HS : Hid (saidC s = ⟨3, noneR, [], (p1, q1), noneR, s.drop (d + 1)⟩) := hid (by rw [HS0.out, hr])
  have HC := hid hcall
  have st := str_take s d
  have sd := str_drop s (d + 1)
  have hlt2 : ((d : Int) + 1) ≤ (s.length : Int) := by omega
  have hle : ((d : Int)) ≤ (s.length : Int) := by omega
  have g1 : IntKind.i64.wrap ((d : Int) + 1) = (d : Int) + 1 := IntWalk.i64_in _ (by omega)
  have g2 : (0 : Int) ≤ (d : Int) + 1 := by omega
  have g3 : ((d : Int) + 1).toNat = d + 1 := by omega
  have HF := hid (And.intro st (And.intro sd (And.intro hlt2 (And.intro hle (And.intro g1 (And.intro g2 g3))))))
  clear hr HS0 hcall st sd hlt2 hle g1 g2 g3 hs hd HN
  have hA2' := hA2
  go_wp2
  refine wp_region_state (Chg (· = A)) (fun L w9 => Chg (· = A) w2 w9 ∧ w9.heap[A]? = some (.cells (credBox (if L 9 = true then ⟨3, noneR, [], (p1, q1), noneR, s.drop (d + 1)⟩ else noCred)) 25 (0, 0))) (specAtR (saidSpecs A s d p1 q1)) [32, 33, 34, 35, 36, 37, 38, 39, 40] [0, 2, 6] (by kernel_rfl) (by kernel_rfl) ⟨(Chg.refl _ _).drew, hA2⟩ (fun t v w w' hc h => specAtR_st _ t v w w' hc h) (by rfl) (by kernel_rfl) ?start ?obs ?fin
  case start =>
    simp only [List.forall_mem_cons]
    exact ⟨⟨_, rfl, rfl⟩, ⟨_, rfl, rfl⟩, ⟨_, rfl, rfl⟩, fun _ h => by cases h⟩
  case obs =>
    clear hA2 hA2' hcw2 HS HA
    refine ObsL.cons none (by kernel_rfl) ?_ ?_
    · refine ObL.plain fun L a w hi he hW hk K k => ?_
      obtain ⟨_, e0, f0⟩ := hk 0 (by decide)
      clear hk he
      clear hi
      go_simp
      exact k _ _ (Chg.refl _ _) hW f0
    refine ObsL.cons none (by kernel_rfl) ?_ ?_
    · refine ObL.plain fun L a w hi he hW hk K k => ?_
      obtain ⟨_, e6, f6⟩ := hk 6 (by decide)
      clear hk he
      clear hi
      go_simp
      exact k _ _ (Chg.refl _ _) hW f6
    refine ObsL.cons none (by kernel_rfl) ?_ ?_
    · refine ObL.plain fun L a w hi he hW hk K k => ?_
      obtain ⟨_, e32, rfl⟩ := hk 32 (by decide)
      obtain ⟨_, e33, rfl⟩ := hk 33 (by decide)
      clear hk he
      clear hi HC
      obtain ⟨st, sd, hlt2, hle, g1, g2, g3⟩ := HF.out
      go_simp
      exact k _ _ (Chg.refl _ _) hW rfl
    refine ObsL.cons none (by kernel_rfl) ?_ ?_
    · refine ObL.plain fun L a w hi he hW hk K k => ?_
      obtain ⟨_, e34, rfl⟩ := hk 34 (by decide)
      clear hk he
      clear hi HF
      go_simp
      refine (HC.out _ hdl).mono ?_
      rintro e w4 ⟨rfl, hcc⟩
      exact k _ _ (hcc.mono (fun _ _ h => h.elim)) ⟨hW.1.trans hcc (fun _ _ h => h.elim), blk_keep hW.2 hcc id⟩ rfl
    refine ObsL.cons none (by kernel_rfl) ?_ ?_
    · refine ObL.plain fun L a w hi he hW hk K k => ?_
      obtain ⟨_, e0, f0⟩ := hk 0 (by decide)
      clear hk he
      clear hi
      go_simp
      exact k _ _ (Chg.refl _ _) hW f0
    refine ObsL.cons none (by kernel_rfl) ?_ ?_
    · refine ObL.plain fun L a w hi he hW hk K k => ?_
      obtain ⟨_, e6, f6⟩ := hk 6 (by decide)
      clear hk he
      clear hi
      go_simp
      exact k _ _ (Chg.refl _ _) hW f6
    refine ObsL.cons none (by kernel_rfl) ?_ ?_
    · refine ObL.plain fun L a w hi he hW hk K k => ?_
      obtain ⟨_, e37, rfl⟩ := hk 37 (by decide)
      clear hk he
      clear hi HC
      obtain ⟨st, sd, hlt2, hle, g1, g2, g3⟩ := HF.out
      go_simp
      exact k _ _ (Chg.refl _ _) hW rfl
    refine ObsL.cons none (by kernel_rfl) ?_ ?_
    · refine ObL.plain fun L a w hi he hW hk K k => ?_
      obtain ⟨_, e36, rfl⟩ := hk 36 (by decide)
      obtain ⟨_, e38, rfl⟩ := hk 38 (by decide)
      clear hk he
      clear hi HC
      obtain ⟨st, sd, hlt2, hle, g1, g2, g3⟩ := HF.out
      go_simp
      exact k _ _ (Chg.refl _ _) hW rfl
    refine ObsL.cons none (by kernel_rfl) ?_ ?_
    · refine ObL.plain fun L a w hi he hW hk K k => ?_
      obtain ⟨_, e35, rfl⟩ := hk 35 (by decide)
      obtain ⟨_, e39, rfl⟩ := hk 39 (by decide)
      clear hk he
      clear hi
      go_simp
      exact k _ _ (Chg.refl _ _) hW rfl
    refine ObsL.cons none (by kernel_rfl) ?_ ?_
    · refine ObL.plain fun L a w hi he hW hk K k => ?_
      obtain ⟨_, e2, rfl⟩ := hk 2 (by decide)
      obtain ⟨_, e40, rfl⟩ := hk 40 (by decide)
      clear hk he
      obtain ⟨hc3, hb3⟩ := hW
      rw [if_neg (by rw [hi]; decide)] at hb3
      have hb4 := setCred_blk ⟨3, noneR, [], (p1, q1), noneR, s.drop (d + 1)⟩ hb3
      have hcs := setCred_chg w A ⟨3, noneR, [], (p1, q1), noneR, s.drop (d + 1)⟩
      have HB := hid (And.intro hb4 (And.intro (hc3.trans hcs (fun _ _ h => h)) hcs))
      clear hi HC HF hb4 hcs hc3
      obtain ⟨a0, a1, a2, a3, a4, a5, a6, a7, a8⟩ := cred_at_blk hb3
      simp only [Nat.zero_add, noCred, noneR] at a0 a1 a2 a3 a4 a5 a6 a7 a8
      have f0 := froz_blk hb3 0
      have f1 := froz_blk hb3 1
      have f2 := froz_blk hb3 2
      have f3 := froz_blk hb3 3
      have f4 := froz_blk hb3 4
      have f5 := froz_blk hb3 5
      have f6 := froz_blk hb3 6
      have f7 := froz_blk hb3 7
      have f8 := froz_blk hb3 8
      clear hb3
      go_simp
      exact k undef _ HB.out.2.2 ⟨HB.out.2.1, by have := HB.out.1; exact this⟩ trivial
    exact ObsL.nil
  case fin =>
    intro L vals w9 hL hWL hv
    have h9 : L 9 = true := hL 9 (by decide)
    obtain ⟨hc9, hb9⟩ := hWL
    rw [if_pos h9] at hb9
    have hch : Chg (fun _ => False) w w9 := hcw2.trans hc9 (fun i hi e => by have := HA.out; have : i = A := e; omega)
    have HX := hid (And.intro hb9 hch)
    clear hA2 hA2' hcw2 hL hv h9 hc9 hb9 hch HF HC hdl
    simp only [putAll, List.setIfInBounds_toArray, List.set_cons_zero, List.set_cons_succ]
    go_wp2
    refine bodyPost_ret (results_get_cred rfl _ _ A ⟨3, noneR, [], (p1, q1), noneR, s.drop (d + 1)⟩ rfl HX.out.1) rfl ?_
    exact ⟨by rw [HS.out], HX.out.2⟩
end Go.Proofs.Ytjohiggfjpfbeaa

/- cred.Parse: the program's contract. -/
namespace Go.Proofs.Ytjohiggfjpfbeaa
open Go.RowKit

theorem psaid_any (s : List UInt8) (w : World) (hs : s.length ≤ 1048576) (hm : MaxAt w) :
    Calls Try.prog 42 #[.string ⟨s.toArray⟩] w fun e w' => e = .returned (credV (saidC s)) ∧ Chg (fun _ => False) w w' := by
  obtain ⟨⟨x, y, b⟩, hcut⟩ : ∃ t, Lib.cut s ampB = t := ⟨_, rfl⟩
  cases b with
  | true => exact psaid_both s x y w hs hm hcut
  | false =>
    by_cases h0 : Lib.countByte s 46 = 0
    · exact psaid_none s x y w hs hm hcut h0
    · by_cases h1 : Lib.countByte s 46 = 1
      · exact psaid_one s x y w hs hm hcut h1
      · exact psaid_many s x y w hs hm hcut (by omega)

theorem saidC_short (s : List UInt8) (h : s.length ≤ 1048576) : (saidC s).head = noneR ∧ (saidC s).who.length ≤ 1048576 ∧ ((saidC s).b.1.length ≤ 16 ∧ (saidC s).b.2.length ≤ 16) ∧ ((saidC s).c.1.length ≤ 16 ∧ (saidC s).c.2.length ≤ 16) ∧ (saidC s).w2.length ≤ 1048576 := by
  unfold saidC
  split
  · exact ⟨rfl, by simp, pc_roleOr_len _, pc_roleOr_len _, by simp⟩
  · split
    · exact ⟨rfl, h, by simp [noneR], by simp [noneR], by simp⟩
    · split
      · exact ⟨rfl, by simp, pc_roleOr_len _, by simp [noneR], by simp⟩
      · exact ⟨rfl, by simp, pc_roleOr_len _, by simp [noneR], by simp only [List.length_drop]; omega⟩

set_option maxRecDepth 100000 in
set_option maxHeartbeats 4000000 in
theorem pcparse (s : List UInt8) (w : World) (hs : s.length ≤ 1048576) (hm : MaxAt w) : Calls Try.prog 12 #[.string ⟨s.toArray⟩] w (ParsePostC s w) := by
  obtain ⟨⟨x, y, b⟩, hcut⟩ : ∃ t, Lib.cut s arrowB = t := ⟨_, rfl⟩
  have hln := cut_len s arrowB
  rw [hcut] at hln
  have hx : x.length ≤ 1048576 := Nat.le_trans hln.1 hs
  have hy : y.length ≤ 1048576 := Nat.le_trans hln.2 hs
  have HP : Hid (progC s = { saidC y with head := roleOr x }) := hid (by rw [progC, hcut])
  clear hln
  have hsh := saidC_short y hy
  have hc0 : Chg (fun _ => False) w (w.alloc (.cells #[.int .i64 0, .string ⟨#[]⟩, .string ⟨#[]⟩, .string ⟨#[]⟩, .string ⟨#[]⟩, .string ⟨#[]⟩, .string ⟨#[]⟩, .string ⟨#[]⟩, .string ⟨#[]⟩] 25)) := (Chg.refl _ w).alloc _
  have hA : (w.alloc (.cells #[.int .i64 0, .string ⟨#[]⟩, .string ⟨#[]⟩, .string ⟨#[]⟩, .string ⟨#[]⟩, .string ⟨#[]⟩, .string ⟨#[]⟩, .string ⟨#[]⟩, .string ⟨#[]⟩] 25)).heap[w.heap.size]? = some (.cells (credBox noCred) 25 (0, 0)) := heap_alloc_new w (.cells #[.int .i64 0, .string ⟨#[]⟩, .string ⟨#[]⟩, .string ⟨#[]⟩, .string ⟨#[]⟩, .string ⟨#[]⟩, .string ⟨#[]⟩, .string ⟨#[]⟩, .string ⟨#[]⟩] 25)
  have hm1 := hm.keep hc0 id
  have hcall := pcut_any s arrowB x y b (w.alloc (.cells #[.int .i64 0, .string ⟨#[]⟩, .string ⟨#[]⟩, .string ⟨#[]⟩, .string ⟨#[]⟩, .string ⟨#[]⟩, .string ⟨#[]⟩, .string ⟨#[]⟩, .string ⟨#[]⟩] 25)) hs hm1 hcut
  have HG := hid (And.intro hcall (And.intro hA (And.intro hc0 hm1)))
  clear hcall hA hc0 hcut hm hm1
  go_enter Try.func12, Try.ntmps12
  go_wp2_with fail
  obtain ⟨hcall, hA, hc0, hm1⟩ := HG.out
  clear HG
  generalize (w.alloc (.cells #[.int .i64 0, .string ⟨#[]⟩, .string ⟨#[]⟩, .string ⟨#[]⟩, .string ⟨#[]⟩, .string ⟨#[]⟩, .string ⟨#[]⟩, .string ⟨#[]⟩, .string ⟨#[]⟩] 25)) = w1 at *
  refine hcall.mono ?_
  rintro e w2 ⟨rfl, hc2⟩
  have hA2 := blk_keep hA hc2 id
  have hm2 := hm1.keep hc2 id
  have hcw2 := hc0.trans hc2 (fun _ _ h => h)
  clear hcall hA hc0 hc2 hm1
  generalize hAe : w.heap.size = A at *
  have HA := hid hAe
  clear hAe
  have hcall := psaid_any y w2 hy hm2
  have HPS : Hid ((saidC y).head = noneR) := hid hsh.1
  obtain ⟨hz0, hsw, hsb, hsc, hs2⟩ := hsh
  clear hz0
  obtain ⟨⟨kk, ⟨hh1, hh2⟩, who, ⟨b1, b2⟩, ⟨c1, c2⟩, w2s⟩, hcr⟩ : ∃ c, saidC y = c := ⟨_, rfl⟩
  rw [hcr] at hsw hsb hsc hs2 hcall
  have hn0 := HPS.out
  rw [hcr] at hn0
  dsimp only at hn0 hsw hsb hsc hs2
  cases hn0
  have HP1 : Hid (∀ r, { saidC y with head := r } = ⟨kk, r, who, (b1, b2), (c1, c2), w2s⟩) := hid (fun r => by rw [hcr])
  have HCL := hid hcall
  clear HPS hcall hcr hm2
  go_wp2_with fail
  refine HCL.out.mono ?_
  rintro e w3 ⟨rfl, hc3⟩
  have hA3 := blk_keep hA2 hc3 id
  have hcw3 := hcw2.trans hc3 (fun _ _ h => h)
  clear HCL hc3 hA2 hcw2
  have hAl := lt_blk hA3
  rw [show credV ⟨kk, ([], []), who, (b1, b2), (c1, c2), w2s⟩ = .agg #[.int .i64 kk, .string ⟨#[]⟩, .string ⟨#[]⟩, .string ⟨who.toArray⟩, .string ⟨b1.toArray⟩, .string ⟨b2.toArray⟩, .string ⟨c1.toArray⟩, .string ⟨c2.toArray⟩, .string ⟨w2s.toArray⟩] from rfl]
  have hcB : Chg (fun _ => False) w3 (w3.alloc (.cells #[.int .i64 kk, .string ⟨#[]⟩, .string ⟨#[]⟩, .string ⟨who.toArray⟩, .string ⟨b1.toArray⟩, .string ⟨b2.toArray⟩, .string ⟨c1.toArray⟩, .string ⟨c2.toArray⟩, .string ⟨w2s.toArray⟩] 25)) := (Chg.refl _ w3).alloc _
  have hB : (w3.alloc (.cells #[.int .i64 kk, .string ⟨#[]⟩, .string ⟨#[]⟩, .string ⟨who.toArray⟩, .string ⟨b1.toArray⟩, .string ⟨b2.toArray⟩, .string ⟨c1.toArray⟩, .string ⟨c2.toArray⟩, .string ⟨w2s.toArray⟩] 25)).heap[w3.heap.size]? = some (.cells (credBox ⟨kk, noneR, who, (b1, b2), (c1, c2), w2s⟩) 25 (0, 0)) := heap_alloc_new w3 _
  have hA4 := blk_keep hA3 hcB id
  have hcw4 := hcw3.trans hcB (fun _ _ h => h)
  have HG := hid (And.intro hB (And.intro hA4 hcw4))
  clear hcB hB hA3 hA4 hcw3 hcw4
  go_wp2_with fail
  obtain ⟨hB, hA4, hcw4⟩ := HG.out
  clear HG
  generalize w3.alloc (.cells #[.int .i64 kk, .string ⟨#[]⟩, .string ⟨#[]⟩, .string ⟨who.toArray⟩, .string ⟨b1.toArray⟩, .string ⟨b2.toArray⟩, .string ⟨c1.toArray⟩, .string ⟨c2.toArray⟩, .string ⟨w2s.toArray⟩] 25) = w4 at *
  generalize w3.heap.size = B at *
  refine (pparserole x w4 hx).mono ?_
  rintro e w5 ⟨rfl, hc5⟩
  have hrl := pc_roleOr_len x
  obtain ⟨⟨p1, q1⟩, hr⟩ : ∃ r, roleOr x = r := ⟨_, rfl⟩
  have HP2 : Hid (progC s = ⟨kk, (p1, q1), who, (b1, b2), (c1, c2), w2s⟩) := hid (by rw [HP.out, hr]; exact HP1.out _)
  rw [hr] at hrl
  rw [hr, show roleV (p1, q1) = .agg #[.string ⟨p1.toArray⟩, .string ⟨q1.toArray⟩] from rfl]
  dsimp only at hrl
  clear HP HP1 hr
  have hA5 := blk_keep hA4 hc5 id
  have hB5 := blk_keep hB hc5 id
  have hcw5 := hcw4.trans hc5 (fun _ _ h => h)
  clear hc5 hA4 hB hcw4
  obtain ⟨xb0, xb1, xb2, xb3, xb4, xb5, xb6, xb7, xb8⟩ := cred_at_blk hB5
  simp only [Nat.zero_add, noneR] at xb0 xb1 xb2 xb3 xb4 xb5 xb6 xb7 xb8
  have g1 := froz_blk hB5 1
  have g2 := froz_blk hB5 2
  have hBw : ¬ B < w.heap.size := by have := HA.out; omega
  have hcs := (setCell_chg w5 B 1 (.string ⟨p1.toArray⟩)).trans (setCell_chg _ B 2 (.string ⟨q1.toArray⟩)) (fun _ _ h => h)
  have hB6 : ((w5.setCell ⟨B, 1, none⟩ (.string ⟨p1.toArray⟩)).setCell ⟨B, 2, none⟩ (.string ⟨q1.toArray⟩)).heap[B]? = some (.cells (credBox ⟨kk, (p1, q1), who, (b1, b2), (c1, c2), w2s⟩) 25 (0, 0)) := by
    have hset := set_blk (set_blk hB5 1 (.string ⟨p1.toArray⟩)) 2 (.string ⟨q1.toArray⟩)
    simpa [credBox, noCred, noneR] using hset
  have hA6 := blk_keep hA5 hcs (show ¬ A = B by omega)
  have hcw6 : Chg (fun _ => False) w ((w5.setCell ⟨B, 1, none⟩ (.string ⟨p1.toArray⟩)).setCell ⟨B, 2, none⟩ (.string ⟨q1.toArray⟩)) := hcw5.trans hcs (fun i hi e => by have : i = B := e; omega)
  have hcsh : credShort ⟨kk, (p1, q1), who, (b1, b2), (c1, c2), w2s⟩ 9223372036854775807 := ⟨by show p1.length ≤ _; omega, by show q1.length ≤ _; omega, by show who.length ≤ _; omega, by show b1.length ≤ _; omega, by show b2.length ≤ _; omega, by show c1.length ≤ _; omega, by show c2.length ≤ _; omega, by show w2s.length ≤ _; omega⟩
  have hrt := pcright ⟨kk, (p1, q1), who, (b1, b2), (c1, c2), w2s⟩ ((w5.setCell ⟨B, 1, none⟩ (.string ⟨p1.toArray⟩)).setCell ⟨B, 2, none⟩ (.string ⟨q1.toArray⟩)) hcsh
  obtain ⟨xd0, xd1, xd2, xd3, xd4, xd5, xd6, xd7, xd8⟩ := cred_at_blk hB6
  simp only [Nat.zero_add] at xd0 xd1 xd2 xd3 xd4 xd5 xd6 xd7 xd8
  have HG := hid (And.intro hrt (And.intro hB6 (And.intro hA6 hcw6)))
  clear hA5 hB5 hcw5 hcs hB6 hA6 hcw6 hcsh hrt hsw hsb hsc hs2 hrl hx hy hs
  go_wp2_with fail
  clear xb0 xb1 xb2 xb3 xb4 xb5 xb6 xb7 xb8 xd0 xd1 xd2 xd3 xd4 xd5 xd6 xd7 xd8 g1 g2
  obtain ⟨hrt, hB6, hA6, hcw6⟩ := HG.out
  clear HG
  refine hrt.mono ?_
  rintro e w7 ⟨rfl, hc7⟩
  have hA7 := blk_keep hA6 hc7 id
  have hB7 := blk_keep hB6 hc7 id
  have hcw7 := hcw6.trans hc7 (fun _ _ h => h)
  clear hrt hA6 hB6 hcw6 hc7
  obtain ⟨a0, a1, a2, a3, a4, a5, a6, a7, a8⟩ := cred_at_blk hA7
  simp only [Nat.zero_add, noCred, noneR] at a0 a1 a2 a3 a4 a5 a6 a7 a8
  have f0 := froz_blk hA7 0
  have f1 := froz_blk hA7 1
  have f2 := froz_blk hA7 2
  have f3 := froz_blk hA7 3
  have f4 := froz_blk hA7 4
  have f5 := froz_blk hA7 5
  have f6 := froz_blk hA7 6
  have f7 := froz_blk hA7 7
  have f8 := froz_blk hA7 8
  cases hr : isCred ⟨kk, (p1, q1), who, (b1, b2), (c1, c2), w2s⟩ with
  | true =>
    have HF : Hid (parseC s = some ⟨kk, (p1, q1), who, (b1, b2), (c1, c2), w2s⟩) := hid (by rw [← progC_eq, HP2.out, someIf]; exact if_pos hr)
    have hD := setCred_blk ⟨kk, (p1, q1), who, (b1, b2), (c1, c2), w2s⟩ hA7
    have hch : Chg (fun _ => False) w (setCred w7 A ⟨kk, (p1, q1), who, (b1, b2), (c1, c2), w2s⟩) := hcw7.trans (setCred_chg w7 A _) (fun i hi e => by have := HA.out; have : i = A := e; omega)
    obtain ⟨xb0, xb1, xb2, xb3, xb4, xb5, xb6, xb7, xb8⟩ := cred_at_blk hB7
    simp only [Nat.zero_add] at xb0 xb1 xb2 xb3 xb4 xb5 xb6 xb7 xb8
    have HX := hid (And.intro hD hch)
    clear hD hch hA7 hB7 hcw7 hr
    go_wp2
    refine bodyPost_ret (results_cred rfl _ _ A ⟨kk, (p1, q1), who, (b1, b2), (c1, c2), w2s⟩ rfl HX.out.1) rfl ?_
    exact ⟨by rw [HF.out]; rfl, HX.out.2⟩
  | false =>
    have HF : Hid (parseC s = none) := hid (by rw [← progC_eq, HP2.out]; exact someIf_no hr)
    have hD := setCred_blk noCred hA7
    have hch : Chg (fun _ => False) w (setCred w7 A noCred) := hcw7.trans (setCred_chg w7 A _) (fun i hi e => by have := HA.out; have : i = A := e; omega)
    have HX := hid (And.intro hD hch)
    clear hD hch hA7 hB7 hcw7 hr
    go_wp2
    refine bodyPost_ret (results_cred rfl _ _ A noCred rfl HX.out.1) rfl ?_
    exact ⟨by rw [HF.out]; rfl, HX.out.2⟩
end Go.Proofs.Ytjohiggfjpfbeaa
