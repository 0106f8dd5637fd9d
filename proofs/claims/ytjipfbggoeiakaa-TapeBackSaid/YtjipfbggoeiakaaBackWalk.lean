/- The walk of the law TapeBack. -/
import Derived.Test.YtjipfbggoeiakaaBackReads
import Derived.Test.YtjipfbggoeiakaaFirst
import Derived.Maps.AppendAt
namespace Go.Proofs.Ytjipfbggoeiakaa
open Go.RowKit

theorem Try.info29 : (Try.prog.info? 29).map (fun i => (i.zero, i.size, i.bytes)) = some (some (.agg #[.int .i64 0, .int .i64 0, .slice none 0 0]), 3, 40) := by kernel_rfl

def finSpecs (G Q P2 : Nat) (l : List UInt8) : List Spec := [.any, .bytes l.length l, .any, .any, .eq (.bool true), .any, .any, .any, .any, .eq (.pointer (some ⟨G, 0, none⟩)), .eq (.int .i64 0), .eq (.pointer (some ⟨Q, 0, none⟩)), .eq (.int .i64 0), .any, .any, .any, .any, .any, .any, .any, .any, .any, .any, .any, .any, .any, .any, .any, .any, .any, .any, .any, .any, .any, .any, .any, .any, .any, .any, .any, .any, .any, .any, .any, .any, .any, .any, .any, .any, .any, .any, .any, .any, .any, .any, .any, .any, .any, .any, .any, .any, .any, .any, .any, .any, .any, .any, .any, .any, .any, .any, .eq (.bool true), .eq (.bool true), .eq (.int .i64 0), .eq (.bool true), .eq (.bool true), .eq (.bool true), .eq (.int .i64 0), .eq (.bool false), .eq (.bool false), .eq (.pointer (some ⟨P2, 0, none⟩)), .bytes l.length l, .eq (.string ⟨l.toArray⟩), .bytes l.length l, .eq (.string ⟨l.toArray⟩), .eq (.bool true), .eq (.bool true), .eq (.bool true)]
def finSpecsBad (G Q : Nat) (f : Int) (l : List UInt8) : List Spec := [.any, .bytes l.length l, .any, .any, .eq (.bool true), .any, .any, .any, .any, .eq (.pointer (some ⟨G, 0, none⟩)), .eq (.int .i64 0), .eq (.pointer (some ⟨Q, 0, none⟩)), .eq (.int .i64 f), .any, .any, .any, .any, .any, .any, .any, .any, .any, .any, .any, .any, .any, .any, .any, .any, .any, .any, .any, .any, .any, .any, .any, .any, .any, .any, .any, .any, .any, .any, .any, .any, .any, .any, .any, .any, .any, .any, .any, .any, .any, .any, .any, .any, .any, .any, .any, .any, .any, .any, .any, .any, .any, .any, .any, .any, .any, .any, .eq (.bool true), .eq (.bool true), .eq (.int .i64 0), .eq (.bool true), .eq (.bool true), .eq (.bool true), .eq (.int .i64 f), .eq (.bool true), .eq (.bool true), .any, .any, .any, .any, .any, .any, .eq (.bool true), .eq (.bool true)]

set_option maxRecDepth 100000 in
set_option maxHeartbeats 8000000 in
theorem back_walk (ao0 : Option Addr) (cp0 : Nat) (ops : List OpR) (ao1 : Option Addr) (cp1 : Nat) (l : List UInt8) (w : World) (hlen : ops.length ≤ 9223372036854775807) (hop : OpsAt (fun k => k < w.heap.size) w ao0 ops) (hl : l.length ≤ 2000) (hv : BytesAt (fun k => k < w.heap.size) w (.slice ao1 l.length cp1) l) :
    Calls Try.prog 6 #[.slice ao0 ops.length cp0, .slice ao1 l.length cp1] w fun e w' => e = .returned (.bool true) ∧ Chg (fun _ => False) w w' := by
  have d0 : decide (2000 < (l.length : Int)) = false := by simp; omega
  go_enter Try.func6, Try.ntmps6
  go_wp2_with (go_at_call 9; refine (first_any _).mono ?_; rintro e w1 ⟨rfl, hc1⟩)
  obtain ⟨P, hP⟩ : ∃ P, P = w1.heap.size := ⟨_, rfl⟩
  have hi0 : InvB P (P + 1) [] [] w ((w1.alloc (.cells #[.slice none 0 0] 27)).alloc (.cells #[.slice none 0 0] 22)) := by
    have h1 := pen_new w1 (P + 1 + 1)
    have h2 := heap_alloc_new (w1.alloc (.cells #[.slice none 0 0] 27)) (.cells #[.slice none 0 0] 22)
    have h3 := (Chg.refl (fun _ => False) (w1.alloc (.cells #[.slice none 0 0] 27))).alloc (.cells #[.slice none 0 0] 22)
    rw [show (w1.alloc (.cells #[.slice none 0 0] 27)).heap.size = P + 1 from by rw [hP]; simp] at h2
    rw [← hP] at h1
    exact ⟨⟨none, 0, none, 0, h1.keep h3 id (fun _ _ => id), h2, World.ownsRow_nil _ _ _ _, fun g h => by cases h⟩, (hc1.alloc _).alloc _⟩
  have hwP : w.heap.size ≤ P := by rw [hP]; exact hc1.size
  rw [← hP]
  clear hP hc1
  generalize (w1.alloc (.cells #[.slice none 0 0] 27)).alloc (.cells #[.slice none 0 0] 22) = w2 at *
  go_loopw [22] (fun i wr => ∃ (k : Nat) (acc : List UInt8) (ps : List (OpR × Value)), i = .int .i64 k ∧ k ≤ ops.length ∧ k ≤ 60 ∧ acc.length ≤ k * 400 ∧ ps.length ≤ k ∧ InvB P (P + 1) acc ps w wr ∧ Hid (acc = encAll (ps.map (·.1))) ∧
    Hid (∀ p ∈ ps, Taken p.1 ∧ BytesAt (fun k => k < w.heap.size) w p.2 p.1.b ∧ (-9223372036854775808 ≤ p.1.kind ∧ p.1.kind ≤ 9223372036854775807) ∧ (-9223372036854775808 ≤ p.1.n ∧ p.1.n ≤ 9223372036854775807))) (fun i _ => ops.length - (intOf i).toNat)
  case atStart => exact ⟨0, [], [], rfl, Nat.zero_le _, Nat.zero_le _, Nat.zero_le _, Nat.zero_le _, hi0, rfl, hid (fun p hp => by cases hp)⟩
  case round =>
    clear hi0
    obtain ⟨k, acc, ps, rfl, hk, hk60, hal, hpl, hi, HA, HP⟩ := hrel
    by_cases hlt : k < ops.length
    · obtain ⟨b, off, rfl, hbL, ⟨c0, x1, x2⟩, ⟨c1, y1, y2⟩, vb, c2, hvb⟩ := hop k hlt
      obtain ⟨ao2, cp2, rfl⟩ := hvb.shape
      replace c0 := hi.chg.cell c0 id
      replace c1 := hi.chg.cell c1 id
      replace c2 := hi.chg.cell c2 id
      clear hop
      generalize ops[k] = x at *
      obtain ⟨kd, n, bz⟩ := x
      dsimp only at *
      have hcq := (hi.chg).alloc (.cells #[.int .i64 kd, .int .i64 n, .slice ao2 bz.length cp2] 29)
      by_cases h60 : 60 ≤ k
      · have e1 : decide (60 ≤ (k : Int)) = true := by simp; omega
        go_wp2
        go_ret
        exact ⟨rfl, hcq⟩
      · have e1 : decide (60 ≤ (k : Int)) = false := by simp; omega
        by_cases hb3 : 300 < bz.length
        · have e2 : decide (300 < (bz.length : Int)) = true := by simp; omega
          go_wp2
          go_ret
          exact ⟨rfl, hcq⟩
        · have e2 : decide (300 < (bz.length : Int)) = false := by simp; omega
          have hQ := heap_alloc_new wr (.cells #[.int .i64 kd, .int .i64 n, .slice ao2 bz.length cp2] 29)
          have hsz : wr.heap.size < (wr.alloc (.cells #[.int .i64 kd, .int .i64 n, .slice ao2 bz.length cp2] 29)).heap.size := by simp
          have hPV : P < wr.heap.size ∧ P + 1 < wr.heap.size := by
            obtain ⟨⟨a, c, a2, c2, g1, g2, _⟩, _⟩ := hi
            exact ⟨lt_blk g1.cell, lt_blk g2⟩
          obtain ⟨i0, hi0, hz0, hz1, hz2⟩ := info_parts Try.info29
          have hca := (Chg.refl (fun _ => False) wr).alloc (.cells #[.int .i64 kd, .int .i64 n, .slice ao2 bz.length cp2] 29)
          obtain ⟨⟨a, c, a2, c2', m1, m2, m3, g4⟩, m5⟩ := hi
          have hrow : ∀ k, rowOf a = some k → k < wr.heap.size ∧ P + 1 + 1 ≤ k := fun k hk => have z := m1.row.lt k ((rowOf_block _ _ _).trans hk); ⟨z.2, z.1⟩
          have g1 := m1.keep hca id (fun _ _ => id)
          have g2 := blk_keep m2 hca id
          have g3 := ownsRow_keep m3 hca (fun _ _ => id)
          have g5 := m5.trans hca (fun _ _ h => h)
          clear m1 m2 m3 m5 hca
          by_cases hev : kd.tmod 2 = 0
          · have z1 : (kd.tmod 2 == 0) = true := by simpa using hev
            have z2 : (kd.tmod 2 != 0) = false := by simp [hev]
            by_cases hn : 0 ≤ n
            · obtain ⟨m, rfl⟩ : ∃ m : Nat, n = m := ⟨n.toNat, by omega⟩
              have HT : Hid (Taken ⟨kd, m, bz⟩) := hid ⟨fun _ => by dsimp only; omega, fun h => absurd hev h⟩
              have hel := enc_length9 (n := m) (by omega)
              go_wp2_with fail
              clear c0 c1 c2 hcq e1 e2
              generalize wr.alloc (.cells #[.int .i64 kd, .int .i64 m, .slice ao2 bz.length cp2] 29) = wq at *
              generalize wr.heap.size = Q at *
              refine (pnum_any (P + 1 + 1) P c m a acc wq (by omega) g1 (by omega) (by omega) (by omega)).mono ?_
              rintro e w5 ⟨rfl, hpo⟩
              have hi5 := InvB.pstep (by omega) hwP g1 g2 g3 g4 g5 hpo
              obtain ⟨a', c', _, hpc⟩ := hpo
              have hQ5 := blk_keep hQ hpc.chg (by rintro (h | h); · omega
                                                  · have := hrow _ h; omega)
              have hs5 := hpc.chg.size
              clear g1 g2 g3 g4 g5 hpc hrow hQ
              obtain ⟨⟨a, c, a2, c2, g1, g2, g3, g4⟩, g5⟩ := hi5
              have q0 := cell_blk hQ5 0
              have q1 := cell_blk hQ5 1
              have q2 := cell_blk hQ5 2
              have v0 := cell_blk g2 0
              simp only [List.getElem?_toArray, List.getElem?_cons_zero, List.getElem?_cons_succ] at q0 q1 q2 v0
              have HE := hid hev
              clear hev z1 z2 hQ5
              go_wp2_with (at_builtin; refine wpList_append_own_at _ rfl (.tmp 57) (.tmp 59) 22 rfl (P + 1 + 1) 29 i0 (.agg #[.int .i64 0, .int .i64 0, .slice none 0 0]) 3 40 Try.underlying22 hi0 hz0 hz1 hz2 rfl (by decide) _ _ _ rfl (g3.alloc _) ⟨w5.heap.size, 0, none⟩ 1 1 (opCells (⟨kd, (m : Int), bz⟩, .slice ao2 bz.length cp2)) rfl rfl ?ca1 ?ca2 ?ca3 ?ca4 ?ca5 ?_)
              case ca1 =>
                intro j u hj
                rw [add_off, cell_blk (heap_alloc_new w5 _), Nat.zero_add]
                simpa [opCells] using hj
              case ca2 =>
                intro u hu
                simp only [opCells, List.mem_cons, List.not_mem_nil, or_false] at hu
                rcases hu with rfl | rfl | rfl <;> rfl
              case ca3 => unfold maxLen; omega
              case ca4 => omega
              case ca5 => simp; omega
              intro v' w6 hown hgrow _ hat
              obtain ⟨a', c', rfl, k0, k1, hi6⟩ := InvB.dstep (p := (⟨kd, (m : Int), bz⟩, .slice ao2 bz.length cp2)) (by omega) hwP g1 g2 g3 g4 g5 ((Chg.refl _ w5).alloc _) hown hgrow hat (by simp)
              clear hown hgrow hat g1 g2 g3 g4 g5 q0 q1 q2 v0
              go_wp2
              go_roundw
              case rel =>
                refine ⟨k + 1, acc ++ enc m, ps ++ [(⟨kd, (m : Int), bz⟩, .slice ao2 bz.length cp2)], by go_num, by omega, by omega, ?_, by simp; omega, hi6, ?_, ?_⟩
                · simp only [List.length_append]; omega
                · refine hid ?_
                  rw [HA.out, List.map_append, encAll_append]
                  simp [encAll, encOp, HE.out]
                · refine hid (fun p hp => ?_)
                  rcases List.mem_append.1 hp with h | h
                  · exact HP.out p h
                  · rw [List.mem_singleton.1 h]
                    exact ⟨HT.out, hvb, ⟨x1, x2⟩, ⟨y1, y2⟩⟩
              case measure => simp [intOf]; omega
            · have z3 : (n < 0) := by omega
              go_wp2_with fail
              clear c0 c1 c2 hcq e1 e2
              generalize wr.alloc (.cells #[.int .i64 kd, .int .i64 n, .slice ao2 bz.length cp2] 29) = wq at *
              generalize wr.heap.size = Q at *
              have hQ5 := hQ
              have q0 := cell_blk hQ5 0
              simp only [List.getElem?_toArray, List.getElem?_cons_zero] at q0
              refine (pnum_neg P n z3 wq).mono ?_
              rintro e w5 ⟨rfl, rfl⟩
              clear hQ hQ5
              have HE := hid hev
              clear hev
              go_wp2
              go_roundw
              case rel => exact ⟨k + 1, acc, ps, by go_num, by omega, by omega, by omega, by omega, ⟨⟨a, c, a2, c2', g1, g2, g3, g4⟩, g5⟩, HA, HP⟩
              case measure => simp [intOf]; omega
          · have z1 : (kd.tmod 2 == 0) = false := by simpa using hev
            have z2 : (kd.tmod 2 != 0) = true := by simp [hev]
            have HT : Hid (Taken ⟨kd, n, bz⟩) := hid ⟨fun h => absurd h hev, fun _ => by dsimp only; omega⟩
            have hel := enc_length9 (n := bz.length) (by omega)
            have hvq := hvb.keep g5 (fun _ _ => id)
            go_wp2_with fail
            clear c0 c1 c2 hcq e1 e2
            generalize wr.alloc (.cells #[.int .i64 kd, .int .i64 n, .slice ao2 bz.length cp2] 29) = wq at *
            generalize wr.heap.size = Q at *
            refine (text_any (P + 1 + 1) P c a acc bz _ wq g1 (by omega) (by omega) (by omega) (by omega) hvq (fun i hi => ⟨by omega, fun h => by have := hrow _ h; omega⟩)).mono ?_
            rintro e w5 ⟨rfl, hpo⟩
            have hi5 := InvB.pstep (by omega) hwP g1 g2 g3 g4 g5 hpo
            obtain ⟨a', c', _, hpc⟩ := hpo
            have hQ5 := blk_keep hQ hpc.chg (by rintro (h | h); · omega
                                                · have := hrow _ h; omega)
            have hs5 := hpc.chg.size
            clear g1 g2 g3 g4 g5 hpc hrow hQ hvq
            obtain ⟨⟨a, c, a2, c2, g1, g2, g3, g4⟩, g5⟩ := hi5
            have q0 := cell_blk hQ5 0
            have q1 := cell_blk hQ5 1
            have q2 := cell_blk hQ5 2
            have v0 := cell_blk g2 0
            simp only [List.getElem?_toArray, List.getElem?_cons_zero, List.getElem?_cons_succ] at q0 q1 q2 v0
            have HE := hid hev
            clear hev z1 z2 hQ5
            go_wp2_with (at_builtin; refine wpList_append_own_at _ rfl (.tmp 57) (.tmp 59) 22 rfl (P + 1 + 1) 29 i0 (.agg #[.int .i64 0, .int .i64 0, .slice none 0 0]) 3 40 Try.underlying22 hi0 hz0 hz1 hz2 rfl (by decide) _ _ _ rfl (g3.alloc _) ⟨w5.heap.size, 0, none⟩ 1 1 (opCells (⟨kd, n, bz⟩, .slice ao2 bz.length cp2)) rfl rfl ?cb1 ?cb2 ?cb3 ?cb4 ?cb5 ?_)
            case cb1 =>
              intro j u hj
              rw [add_off, cell_blk (heap_alloc_new w5 _), Nat.zero_add]
              simpa [opCells] using hj
            case cb2 =>
              intro u hu
              simp only [opCells, List.mem_cons, List.not_mem_nil, or_false] at hu
              rcases hu with rfl | rfl | rfl <;> rfl
            case cb3 => unfold maxLen; omega
            case cb4 => omega
            case cb5 => simp; omega
            intro v' w6 hown hgrow _ hat
            obtain ⟨a', c', rfl, k0, k1, hi6⟩ := InvB.dstep (p := (⟨kd, n, bz⟩, .slice ao2 bz.length cp2)) (by omega) hwP g1 g2 g3 g4 g5 ((Chg.refl _ w5).alloc _) hown hgrow hat (by simp)
            clear hown hgrow hat g1 g2 g3 g4 g5 q0 q1 q2 v0
            go_wp2
            go_roundw
            case rel =>
              refine ⟨k + 1, acc ++ (enc bz.length ++ bz), ps ++ [(⟨kd, n, bz⟩, .slice ao2 bz.length cp2)], by go_num, by omega, by omega, ?_, by simp; omega, hi6, ?_, ?_⟩
              · simp only [List.length_append]; omega
              · refine hid ?_
                rw [HA.out, List.map_append, encAll_append]
                simp [encAll, encOp, HE.out]
              · refine hid (fun p hp => ?_)
                rcases List.mem_append.1 hp with h | h
                · exact HP.out p h
                · rw [List.mem_singleton.1 h]
                  exact ⟨HT.out, hvb, ⟨x1, x2⟩, ⟨y1, y2⟩⟩
            case measure => simp [intOf]; omega
    · have hk2 : k = ops.length := by omega
      have hmf : ∀ (fn : Fn) (first cap : Array Value) (w : World), (Instr.makeFunc fn first cap).run Try.prog w = .ok (.func fn first cap) w := fun _ _ _ _ => rfl
      obtain ⟨⟨a, c, a2, c2, m1, m2, m3, m4⟩, m5⟩ := hi
      have hGn := heap_alloc_new wr (.cells #[.bool true] 4)
      have hca := (Chg.refl (fun _ => False) wr).alloc (.cells #[.bool true] 4)
      have hra : ∀ k, rowOf a2 = some k → k < wr.heap.size := fun k hk => (ownsRow_lt m3 k ((rowOf_block _ _ _).trans hk)).2
      have hVl := lt_blk m2
      have hsz : (wr.alloc (.cells #[.bool true] 4)).heap.size = wr.heap.size + 1 := by simp
      have n1 := m1.keep hca id (fun _ _ => id)
      have n2 := blk_keep m2 hca id
      have n3 := ownsRow_keep m3 hca (fun _ _ => id)
      have n5 := m5.trans hca (fun _ _ h => h)
      clear m1 m2 m3 m4 m5 hca hop hk2
      go_wp2_with fail
      generalize wr.alloc (.cells #[.bool true] 4) = wg at *
      generalize wr.heap.size = G at *
      refine (bytes_any (P + 1 + 1) P c a acc wg n1 (by omega)).mono ?_
      rintro e w3 ⟨ao3, cp3, rfl, hb3, hc3⟩
      have s3 := hc3.size
      have hr1 := back_read1 (LO := w.heap.size) (V := P + 1) (G := G) (ps := ps) (acc := acc) (a2 := a2) (ao := ao3) (c2 := c2) (cp := cp3) (w := w3) (by omega) (by omega) (by omega) (by omega) (by omega) HA.out (fun p hp => (HP.out p hp).1)
        (fun p hp => ⟨(HP.out p hp).2.1.keep (n5.trans hc3 (fun _ _ h => h)) (fun _ _ => id), (HP.out p hp).2.2⟩) (blk_keep n2 hc3 id) (ownsRow_keep n3 hc3 (fun _ _ => id)) hra (blk_keep hGn hc3 id) (hb3.mono (fun i hi => by omega))
      have n6 := n5.trans hc3 (fun _ _ h => h)
      clear n1 n2 n3 n5 hGn hb3
      go_wp2_with fail
      refine hr1.mono ?_
      rintro e w4 ⟨rfl, hg4, hc4⟩
      have n7 : Chg (fun _ => False) w w4 := n6.trans hc4 (fun i hi h => by omega)
      have s4 := hc4.size
      clear hr1 n6 hc4 hc3 hmf
      have hp5 := pen_new w4
      have hcb := ((Chg.refl (fun _ => False) (w4.alloc (.cells #[.slice none 0 0] 27))).alloc (.cells #[.pointer (some ⟨w4.heap.size, 0, none⟩)] 24))
      have hQ5 := heap_alloc_new (w4.alloc (.cells #[.slice none 0 0] 27)) (.cells #[.pointer (some ⟨w4.heap.size, 0, none⟩)] 24)
      rw [show (w4.alloc (.cells #[.slice none 0 0] 27)).heap.size = w4.heap.size + 1 from by simp] at hQ5
      have hca4 := (Chg.refl (fun _ => False) w4).alloc (.cells #[.slice none 0 0] 27)
      have hz5 : ((w4.alloc (.cells #[.slice none 0 0] 27)).alloc (.cells #[.pointer (some ⟨w4.heap.size, 0, none⟩)] 24)).heap.size = w4.heap.size + 2 := by simp
      have hP5 : ∀ B, PenAt B ((w4.alloc (.cells #[.slice none 0 0] 27)).alloc (.cells #[.pointer (some ⟨w4.heap.size, 0, none⟩)] 24)) w4.heap.size none 0 [] := fun B => (hp5 B).keep hcb id (fun _ h => by cases h)
      have n8 := n7.trans (hca4.trans hcb (fun _ _ h => h)) (fun _ _ h => h)
      have hg5 := blk_keep hg4 (hca4.trans hcb (fun _ _ h => h)) id
      clear hp5 hcb hca4 n7 hg4
      go_wp2_with fail
      have hr2 := back_read2 (LO := w.heap.size) (P := w4.heap.size) (Q := w4.heap.size + 1) (l := l) (ao := ao1) (cp := cp1) (by omega) (by omega) (by omega) hl (hv.keep n8 (fun _ _ => id)) hP5 hQ5
      have hl4 : w.heap.size ≤ w4.heap.size := by omega
      have hG4 : G < w4.heap.size := by omega
      clear hQ5 hP5 hz5
      generalize w4.heap.size = P2 at *
      generalize (w4.alloc (.cells #[.slice none 0 0] 27)).alloc (.cells #[.pointer (some ⟨P2, 0, none⟩)] 24) = w5 at *
      refine hr2.mono ?_
      clear hr2
      rintro e w6 ⟨hres, hQ6, hc6⟩
      have hgc := cell_blk (blk_keep hg5 hc6 (by omega)) 0
      have hqc := cell_blk hQ6 0
      simp only [List.getElem?_toArray, List.getElem?_cons_zero] at hgc hqc
      have hc9 : Chg (fun _ => False) w w6 := n8.trans hc6 (fun i hi h => by omega)
      clear n8 hg5 hc6 hQ6
      obtain ⟨Q, hQe⟩ : ∃ Q, Q = P2 + 1 := ⟨_, rfl⟩
      rw [← hQe] at hqc ⊢
      clear hQe
      rcases hres with ⟨hz, rfl, B, a9, c9, hpen⟩ | ⟨hz, rfl⟩
      · clear hz
        go_wp2_with fail
        refine wp_region_specs (finSpecs G Q P2 l) [71, 72, 73, 74, 75, 76, 77, 78, 79, 80, 81, 82, 83, 84, 85, 86, 87, 4] [1, 9, 10, 11, 12] (by kernel_rfl) (by kernel_rfl) (by rfl) (by kernel_rfl) ?startA ?obsA ?finA
        case startA =>
          simp only [List.forall_mem_cons]
          exact ⟨⟨_, rfl, _, _, rfl, rfl, (hv.keep hc9 (fun _ _ => id)).mono (fun _ _ => trivial)⟩, ⟨_, rfl, rfl⟩, ⟨_, rfl, rfl⟩, ⟨_, rfl, rfl⟩, ⟨_, rfl, rfl⟩, fun _ h => by cases h⟩
        case obsA =>
          refine Obs.cons none (by kernel_rfl) ?_ ?_
          · refine Ob.plain fun a w hR hk K k => ?_
            obtain ⟨_, e9, rfl⟩ := hk 9 (by decide)
            clear hk
            have q := hR.cell hgc id
            go_simp
            exact k _ _ (Chg.refl _ _) rfl
          refine Obs.cons none (by kernel_rfl) ?_ ?_
          · refine Ob.plain fun a w hR hk K k => ?_
            obtain ⟨_, e71, f71⟩ := hk 71 (by decide)
            clear hk
            go_simp
            exact k _ _ (Chg.refl _ _) f71
          refine Obs.cons (some (72, true)) (by kernel_rfl) ?_ ?_
          · refine Ob.yes (fun _ _ h => h) fun a w hR hk K k => ?_
            obtain ⟨_, e10, f10⟩ := hk 10 (by decide)
            clear hk
            go_simp
            exact k _ _ (Chg.refl _ _) f10
          refine Obs.cons (some (72, true)) (by kernel_rfl) ?_ ?_
          · refine Ob.yes (fun _ _ h => h) fun a w hR hk K k => ?_
            obtain ⟨_, e73, rfl⟩ := hk 73 (by decide)
            clear hk
            go_simp
            exact k _ _ (Chg.refl _ _) rfl
          refine Obs.cons none (by kernel_rfl) ?_ ?_
          · refine Ob.plain fun a w hR hk K k => ?_
            obtain ⟨_, e72, rfl⟩ := hk 72 (by decide)
            obtain ⟨_, e74, rfl⟩ := hk 74 (by decide)
            clear hk
            go_simp
            exact k _ _ (Chg.refl _ _) rfl
          refine Obs.cons none (by kernel_rfl) ?_ ?_
          · refine Ob.plain fun a w hR hk K k => ?_
            obtain ⟨_, e75, f75⟩ := hk 75 (by decide)
            clear hk
            go_simp
            exact k _ _ (Chg.refl _ _) f75
          refine Obs.cons (some (76, true)) (by kernel_rfl) ?_ ?_
          · refine Ob.yes (fun _ _ h => h) fun a w hR hk K k => ?_
            obtain ⟨_, e12, f12⟩ := hk 12 (by decide)
            clear hk
            go_simp
            exact k _ _ (Chg.refl _ _) f12
          refine Obs.cons (some (76, true)) (by kernel_rfl) ?_ ?_
          · refine Ob.yes (fun _ _ h => h) fun a w hR hk K k => ?_
            obtain ⟨_, e77, rfl⟩ := hk 77 (by decide)
            clear hk
            go_simp
            exact k _ _ (Chg.refl _ _) rfl
          refine Obs.cons (some (76, true)) (by kernel_rfl) ?_ ?_
          · refine Ob.yes (fun _ _ h => h) fun a w hR hk K k => ?_
            obtain ⟨_, e78, f78⟩ := hk 78 (by decide)
            clear hk
            go_simp
            exact k _ _ (Chg.refl _ _) f78
          refine Obs.cons (some (79, false)) (by kernel_rfl) ?_ ?_
          · refine Ob.yes (fun _ _ h => h) fun a w hR hk K k => ?_
            obtain ⟨_, e11, rfl⟩ := hk 11 (by decide)
            clear hk
            have q := hR.cell hqc id
            go_simp
            exact k _ _ (Chg.refl _ _) rfl
          refine Obs.cons (some (79, false)) (by kernel_rfl) ?_ ?_
          · refine Ob.yes (fun _ _ h => h) fun a w hR hk K k => ?_
            obtain ⟨_, e80, rfl⟩ := hk 80 (by decide)
            clear hk
            go_simp
            refine (bytes_any _ _ _ _ l _ (hpen.keep hR id (fun _ _ => id)) (by omega)).mono ?_
            rintro e w8 ⟨ao, cp, rfl, hb8, hc8⟩
            exact k _ _ hc8 ⟨ao, cp, rfl, rfl, hb8.mono (fun _ _ => trivial)⟩
          refine Obs.cons (some (79, false)) (by kernel_rfl) ?_ ?_
          · refine Ob.yes (fun _ _ h => h) fun a w hR hk K k => ?_
            obtain ⟨_, e81, f81⟩ := hk 81 (by decide)
            clear hk
            obtain ⟨a0, c0, rfl, l0, b0⟩ := f81
            have hcv := conv_bytes b0
            go_simp
            exact k _ _ (Chg.refl _ _) rfl
          refine Obs.cons (some (79, false)) (by kernel_rfl) ?_ ?_
          · refine Ob.yes (fun _ _ h => h) fun a w hR hk K k => ?_
            obtain ⟨_, e1, f1⟩ := hk 1 (by decide)
            clear hk
            go_simp
            exact k _ _ (Chg.refl _ _) f1
          refine Obs.cons (some (79, false)) (by kernel_rfl) ?_ ?_
          · refine Ob.yes (fun _ _ h => h) fun a w hR hk K k => ?_
            obtain ⟨_, e83, f83⟩ := hk 83 (by decide)
            clear hk
            obtain ⟨a0, c0, rfl, l0, b0⟩ := f83
            have hcv := conv_bytes b0
            go_simp
            exact k _ _ (Chg.refl _ _) rfl
          refine Obs.cons (some (79, false)) (by kernel_rfl) ?_ ?_
          · refine Ob.yes (fun _ _ h => h) fun a w hR hk K k => ?_
            obtain ⟨_, e82, rfl⟩ := hk 82 (by decide)
            obtain ⟨_, e84, rfl⟩ := hk 84 (by decide)
            clear hk
            go_simp
            exact k _ _ (Chg.refl _ _) rfl
          refine Obs.cons (some (76, true)) (by kernel_rfl) ?_ ?_
          · refine Ob.yes (fun _ _ h => h) fun a w hR hk K k => ?_
            obtain ⟨_, e79, rfl⟩ := hk 79 (by decide)
            obtain ⟨_, e85, rfl⟩ := hk 85 (by decide)
            clear hk
            go_simp
            exact k _ _ (Chg.refl _ _) rfl
          refine Obs.cons none (by kernel_rfl) ?_ ?_
          · refine Ob.plain fun a w hR hk K k => ?_
            obtain ⟨_, e76, rfl⟩ := hk 76 (by decide)
            obtain ⟨_, e86, rfl⟩ := hk 86 (by decide)
            clear hk
            go_simp
            exact k _ _ (Chg.refl _ _) rfl
          refine Obs.cons none (by kernel_rfl) ?_ ?_
          · refine Ob.plain fun a w hR hk K k => ?_
            obtain ⟨_, e87, f87⟩ := hk 87 (by decide)
            clear hk
            go_simp
            exact k _ _ (Chg.refl _ _) f87
          exact Obs.nil
        case finA =>
          intro vals w10 hc10 hvals
          have h4 : vals 4 = .bool true := hvals 4 (by decide)
          simp only [putAll, List.setIfInBounds_toArray, List.set_cons_zero, List.set_cons_succ, h4]
          go_wp2
          go_ret
          exact ⟨rfl, hc9.trans hc10 (fun _ _ h => h)⟩
      · obtain ⟨f, hfe⟩ : ∃ f : Int, f = (numsErr l.length l : Int) := ⟨_, rfl⟩
        have hfne : Hid ((f != 0) = true) := hid (by rw [hfe]; simp; omega)
        rw [← hfe]
        clear hfe hz
        go_wp2_with fail
        refine wp_region_specs (finSpecsBad G Q f l) [71, 72, 73, 74, 75, 76, 77, 78, 79, 80, 81, 82, 83, 84, 85, 86, 87, 4] [1, 9, 10, 11, 12] (by kernel_rfl) (by kernel_rfl) (by rfl) (by kernel_rfl) ?startB ?obsB ?finB
        case startB =>
          simp only [List.forall_mem_cons]
          exact ⟨⟨_, rfl, _, _, rfl, rfl, (hv.keep hc9 (fun _ _ => id)).mono (fun _ _ => trivial)⟩, ⟨_, rfl, rfl⟩, ⟨_, rfl, rfl⟩, ⟨_, rfl, rfl⟩, ⟨_, rfl, rfl⟩, fun _ h => by cases h⟩
        case obsB =>
          refine Obs.cons none (by kernel_rfl) ?_ ?_
          · refine Ob.plain fun a w hR hk K k => ?_
            obtain ⟨_, e9, rfl⟩ := hk 9 (by decide)
            clear hk
            have q := hR.cell hgc id
            go_simp
            exact k _ _ (Chg.refl _ _) rfl
          refine Obs.cons none (by kernel_rfl) ?_ ?_
          · refine Ob.plain fun a w hR hk K k => ?_
            obtain ⟨_, e71, f71⟩ := hk 71 (by decide)
            clear hk
            go_simp
            exact k _ _ (Chg.refl _ _) f71
          refine Obs.cons (some (72, true)) (by kernel_rfl) ?_ ?_
          · refine Ob.yes (fun _ _ h => h) fun a w hR hk K k => ?_
            obtain ⟨_, e10, f10⟩ := hk 10 (by decide)
            clear hk
            go_simp
            exact k _ _ (Chg.refl _ _) f10
          refine Obs.cons (some (72, true)) (by kernel_rfl) ?_ ?_
          · refine Ob.yes (fun _ _ h => h) fun a w hR hk K k => ?_
            obtain ⟨_, e73, rfl⟩ := hk 73 (by decide)
            clear hk
            go_simp
            exact k _ _ (Chg.refl _ _) rfl
          refine Obs.cons none (by kernel_rfl) ?_ ?_
          · refine Ob.plain fun a w hR hk K k => ?_
            obtain ⟨_, e72, rfl⟩ := hk 72 (by decide)
            obtain ⟨_, e74, rfl⟩ := hk 74 (by decide)
            clear hk
            go_simp
            exact k _ _ (Chg.refl _ _) rfl
          refine Obs.cons none (by kernel_rfl) ?_ ?_
          · refine Ob.plain fun a w hR hk K k => ?_
            obtain ⟨_, e75, f75⟩ := hk 75 (by decide)
            clear hk
            go_simp
            exact k _ _ (Chg.refl _ _) f75
          refine Obs.cons (some (76, true)) (by kernel_rfl) ?_ ?_
          · refine Ob.yes (fun _ _ h => h) fun a w hR hk K k => ?_
            obtain ⟨_, e12, f12⟩ := hk 12 (by decide)
            clear hk
            go_simp
            exact k _ _ (Chg.refl _ _) f12
          refine Obs.cons (some (76, true)) (by kernel_rfl) ?_ ?_
          · refine Ob.yes (fun _ _ h => h) fun a w hR hk K k => ?_
            obtain ⟨_, e77, rfl⟩ := hk 77 (by decide)
            clear hk
            have z := hfne.out
            go_simp
            exact k _ _ (Chg.refl _ _) rfl
          refine Obs.cons (some (76, true)) (by kernel_rfl) ?_ ?_
          · refine Ob.yes (fun _ _ h => h) fun a w hR hk K k => ?_
            obtain ⟨_, e78, f78⟩ := hk 78 (by decide)
            clear hk
            go_simp
            exact k _ _ (Chg.refl _ _) f78
          refine Obs.cons (some (79, false)) (by kernel_rfl) ?_ ?_
          · exact Ob.no (fun _ _ h => h) (Chg.refl _) (fun _ _ => trivial)
          refine Obs.cons (some (79, false)) (by kernel_rfl) ?_ ?_
          · exact Ob.no (fun _ _ h => h) (Chg.refl _) (fun _ _ => trivial)
          refine Obs.cons (some (79, false)) (by kernel_rfl) ?_ ?_
          · exact Ob.no (fun _ _ h => h) (Chg.refl _) (fun _ _ => trivial)
          refine Obs.cons (some (79, false)) (by kernel_rfl) ?_ ?_
          · exact Ob.no (fun _ _ h => h) (Chg.refl _) (fun _ _ => trivial)
          refine Obs.cons (some (79, false)) (by kernel_rfl) ?_ ?_
          · exact Ob.no (fun _ _ h => h) (Chg.refl _) (fun _ _ => trivial)
          refine Obs.cons (some (79, false)) (by kernel_rfl) ?_ ?_
          · exact Ob.no (fun _ _ h => h) (Chg.refl _) (fun _ _ => trivial)
          refine Obs.cons (some (76, true)) (by kernel_rfl) ?_ ?_
          · refine Ob.yes (fun _ _ h => h) fun a w hR hk K k => ?_
            obtain ⟨_, e79, rfl⟩ := hk 79 (by decide)
            obtain ⟨_, e85, f85⟩ := hk 85 (by decide)
            clear hk
            go_simp
            exact k _ _ (Chg.refl _ _) rfl
          refine Obs.cons none (by kernel_rfl) ?_ ?_
          · refine Ob.plain fun a w hR hk K k => ?_
            obtain ⟨_, e76, rfl⟩ := hk 76 (by decide)
            obtain ⟨_, e86, rfl⟩ := hk 86 (by decide)
            clear hk
            go_simp
            exact k _ _ (Chg.refl _ _) rfl
          refine Obs.cons none (by kernel_rfl) ?_ ?_
          · refine Ob.plain fun a w hR hk K k => ?_
            obtain ⟨_, e87, f87⟩ := hk 87 (by decide)
            clear hk
            go_simp
            exact k _ _ (Chg.refl _ _) f87
          exact Obs.nil
        case finB =>
          intro vals w10 hc10 hvals
          have h4 : vals 4 = .bool true := hvals 4 (by decide)
          simp only [putAll, List.setIfInBounds_toArray, List.set_cons_zero, List.set_cons_succ, h4]
          go_wp2
          go_ret
          exact ⟨rfl, hc9.trans hc10 (fun _ _ h => h)⟩
end Go.Proofs.Ytjipfbggoeiakaa
