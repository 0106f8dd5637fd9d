/- The document's Nodes and Deep of layer 11. -/
import Derived.Test.YtcbfieodjbfjdaaNc6
namespace Go.Proofs.Ytcbfieodjbfjdaa
open Go.RowKit

set_option maxRecDepth 100000 in
set_option maxHeartbeats 4000000 in
theorem rn_nodes {D : Nat → Prop} : ∀ (n : Nat) (f : FmB) (ao : Option Addr) (cp : Nat) (w : World), FmsAt D w n ao f.kids → FmOk f → nodesF f ≤ 1048576 →
    Calls Try.prog 47 #[.agg #[.int .i64 f.op, .int .i64 f.k, .string ⟨f.r.1.toArray⟩, .string ⟨f.r.2.toArray⟩, .slice ao f.kids.length cp]] w fun e w' => e = .returned (.int .i64 (nodesF f : Nat)) ∧ Chg (fun _ => False) w w' := by
  intro n
  induction n using Nat.strongRecOn with
  | _ n ih =>
  intro f ao cp w h hok hN
  have hnl := nodesL_len f.kids
  have hnf := nodesF_eq f
  have hdf := deepF_eq f
  have hdn := deep_nodes f
  have HX := hid h
  have HIN := hid ih
  have HOK := hid hok
  clear h ih hok
  have hcA : Chg (fun _ => False) w (w.alloc (.cells #[.int .i64 f.op, .int .i64 f.k, .string ⟨f.r.1.toArray⟩, .string ⟨f.r.2.toArray⟩, .slice ao f.kids.length cp] 26)) := (Chg.refl _ w).alloc _
  have hb := heap_alloc_new w (.cells #[.int .i64 f.op, .int .i64 f.k, .string ⟨f.r.1.toArray⟩, .string ⟨f.r.2.toArray⟩, .slice ao f.kids.length cp] 26)
  have s0 := cell_blk hb 0
  have s1 := cell_blk hb 1
  have s2 := cell_blk hb 2
  have s3 := cell_blk hb 3
  have s4 := cell_blk hb 4
  simp only [List.getElem?_toArray, List.getElem?_cons_zero, List.getElem?_cons_succ] at s0 s1 s2 s3 s4
  have HC0 := hid hcA
  have HB0 := hid hb
  clear hcA hb
  clear hdf hdn
  go_enter Try.func47, Try.ntmps47
  go_wp2
  go_loopw [3, 9] (fun a i wr => ∃ j m : Nat, j ≤ f.kids.length ∧ a = .int .i64 (m : Nat) ∧ i = .int .i64 j ∧ m ≤ 1048577 ∧ Hid (m = 1 + nodesL (f.kids.take j) ∧ Chg (fun _ => False) w wr)) (fun _ i _ => f.kids.length - (intOf i).toNat)
  case atStart => exact ⟨0, 1, Nat.zero_le _, rfl, rfl, by omega, hid ⟨rfl, HC0.out⟩⟩
  case round =>
    obtain ⟨j, m, hj, rfl, rfl, hm, hrel⟩ := hrel
    by_cases hlt : j < f.kids.length
    · have hcw := hrel.out.2
      obtain ⟨b, off, hao, hDb, hat⟩ := (HX.out.keep hcw (fun _ _ => id)) j hlt
      obtain ⟨d, ao2, cp2, hd2, ⟨a0, a1, a2, a3, a4⟩, hok2, hz2, hkids⟩ := hat.open_
      have hle1 := nodesL_mem (List.getElem_mem hlt)
      have hng := nodesL_get f.kids j hlt
      have hnt := nodesL_take f.kids (j + 1)
      have hm2 := hrel.out.1
      generalize f.kids[j] = g at *
      have HNG := hid (show m + nodesF g = 1 + nodesL (f.kids.take (j + 1)) by omega)
      have hmb : m + nodesF g ≤ 1048577 := by omega
      have hwr : IntKind.i64.wrap ((m : Int) + (nodesF g : Int)) = ((m + nodesF g : Nat) : Int) := by rw [IntKind.wrap_i64]; omega
      have hcB : Chg (fun _ => False) wr (wr.alloc (.cells #[.int .i64 g.op, .int .i64 g.k, .string ⟨g.r.1.toArray⟩, .string ⟨g.r.2.toArray⟩, .slice ao2 g.kids.length cp2] 26)) := (Chg.refl _ wr).alloc _
      have hnb := heap_alloc_new wr (.cells #[.int .i64 g.op, .int .i64 g.k, .string ⟨g.r.1.toArray⟩, .string ⟨g.r.2.toArray⟩, .slice ao2 g.kids.length cp2] 26)
      have t0 := cell_blk hnb 0
      have t1 := cell_blk hnb 1
      have t2 := cell_blk hnb 2
      have t3 := cell_blk hnb 3
      have t4 := cell_blk hnb 4
      simp only [List.getElem?_toArray, List.getElem?_cons_zero, List.getElem?_cons_succ] at t0 t1 t2 t3 t4
      have HIH := hid (HIN.out d hd2 g ao2 cp2 (wr.alloc (.cells #[.int .i64 g.op, .int .i64 g.k, .string ⟨g.r.1.toArray⟩, .string ⟨g.r.2.toArray⟩, .slice ao2 g.kids.length cp2] 26)) (hkids.keep hcB (fun _ _ => id)) hok2 (by omega))
      have HC2 := hid (hcw.trans hcB (fun _ _ h => h))
      have HLT := hid hlt
      clear hcB hnb hrel hkids hat hle1 hok2 hd2 hcw s0 s1 s2 s3 s4 hng hnt hm2
      subst hao
      go_wp2_with fail
      refine HIH.out.mono ?_
      rintro e w3 ⟨rfl, hc3⟩
      have HC3 := hid (HC2.out.trans hc3 (fun _ _ h => h))
      clear HIH HC2 hc3 a0 a1 a2 a3 a4 t0 t1 t2 t3 t4
      go_wp2
      go_roundw
      case rel => exact ⟨j + 1, m + nodesF g, HLT.out, by go_num, by go_num, hmb, hid ⟨HNG.out, HC3.out⟩⟩
      case measure => have := HLT.out; simp [intOf]; omega
    · have hje : j = f.kids.length := by omega
      have hr := hrel.out
      rw [hje, List.take_length, ← hnf] at hr
      have HR := hid hr
      clear hr hrel hje hm hnf
      go_wp2
      go_ret
      rw [HR.out.1]
      exact ⟨rfl, HR.out.2⟩

set_option maxRecDepth 100000 in
set_option maxHeartbeats 4000000 in
theorem rn_deep {D : Nat → Prop} : ∀ (n : Nat) (f : FmB) (ao : Option Addr) (cp : Nat) (w : World), FmsAt D w n ao f.kids → FmOk f → nodesF f ≤ 1048576 →
    Calls Try.prog 48 #[.agg #[.int .i64 f.op, .int .i64 f.k, .string ⟨f.r.1.toArray⟩, .string ⟨f.r.2.toArray⟩, .slice ao f.kids.length cp]] w fun e w' => e = .returned (.int .i64 (deepF f : Nat)) ∧ Chg (fun _ => False) w w' := by
  intro n
  induction n using Nat.strongRecOn with
  | _ n ih =>
  intro f ao cp w h hok hN
  have hnl := nodesL_len f.kids
  have hnf := nodesF_eq f
  have hdf := deepF_eq f
  have hdn := deep_nodes f
  have HX := hid h
  have HIN := hid ih
  have HOK := hid hok
  clear h ih hok
  have hcA : Chg (fun _ => False) w (w.alloc (.cells #[.int .i64 f.op, .int .i64 f.k, .string ⟨f.r.1.toArray⟩, .string ⟨f.r.2.toArray⟩, .slice ao f.kids.length cp] 26)) := (Chg.refl _ w).alloc _
  have hb := heap_alloc_new w (.cells #[.int .i64 f.op, .int .i64 f.k, .string ⟨f.r.1.toArray⟩, .string ⟨f.r.2.toArray⟩, .slice ao f.kids.length cp] 26)
  have s0 := cell_blk hb 0
  have s1 := cell_blk hb 1
  have s2 := cell_blk hb 2
  have s3 := cell_blk hb 3
  have s4 := cell_blk hb 4
  simp only [List.getElem?_toArray, List.getElem?_cons_zero, List.getElem?_cons_succ] at s0 s1 s2 s3 s4
  have HC0 := hid hcA
  have HB0 := hid hb
  clear hcA hb
  go_enter Try.func48, Try.ntmps48
  go_wp2
  go_loopw [3, 9] (fun a i wr => ∃ j m : Nat, j ≤ f.kids.length ∧ a = .int .i64 (m : Nat) ∧ i = .int .i64 j ∧ m ≤ 1048577 ∧ Hid (m = deepL (f.kids.take j) ∧ Chg (fun _ => False) w wr)) (fun _ i _ => f.kids.length - (intOf i).toNat)
  case atStart => exact ⟨0, 0, Nat.zero_le _, rfl, rfl, by omega, hid ⟨rfl, HC0.out⟩⟩
  case round =>
    obtain ⟨j, m, hj, rfl, rfl, hm, hrel⟩ := hrel
    by_cases hlt : j < f.kids.length
    · have hcw := hrel.out.2
      obtain ⟨b, off, hao, hDb, hat⟩ := (HX.out.keep hcw (fun _ _ => id)) j hlt
      obtain ⟨d, ao2, cp2, hd2, ⟨a0, a1, a2, a3, a4⟩, hok2, hz2, hkids⟩ := hat.open_
      have hle1 := nodesL_mem (List.getElem_mem hlt)
      have hng : deepL (f.kids.take (j + 1)) = max (deepL (f.kids.take j)) (deepF f.kids[j]) := by rw [List.take_succ_eq_append_getElem hlt, deepL_snoc]
      have hm2 := hrel.out.1
      generalize f.kids[j] = g at *
      have hdg := deep_nodes g
      have HNG := hid (show max m (deepF g) = deepL (f.kids.take (j + 1)) by omega)
      have hmb : deepF g ≤ 1048577 := by omega
      clear hdg
      have hcB : Chg (fun _ => False) wr (wr.alloc (.cells #[.int .i64 g.op, .int .i64 g.k, .string ⟨g.r.1.toArray⟩, .string ⟨g.r.2.toArray⟩, .slice ao2 g.kids.length cp2] 26)) := (Chg.refl _ wr).alloc _
      have hnb := heap_alloc_new wr (.cells #[.int .i64 g.op, .int .i64 g.k, .string ⟨g.r.1.toArray⟩, .string ⟨g.r.2.toArray⟩, .slice ao2 g.kids.length cp2] 26)
      have t0 := cell_blk hnb 0
      have t1 := cell_blk hnb 1
      have t2 := cell_blk hnb 2
      have t3 := cell_blk hnb 3
      have t4 := cell_blk hnb 4
      simp only [List.getElem?_toArray, List.getElem?_cons_zero, List.getElem?_cons_succ] at t0 t1 t2 t3 t4
      have HIH := hid (HIN.out d hd2 g ao2 cp2 (wr.alloc (.cells #[.int .i64 g.op, .int .i64 g.k, .string ⟨g.r.1.toArray⟩, .string ⟨g.r.2.toArray⟩, .slice ao2 g.kids.length cp2] 26)) (hkids.keep hcB (fun _ _ => id)) hok2 (by omega))
      have HC2 := hid (hcw.trans hcB (fun _ _ h => h))
      have HLT := hid hlt
      clear hcB hnb hrel hkids hat hle1 hok2 hd2 hcw s0 s1 s2 s3 s4 hng hm2
      subst hao
      go_wp2_with fail
      refine HIH.out.mono ?_
      rintro e w3 ⟨rfl, hc3⟩
      have HC3 := hid (HC2.out.trans hc3 (fun _ _ h => h))
      clear HIH HC2 hc3 a0 a1 a2 a3 a4 t0 t1 t2 t3 t4
      have HMB := hid hmb
      have HM := hid hm
      obtain ⟨dg, hdg⟩ : ∃ dg, dg = deepF g := ⟨_, rfl⟩
      rw [← hdg] at HNG HMB
      rw [← hdg]
      clear hdg hmb hm
      by_cases hlt2 : m < dg
      · have z1 : decide ((m : Int) < (dg : Int)) = true := decide_eq_true (by omega)
        have z2 : decide ((dg : Int) < (m : Int)) = false := decide_eq_false (by omega)
        have HNX : Hid (dg = deepL (f.kids.take (j + 1))) := hid (by rw [← HNG.out]; omega)
        go_wp2
        all_goals go_roundw
        case rel => exact ⟨j + 1, dg, HLT.out, (by first | go_num | (congr 1; split <;> omega) | (congr 1; omega) | simp), by go_num, HMB.out, hid ⟨HNX.out, HC3.out⟩⟩
        case measure => have := HLT.out; simp [intOf]; omega
      · have z1 : decide ((m : Int) < (dg : Int)) = false := decide_eq_false (by omega)
        have HNX : Hid (m = deepL (f.kids.take (j + 1))) := hid (by rw [← HNG.out]; omega)
        by_cases heq : dg = m
        · have z2 : decide ((dg : Int) < (m : Int)) = false := decide_eq_false (by omega)
          subst heq
          go_wp2
          all_goals go_roundw
          case rel => exact ⟨j + 1, dg, HLT.out, (by first | go_num | (congr 1; split <;> omega) | (congr 1; omega) | simp), by go_num, HM.out, hid ⟨HNX.out, HC3.out⟩⟩
          case measure => have := HLT.out; simp [intOf]; omega
        · have z2 : decide ((dg : Int) < (m : Int)) = true := decide_eq_true (by omega)
          go_wp2
          all_goals go_roundw
          case rel => exact ⟨j + 1, m, HLT.out, (by first | go_num | (congr 1; split <;> omega) | (congr 1; omega) | simp), by go_num, HM.out, hid ⟨HNX.out, HC3.out⟩⟩
          case measure => have := HLT.out; simp [intOf]; omega
    · have hje : j = f.kids.length := by omega
      have hr := hrel.out
      rw [hje, List.take_length] at hr
      have HR := hid hr
      have hwr : IntKind.i64.wrap ((m : Int) + 1) = ((1 + m : Nat) : Int) := by rw [IntKind.wrap_i64]; omega
      have HE : Hid (deepF f = 1 + m) := hid (by rw [hdf, hr.1])
      clear hr hrel hje hm hdf hdn
      go_wp2
      go_ret
      rw [HE.out]
      exact ⟨rfl, HR.out.2⟩
end Go.Proofs.Ytcbfieodjbfjdaa
