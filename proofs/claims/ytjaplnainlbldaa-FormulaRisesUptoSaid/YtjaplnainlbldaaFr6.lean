/- Texts that the proof leans on, in one: FmSize, Math, RefNum, EndOf, RefTape. -/
import Derived.Test.YtjaplnainlbldaaFr5
import Derived.Test.YtjaplnainlbldaaFr1
import Derived.Test.YtjaplnainlbldaaFr2
/- Size of a formula. -/
namespace Go.Proofs.Ytjaplnainlbldaa
open Go.RowKit

theorem deep_nodes : ∀ f : FmB, deepF f ≤ nodesF f := by
  refine nodes_ind fun f h => ?_
  have key : ∀ l : List FmB, (∀ g ∈ l, deepF g ≤ nodesF g) → deepL l ≤ nodesL l := by
    intro l
    induction l with
    | nil => exact fun _ => Nat.le_refl _
    | cons x l ih =>
      intro h
      have h1 := h x (by simp)
      have h2 := ih (fun g hg => h g (by simp [hg]))
      rw [nodesL, deepL]
      omega
  have := key _ h
  rw [nodesF_eq, deepF_eq]
  omega
theorem deepL_take (l : List FmB) (j : Nat) : deepL (l.take j) ≤ deepL l := by
  induction l generalizing j with
  | nil => simp [deepL]
  | cons x l ih =>
    cases j with
    | zero => simp [deepL]
    | succ j => rw [List.take_succ_cons, deepL, deepL]; have := ih j; omega

set_option maxRecDepth 100000 in
set_option maxHeartbeats 4000000 in
theorem fm_add {D : Nat → Prop} : ∀ (n : Nat) (f : FmB) (ao : Option Addr) (cp c N d0 deep : Nat) (w : World), FmsAt D w n ao f.kids → w.heap[c]? = some (.cells #[.int .i64 (N : Nat), .int .i64 (d0 : Nat)] 158 (0, 0)) → ¬ D c → N + nodesF f ≤ 4096 → deep + deepF f ≤ 100000 → d0 ≤ 100000 →
    Calls Try.prog 91 #[.pointer (some ⟨c, 0, none⟩), .agg #[.int .i64 f.op, .int .i64 f.k, .string ⟨f.r.1.toArray⟩, .string ⟨f.r.2.toArray⟩, .slice ao f.kids.length cp], .int .i64 (deep : Nat)] w fun e w' => e = .returned (.tuple #[]) ∧ w'.heap[c]? = some (.cells #[.int .i64 (N + nodesF f : Nat), .int .i64 (max d0 (deep + deepF f - 1) : Nat)] 158 (0, 0)) ∧ Chg (· = c) w w' := by
  intro n
  induction n using Nat.strongRecOn with
  | _ n ih =>
  intro f ao cp c N d0 deep w h hc hDc hN hd hd0
  have hcl := lt_blk hc
  have hnl := nodesL_len f.kids
  have hnf := nodesF_eq f
  have hdf := deepF_eq f
  have HX := hid h
  have HIN := hid ih
  clear h ih
  have hcA : Chg (fun _ => False) w (w.alloc (.cells #[.int .i64 f.op, .int .i64 f.k, .string ⟨f.r.1.toArray⟩, .string ⟨f.r.2.toArray⟩, .slice ao f.kids.length cp] 58)) := (Chg.refl _ w).alloc _
  have hb := heap_alloc_new w (.cells #[.int .i64 f.op, .int .i64 f.k, .string ⟨f.r.1.toArray⟩, .string ⟨f.r.2.toArray⟩, .slice ao f.kids.length cp] 58)
  have hcw := blk_keep hc hcA id
  have c0 := cell_blk hcw 0
  have hne : w.heap.size ≠ c := by omega
  have hs1 := set_blk hc 0 (.int .i64 ((N : Int) + 1))
  have hs1w := blk_keep hs1 ((Chg.refl (fun _ => False) (w.setCell ⟨c, 0, none⟩ (.int .i64 ((N : Int) + 1)))).alloc (.cells #[.int .i64 f.op, .int .i64 f.k, .string ⟨f.r.1.toArray⟩, .string ⟨f.r.2.toArray⟩, .slice ao f.kids.length cp] 58)) id
  have c1 := cell_blk hs1w 1
  have z0 := froz_blk hcw 0
  have z1 := froz_blk hs1w 1
  simp only [List.getElem?_toArray, List.getElem?_cons_zero, Array.setIfInBounds] at c0 c1
  have hwr : IntKind.i64.wrap ((N : Int) + 1) = (N : Int) + 1 := by rw [IntKind.wrap_i64]; omega
  go_enter Try.func91, Try.ntmps91
  by_cases hm : d0 < deep
  · have hm1 : (d0 : Int) < (deep : Int) := by omega
    have hm2 : ¬ (deep : Int) < (d0 : Int) := by omega
    go_wp2
    obtain ⟨w1, hw1⟩ : ∃ w1, w1 = ((w.setCell ⟨c, 0, none⟩ (.int .i64 ((N : Int) + 1))).setCell ⟨c, 1, none⟩ (.int .i64 (deep : Nat))).alloc (.cells #[.int .i64 f.op, .int .i64 f.k, .string ⟨f.r.1.toArray⟩, .string ⟨f.r.2.toArray⟩, .slice ao f.kids.length cp] 58) := ⟨_, rfl⟩
    have hs2 := set_blk hs1 1 (.int .i64 (deep : Nat))
    have hch : Chg (· = c) w w1 := by rw [hw1]; exact (((Chg.refl (· = c) w).setCell (p := ⟨c, 0, none⟩) (fun _ => rfl) _).setCell (p := ⟨c, 1, none⟩) (fun _ => rfl) _).alloc _
    have hblk : w1.heap[c]? = some (.cells #[.int .i64 (N + 1 : Nat), .int .i64 (deep : Nat)] 158 (0, 0)) := by rw [hw1]; exact blk_keep hs2 ((Chg.refl (fun _ => False) _).alloc _) id
    rw [← hw1]
    have HB1 := hid (And.intro hblk hch)
    have HMX := hid hm
    clear hs2 hch hblk hw1 hs1 hs1w c0 c1 z0 z1 hcA hcw hb hne hwr hm hm1 hm2
    go_loopw [27] (fun i wr => ∃ j : Nat, j ≤ f.kids.length ∧ i = .int .i64 j ∧ Hid (wr.heap[c]? = some (.cells #[.int .i64 (N + 1 + nodesL (f.kids.take j) : Nat), .int .i64 (max deep (deep + deepL (f.kids.take j)) : Nat)] 158 (0, 0)) ∧ Chg (· = c) w wr)) (fun i _ => f.kids.length - (intOf i).toNat)
    case atStart => exact ⟨0, Nat.zero_le _, rfl, hid (by
      refine ⟨?_, HB1.out.2⟩
      have e : max deep (deep + deepL (f.kids.take 0)) = deep := by simp only [List.take_zero, deepL]; have := HMX.out; omega
      rw [e]
      exact HB1.out.1)⟩
    case round =>
      obtain ⟨j, hj, rfl, hrel⟩ := hrel
      by_cases hlt : j < f.kids.length
      · obtain ⟨b, off, hao, hDb, hat⟩ := (HX.out.keep hrel.out.2 (fun i hi e => hDc (e ▸ hi))) j hlt
        obtain ⟨d, ao2, cp2, hd2, ⟨a0, a1, a2, a3, a4⟩, hok2, hz2, hkids⟩ := hat.open_
        obtain ⟨M, hM⟩ : ∃ M, M = N + 1 + nodesL (f.kids.take j) := ⟨_, rfl⟩
        obtain ⟨d1, hd1⟩ : ∃ d1, d1 = max deep (deep + deepL (f.kids.take j)) := ⟨_, rfl⟩
        have hnt := nodesL_get f.kids j hlt
        have hdt : deepL (f.kids.take (j + 1)) = max (deepL (f.kids.take j)) (deepF f.kids[j]) := by rw [List.take_succ_eq_append_getElem hlt, deepL_snoc]
        have hle1 := nodesL_take f.kids (j + 1)
        have hle2 := deepL_take f.kids (j + 1)
        have hg1 := nodesF_pos f.kids[j]
        have hg2 := deepF_eq f.kids[j]
        rw [← hM, ← hd1] at hrel
        generalize f.kids[j] = g at *
        have HNX : Hid (∀ w2 : World, w2.heap[c]? = some (.cells #[.int .i64 (M + nodesF g : Nat), .int .i64 (max d1 (deep + 1 + deepF g - 1) : Nat)] 158 (0, 0)) → w2.heap[c]? = some (.cells #[.int .i64 (N + 1 + nodesL (f.kids.take (j + 1)) : Nat), .int .i64 (max deep (deep + deepL (f.kids.take (j + 1))) : Nat)] 158 (0, 0))) := hid (fun w2 h => by
          have e1 : M + nodesF g = N + 1 + nodesL (f.kids.take (j + 1)) := by omega
          have e2 : max d1 (deep + 1 + deepF g - 1) = max deep (deep + deepL (f.kids.take (j + 1))) := by omega
          rw [← e1, ← e2]; exact h)
        have hcA : Chg (fun _ => False) wr (wr.alloc (.cells #[.int .i64 g.op, .int .i64 g.k, .string ⟨g.r.1.toArray⟩, .string ⟨g.r.2.toArray⟩, .slice ao2 g.kids.length cp2] 58)) := (Chg.refl _ wr).alloc _
        have hbk := blk_keep hrel.out.1 hcA id
        have e0 := cell_blk hbk 0
        simp only [List.getElem?_toArray, List.getElem?_cons_zero] at e0
        have hnb := heap_alloc_new wr (.cells #[.int .i64 g.op, .int .i64 g.k, .string ⟨g.r.1.toArray⟩, .string ⟨g.r.2.toArray⟩, .slice ao2 g.kids.length cp2] 58)
        have s0 := cell_blk hnb 0
        have s1 := cell_blk hnb 1
        have s2 := cell_blk hnb 2
        have s3 := cell_blk hnb 3
        have s4 := cell_blk hnb 4
        simp only [List.getElem?_toArray, List.getElem?_cons_zero, List.getElem?_cons_succ] at s0 s1 s2 s3 s4
        have z1 : decide ((4096 : Int) < (M : Int)) = false := decide_eq_false (by omega)
        have HIH : Hid (Calls Try.prog 91 #[.pointer (some ⟨c, 0, none⟩), .agg #[.int .i64 g.op, .int .i64 g.k, .string ⟨g.r.1.toArray⟩, .string ⟨g.r.2.toArray⟩, .slice ao2 g.kids.length cp2], .int .i64 ((deep : Int) + 1)] (wr.alloc (.cells #[.int .i64 g.op, .int .i64 g.k, .string ⟨g.r.1.toArray⟩, .string ⟨g.r.2.toArray⟩, .slice ao2 g.kids.length cp2] 58)) fun e w' => e = .returned (.tuple #[]) ∧ w'.heap[c]? = some (.cells #[.int .i64 (M + nodesF g : Nat), .int .i64 (max d1 (deep + 1 + deepF g - 1) : Nat)] 158 (0, 0)) ∧ Chg (· = c) (wr.alloc (.cells #[.int .i64 g.op, .int .i64 g.k, .string ⟨g.r.1.toArray⟩, .string ⟨g.r.2.toArray⟩, .slice ao2 g.kids.length cp2] 58)) w') := hid (HIN.out d hd2 g ao2 cp2 c M d1 (deep + 1) _ (hkids.keep hcA (fun _ _ => id)) hbk hDc (by omega) (by omega) (by omega))
        have HC2 := hid (hrel.out.2.trans hcA (fun _ _ h => h.elim))
        have HLT := hid hlt
        clear hcA hbk hnb hrel hkids hat hM hd1 hnt hdt hle1 hle2 hg1 hg2 hok2 hd2
        subst hao
        go_wp2_with fail
        refine HIH.out.mono ?_
        rintro e w3 ⟨rfl, hk3, hc3⟩
        have HC3 := hid (HC2.out.trans hc3 (fun _ _ h => h))
        have HB3 := hid (HNX.out w3 hk3)
        clear HIH HC2 hk3 hc3 e0 s0 s1 s2 s3 s4 a0 a1 a2 a3 a4
        go_wp2
        go_roundw
        case rel => exact ⟨j + 1, HLT.out, by go_num, hid ⟨HB3.out, HC3.out⟩⟩
        case measure => have := HLT.out; simp [intOf]; omega
      · have hje : j = f.kids.length := by omega
        have hr := hrel.out
        rw [hje, List.take_length] at hr
        have HR := hid hr
        clear hr hrel hje
        go_wp2
        go_end0
        refine ⟨rfl, ?_, HR.out.2⟩
        have e1 : N + nodesF f = N + 1 + nodesL f.kids := by rw [nodesF_eq]; omega
        have e2 : max d0 (deep + deepF f - 1) = max deep (deep + deepL f.kids) := by rw [deepF_eq]; have := HMX.out; omega
        rw [e1, e2]
        exact HR.out.1
  · have hm1 : ¬ (d0 : Int) < (deep : Int) := by omega
    have hm2 : True := trivial
    go_wp2
    obtain ⟨w1, hw1⟩ : ∃ w1, w1 = ((w.setCell ⟨c, 0, none⟩ (.int .i64 ((N : Int) + 1))).setCell ⟨c, 1, none⟩ (.int .i64 (d0 : Nat))).alloc (.cells #[.int .i64 f.op, .int .i64 f.k, .string ⟨f.r.1.toArray⟩, .string ⟨f.r.2.toArray⟩, .slice ao f.kids.length cp] 58) := ⟨_, rfl⟩
    have hs2 := set_blk hs1 1 (.int .i64 (d0 : Nat))
    have hch : Chg (· = c) w w1 := by rw [hw1]; exact (((Chg.refl (· = c) w).setCell (p := ⟨c, 0, none⟩) (fun _ => rfl) _).setCell (p := ⟨c, 1, none⟩) (fun _ => rfl) _).alloc _
    have hblk : w1.heap[c]? = some (.cells #[.int .i64 (N + 1 : Nat), .int .i64 (d0 : Nat)] 158 (0, 0)) := by rw [hw1]; exact blk_keep hs2 ((Chg.refl (fun _ => False) _).alloc _) id
    rw [← hw1]
    have HB1 := hid (And.intro hblk hch)
    have HMX := hid hm
    clear hs2 hch hblk hw1 hs1 hs1w c0 c1 z0 z1 hcA hcw hb hne hwr hm hm1 hm2
    go_loopw [27] (fun i wr => ∃ j : Nat, j ≤ f.kids.length ∧ i = .int .i64 j ∧ Hid (wr.heap[c]? = some (.cells #[.int .i64 (N + 1 + nodesL (f.kids.take j) : Nat), .int .i64 (max d0 (deep + deepL (f.kids.take j)) : Nat)] 158 (0, 0)) ∧ Chg (· = c) w wr)) (fun i _ => f.kids.length - (intOf i).toNat)
    case atStart => exact ⟨0, Nat.zero_le _, rfl, hid (by
      refine ⟨?_, HB1.out.2⟩
      have e : max d0 (deep + deepL (f.kids.take 0)) = d0 := by simp only [List.take_zero, deepL]; have := HMX.out; omega
      rw [e]
      exact HB1.out.1)⟩
    case round =>
      obtain ⟨j, hj, rfl, hrel⟩ := hrel
      by_cases hlt : j < f.kids.length
      · obtain ⟨b, off, hao, hDb, hat⟩ := (HX.out.keep hrel.out.2 (fun i hi e => hDc (e ▸ hi))) j hlt
        obtain ⟨d, ao2, cp2, hd2, ⟨a0, a1, a2, a3, a4⟩, hok2, hz2, hkids⟩ := hat.open_
        obtain ⟨M, hM⟩ : ∃ M, M = N + 1 + nodesL (f.kids.take j) := ⟨_, rfl⟩
        obtain ⟨d1, hd1⟩ : ∃ d1, d1 = max d0 (deep + deepL (f.kids.take j)) := ⟨_, rfl⟩
        have hnt := nodesL_get f.kids j hlt
        have hdt : deepL (f.kids.take (j + 1)) = max (deepL (f.kids.take j)) (deepF f.kids[j]) := by rw [List.take_succ_eq_append_getElem hlt, deepL_snoc]
        have hle1 := nodesL_take f.kids (j + 1)
        have hle2 := deepL_take f.kids (j + 1)
        have hg1 := nodesF_pos f.kids[j]
        have hg2 := deepF_eq f.kids[j]
        rw [← hM, ← hd1] at hrel
        generalize f.kids[j] = g at *
        have HNX : Hid (∀ w2 : World, w2.heap[c]? = some (.cells #[.int .i64 (M + nodesF g : Nat), .int .i64 (max d1 (deep + 1 + deepF g - 1) : Nat)] 158 (0, 0)) → w2.heap[c]? = some (.cells #[.int .i64 (N + 1 + nodesL (f.kids.take (j + 1)) : Nat), .int .i64 (max d0 (deep + deepL (f.kids.take (j + 1))) : Nat)] 158 (0, 0))) := hid (fun w2 h => by
          have e1 : M + nodesF g = N + 1 + nodesL (f.kids.take (j + 1)) := by omega
          have e2 : max d1 (deep + 1 + deepF g - 1) = max d0 (deep + deepL (f.kids.take (j + 1))) := by omega
          rw [← e1, ← e2]; exact h)
        have hcA : Chg (fun _ => False) wr (wr.alloc (.cells #[.int .i64 g.op, .int .i64 g.k, .string ⟨g.r.1.toArray⟩, .string ⟨g.r.2.toArray⟩, .slice ao2 g.kids.length cp2] 58)) := (Chg.refl _ wr).alloc _
        have hbk := blk_keep hrel.out.1 hcA id
        have e0 := cell_blk hbk 0
        simp only [List.getElem?_toArray, List.getElem?_cons_zero] at e0
        have hnb := heap_alloc_new wr (.cells #[.int .i64 g.op, .int .i64 g.k, .string ⟨g.r.1.toArray⟩, .string ⟨g.r.2.toArray⟩, .slice ao2 g.kids.length cp2] 58)
        have s0 := cell_blk hnb 0
        have s1 := cell_blk hnb 1
        have s2 := cell_blk hnb 2
        have s3 := cell_blk hnb 3
        have s4 := cell_blk hnb 4
        simp only [List.getElem?_toArray, List.getElem?_cons_zero, List.getElem?_cons_succ] at s0 s1 s2 s3 s4
        have z1 : decide ((4096 : Int) < (M : Int)) = false := decide_eq_false (by omega)
        have HIH : Hid (Calls Try.prog 91 #[.pointer (some ⟨c, 0, none⟩), .agg #[.int .i64 g.op, .int .i64 g.k, .string ⟨g.r.1.toArray⟩, .string ⟨g.r.2.toArray⟩, .slice ao2 g.kids.length cp2], .int .i64 ((deep : Int) + 1)] (wr.alloc (.cells #[.int .i64 g.op, .int .i64 g.k, .string ⟨g.r.1.toArray⟩, .string ⟨g.r.2.toArray⟩, .slice ao2 g.kids.length cp2] 58)) fun e w' => e = .returned (.tuple #[]) ∧ w'.heap[c]? = some (.cells #[.int .i64 (M + nodesF g : Nat), .int .i64 (max d1 (deep + 1 + deepF g - 1) : Nat)] 158 (0, 0)) ∧ Chg (· = c) (wr.alloc (.cells #[.int .i64 g.op, .int .i64 g.k, .string ⟨g.r.1.toArray⟩, .string ⟨g.r.2.toArray⟩, .slice ao2 g.kids.length cp2] 58)) w') := hid (HIN.out d hd2 g ao2 cp2 c M d1 (deep + 1) _ (hkids.keep hcA (fun _ _ => id)) hbk hDc (by omega) (by omega) (by omega))
        have HC2 := hid (hrel.out.2.trans hcA (fun _ _ h => h.elim))
        have HLT := hid hlt
        clear hcA hbk hnb hrel hkids hat hM hd1 hnt hdt hle1 hle2 hg1 hg2 hok2 hd2
        subst hao
        go_wp2_with fail
        refine HIH.out.mono ?_
        rintro e w3 ⟨rfl, hk3, hc3⟩
        have HC3 := hid (HC2.out.trans hc3 (fun _ _ h => h))
        have HB3 := hid (HNX.out w3 hk3)
        clear HIH HC2 hk3 hc3 e0 s0 s1 s2 s3 s4 a0 a1 a2 a3 a4
        go_wp2
        go_roundw
        case rel => exact ⟨j + 1, HLT.out, by go_num, hid ⟨HB3.out, HC3.out⟩⟩
        case measure => have := HLT.out; simp [intOf]; omega
      · have hje : j = f.kids.length := by omega
        have hr := hrel.out
        rw [hje, List.take_length] at hr
        have HR := hid hr
        clear hr hrel hje
        go_wp2
        go_end0
        refine ⟨rfl, ?_, HR.out.2⟩
        have e1 : N + nodesF f = N + 1 + nodesL f.kids := by rw [nodesF_eq]; omega
        have e2 : max d0 (deep + deepF f - 1) = max d0 (deep + deepL f.kids) := by rw [deepF_eq]; have := HMX.out; omega
        rw [e1, e2]
        exact HR.out.1
set_option maxRecDepth 100000 in
set_option maxHeartbeats 4000000 in
theorem fm_size {D : Nat → Prop} (n : Nat) (f : FmB) (ao : Option Addr) (cp : Nat) (w : World) (h : FmsAt D w n ao f.kids) (hD : ∀ i, D i → i < w.heap.size) (hN : nodesF f ≤ 4096) :
    Calls Try.prog 55 #[.agg #[.int .i64 f.op, .int .i64 f.k, .string ⟨f.r.1.toArray⟩, .string ⟨f.r.2.toArray⟩, .slice ao f.kids.length cp]] w fun e w' => e = .returned (.tuple #[.int .i64 (nodesF f : Nat), .int .i64 (deepF f : Nat)]) ∧ Chg (fun _ => False) w w' := by
  have hdn := deep_nodes f
  have hc1 : Chg (fun _ => False) w (w.alloc (.cells #[.int .i64 f.op, .int .i64 f.k, .string ⟨f.r.1.toArray⟩, .string ⟨f.r.2.toArray⟩, .slice ao f.kids.length cp] 58)) := (Chg.refl _ w).alloc _
  have hc2 : Chg (fun _ => False) w ((w.alloc (.cells #[.int .i64 f.op, .int .i64 f.k, .string ⟨f.r.1.toArray⟩, .string ⟨f.r.2.toArray⟩, .slice ao f.kids.length cp] 58)).alloc (.cells #[.int .i64 0, .int .i64 0] 158)) := hc1.alloc _
  have hC := heap_alloc_new (w.alloc (.cells #[.int .i64 f.op, .int .i64 f.k, .string ⟨f.r.1.toArray⟩, .string ⟨f.r.2.toArray⟩, .slice ao f.kids.length cp] 58)) (.cells #[.int .i64 0, .int .i64 0] 158)
  have hsz : (w.alloc (.cells #[.int .i64 f.op, .int .i64 f.k, .string ⟨f.r.1.toArray⟩, .string ⟨f.r.2.toArray⟩, .slice ao f.kids.length cp] 58)).heap.size = w.heap.size + 1 := by simp
  rw [hsz] at hC
  have hadd := fm_add n f ao cp _ 0 0 1 _ (h.keep hc2 (fun _ _ => id)) hC (fun h => by have := hD _ h; omega) (by omega) (by omega) (by omega)
  have hbF := blk_keep (heap_alloc_new w (.cells #[.int .i64 f.op, .int .i64 f.k, .string ⟨f.r.1.toArray⟩, .string ⟨f.r.2.toArray⟩, .slice ao f.kids.length cp] 58)) ((Chg.refl (fun _ => False) _).alloc (.cells #[.int .i64 0, .int .i64 0] 158)) id
  have s0 := cell_blk hbF 0
  have s1 := cell_blk hbF 1
  have s2 := cell_blk hbF 2
  have s3 := cell_blk hbF 3
  have s4 := cell_blk hbF 4
  simp only [List.getElem?_toArray, List.getElem?_cons_zero, List.getElem?_cons_succ] at s0 s1 s2 s3 s4
  have HADD := hid hadd
  have HC2 := hid hc2
  have HSZ := hid hsz
  clear h hD hadd hc1 hc2 hC hbF hsz
  go_enter Try.func55, Try.ntmps55
  go_wp2_with fail
  refine HADD.out.mono ?_
  rintro e w3 ⟨rfl, hk, hc3⟩
  have HC3 := hid (HC2.out.trans hc3 (fun i hi e => by have := HSZ.out; omega))
  have e2 : max 0 (1 + deepF f - 1) = deepF f := by omega
  rw [Nat.zero_add, e2] at hk
  have k0 := cell_blk hk 0
  have k1 := cell_blk hk 1
  simp only [List.getElem?_toArray, List.getElem?_cons_zero, List.getElem?_cons_succ] at k0 k1
  have z1 : decide ((4096 : Int) < (nodesF f : Int)) = false := decide_eq_false (by omega)
  have HK := hid hk
  clear HADD HC2 hc3 hk s0 s1 s2 s3 s4 e2
  go_wp2
  generalize w.heap.size + 1 = C at *
  refine wp_region_specs [.any, .any, .eq (.int .i64 (nodesF f : Nat)), .eq (.int .i64 (deepF f : Nat)), .eq (.pointer (some ⟨C, 0, none⟩)), .any, .any, .any, .any, .any, .eq (.pointer (some ⟨C, 0, none⟩)), .eq (.int .i64 (nodesF f : Nat)), .eq (.pointer (some ⟨C, 1, none⟩)), .eq (.int .i64 (deepF f : Nat))] [10, 11, 12, 13, 2, 3] [4] (by kernel_rfl) (by kernel_rfl) (by rfl) (by kernel_rfl) ?start ?obs ?fin
  case start =>
    simp only [List.forall_mem_cons]; exact ⟨⟨_, rfl, rfl⟩, fun _ h => by cases h⟩
  case obs =>
    clear k0 k1
    refine Obs.cons none (by kernel_rfl) ?_ ?_
    · refine Ob.plain fun a w hR hk K k => ?_
      obtain ⟨_, e4, rfl⟩ := hk 4 (by decide)
      clear hk
      go_simp
      exact k _ _ (Chg.refl _ _) rfl
    refine Obs.cons none (by kernel_rfl) ?_ ?_
    · refine Ob.plain fun a w hR hk K k => ?_
      obtain ⟨_, e10, rfl⟩ := hk 10 (by decide)
      clear hk
      have hb := blk_keep HK.out hR id
      have k0 := cell_blk hb 0
      have k1 := cell_blk hb 1
      simp only [List.getElem?_toArray, List.getElem?_cons_zero, List.getElem?_cons_succ] at k0 k1
      clear hb hR
      go_simp
      exact k _ _ (Chg.refl _ _) rfl
    refine Obs.cons none (by kernel_rfl) ?_ ?_
    · refine Ob.plain fun a w hR hk K k => ?_
      obtain ⟨_, e4, rfl⟩ := hk 4 (by decide)
      clear hk
      go_simp
      exact k _ _ (Chg.refl _ _) rfl
    refine Obs.cons none (by kernel_rfl) ?_ ?_
    · refine Ob.plain fun a w hR hk K k => ?_
      obtain ⟨_, e12, rfl⟩ := hk 12 (by decide)
      clear hk
      have hb := blk_keep HK.out hR id
      have k0 := cell_blk hb 0
      have k1 := cell_blk hb 1
      simp only [List.getElem?_toArray, List.getElem?_cons_zero, List.getElem?_cons_succ] at k0 k1
      clear hb hR
      go_simp
      exact k _ _ (Chg.refl _ _) rfl
    refine Obs.cons none (by kernel_rfl) ?_ ?_
    · refine Ob.plain fun a w hR hk K k => ?_
      obtain ⟨_, e11, f11⟩ := hk 11 (by decide)
      clear hk
      go_simp
      exact k _ _ (Chg.refl _ _) f11
    refine Obs.cons none (by kernel_rfl) ?_ ?_
    · refine Ob.plain fun a w hR hk K k => ?_
      obtain ⟨_, e13, f13⟩ := hk 13 (by decide)
      clear hk
      go_simp
      exact k _ _ (Chg.refl _ _) f13
    exact Obs.nil
  case fin =>
    intro vals w9 hc9 hv
    have h2 : vals 2 = .int .i64 (nodesF f : Nat) := hv 2 (by decide)
    have h3 : vals 3 = .int .i64 (deepF f : Nat) := hv 3 (by decide)
    have HC4 := hid (HC3.out.trans hc9 (fun _ _ h => h))
    simp only [putAll, List.setIfInBounds_toArray, List.set_cons_zero, List.set_cons_succ, h2, h3]
    clear hv h2 h3 hc9
    go_wp2
    go_ret2
    exact ⟨rfl, HC4.out⟩
end Go.Proofs.Ytjaplnainlbldaa

/- Plain arithmetic of layer 1's numbers: nothing of the program's text. -/
namespace Go.Proofs.Ytjaplnainlbldaa
open Go.RowKit

/-- The number that the bytes begin with, how many bytes it has, and the error. -/
def numN : Nat → List UInt8 → Nat → Nat → Nat × Nat × Nat
  | 0, _, _, _ => (0, 0, 11)
  | _ + 1, [], _, _ => (0, 0, 10)
  | f + 1, d :: l, k, n =>
    if d.toNat = 0 ∧ 0 < k then (0, 0, 11)
    else if d.toNat < 128 then (n + d.toNat * 128 ^ k, k + 1, 0)
    else numN f l (k + 1) (n + (d.toNat - 128) * 128 ^ k)

theorem bits_and_u8_127 (d : Nat) (h : d < 256) : bits .and .u8 (d : Int) 127 = ((d % 128 : Nat) : Int) := by
  have h1 : (BitVec.ofInt 8 (d : Int)).toNat = d := by
    rw [BitVec.ofInt_natCast, BitVec.toNat_ofNat]; exact Nat.mod_eq_of_lt (by omega)
  show IntKind.u8.wrap ((BitVec.ofInt 8 (d : Int) &&& BitVec.ofInt 8 127).toNat : Int) = _
  rw [BitVec.toNat_and, h1]
  have h2 : (BitVec.ofInt 8 127).toNat = 2 ^ 7 - 1 := by decide
  rw [h2, Nat.and_two_pow_sub_one_eq_mod]
  simp [IntKind.wrap, IntKind.bits, IntKind.signed]
  omega

theorem bits_or_i64 (a b : Nat) (ha : a < 9223372036854775808) (hb : b < 9223372036854775808) : bits .or .i64 (a : Int) (b : Int) = ((a ||| b : Nat) : Int) := by
  have h1 : (BitVec.ofInt 64 (a : Int)).toNat = a := by
    rw [BitVec.ofInt_natCast, BitVec.toNat_ofNat]; exact Nat.mod_eq_of_lt (by omega)
  have h2 : (BitVec.ofInt 64 (b : Int)).toNat = b := by
    rw [BitVec.ofInt_natCast, BitVec.toNat_ofNat]; exact Nat.mod_eq_of_lt (by omega)
  have hx : a ||| b < 2 ^ 63 := Nat.or_lt_two_pow (by omega) (by omega)
  show IntKind.i64.wrap ((BitVec.ofInt 64 (a : Int) ||| BitVec.ofInt 64 (b : Int)).toNat : Int) = _
  rw [BitVec.toNat_or, h1, h2]
  exact IntWalk.i64_in _ (by omega)

theorem pow_le9 (k : Nat) (h : k ≤ 8) : 128 ^ k ≤ 72057594037927936 := by
  have : 128 ^ k ≤ 128 ^ 8 := Nat.pow_le_pow_right (by omega) h
  simpa using this

theorem two7 (k : Nat) : 2 ^ (7 * k) = 128 ^ k := by rw [Nat.pow_mul]

theorem digit_or (k m d : Nat) (hk : k < 9) (hm : m < 128 ^ k) (hd : d < 256) :
    bits .or .i64 (m : Int) (wrap64 (wrap64 (bits .and .u8 (d : Int) 127) * 2 ^ (7 * k))) = ((m + d % 128 * 128 ^ k : Nat) : Int) := by
  have hp := pow_le9 k (by omega)
  have hc : d % 128 < 128 := Nat.mod_lt _ (by decide)
  have e1 : wrap64 ((d % 128 : Nat) : Int) = ((d % 128 : Nat) : Int) := by unfold wrap64; omega
  have hb : d % 128 * 128 ^ k ≤ 127 * 72057594037927936 := Nat.mul_le_mul (by omega) hp
  have e2 : ((d % 128 : Nat) : Int) * 2 ^ (7 * k) = ((d % 128 * 128 ^ k : Nat) : Int) := by
    rw [Int.natCast_mul, ← two7 k, Int.natCast_pow]; rfl
  have e3 : wrap64 ((d % 128 * 128 ^ k : Nat) : Int) = ((d % 128 * 128 ^ k : Nat) : Int) := by unfold wrap64; omega
  rw [bits_and_u8_127 d hd, e1, e2, e3, bits_or_i64 _ _ (by omega) (by omega)]
  congr 1
  rw [← two7 k, ← Nat.shiftLeft_eq, Nat.or_comm, ← Nat.shiftLeft_add_eq_or_of_lt (by rw [two7]; exact hm)]
  omega

/-- One byte of a number. -/
theorem numN_step (l : List UInt8) (k m : Nat) (hk : k < 9) (hl : k < l.length) :
    numN (9 - k) (l.drop k) k m = if l[k].toNat = 0 ∧ 0 < k then (0, 0, 11) else if l[k].toNat < 128 then (m + l[k].toNat * 128 ^ k, k + 1, 0) else numN (9 - (k + 1)) (l.drop (k + 1)) (k + 1) (m + (l[k].toNat - 128) * 128 ^ k) := by
  have e : 9 - k = (9 - (k + 1)) + 1 := by omega
  rw [e, List.drop_eq_getElem_cons hl]
  rfl

theorem numN_end (l : List UInt8) (k m : Nat) (hk : k < 9) (hl : l.length ≤ k) : numN (9 - k) (l.drop k) k m = (0, 0, 10) := by
  have e : 9 - k = (9 - (k + 1)) + 1 := by omega
  rw [e, List.drop_eq_nil_of_le hl]
  rfl

theorem num_lt (k m c : Nat) (hm : m < 128 ^ k) (hc : c < 128) : m + c * 128 ^ k < 128 ^ (k + 1) := by
  have : c * 128 ^ k ≤ 127 * 128 ^ k := Nat.mul_le_mul_right _ (by omega)
  rw [Nat.pow_succ]
  omega

/-- What a number's reading comes to. -/
theorem numN_facts : ∀ (f : Nat) (l : List UInt8) (k n : Nat), n < 128 ^ k →
    ((numN f l k n).2.2 = 0 ∧ k < (numN f l k n).2.1 ∧ (numN f l k n).2.1 ≤ k + l.length ∧ (numN f l k n).2.1 ≤ k + f ∧ (numN f l k n).1 < 128 ^ (numN f l k n).2.1) ∨
    (((numN f l k n).2.2 = 10 ∨ (numN f l k n).2.2 = 11) ∧ (numN f l k n).1 = 0 ∧ (numN f l k n).2.1 = 0)
  | 0, _, _, _, _ => .inr ⟨.inr rfl, rfl, rfl⟩
  | _ + 1, [], _, _, _ => .inr ⟨.inl rfl, rfl, rfl⟩
  | f + 1, d :: l, k, n, hn => by
    unfold numN
    by_cases h1 : d.toNat = 0 ∧ 0 < k
    · rw [if_pos h1]
      exact .inr ⟨.inr rfl, rfl, rfl⟩
    · rw [if_neg h1]
      by_cases h2 : d.toNat < 128
      · rw [if_pos h2]
        exact .inl ⟨rfl, by simp, by simp only [List.length_cons]; omega, by simp only []; omega, num_lt k n _ hn h2⟩
      · rw [if_neg h2]
        have hd := UInt8.toNat_lt d
        rcases numN_facts f l (k + 1) (n + (d.toNat - 128) * 128 ^ k) (num_lt k n _ hn (by omega)) with ⟨a, b, c, e, g⟩ | h
        · exact .inl ⟨a, by omega, by simp only [List.length_cons]; omega, by omega, g⟩
        · exact .inr h

theorem numN_ok {l : List UInt8} (h : (numN 9 l 0 0).2.2 = 0) : 0 < (numN 9 l 0 0).2.1 ∧ (numN 9 l 0 0).2.1 ≤ l.length ∧ (numN 9 l 0 0).1 < 9223372036854775808 := by
  rcases numN_facts 9 l 0 0 (by decide) with ⟨_, b, c, d, e⟩ | ⟨h1, _⟩
  · refine ⟨b, by omega, Nat.lt_of_lt_of_le e ?_⟩
    have : 128 ^ (numN 9 l 0 0).2.1 ≤ 128 ^ 9 := Nat.pow_le_pow_right (by omega) (by omega)
    simpa using this
  · omega

/-- The error of a number that is read. -/
def errNum (l : List UInt8) (most : Int) : Nat :=
  if (numN 9 l 0 0).2.2 = 0 then (if most < ((numN 9 l 0 0).1 : Int) then 12 else 0) else (numN 9 l 0 0).2.2

/-- The error of a text that is read. -/
def errText (l : List UInt8) (most : Int) : Nat :=
  if (numN 9 l 0 0).2.2 = 0 then
    (if most < ((numN 9 l 0 0).1 : Int) then 12 else if l.length - (numN 9 l 0 0).2.1 < (numN 9 l 0 0).1 then 10 else 0)
  else (numN 9 l 0 0).2.2

/-- A number's bytes: one that isn't the last; the last. -/
def dg (n : Nat) : UInt8 := UInt8.ofNat (128 + n % 128)
def ds (n : Nat) : UInt8 := UInt8.ofNat n
def enc (n : Nat) : List UInt8 := if n < 128 then [ds n] else dg n :: enc (n / 128)
  termination_by n
  decreasing_by omega

theorem enc_small {n : Nat} (h : n < 128) : enc n = [ds n] := by rw [enc, if_pos h]
theorem enc_big {n : Nat} (h : 128 ≤ n) : enc n = dg n :: enc (n / 128) := by rw [enc, if_neg (by omega)]

theorem enc_length : ∀ (k n : Nat), n < 128 ^ (k + 1) → (enc n).length ≤ k + 1
  | 0, n, h => by rw [enc_small (by omega)]; simp
  | k + 1, n, h => by
    by_cases h1 : n < 128
    · rw [enc_small h1]; simp
    · rw [enc_big (by omega)]
      have := enc_length k (n / 128) (by rw [Nat.pow_succ] at h; omega)
      simp only [List.length_cons]
      omega

theorem enc_length9 {n : Nat} (h : n < 9223372036854775808) : (enc n).length ≤ 9 := enc_length 8 n (by simpa using h)

theorem enc_pos (n : Nat) : 0 < (enc n).length := by
  by_cases h1 : n < 128
  · rw [enc_small h1]; simp
  · rw [enc_big (by omega)]; simp

theorem bits_and_i64_127 (n : Nat) (h : n < 9223372036854775808) : bits .and .i64 (n : Int) 127 = ((n % 128 : Nat) : Int) := by
  have h1 : (BitVec.ofInt 64 (n : Int)).toNat = n := by
    rw [BitVec.ofInt_natCast, BitVec.toNat_ofNat]; exact Nat.mod_eq_of_lt (by omega)
  show IntKind.i64.wrap ((BitVec.ofInt 64 (n : Int) &&& BitVec.ofInt 64 127).toNat : Int) = _
  rw [BitVec.toNat_and, h1]
  have h2 : (BitVec.ofInt 64 127).toNat = 2 ^ 7 - 1 := by decide
  rw [h2, Nat.and_two_pow_sub_one_eq_mod]
  exact IntWalk.i64_in _ (by omega)

theorem bits_or_u8_128 (d : Nat) (h : d < 128) : bits .or .u8 (d : Int) 128 = ((128 + d : Nat) : Int) := by
  have h1 : (BitVec.ofInt 8 (d : Int)).toNat = d := by
    rw [BitVec.ofInt_natCast, BitVec.toNat_ofNat]; exact Nat.mod_eq_of_lt (by omega)
  show IntKind.u8.wrap ((BitVec.ofInt 8 (d : Int) ||| BitVec.ofInt 8 128).toNat : Int) = _
  rw [BitVec.toNat_or, h1]
  have h2 : (BitVec.ofInt 8 128).toNat = 1 <<< 7 := by decide
  rw [h2, Nat.or_comm, ← Nat.shiftLeft_add_eq_or_of_lt (by simpa using h)]
  simp only [Nat.shiftLeft_eq]
  exact IntWalk.u8_in _ (by omega)

theorem dg_toNat (n : Nat) : (dg n).toNat = 128 + n % 128 := ofNat_u8 _ (by omega)
theorem ds_toNat {n : Nat} (h : n < 128) : (ds n).toNat = n := ofNat_u8 _ (by omega)

theorem digit_of (n : Nat) (h : n < 9223372036854775808) : bits .or .u8 (bits .and .i64 (n : Int) 127 % 256) 128 = ((dg n).toNat : Int) := by
  have e : ((n % 128 : Nat) : Int) % 256 = ((n % 128 : Nat) : Int) := by omega
  rw [bits_and_i64_127 n h, e, bits_or_u8_128 _ (Nat.mod_lt _ (by decide)), dg_toNat]

end Go.Proofs.Ytjaplnainlbldaa

/- The contracts of the document's Number and Text. -/
namespace Go.Proofs.Ytjaplnainlbldaa
open Go.RowKit

end Go.Proofs.Ytjaplnainlbldaa

/- What a reading comes to. -/
namespace Go.Proofs.Ytjaplnainlbldaa
open Go.RowKit

/-- What a Read answers, of the error and what is left. -/
def endOf (flt : Int) (n : Nat) : Int := if flt = 0 then (if 0 < n then 13 else 0) else flt

end Go.Proofs.Ytjaplnainlbldaa

/- The contracts of the document's tape: Number, Text, End. -/
namespace Go.Proofs.Ytjaplnainlbldaa
open Go.RowKit

end Go.Proofs.Ytjaplnainlbldaa
