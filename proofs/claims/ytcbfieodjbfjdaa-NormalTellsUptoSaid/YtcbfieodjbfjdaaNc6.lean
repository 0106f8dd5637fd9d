/- Texts that the proof leans on, in one: FmSize, Math, RefNum, EndOf, RefTape. -/
import Derived.Test.YtcbfieodjbfjdaaNc5
import Derived.Test.YtcbfieodjbfjdaaNc1
/- Size of a formula. -/
namespace Go.Proofs.Ytcbfieodjbfjdaa
open Go.RowKit

theorem deep_nodes : ∀ f : FmB, deepF f ≤ nodesF f := by
  refine nodes_ind fun f h => ?_
  have key : ∀ l : List FmB, (∀ g ∈ l, deepF g ≤ nodesF g) → deepL l ≤ nodesL l := by
    intro l
    induction l with
    | nil => exact fun _ => Nat.le_refl _
    | cons x l ih =>
      intro h
      have h1 := h x (by simp)
      have h2 := ih (fun g hg => h g (by simp [hg]))
      rw [nodesL, deepL]
      omega
  have := key _ h
  rw [nodesF_eq, deepF_eq]
  omega
theorem deepL_take (l : List FmB) (j : Nat) : deepL (l.take j) ≤ deepL l := by
  induction l generalizing j with
  | nil => simp [deepL]
  | cons x l ih =>
    cases j with
    | zero => simp [deepL]
    | succ j => rw [List.take_succ_cons, deepL, deepL]; have := ih j; omega

set_option maxRecDepth 100000 in
set_option maxHeartbeats 4000000 in
theorem fm_add {D : Nat → Prop} : ∀ (n : Nat) (f : FmB) (ao : Option Addr) (cp c N d0 deep : Nat) (w : World), FmsAt D w n ao f.kids → w.heap[c]? = some (.cells #[.int .i64 (N : Nat), .int .i64 (d0 : Nat)] 97 (0, 0)) → ¬ D c → N + nodesF f ≤ 4096 → deep + deepF f ≤ 100000 → d0 ≤ 100000 →
    Calls Try.prog 73 #[.pointer (some ⟨c, 0, none⟩), .agg #[.int .i64 f.op, .int .i64 f.k, .string ⟨f.r.1.toArray⟩, .string ⟨f.r.2.toArray⟩, .slice ao f.kids.length cp], .int .i64 (deep : Nat)] w fun e w' => e = .returned (.tuple #[]) ∧ w'.heap[c]? = some (.cells #[.int .i64 (N + nodesF f : Nat), .int .i64 (max d0 (deep + deepF f - 1) : Nat)] 97 (0, 0)) ∧ Chg (· = c) w w' := by
  intro n
  induction n using Nat.strongRecOn with
  | _ n ih =>
  intro f ao cp c N d0 deep w h hc hDc hN hd hd0
  have hcl := lt_blk hc
  have hnl := nodesL_len f.kids
  have hnf := nodesF_eq f
  have hdf := deepF_eq f
  have HX := hid h
  have HIN := hid ih
  clear h ih
  have hcA : Chg (fun _ => False) w (w.alloc (.cells #[.int .i64 f.op, .int .i64 f.k, .string ⟨f.r.1.toArray⟩, .string ⟨f.r.2.toArray⟩, .slice ao f.kids.length cp] 26)) := (Chg.refl _ w).alloc _
  have hb := heap_alloc_new w (.cells #[.int .i64 f.op, .int .i64 f.k, .string ⟨f.r.1.toArray⟩, .string ⟨f.r.2.toArray⟩, .slice ao f.kids.length cp] 26)
  have hcw := blk_keep hc hcA id
  have c0 := cell_blk hcw 0
  have hne : w.heap.size ≠ c := by omega
  have hs1 := set_blk hc 0 (.int .i64 ((N : Int) + 1))
  have hs1w := blk_keep hs1 ((Chg.refl (fun _ => False) (w.setCell ⟨c, 0, none⟩ (.int .i64 ((N : Int) + 1)))).alloc (.cells #[.int .i64 f.op, .int .i64 f.k, .string ⟨f.r.1.toArray⟩, .string ⟨f.r.2.toArray⟩, .slice ao f.kids.length cp] 26)) id
  have c1 := cell_blk hs1w 1
  have z0 := froz_blk hcw 0
  have z1 := froz_blk hs1w 1
  simp only [List.getElem?_toArray, List.getElem?_cons_zero, Array.setIfInBounds] at c0 c1
  have hwr : IntKind.i64.wrap ((N : Int) + 1) = (N : Int) + 1 := by rw [IntKind.wrap_i64]; omega
  go_enter Try.func73, Try.ntmps73
  by_cases hm : d0 < deep
  · have hm1 : (d0 : Int) < (deep : Int) := by omega
    have hm2 : ¬ (deep : Int) < (d0 : Int) := by omega
    go_wp2
    obtain ⟨w1, hw1⟩ : ∃ w1, w1 = ((w.setCell ⟨c, 0, none⟩ (.int .i64 ((N : Int) + 1))).setCell ⟨c, 1, none⟩ (.int .i64 (deep : Nat))).alloc (.cells #[.int .i64 f.op, .int .i64 f.k, .string ⟨f.r.1.toArray⟩, .string ⟨f.r.2.toArray⟩, .slice ao f.kids.length cp] 26) := ⟨_, rfl⟩
    have hs2 := set_blk hs1 1 (.int .i64 (deep : Nat))
    have hch : Chg (· = c) w w1 := by rw [hw1]; exact (((Chg.refl (· = c) w).setCell (p := ⟨c, 0, none⟩) (fun _ => rfl) _).setCell (p := ⟨c, 1, none⟩) (fun _ => rfl) _).alloc _
    have hblk : w1.heap[c]? = some (.cells #[.int .i64 (N + 1 : Nat), .int .i64 (deep : Nat)] 97 (0, 0)) := by rw [hw1]; exact blk_keep hs2 ((Chg.refl (fun _ => False) _).alloc _) id
    rw [← hw1]
    have HB1 := hid (And.intro hblk hch)
    have HMX := hid hm
    clear hs2 hch hblk hw1 hs1 hs1w c0 c1 z0 z1 hcA hcw hb hne hwr hm hm1 hm2
    go_loopw [27] (fun i wr => ∃ j : Nat, j ≤ f.kids.length ∧ i = .int .i64 j ∧ Hid (wr.heap[c]? = some (.cells #[.int .i64 (N + 1 + nodesL (f.kids.take j) : Nat), .int .i64 (max deep (deep + deepL (f.kids.take j)) : Nat)] 97 (0, 0)) ∧ Chg (· = c) w wr)) (fun i _ => f.kids.length - (intOf i).toNat)
    case atStart => exact ⟨0, Nat.zero_le _, rfl, hid (by
      refine ⟨?_, HB1.out.2⟩
      have e : max deep (deep + deepL (f.kids.take 0)) = deep := by simp only [List.take_zero, deepL]; have := HMX.out; omega
      rw [e]
      exact HB1.out.1)⟩
    case round =>
      obtain ⟨j, hj, rfl, hrel⟩ := hrel
      by_cases hlt : j < f.kids.length
      · obtain ⟨b, off, hao, hDb, hat⟩ := (HX.out.keep hrel.out.2 (fun i hi e => hDc (e ▸ hi))) j hlt
        obtain ⟨d, ao2, cp2, hd2, ⟨a0, a1, a2, a3, a4⟩, hok2, hz2, hkids⟩ := hat.open_
        obtain ⟨M, hM⟩ : ∃ M, M = N + 1 + nodesL (f.kids.take j) := ⟨_, rfl⟩
        obtain ⟨d1, hd1⟩ : ∃ d1, d1 = max deep (deep + deepL (f.kids.take j)) := ⟨_, rfl⟩
        have hnt := nodesL_get f.kids j hlt
        have hdt : deepL (f.kids.take (j + 1)) = max (deepL (f.kids.take j)) (deepF f.kids[j]) := by rw [List.take_succ_eq_append_getElem hlt, deepL_snoc]
        have hle1 := nodesL_take f.kids (j + 1)
        have hle2 := deepL_take f.kids (j + 1)
        have hg1 := nodesF_pos f.kids[j]
        have hg2 := deepF_eq f.kids[j]
        rw [← hM, ← hd1] at hrel
        generalize f.kids[j] = g at *
        have HNX : Hid (∀ w2 : World, w2.heap[c]? = some (.cells #[.int .i64 (M + nodesF g : Nat), .int .i64 (max d1 (deep + 1 + deepF g - 1) : Nat)] 97 (0, 0)) → w2.heap[c]? = some (.cells #[.int .i64 (N + 1 + nodesL (f.kids.take (j + 1)) : Nat), .int .i64 (max deep (deep + deepL (f.kids.take (j + 1))) : Nat)] 97 (0, 0))) := hid (fun w2 h => by
          have e1 : M + nodesF g = N + 1 + nodesL (f.kids.take (j + 1)) := by omega
          have e2 : max d1 (deep + 1 + deepF g - 1) = max deep (deep + deepL (f.kids.take (j + 1))) := by omega
          rw [← e1, ← e2]; exact h)
        have hcA : Chg (fun _ => False) wr (wr.alloc (.cells #[.int .i64 g.op, .int .i64 g.k, .string ⟨g.r.1.toArray⟩, .string ⟨g.r.2.toArray⟩, .slice ao2 g.kids.length cp2] 26)) := (Chg.refl _ wr).alloc _
        have hbk := blk_keep hrel.out.1 hcA id
        have e0 := cell_blk hbk 0
        simp only [List.getElem?_toArray, List.getElem?_cons_zero] at e0
        have hnb := heap_alloc_new wr (.cells #[.int .i64 g.op, .int .i64 g.k, .string ⟨g.r.1.toArray⟩, .string ⟨g.r.2.toArray⟩, .slice ao2 g.kids.length cp2] 26)
        have s0 := cell_blk hnb 0
        have s1 := cell_blk hnb 1
        have s2 := cell_blk hnb 2
        have s3 := cell_blk hnb 3
        have s4 := cell_blk hnb 4
        simp only [List.getElem?_toArray, List.getElem?_cons_zero, List.getElem?_cons_succ] at s0 s1 s2 s3 s4
        have z1 : decide ((4096 : Int) < (M : Int)) = false := decide_eq_false (by omega)
        have HIH : Hid (Calls Try.prog 73 #[.pointer (some ⟨c, 0, none⟩), .agg #[.int .i64 g.op, .int .i64 g.k, .string ⟨g.r.1.toArray⟩, .string ⟨g.r.2.toArray⟩, .slice ao2 g.kids.length cp2], .int .i64 ((deep : Int) + 1)] (wr.alloc (.cells #[.int .i64 g.op, .int .i64 g.k, .string ⟨g.r.1.toArray⟩, .string ⟨g.r.2.toArray⟩, .slice ao2 g.kids.length cp2] 26)) fun e w' => e = .returned (.tuple #[]) ∧ w'.heap[c]? = some (.cells #[.int .i64 (M + nodesF g : Nat), .int .i64 (max d1 (deep + 1 + deepF g - 1) : Nat)] 97 (0, 0)) ∧ Chg (· = c) (wr.alloc (.cells #[.int .i64 g.op, .int .i64 g.k, .string ⟨g.r.1.toArray⟩, .string ⟨g.r.2.toArray⟩, .slice ao2 g.kids.length cp2] 26)) w') := hid (HIN.out d hd2 g ao2 cp2 c M d1 (deep + 1) _ (hkids.keep hcA (fun _ _ => id)) hbk hDc (by omega) (by omega) (by omega))
        have HC2 := hid (hrel.out.2.trans hcA (fun _ _ h => h.elim))
        have HLT := hid hlt
        clear hcA hbk hnb hrel hkids hat hM hd1 hnt hdt hle1 hle2 hg1 hg2 hok2 hd2
        subst hao
        go_wp2_with fail
        refine HIH.out.mono ?_
        rintro e w3 ⟨rfl, hk3, hc3⟩
        have HC3 := hid (HC2.out.trans hc3 (fun _ _ h => h))
        have HB3 := hid (HNX.out w3 hk3)
        clear HIH HC2 hk3 hc3 e0 s0 s1 s2 s3 s4 a0 a1 a2 a3 a4
        go_wp2
        go_roundw
        case rel => exact ⟨j + 1, HLT.out, by go_num, hid ⟨HB3.out, HC3.out⟩⟩
        case measure => have := HLT.out; simp [intOf]; omega
      · have hje : j = f.kids.length := by omega
        have hr := hrel.out
        rw [hje, List.take_length] at hr
        have HR := hid hr
        clear hr hrel hje
        go_wp2
        go_end0
        refine ⟨rfl, ?_, HR.out.2⟩
        have e1 : N + nodesF f = N + 1 + nodesL f.kids := by rw [nodesF_eq]; omega
        have e2 : max d0 (deep + deepF f - 1) = max deep (deep + deepL f.kids) := by rw [deepF_eq]; have := HMX.out; omega
        rw [e1, e2]
        exact HR.out.1
  · have hm1 : ¬ (d0 : Int) < (deep : Int) := by omega
    have hm2 : True := trivial
    go_wp2
    obtain ⟨w1, hw1⟩ : ∃ w1, w1 = ((w.setCell ⟨c, 0, none⟩ (.int .i64 ((N : Int) + 1))).setCell ⟨c, 1, none⟩ (.int .i64 (d0 : Nat))).alloc (.cells #[.int .i64 f.op, .int .i64 f.k, .string ⟨f.r.1.toArray⟩, .string ⟨f.r.2.toArray⟩, .slice ao f.kids.length cp] 26) := ⟨_, rfl⟩
    have hs2 := set_blk hs1 1 (.int .i64 (d0 : Nat))
    have hch : Chg (· = c) w w1 := by rw [hw1]; exact (((Chg.refl (· = c) w).setCell (p := ⟨c, 0, none⟩) (fun _ => rfl) _).setCell (p := ⟨c, 1, none⟩) (fun _ => rfl) _).alloc _
    have hblk : w1.heap[c]? = some (.cells #[.int .i64 (N + 1 : Nat), .int .i64 (d0 : Nat)] 97 (0, 0)) := by rw [hw1]; exact blk_keep hs2 ((Chg.refl (fun _ => False) _).alloc _) id
    rw [← hw1]
    have HB1 := hid (And.intro hblk hch)
    have HMX := hid hm
    clear hs2 hch hblk hw1 hs1 hs1w c0 c1 z0 z1 hcA hcw hb hne hwr hm hm1 hm2
    go_loopw [27] (fun i wr => ∃ j : Nat, j ≤ f.kids.length ∧ i = .int .i64 j ∧ Hid (wr.heap[c]? = some (.cells #[.int .i64 (N + 1 + nodesL (f.kids.take j) : Nat), .int .i64 (max d0 (deep + deepL (f.kids.take j)) : Nat)] 97 (0, 0)) ∧ Chg (· = c) w wr)) (fun i _ => f.kids.length - (intOf i).toNat)
    case atStart => exact ⟨0, Nat.zero_le _, rfl, hid (by
      refine ⟨?_, HB1.out.2⟩
      have e : max d0 (deep + deepL (f.kids.take 0)) = d0 := by simp only [List.take_zero, deepL]; have := HMX.out; omega
      rw [e]
      exact HB1.out.1)⟩
    case round =>
      obtain ⟨j, hj, rfl, hrel⟩ := hrel
      by_cases hlt : j < f.kids.length
      · obtain ⟨b, off, hao, hDb, hat⟩ := (HX.out.keep hrel.out.2 (fun i hi e => hDc (e ▸ hi))) j hlt
        obtain ⟨d, ao2, cp2, hd2, ⟨a0, a1, a2, a3, a4⟩, hok2, hz2, hkids⟩ := hat.open_
        obtain ⟨M, hM⟩ : ∃ M, M = N + 1 + nodesL (f.kids.take j) := ⟨_, rfl⟩
        obtain ⟨d1, hd1⟩ : ∃ d1, d1 = max d0 (deep + deepL (f.kids.take j)) := ⟨_, rfl⟩
        have hnt := nodesL_get f.kids j hlt
        have hdt : deepL (f.kids.take (j + 1)) = max (deepL (f.kids.take j)) (deepF f.kids[j]) := by rw [List.take_succ_eq_append_getElem hlt, deepL_snoc]
        have hle1 := nodesL_take f.kids (j + 1)
        have hle2 := deepL_take f.kids (j + 1)
        have hg1 := nodesF_pos f.kids[j]
        have hg2 := deepF_eq f.kids[j]
        rw [← hM, ← hd1] at hrel
        generalize f.kids[j] = g at *
        have HNX : Hid (∀ w2 : World, w2.heap[c]? = some (.cells #[.int .i64 (M + nodesF g : Nat), .int .i64 (max d1 (deep + 1 + deepF g - 1) : Nat)] 97 (0, 0)) → w2.heap[c]? = some (.cells #[.int .i64 (N + 1 + nodesL (f.kids.take (j + 1)) : Nat), .int .i64 (max d0 (deep + deepL (f.kids.take (j + 1))) : Nat)] 97 (0, 0))) := hid (fun w2 h => by
          have e1 : M + nodesF g = N + 1 + nodesL (f.kids.take (j + 1)) := by omega
          have e2 : max d1 (deep + 1 + deepF g - 1) = max d0 (deep + deepL (f.kids.take (j + 1))) := by omega
          rw [← e1, ← e2]; exact h)
        have hcA : Chg (fun _ => False) wr (wr.alloc (.cells #[.int .i64 g.op, .int .i64 g.k, .string ⟨g.r.1.toArray⟩, .string ⟨g.r.2.toArray⟩, .slice ao2 g.kids.length cp2] 26)) := (Chg.refl _ wr).alloc _
        have hbk := blk_keep hrel.out.1 hcA id
        have e0 := cell_blk hbk 0
        simp only [List.getElem?_toArray, List.getElem?_cons_zero] at e0
        have hnb := heap_alloc_new wr (.cells #[.int .i64 g.op, .int .i64 g.k, .string ⟨g.r.1.toArray⟩, .string ⟨g.r.2.toArray⟩, .slice ao2 g.kids.length cp2] 26)
        have s0 := cell_blk hnb 0
        have s1 := cell_blk hnb 1
        have s2 := cell_blk hnb 2
        have s3 := cell_blk hnb 3
        have s4 := cell_blk hnb 4
        simp only [List.getElem?_toArray, List.getElem?_cons_zero, List.getElem?_cons_succ] at s0 s1 s2 s3 s4
        have z1 : decide ((4096 : Int) < (M : Int)) = false := decide_eq_false (by omega)
        have HIH : Hid (Calls Try.prog 73 #[.pointer (some ⟨c, 0, none⟩), .agg #[.int .i64 g.op, .int .i64 g.k, .string ⟨g.r.1.toArray⟩, .string ⟨g.r.2.toArray⟩, .slice ao2 g.kids.length cp2], .int .i64 ((deep : Int) + 1)] (wr.alloc (.cells #[.int .i64 g.op, .int .i64 g.k, .string ⟨g.r.1.toArray⟩, .string ⟨g.r.2.toArray⟩, .slice ao2 g.kids.length cp2] 26)) fun e w' => e = .returned (.tuple #[]) ∧ w'.heap[c]? = some (.cells #[.int .i64 (M + nodesF g : Nat), .int .i64 (max d1 (deep + 1 + deepF g - 1) : Nat)] 97 (0, 0)) ∧ Chg (· = c) (wr.alloc (.cells #[.int .i64 g.op, .int .i64 g.k, .string ⟨g.r.1.toArray⟩, .string ⟨g.r.2.toArray⟩, .slice ao2 g.kids.length cp2] 26)) w') := hid (HIN.out d hd2 g ao2 cp2 c M d1 (deep + 1) _ (hkids.keep hcA (fun _ _ => id)) hbk hDc (by omega) (by omega) (by omega))
        have HC2 := hid (hrel.out.2.trans hcA (fun _ _ h => h.elim))
        have HLT := hid hlt
        clear hcA hbk hnb hrel hkids hat hM hd1 hnt hdt hle1 hle2 hg1 hg2 hok2 hd2
        subst hao
        go_wp2_with fail
        refine HIH.out.mono ?_
        rintro e w3 ⟨rfl, hk3, hc3⟩
        have HC3 := hid (HC2.out.trans hc3 (fun _ _ h => h))
        have HB3 := hid (HNX.out w3 hk3)
        clear HIH HC2 hk3 hc3 e0 s0 s1 s2 s3 s4 a0 a1 a2 a3 a4
        go_wp2
        go_roundw
        case rel => exact ⟨j + 1, HLT.out, by go_num, hid ⟨HB3.out, HC3.out⟩⟩
        case measure => have := HLT.out; simp [intOf]; omega
      · have hje : j = f.kids.length := by omega
        have hr := hrel.out
        rw [hje, List.take_length] at hr
        have HR := hid hr
        clear hr hrel hje
        go_wp2
        go_end0
        refine ⟨rfl, ?_, HR.out.2⟩
        have e1 : N + nodesF f = N + 1 + nodesL f.kids := by rw [nodesF_eq]; omega
        have e2 : max d0 (deep + deepF f - 1) = max d0 (deep + deepL f.kids) := by rw [deepF_eq]; have := HMX.out; omega
        rw [e1, e2]
        exact HR.out.1
set_option maxRecDepth 100000 in
set_option maxHeartbeats 4000000 in
theorem fm_size {D : Nat → Prop} (n : Nat) (f : FmB) (ao : Option Addr) (cp : Nat) (w : World) (h : FmsAt D w n ao f.kids) (hD : ∀ i, D i → i < w.heap.size) (hN : nodesF f ≤ 4096) :
    Calls Try.prog 43 #[.agg #[.int .i64 f.op, .int .i64 f.k, .string ⟨f.r.1.toArray⟩, .string ⟨f.r.2.toArray⟩, .slice ao f.kids.length cp]] w fun e w' => e = .returned (.tuple #[.int .i64 (nodesF f : Nat), .int .i64 (deepF f : Nat)]) ∧ Chg (fun _ => False) w w' := by
  have hdn := deep_nodes f
  have hc1 : Chg (fun _ => False) w (w.alloc (.cells #[.int .i64 f.op, .int .i64 f.k, .string ⟨f.r.1.toArray⟩, .string ⟨f.r.2.toArray⟩, .slice ao f.kids.length cp] 26)) := (Chg.refl _ w).alloc _
  have hc2 : Chg (fun _ => False) w ((w.alloc (.cells #[.int .i64 f.op, .int .i64 f.k, .string ⟨f.r.1.toArray⟩, .string ⟨f.r.2.toArray⟩, .slice ao f.kids.length cp] 26)).alloc (.cells #[.int .i64 0, .int .i64 0] 97)) := hc1.alloc _
  have hC := heap_alloc_new (w.alloc (.cells #[.int .i64 f.op, .int .i64 f.k, .string ⟨f.r.1.toArray⟩, .string ⟨f.r.2.toArray⟩, .slice ao f.kids.length cp] 26)) (.cells #[.int .i64 0, .int .i64 0] 97)
  have hsz : (w.alloc (.cells #[.int .i64 f.op, .int .i64 f.k, .string ⟨f.r.1.toArray⟩, .string ⟨f.r.2.toArray⟩, .slice ao f.kids.length cp] 26)).heap.size = w.heap.size + 1 := by simp
  rw [hsz] at hC
  have hadd := fm_add n f ao cp _ 0 0 1 _ (h.keep hc2 (fun _ _ => id)) hC (fun h => by have := hD _ h; omega) (by omega) (by omega) (by omega)
  have hbF := blk_keep (heap_alloc_new w (.cells #[.int .i64 f.op, .int .i64 f.k, .string ⟨f.r.1.toArray⟩, .string ⟨f.r.2.toArray⟩, .slice ao f.kids.length cp] 26)) ((Chg.refl (fun _ => False) _).alloc (.cells #[.int .i64 0, .int .i64 0] 97)) id
  have s0 := cell_blk hbF 0
  have s1 := cell_blk hbF 1
  have s2 := cell_blk hbF 2
  have s3 := cell_blk hbF 3
  have s4 := cell_blk hbF 4
  simp only [List.getElem?_toArray, List.getElem?_cons_zero, List.getElem?_cons_succ] at s0 s1 s2 s3 s4
  have HADD := hid hadd
  have HC2 := hid hc2
  have HSZ := hid hsz
  clear h hD hadd hc1 hc2 hC hbF hsz
  go_enter Try.func43, Try.ntmps43
  go_wp2_with fail
  refine HADD.out.mono ?_
  rintro e w3 ⟨rfl, hk, hc3⟩
  have HC3 := hid (HC2.out.trans hc3 (fun i hi e => by have := HSZ.out; omega))
  have e2 : max 0 (1 + deepF f - 1) = deepF f := by omega
  rw [Nat.zero_add, e2] at hk
  have k0 := cell_blk hk 0
  have k1 := cell_blk hk 1
  simp only [List.getElem?_toArray, List.getElem?_cons_zero, List.getElem?_cons_succ] at k0 k1
  have z1 : decide ((4096 : Int) < (nodesF f : Int)) = false := decide_eq_false (by omega)
  have HK := hid hk
  clear HADD HC2 hc3 hk s0 s1 s2 s3 s4 e2
  go_wp2
  generalize w.heap.size + 1 = C at *
  refine wp_region_specs [.any, .any, .eq (.int .i64 (nodesF f : Nat)), .eq (.int .i64 (deepF f : Nat)), .eq (.pointer (some ⟨C, 0, none⟩)), .any, .any, .any, .any, .any, .eq (.pointer (some ⟨C, 0, none⟩)), .eq (.int .i64 (nodesF f : Nat)), .eq (.pointer (some ⟨C, 1, none⟩)), .eq (.int .i64 (deepF f : Nat))] [10, 11, 12, 13, 2, 3] [4] (by kernel_rfl) (by kernel_rfl) (by rfl) (by kernel_rfl) ?start ?obs ?fin
  case start =>
    simp only [List.forall_mem_cons]; exact ⟨⟨_, rfl, rfl⟩, fun _ h => by cases h⟩
  case obs =>
    clear k0 k1
    refine Obs.cons none (by kernel_rfl) ?_ ?_
    · refine Ob.plain fun a w hR hk K k => ?_
      obtain ⟨_, e4, rfl⟩ := hk 4 (by decide)
      clear hk
      go_simp
      exact k _ _ (Chg.refl _ _) rfl
    refine Obs.cons none (by kernel_rfl) ?_ ?_
    · refine Ob.plain fun a w hR hk K k => ?_
      obtain ⟨_, e10, rfl⟩ := hk 10 (by decide)
      clear hk
      have hb := blk_keep HK.out hR id
      have k0 := cell_blk hb 0
      have k1 := cell_blk hb 1
      simp only [List.getElem?_toArray, List.getElem?_cons_zero, List.getElem?_cons_succ] at k0 k1
      clear hb hR
      go_simp
      exact k _ _ (Chg.refl _ _) rfl
    refine Obs.cons none (by kernel_rfl) ?_ ?_
    · refine Ob.plain fun a w hR hk K k => ?_
      obtain ⟨_, e4, rfl⟩ := hk 4 (by decide)
      clear hk
      go_simp
      exact k _ _ (Chg.refl _ _) rfl
    refine Obs.cons none (by kernel_rfl) ?_ ?_
    · refine Ob.plain fun a w hR hk K k => ?_
      obtain ⟨_, e12, rfl⟩ := hk 12 (by decide)
      clear hk
      have hb := blk_keep HK.out hR id
      have k0 := cell_blk hb 0
      have k1 := cell_blk hb 1
      simp only [List.getElem?_toArray, List.getElem?_cons_zero, List.getElem?_cons_succ] at k0 k1
      clear hb hR
      go_simp
      exact k _ _ (Chg.refl _ _) rfl
    refine Obs.cons none (by kernel_rfl) ?_ ?_
    · refine Ob.plain fun a w hR hk K k => ?_
      obtain ⟨_, e11, f11⟩ := hk 11 (by decide)
      clear hk
      go_simp
      exact k _ _ (Chg.refl _ _) f11
    refine Obs.cons none (by kernel_rfl) ?_ ?_
    · refine Ob.plain fun a w hR hk K k => ?_
      obtain ⟨_, e13, f13⟩ := hk 13 (by decide)
      clear hk
      go_simp
      exact k _ _ (Chg.refl _ _) f13
    exact Obs.nil
  case fin =>
    intro vals w9 hc9 hv
    have h2 : vals 2 = .int .i64 (nodesF f : Nat) := hv 2 (by decide)
    have h3 : vals 3 = .int .i64 (deepF f : Nat) := hv 3 (by decide)
    have HC4 := hid (HC3.out.trans hc9 (fun _ _ h => h))
    simp only [putAll, List.setIfInBounds_toArray, List.set_cons_zero, List.set_cons_succ, h2, h3]
    clear hv h2 h3 hc9
    go_wp2
    go_ret2
    exact ⟨rfl, HC4.out⟩
end Go.Proofs.Ytcbfieodjbfjdaa

/- Plain arithmetic of layer 1's numbers: nothing of the program's text. -/
namespace Go.Proofs.Ytcbfieodjbfjdaa
open Go.RowKit

/-- A number's bytes: one that isn't the last; the last. -/
def dg (n : Nat) : UInt8 := UInt8.ofNat (128 + n % 128)
def ds (n : Nat) : UInt8 := UInt8.ofNat n
def enc (n : Nat) : List UInt8 := if n < 128 then [ds n] else dg n :: enc (n / 128)
  termination_by n
  decreasing_by omega

theorem enc_small {n : Nat} (h : n < 128) : enc n = [ds n] := by rw [enc, if_pos h]
theorem enc_big {n : Nat} (h : 128 ≤ n) : enc n = dg n :: enc (n / 128) := by rw [enc, if_neg (by omega)]

theorem enc_length : ∀ (k n : Nat), n < 128 ^ (k + 1) → (enc n).length ≤ k + 1
  | 0, n, h => by rw [enc_small (by omega)]; simp
  | k + 1, n, h => by
    by_cases h1 : n < 128
    · rw [enc_small h1]; simp
    · rw [enc_big (by omega)]
      have := enc_length k (n / 128) (by rw [Nat.pow_succ] at h; omega)
      simp only [List.length_cons]
      omega

theorem enc_length9 {n : Nat} (h : n < 9223372036854775808) : (enc n).length ≤ 9 := enc_length 8 n (by simpa using h)

theorem enc_pos (n : Nat) : 0 < (enc n).length := by
  by_cases h1 : n < 128
  · rw [enc_small h1]; simp
  · rw [enc_big (by omega)]; simp

theorem bits_and_i64_127 (n : Nat) (h : n < 9223372036854775808) : bits .and .i64 (n : Int) 127 = ((n % 128 : Nat) : Int) := by
  have h1 : (BitVec.ofInt 64 (n : Int)).toNat = n := by
    rw [BitVec.ofInt_natCast, BitVec.toNat_ofNat]; exact Nat.mod_eq_of_lt (by omega)
  show IntKind.i64.wrap ((BitVec.ofInt 64 (n : Int) &&& BitVec.ofInt 64 127).toNat : Int) = _
  rw [BitVec.toNat_and, h1]
  have h2 : (BitVec.ofInt 64 127).toNat = 2 ^ 7 - 1 := by decide
  rw [h2, Nat.and_two_pow_sub_one_eq_mod]
  exact IntWalk.i64_in _ (by omega)

theorem bits_or_u8_128 (d : Nat) (h : d < 128) : bits .or .u8 (d : Int) 128 = ((128 + d : Nat) : Int) := by
  have h1 : (BitVec.ofInt 8 (d : Int)).toNat = d := by
    rw [BitVec.ofInt_natCast, BitVec.toNat_ofNat]; exact Nat.mod_eq_of_lt (by omega)
  show IntKind.u8.wrap ((BitVec.ofInt 8 (d : Int) ||| BitVec.ofInt 8 128).toNat : Int) = _
  rw [BitVec.toNat_or, h1]
  have h2 : (BitVec.ofInt 8 128).toNat = 1 <<< 7 := by decide
  rw [h2, Nat.or_comm, ← Nat.shiftLeft_add_eq_or_of_lt (by simpa using h)]
  simp only [Nat.shiftLeft_eq]
  exact IntWalk.u8_in _ (by omega)

theorem dg_toNat (n : Nat) : (dg n).toNat = 128 + n % 128 := ofNat_u8 _ (by omega)
theorem ds_toNat {n : Nat} (h : n < 128) : (ds n).toNat = n := ofNat_u8 _ (by omega)

theorem digit_of (n : Nat) (h : n < 9223372036854775808) : bits .or .u8 (bits .and .i64 (n : Int) 127 % 256) 128 = ((dg n).toNat : Int) := by
  have e : ((n % 128 : Nat) : Int) % 256 = ((n % 128 : Nat) : Int) := by omega
  rw [bits_and_i64_127 n h, e, bits_or_u8_128 _ (Nat.mod_lt _ (by decide)), dg_toNat]

end Go.Proofs.Ytcbfieodjbfjdaa

/- The contracts of the document's Number and Text. -/
namespace Go.Proofs.Ytcbfieodjbfjdaa
open Go.RowKit

set_option maxRecDepth 100000 in
theorem refnum_any (n : Nat) (w : World) (hn : n < 9223372036854775808) :
    Calls Try.prog 122 #[.int .i64 n] w fun e w' => e = .returned (.string ⟨(enc n).toArray⟩) ∧ Chg (fun _ => False) w w' := by
  go_enter Try.func122, Try.ntmps122
  go_wp2
  go_loopw [0, 3] (fun i s wr => ∃ (m : Nat) (ys : List UInt8), i = .int .i64 m ∧ m < 9223372036854775808 ∧ s = .string ⟨ys.toArray⟩ ∧ Chg (fun _ => False) w wr ∧ Hid (ys ++ enc m = enc n)) (fun i _ _ => (intOf i).toNat)
  case atStart => exact ⟨n, [], rfl, hn, rfl, Chg.refl _ _, rfl⟩
  case round =>
    obtain ⟨m, ys, rfl, hm, rfl, hch, HS⟩ := hrel
    have hyl : ys.length ≤ 9 := by
      have h1 := congrArg List.length HS.out
      have h2 := enc_length9 hn
      simp only [List.length_append] at h1
      omega
    by_cases h128 : 128 ≤ m
    · have hcv := conv_one (dg m) (128 + (m : Int) % 128) wr (by rw [dg_toNat]; omega)
      go_wp2
      go_roundw
      case rel => exact ⟨m / 128, ys ++ [dg m], congrArg (Value.int .i64) (by omega), by omega, congrArg Value.string (ByteArray.mk_append_mk ys [dg m]), hch.alloc _, hid (by rw [← HS.out, enc_big h128]; simp)⟩
      case measure => simp [intOf]; omega
    · have h128' : m < 128 := by omega
      have hcv := conv_one (ds m) m wr (by rw [ds_toNat h128'])
      have HF : Hid ((ys ++ [ds m]).toArray = (enc n).toArray) := hid (by rw [← HS.out, enc_small h128'])
      clear HS
      go_wp2
      go_ret
      refine ⟨?_, hch.alloc _⟩
      have h := ByteArray.mk_append_mk ys [ds m]
      rw [← HF.out, ← h]
      rfl

theorem reftext_any (l : List UInt8) (w : World) (hl : l.length ≤ 140737488355328) :
    Calls Try.prog 141 #[.string ⟨l.toArray⟩] w fun e w' => e = .returned (.string ⟨(enc l.length ++ l).toArray⟩) ∧ Chg (fun _ => False) w w' := by
  have h1 := refnum_any l.length w (by omega)
  have he := enc_length9 (n := l.length) (by omega)
  go_enter Try.func141, Try.ntmps141
  go_wp2_with (go_at_call 122; refine h1.mono ?_; rintro e w1 ⟨rfl, hc⟩)
  go_ret
  refine ⟨?_, hc⟩
  rw [← ByteArray.mk_append_mk]
  rfl

end Go.Proofs.Ytcbfieodjbfjdaa

/- What a reading comes to. -/
namespace Go.Proofs.Ytcbfieodjbfjdaa
open Go.RowKit

end Go.Proofs.Ytcbfieodjbfjdaa

/- The contracts of the document's tape: Number, Text, End. -/
namespace Go.Proofs.Ytcbfieodjbfjdaa
open Go.RowKit

end Go.Proofs.Ytcbfieodjbfjdaa
