/- Texts that the proof leans on, in one: FmHolds, End, Defer, Read, FmTrue, RoleHas, RoleSpec. -/
import Derived.Test.YtlmlcjjjkplccaaNa8
import Derived.Test.YtlmlcjjjkplccaaNa7
import Derived.Test.YtlmlcjjjkplccaaNa6
import Derived.Defers
import Derived.Recover
import Derived.LaidEqlPtr
import Derived.Test.YtlmlcjjjkplccaaNa2
import Derived.Test.YtlmlcjjjkplccaaNa3
/- Is a formula true? -/
namespace Go.Proofs.Ytlmlcjjjkplccaa
open Go.RowKit

/-- A function's value says which roles there are. -/
def AskR (gf : Nat) (fi cap : Array Value) (T : RoleB → Bool) (w : World) : Prop :=
  ∀ (r : RoleB) (W : World), r.1.length ≤ 9223372036854775807 → r.2.length ≤ 9223372036854775807 → Chg (fun _ => False) w W → Calls Try.prog gf (fi.push (.agg #[.string ⟨r.1.toArray⟩, .string ⟨r.2.toArray⟩]) ++ cap) W fun e w' => e = .returned (.bool (T r)) ∧ Chg (fun _ => False) W w'
theorem AskR.later {gf : Nat} {fi cap : Array Value} {T : RoleB → Bool} {w w' : World} (h : AskR gf fi cap T w) (hc : Chg (fun _ => False) w w') : AskR gf fi cap T w' := fun r W h1 h2 hW => h r W h1 h2 (hc.trans hW (fun _ _ h => h))

theorem fm_least (op k : Int) (r : RoleB) (ao : Option Addr) (n cp : Nat) (w : World) :
    Calls Try.prog 35 #[.agg #[.int .i64 op, .int .i64 k, .string ⟨r.1.toArray⟩, .string ⟨r.2.toArray⟩, .slice ao n cp]] w fun e w' => e = .returned (.int .i64 (leastN op k n)) ∧ Chg (fun _ => False) w w' := by
  have hc : Chg (fun _ => False) w (w.alloc (.cells #[.int .i64 op, .int .i64 k, .string ⟨r.1.toArray⟩, .string ⟨r.2.toArray⟩, .slice ao n cp] 26)) := (Chg.refl _ w).alloc _
  have hb := heap_alloc_new w (.cells #[.int .i64 op, .int .i64 k, .string ⟨r.1.toArray⟩, .string ⟨r.2.toArray⟩, .slice ao n cp] 26)
  have s0 := cell_blk hb 0
  have s1 := cell_blk hb 1
  have s2 := cell_blk hb 2
  have s3 := cell_blk hb 3
  have s4 := cell_blk hb 4
  simp only [List.getElem?_toArray, List.getElem?_cons_zero, List.getElem?_cons_succ] at s0 s1 s2 s3 s4
  have HC := hid hc
  clear hc hb
  go_enter Try.func35, Try.ntmps35
  by_cases h2 : op = 2
  · subst h2
    go_wp2
    go_ret
    exact ⟨by simp [leastN], HC.out⟩
  · have z2 : decide (op = 2) = false := decide_eq_false h2
    by_cases h3 : op = 3
    · subst h3
      go_wp2
      go_ret
      exact ⟨by simp [leastN], HC.out⟩
    · have z3 : decide (op = 3) = false := decide_eq_false h3
      go_wp2
      go_ret
      exact ⟨by simp [leastN, h2, h3], HC.out⟩

set_option maxRecDepth 100000 in
set_option maxHeartbeats 4000000 in
theorem fm_holds {D : Nat → Prop} (gf : Nat) (fi cap : Array Value) (T : RoleB → Bool) (eg : ∀ args w, (callFunc gf args).run Try.prog w = .ok (.enter gf args) w) : ∀ (n : Nat) (f : FmB) (ao : Option Addr) (cp : Nat) (w : World), FmsAt D w n ao f.kids → FmOk f → nodesF f ≤ 1048576 → AskR gf fi cap T w →
    Calls Try.prog 23 #[.agg #[.int .i64 f.op, .int .i64 f.k, .string ⟨f.r.1.toArray⟩, .string ⟨f.r.2.toArray⟩, .slice ao f.kids.length cp], .func (.func gf) fi cap] w fun e w' => e = .returned (.bool (holdsF T f)) ∧ Chg (fun _ => False) w w' := by
  intro n
  induction n using Nat.strongRecOn with
  | _ n ih =>
  intro f ao cp w h hok hN hask
  have hnl := nodesL_len f.kids
  have hnf := nodesF_eq f
  have HX := hid h
  have HIN := hid ih
  have HOK := hid hok
  have HAS := hid hask
  have hcA : Chg (fun _ => False) w (w.alloc (.cells #[.int .i64 f.op, .int .i64 f.k, .string ⟨f.r.1.toArray⟩, .string ⟨f.r.2.toArray⟩, .slice ao f.kids.length cp] 26)) := (Chg.refl _ w).alloc _
  have hb := heap_alloc_new w (.cells #[.int .i64 f.op, .int .i64 f.k, .string ⟨f.r.1.toArray⟩, .string ⟨f.r.2.toArray⟩, .slice ao f.kids.length cp] 26)
  have s0 := cell_blk hb 0
  have s1 := cell_blk hb 1
  have s2 := cell_blk hb 2
  have s3 := cell_blk hb 3
  have s4 := cell_blk hb 4
  simp only [List.getElem?_toArray, List.getElem?_cons_zero, List.getElem?_cons_succ] at s0 s1 s2 s3 s4
  have HC0 := hid hcA
  have HB0 := hid hb
  have HASK := hid (hask f.r (w.alloc (.cells #[.int .i64 f.op, .int .i64 f.k, .string ⟨f.r.1.toArray⟩, .string ⟨f.r.2.toArray⟩, .slice ao f.kids.length cp] 26)) hok.1 hok.2 hcA)
  clear h ih hok hcA hb hask
  go_enter Try.func23, Try.ntmps23
  have hhf := holdsF_eq T f
  by_cases h1 : f.op = 1
  · rw [if_pos h1] at hhf
    rw [h1] at s0
    have HASK1 := HASK.out
    rw [h1] at HASK1
    have HASK2 := hid HASK1
    have HC1 := HC0.out
    rw [h1] at HC1
    have HC9 := hid HC1
    clear HASK1 HC1
    go_wp2_with fail
    refine HASK2.out.mono ?_
    rintro e w2 ⟨rfl, hc2⟩
    have HC2 := hid (HC9.out.trans hc2 (fun _ _ h => h))
    clear hc2 HASK HASK2 HC9 s0 s1 s2 s3 s4
    go_wp2
    go_ret
    rw [hhf]
    exact ⟨rfl, HC2.out⟩
  · rw [if_neg h1] at hhf
    have z0 : (f.op == 1) = false := by simpa using h1
    have HHF := hid hhf
    clear hhf HASK
    go_wp2
    go_loopw [5, 18] (fun s i wr => ∃ j q : Nat, j ≤ f.kids.length ∧ i = .int .i64 j ∧ s = .int .i64 (q : Nat) ∧ q ≤ j ∧ Hid (q = holdsN T (f.kids.take j)) ∧ Hid (Chg (fun _ => False) (w.alloc (.cells #[.int .i64 f.op, .int .i64 f.k, .string ⟨f.r.1.toArray⟩, .string ⟨f.r.2.toArray⟩, .slice ao f.kids.length cp] 26)) wr)) (fun _ i _ => f.kids.length - (intOf i).toNat)
    case atStart => exact ⟨0, 0, Nat.zero_le _, rfl, rfl, Nat.le_refl _, hid (by simp [holdsN]), hid (Chg.refl _ _)⟩
    case round =>
      obtain ⟨j, q, hj, rfl, rfl, hqj, hq, hrel⟩ := hrel
      by_cases hlt : j < f.kids.length
      · have hcw := HC0.out.trans hrel.out (fun _ _ h => h)
        obtain ⟨b, off, hao, hDb, hat⟩ := (HX.out.keep hcw (fun _ _ => id)) j hlt
        obtain ⟨d, ao2, cp2, hd2, ⟨a0, a1, a2, a3, a4⟩, hok2, hz2, hkids⟩ := hat.open_
        have hns := holdsN_snoc T (f.kids.take j) f.kids[j]
        rw [← List.take_succ_eq_append_getElem hlt, ← hq.out] at hns
        have hle1 := nodesL_mem (List.getElem_mem hlt)
        generalize f.kids[j] = g at *
        have HNS := hid hns
        have hcB : Chg (fun _ => False) wr (wr.alloc (.cells #[.int .i64 g.op, .int .i64 g.k, .string ⟨g.r.1.toArray⟩, .string ⟨g.r.2.toArray⟩, .slice ao2 g.kids.length cp2] 26)) := (Chg.refl _ wr).alloc _
        have hnb := heap_alloc_new wr (.cells #[.int .i64 g.op, .int .i64 g.k, .string ⟨g.r.1.toArray⟩, .string ⟨g.r.2.toArray⟩, .slice ao2 g.kids.length cp2] 26)
        have t0 := cell_blk hnb 0
        have t1 := cell_blk hnb 1
        have t2 := cell_blk hnb 2
        have t3 := cell_blk hnb 3
        have t4 := cell_blk hnb 4
        simp only [List.getElem?_toArray, List.getElem?_cons_zero, List.getElem?_cons_succ] at t0 t1 t2 t3 t4
        have HIH := hid (HIN.out d hd2 g ao2 cp2 (wr.alloc (.cells #[.int .i64 g.op, .int .i64 g.k, .string ⟨g.r.1.toArray⟩, .string ⟨g.r.2.toArray⟩, .slice ao2 g.kids.length cp2] 26)) (hkids.keep hcB (fun _ _ => id)) hok2 (by omega) (HAS.out.later (hcw.trans hcB (fun _ _ h => h))))
        have HC1 := hid (hcw.trans hcB (fun _ _ h => h))
        have HC2 := hid (hrel.out.trans hcB (fun _ _ h => h))
        have HLT := hid hlt
        have HZ := hid z0
        clear hcB hnb hrel hkids hat hle1 hok2 hd2 hns hcw hq s0 s1 s2 s3 s4 z0
        subst hao
        go_wp2_with fail
        refine HIH.out.mono ?_
        rintro e w3 ⟨rfl, hc3⟩
        have HC3 := hid (HC2.out.trans hc3 (fun _ _ h => h))
        clear HIH HC2 HC1 hc3 a0 a1 a2 a3 a4 t0 t1 t2 t3 t4
        have HQJ := hid hqj
        cases hg : holdsF T g with
        | false =>
          have HQ2 : Hid (q = holdsN T (f.kids.take (j + 1))) := hid (by rw [HNS.out, hg]; rfl)
          clear hg
          go_wp2
          go_roundw
          case rel => exact ⟨j + 1, q, HLT.out, by go_num, rfl, by omega, HQ2, HC3⟩
          case measure => have := HLT.out; simp [intOf]; omega
        | true =>
          have HQ2 : Hid (q + 1 = holdsN T (f.kids.take (j + 1))) := hid (by rw [HNS.out, hg]; rfl)
          clear hg
          go_wp2
          go_roundw
          case rel => exact ⟨j + 1, q + 1, HLT.out, by go_num, by go_num, by omega, HQ2, HC3⟩
          case measure => have := HLT.out; simp [intOf]; omega
      · have hje : j = f.kids.length := by omega
        have hr := hrel.out
        have hq2 := hq.out
        rw [hje, List.take_length] at hq2
        have HQ := hid hq2
        have HR := hid hr
        have HLE := hid (fm_least f.op f.k f.r ao f.kids.length cp wr)
        have hb := blk_keep HB0.out hr id
        clear hr hrel hq hq2 s0 s1 s2 s3 s4
        have s0 := cell_blk hb 0
        have s1 := cell_blk hb 1
        have s2 := cell_blk hb 2
        have s3 := cell_blk hb 3
        have s4 := cell_blk hb 4
        simp only [List.getElem?_toArray, List.getElem?_cons_zero, List.getElem?_cons_succ] at s0 s1 s2 s3 s4
        clear hb hje
        go_wp2_with fail
        refine HLE.out.mono ?_
        rintro e w3 ⟨rfl, hc3⟩
        have HC3 := hid ((HC0.out.trans HR.out (fun _ _ h => h)).trans hc3 (fun _ _ h => h))
        clear hc3 HLE s0 s1 s2 s3 s4
        go_wp2
        go_ret
        rw [HHF.out, ← HQ.out]
        exact ⟨rfl, HC3.out⟩
end Go.Proofs.Ytlmlcjjjkplccaa

/- The contract of a reader's end. -/
namespace Go.Proofs.Ytlmlcjjjkplccaa
open Go.RowKit

end Go.Proofs.Ytlmlcjjjkplccaa

/- The three contracts of the function that Read defers. -/
namespace Go.Proofs.Ytlmlcjjjkplccaa
open Go.RowKit

end Go.Proofs.Ytlmlcjjjkplccaa

/- The four contracts of Read, by how f ends. -/
namespace Go.Proofs.Ytlmlcjjjkplccaa
open Go.RowKit

end Go.Proofs.Ytlmlcjjjkplccaa

/- True: is a formula true, of the roles that a function tells? -/
namespace Go.Proofs.Ytlmlcjjjkplccaa
open Go.RowKit

theorem equalIn_in_nilR (w : World) (d : Nat) (f : Fn) (bs lb : Array Value) : (Op.equalIn (d + 1) 39 (.func f bs lb) .nilFunc).run Try.prog w = .ok false w := by
  simp [Op.equalIn, run_underlying Try.underlying39]
theorem equal_in_nilR (w : World) (f : Fn) (bs lb : Array Value) : (Op.equal 39 (.func f bs lb) .nilFunc).run Try.prog w = .ok false w := equalIn_in_nilR w 9999 f bs lb
theorem eql_in_nilR (w : World) (f : Fn) (bs lb : Array Value) : (binOp .eql 39 (.func f bs lb) .nilFunc).run Try.prog w = .ok (.bool false) w := by
  simp only [binOp]
  simp [equal_in_nilR w f bs lb]

theorem neq20_nilR (w : World) : (binOp .neq 20 .nilIface .nilIface).run Try.prog w = .ok (.bool false) w := by kernel_rfl
theorem postS_endR {fn : Func} {c₀ : Frame} {cs : List Frame} {R : Ending → FrameMode → World → Prop} {u : FrameMode} {t : Array Value} {w : World} (hr : fn.results = #[]) (h : R (.returned (.tuple #[])) u w) :
    bodyPostS Try.prog fn c₀ cs R .normal { tmps := t, defers := [] } ({ c₀ with mode := u } :: cs) w :=
  ⟨rfl, u, rfl, .tuple #[], results_none hr _ _ _, h⟩
theorem mode_selfR {c : Frame} {u : FrameMode} (h : c.mode = u) : ({ c with mode := u } : Frame) = c := by
  subst h
  rfl

set_option maxRecDepth 100000 in
theorem fm_true1_idle (R : Nat) (w : World) :
    CallsD Try.prog 22 #[.pointer (some ⟨R, 0, none⟩)] .returning w fun e u' w' => e = .returned (.tuple #[]) ∧ u' = .returning ∧ w' = w := by
  refine callsD_of_wpS Try.func22 rfl fun c₀ cs hu => ?_
  simp only [Try.ntmps22, List.size_toArray, List.length_cons, List.length_nil, Nat.reduceAdd, Nat.reduceSub, Array.replicate_succ, Array.replicate_zero, List.push_toArray, List.append_toArray, List.nil_append, List.cons_append]
  have hq := neq20_nilR
  apply wpS_seq
  apply wpS_region
  simp [wpOpsS, go_sem, recoverD, hu, Exit.thenS, hq]
  refine wpS_of_wp ?_
  have HU := hid (mode_selfR hu)
  clear hu
  go_wp2
  rw [← HU.out]
  exact postS_endR rfl ⟨rfl, rfl, rfl⟩

set_option maxRecDepth 100000 in
set_option maxHeartbeats 4000000 in
theorem fm_true {D : Nat → Prop} (gf : Nat) (fi cap : Array Value) (T : RoleB → Bool) (eg : ∀ args w, (callFunc gf args).run Try.prog w = .ok (.enter gf args) w) (n : Nat) (f : FmB) (ao : Option Addr) (cp : Nat) (w : World) (h : FmsAt D w n ao f.kids) (hD : ∀ i, D i → i < w.heap.size) (hok : FmOk f) (hN : nodesF f ≤ 4096) (hask : AskR gf fi cap T w) :
    Calls Try.prog 14 #[.agg #[.int .i64 f.op, .int .i64 f.k, .string ⟨f.r.1.toArray⟩, .string ⟨f.r.2.toArray⟩, .slice ao f.kids.length cp], .func (.func gf) fi cap] w fun e w' => e = .returned (.bool (isF f && holdsF T f)) ∧ Chg (fun _ => False) w w' := by
  have hmf : ∀ (fn : Fn) (first cap : Array Value) (w : World), (Instr.makeFunc fn first cap).run Try.prog w = .ok (.func fn first cap) w := fun _ _ _ _ => rfl
  have hq := fun w => eql_in_nilR w (.func gf) fi cap
  have hc1 : Chg (fun _ => False) w (w.alloc (.cells #[.int .i64 f.op, .int .i64 f.k, .string ⟨f.r.1.toArray⟩, .string ⟨f.r.2.toArray⟩, .slice ao f.kids.length cp] 26)) := (Chg.refl _ w).alloc _
  have hc2 : Chg (fun _ => False) w ((w.alloc (.cells #[.int .i64 f.op, .int .i64 f.k, .string ⟨f.r.1.toArray⟩, .string ⟨f.r.2.toArray⟩, .slice ao f.kids.length cp] 26)).alloc (.cells #[.bool false] 4)) := hc1.alloc _
  have hsz : (w.alloc (.cells #[.int .i64 f.op, .int .i64 f.k, .string ⟨f.r.1.toArray⟩, .string ⟨f.r.2.toArray⟩, .slice ao f.kids.length cp] 26)).heap.size = w.heap.size + 1 := by simp
  have hb := blk_keep (heap_alloc_new w (.cells #[.int .i64 f.op, .int .i64 f.k, .string ⟨f.r.1.toArray⟩, .string ⟨f.r.2.toArray⟩, .slice ao f.kids.length cp] 26)) ((Chg.refl (fun _ => False) (w.alloc (.cells #[.int .i64 f.op, .int .i64 f.k, .string ⟨f.r.1.toArray⟩, .string ⟨f.r.2.toArray⟩, .slice ao f.kids.length cp] 26))).alloc (.cells #[.bool false] 4)) id
  have hbR := heap_alloc_new (w.alloc (.cells #[.int .i64 f.op, .int .i64 f.k, .string ⟨f.r.1.toArray⟩, .string ⟨f.r.2.toArray⟩, .slice ao f.kids.length cp] 26)) (.cells #[.bool false] 4)
  rw [hsz] at hbR
  have s0 := cell_blk hb 0
  have s1 := cell_blk hb 1
  have s2 := cell_blk hb 2
  have s3 := cell_blk hb 3
  have s4 := cell_blk hb 4
  simp only [List.getElem?_toArray, List.getElem?_cons_zero, List.getElem?_cons_succ] at s0 s1 s2 s3 s4
  have HRT := hid (fm_right n f ao cp ((w.alloc (.cells #[.int .i64 f.op, .int .i64 f.k, .string ⟨f.r.1.toArray⟩, .string ⟨f.r.2.toArray⟩, .slice ao f.kids.length cp] 26)).alloc (.cells #[.bool false] 4)) (h.keep hc2 (fun _ _ => id)) (fun i hi => Nat.lt_of_lt_of_le (hD i hi) hc2.size) hok hN)
  have HHO := hid (fun w' (hc : Chg (fun _ => False) w w') => fm_holds gf fi cap T eg n f ao cp w' (h.keep hc (fun _ _ => id)) hok (by omega) (hask.later hc))
  have HC0 := hid hc2
  have HB0 := hid (And.intro hb hbR)
  clear hc1 hc2 hsz hb hbR h hD hok hask
  go_enter_defers Try.func14, Try.ntmps14
  go_wp2_with fail
  refine HRT.out.mono ?_
  rintro e w3 ⟨rfl, hc3⟩
  have HC := hid (HC0.out.trans hc3 (fun _ _ h => h))
  obtain ⟨A, hAe⟩ : ∃ A, w.heap.size = A := ⟨_, rfl⟩
  have hb := blk_keep HB0.out.1 hc3 id
  have hbR := blk_keep HB0.out.2 hc3 id
  rw [hAe] at hb hbR
  have HAE := hid hAe
  simp only [hAe]
  clear s0 s1 s2 s3 s4 HRT HC0 HB0 hc3 hAe
  cases hf : isF f with
  | false =>
    have z6 := cell_blk hbR 0
    have f6 := froz_blk hbR 0
    simp only [List.getElem?_toArray, List.getElem?_cons_zero] at z6
    have hset : (w3.setCell ⟨A + 1, 0, none⟩ (.bool false)).cell? ⟨A + 1, 0, none⟩ = some (.bool false) := by
      have := cell_blk (set_blk hbR 0 (.bool false)) 0
      simpa using this
    have hsc := setCell_chg w3 (A + 1) 0 (.bool false)
    have HEND : Hid (Chg (fun _ => False) w (w3.setCell ⟨A + 1, 0, none⟩ (.bool false))) := hid (HC.out.trans hsc (fun i hi e => by have : i = A + 1 := e; have := HAE.out; omega))
    have HS := hid hset
    have HFF := hid hf
    clear hset hsc hbR hb hf HHO
    go_wp2
    have hc := HS.out
    simp [bodyPostD, Leaves, results, Try.results14, go_sem, hc]
    exact ⟨fun h => (by rw [HFF.out] at h; cases h), HEND.out⟩
  | true =>
    have HFF := hid hf
    have HHO2 := hid (HHO.out w3 HC.out)
    have s0 := cell_blk hb 0
    have s1 := cell_blk hb 1
    have s2 := cell_blk hb 2
    have s3 := cell_blk hb 3
    have s4 := cell_blk hb 4
    simp only [List.getElem?_toArray, List.getElem?_cons_zero, List.getElem?_cons_succ] at s0 s1 s2 s3 s4
    clear HHO hf
    have HBR := hid hbR
    clear hbR hb
    go_wp2_with fail
    refine HHO2.out.mono ?_
    rintro e w4 ⟨rfl, hc4⟩
    have hbR := blk_keep HBR.out hc4 id
    have HC5 := hid (HC.out.trans hc4 (fun _ _ h => h))
    clear HHO2 hc4 HBR HC
    have HC := HC5
    have z6 := cell_blk hbR 0
    have f6 := froz_blk hbR 0
    simp only [List.getElem?_toArray, List.getElem?_cons_zero] at z6
    have hset : (w4.setCell ⟨A + 1, 0, none⟩ (.bool (holdsF T f))).cell? ⟨A + 1, 0, none⟩ = some (.bool (holdsF T f)) := by
      have := cell_blk (set_blk hbR 0 (.bool (holdsF T f))) 0
      simpa using this
    have hsc := setCell_chg w4 (A + 1) 0 (.bool (holdsF T f))
    have HEND : Hid (Chg (fun _ => False) w (w4.setCell ⟨A + 1, 0, none⟩ (.bool (holdsF T f)))) := hid (HC.out.trans hsc (fun i hi e => by have : i = A + 1 := e; have := HAE.out; omega))
    have HS := hid hset
    clear hset hsc hbR s0 s1 s2 s3 s4
    go_wp2
    refine leaves_cons (f := 22) (args := #[.pointer (some ⟨A + 1, 0, none⟩)]) (by simp) (by simp [go_sem]) ?_
    refine (fm_true1_idle _ _).mono ?_
    rintro e u' w5 ⟨rfl, rfl, rfl⟩
    have hc := HS.out
    simp [Leaves, settle, results, Try.results14, go_sem, hc]
    exact ⟨fun _ => HFF.out, HEND.out⟩
end Go.Proofs.Ytlmlcjjjkplccaa

/- The contracts of the document's Has and Same of layer 4. -/
namespace Go.Proofs.Ytlmlcjjjkplccaa
open Go.RowKit

set_option maxRecDepth 100000 in
theorem rhas_ref {D : Nat → Prop} (ao : Option Addr) (cp : Nat) (ls : List RoleB) (r : RoleB) (w : World) (hn : ls.length ≤ 9223372036854775807) (h : RolesAt D w ao ls) :
    Calls Try.prog 13 #[.slice ao ls.length cp, roleV r] w fun e w' => e = .returned (.bool (hasR ls r)) ∧ Chg (fun _ => False) w w' := by
  obtain ⟨o, x⟩ := r
  show Calls Try.prog 13 #[.slice ao ls.length cp, .agg #[.string ⟨o.toArray⟩, .string ⟨x.toArray⟩]] w _
  have hc : Chg (fun _ => False) w (w.alloc (.cells #[.string ⟨o.toArray⟩, .string ⟨x.toArray⟩] 23)) := (Chg.refl _ w).alloc _
  have hA := heap_alloc_new w (.cells #[.string ⟨o.toArray⟩, .string ⟨x.toArray⟩] 23)
  have h' := h.keep hc (fun _ _ => id)
  go_enter Try.func13, Try.ntmps13
  go_wp2
  generalize hw1 : w.alloc (.cells #[.string ⟨o.toArray⟩, .string ⟨x.toArray⟩] 23) = w1 at *
  generalize w.heap.size = A at *
  go_loopw [9] (fun i wr => ∃ k : Nat, k ≤ ls.length ∧ i = .int .i64 k ∧ Hid (hasR (ls.take k) (o, x) = false) ∧ Chg (fun _ => False) w1 wr) (fun i _ => ls.length - (intOf i).toNat)
  case atStart => exact ⟨0, Nat.zero_le _, rfl, by rw [List.take_zero]; rfl, Chg.refl _ _⟩
  case round =>
    obtain ⟨k, hk, rfl, hf, hc1⟩ := hrel
    have hA1 := blk_keep hA hc1 id
    have a0 := cell_blk hA1 0
    have a1 := cell_blk hA1 1
    simp only [List.getElem?_toArray, List.getElem?_cons_zero, List.getElem?_cons_succ] at a0 a1
    by_cases hlt : k < ls.length
    · obtain ⟨b, off, rfl, _, c0, c1, _⟩ := (h'.keep hc1 (fun _ _ => id)) k hlt
      have hft := hasR_take ls (o, x) k hlt hf.out
      have HFT := hid hft
      clear h h' hft
      have hmem : Hid (ls[k] ∈ ls) := hid (List.getElem_mem hlt)
      generalize ls[k] = q at *
      obtain ⟨p, y⟩ := q
      have hc2 : Chg (fun _ => False) wr (wr.alloc (.cells #[.string ⟨p.toArray⟩, .string ⟨y.toArray⟩] 23)) := (Chg.refl _ wr).alloc _
      have b0 := hc2.cell a0 id
      have b1 := hc2.cell a1 id
      have HC := hid (hc1.trans hc2 (fun _ _ h => h))
      have HW := hid hc
      clear hc hc1 hc2 hA hA1 hw1
      by_cases e1 : p = o
      · subst e1
        have f1 : (p == p) = true := by simp
        by_cases e2 : y = x
        · subst e2
          have f2 : (y == y) = true := by simp
          have hh : Hid (hasR ls (p, y) = true) := hid (by simpa [hasR] using hmem.out)
          go_wp2
          go_ret
          exact ⟨by rw [hh.out]; rfl, HW.out.trans HC.out (fun _ _ h => h)⟩
        · have f2 : (y == x) = false := by simpa using e2
          have hx := hid (HFT.out (fun h => e2 (congrArg Prod.snd h)))
          clear e2
          go_wp2
          go_roundw
          case rel => exact ⟨k + 1, by omega, by go_num, hx, HC.out⟩
          case measure => simp [intOf]; omega
      · have f1 : (p == o) = false := by simpa using e1
        have hx := hid (HFT.out (fun h => e1 (congrArg Prod.fst h)))
        clear e1
        go_wp2
        go_roundw
        case rel => exact ⟨k + 1, by omega, by go_num, hx, HC.out⟩
        case measure => simp [intOf]; omega
    · have hk2 : k = ls.length := by omega
      have hh : Hid (hasR ls (o, x) = false) := by have := hf.out; rwa [List.take_of_length_le (by omega)] at this
      have HC := hid (hc.trans hc1 (fun _ _ h => h))
      clear h h' hc hc1 hA hA1 hw1
      go_wp2
      go_ret
      exact ⟨by rw [hh.out]; rfl, HC.out⟩
end Go.Proofs.Ytlmlcjjjkplccaa

/- Roles in slots. -/
namespace Go.Proofs.Ytlmlcjjjkplccaa
open Go.RowKit

/-- An operation whose guard was not run. -/
theorem Ob.und {P : Program} {Q : Exit → Act → World → Prop} {R : World → World → Prop} {G : Tmp → Value → World → Prop} {w0 : World} {o : Oper} {t : Tmp} {b : Bool}
    (hb : ∀ v w, G t v w → v = undef) (hrefl : ∀ w, R w w) (hd : ∀ w, R w0 w → Gd G o.dst undef w) : Ob P Q R G w0 (some (t, b)) o := by
  intro a w hR hk K hK
  obtain ⟨v, hv, hg⟩ := hk t (by simp [looks, gTmps])
  have := hb v w hg
  subst this
  have hne : ¬ (says b a.tmps[t]? = true) := by
    rw [hv]
    simp [says, undef]
  simp only [if_neg hne]
  exact hK _ _ (hrefl w) (hd w hR)

end Go.Proofs.Ytlmlcjjjkplccaa
