/- Texts that the proof leans on, in one: PcRight, CredMath, CredText, RoleParse, BackNum, RoleBackMath, CredGet, PcBytes, FmBytes. -/
import Derived.Test.YtcbfieodjbfjdaaNc9
import Derived.Test.YtcbfieodjbfjdaaNc8
import Derived.Test.YtcbfieodjbfjdaaNc2
import Derived.Test.YtcbfieodjbfjdaaNc1
import Derived.Test.YtcbfieodjbfjdaaNc6
import Derived.Test.YtcbfieodjbfjdaaNc3
import Derived.Test.YtcbfieodjbfjdaaNc7
/- The document's well and Right of layer 11. -/
namespace Go.Proofs.Ytcbfieodjbfjdaa
open Go.RowKit

set_option maxRecDepth 100000 in
set_option maxHeartbeats 4000000 in
theorem rn_well {D : Nat → Prop} : ∀ (n : Nat) (f : FmB) (ao : Option Addr) (cp : Nat) (w : World), FmsAt D w n ao f.kids → FmOk f → nodesF f ≤ 1048576 →
    Calls Try.prog 49 #[.agg #[.int .i64 f.op, .int .i64 f.k, .string ⟨f.r.1.toArray⟩, .string ⟨f.r.2.toArray⟩, .slice ao f.kids.length cp]] w fun e w' => e = .returned (.bool (rightF f)) ∧ Chg (fun _ => False) w w' := by
  intro n
  induction n using Nat.strongRecOn with
  | _ n ih =>
  intro f ao cp w h hok hN
  have hnl := nodesL_len f.kids
  have hnf := nodesF_eq f
  have hdf := deepF_eq f
  have hdn := deep_nodes f
  have HX := hid h
  have HIN := hid ih
  have HOK := hid hok
  clear h ih hok
  have hcA : Chg (fun _ => False) w (w.alloc (.cells #[.int .i64 f.op, .int .i64 f.k, .string ⟨f.r.1.toArray⟩, .string ⟨f.r.2.toArray⟩, .slice ao f.kids.length cp] 26)) := (Chg.refl _ w).alloc _
  have hb := heap_alloc_new w (.cells #[.int .i64 f.op, .int .i64 f.k, .string ⟨f.r.1.toArray⟩, .string ⟨f.r.2.toArray⟩, .slice ao f.kids.length cp] 26)
  have s0 := cell_blk hb 0
  have s1 := cell_blk hb 1
  have s2 := cell_blk hb 2
  have s3 := cell_blk hb 3
  have s4 := cell_blk hb 4
  simp only [List.getElem?_toArray, List.getElem?_cons_zero, List.getElem?_cons_succ] at s0 s1 s2 s3 s4
  have HC0 := hid hcA
  have HB0 := hid hb
  clear hcA hb
  clear hdf hdn
  have HOK2 := hid (show f.r.1.length ≤ 9223372036854775807 ∧ f.r.2.length ≤ 9223372036854775807 from HOK.out)
  have hre := rightF_eq f
  generalize hrr : f.r = rr at *
  have HRE2 := hid hre
  have HRR2 := hid hrr
  clear hre hrr
  go_enter Try.func49, Try.ntmps49
  by_cases ho : f.op = 1
  · have z0 : (f.op == 1) = true := beq_iff_eq.2 ho
    have HRR := hid (fun w => rright_ref rr w HOK2.out.1 HOK2.out.2)
    unfold roleV at HRR
    have HO := hid ho
    clear ho
    go_wp2_with fail
    refine (HRR.out _).mono ?_
    rintro e w2 ⟨rfl, hc2⟩
    have hb2 := blk_keep HB0.out hc2 id
    have HC2 := hid (HC0.out.trans hc2 (fun _ _ h => h))
    clear s0 s1 s2 s3 s4 hc2 HRR
    have s0 := cell_blk hb2 0
    have s1 := cell_blk hb2 1
    have s2 := cell_blk hb2 2
    have s3 := cell_blk hb2 3
    have s4 := cell_blk hb2 4
    simp only [List.getElem?_toArray, List.getElem?_cons_zero, List.getElem?_cons_succ] at s0 s1 s2 s3 s4
    have HF : Hid (rightF f = (isRole rr && (decide (f.kids.length = 0) && decide (f.k = 0)))) := hid (by
      rw [HRE2.out, rightN, if_pos HO.out]
      by_cases hz : f.kids.length = 0
      · rw [List.eq_nil_of_length_eq_zero hz]; rfl
      · simp [hz])
    obtain ⟨n0, hn0⟩ : ∃ n0, n0 = f.kids.length := ⟨_, rfl⟩
    rw [← hn0] at s4 HF
    clear hb2
    have HN0 := hid hn0
    cases hro : isRole rr with
    | false =>
      rw [hro] at HF
      rw [← hn0]
      clear hn0
      go_wp2
      go_ret
      rw [HF.out]
      exact ⟨rfl, HC2.out⟩
    | true =>
      rw [hro] at HF
      rw [← hn0]
      clear hn0
      by_cases hz : n0 = 0
      · have z1 : ((n0 : Int) == 0) = true := beq_iff_eq.2 (by omega)
        by_cases hk : f.k = 0
        · have z2 : (f.k == 0) = true := beq_iff_eq.2 hk
          have HX2 : Hid (rightF f = true) := hid (by rw [HF.out]; simp [hz, hk])
          clear hz hk
          go_wp2
          go_ret
          rw [HX2.out]
          exact ⟨rfl, HC2.out⟩
        · have z2 : (f.k == 0) = false := by simpa using hk
          have HX2 : Hid (rightF f = false) := hid (by rw [HF.out]; simp [hk])
          clear hz hk
          go_wp2
          go_ret
          rw [HX2.out]
          exact ⟨rfl, HC2.out⟩
      · have z1 : ((n0 : Int) == 0) = false := by
          have : ¬ (n0 : Int) = 0 := by omega
          simpa using this
        have HX2 : Hid (rightF f = false) := hid (by rw [HF.out]; simp [hz])
        clear hz
        go_wp2
        go_ret
        rw [HX2.out]
        exact ⟨rfl, HC2.out⟩
  · have z0 : (f.op == 1) = false := by simpa using ho
    by_cases hl : f.op < 1
    · have z1 : decide (f.op < 1) = true := decide_eq_true hl
      have HN1 : Hid (rightF f = false) := hid (by rw [HRE2.out, (show rightN f.op f.k rr f.kids.length = false by unfold rightN; rw [if_neg ho]; split; rfl; rw [if_neg (by omega), if_neg (by omega)]), Bool.and_false])
      go_wp2
      go_ret
      rw [HN1.out]
      exact ⟨rfl, HC0.out⟩
    · have z1 : decide (f.op < 1) = false := decide_eq_false hl
      by_cases hg : 4 < f.op
      · have z2 : decide (4 < f.op) = true := decide_eq_true hg
        have HN1 : Hid (rightF f = false) := hid (by rw [HRE2.out, (show rightN f.op f.k rr f.kids.length = false by unfold rightN; rw [if_neg ho]; split; rfl; rw [if_neg (by omega), if_neg (by omega)]), Bool.and_false])
        go_wp2
        go_ret
        rw [HN1.out]
        exact ⟨rfl, HC0.out⟩
      · have z2 : decide (4 < f.op) = false := decide_eq_false hg
        by_cases hr : rr = ([], [])
        · subst hr
          by_cases h8 : 8 < f.kids.length
          · have z3 : decide ((8 : Int) < (f.kids.length : Int)) = true := decide_eq_true (by omega)
            have HN1 : Hid (rightF f = false) := hid (by rw [HRE2.out, (show rightN f.op f.k ([], []) f.kids.length = false by unfold rightN; rw [if_neg ho]; rw [if_pos (.inl h8)]), Bool.and_false])
            go_wp2
            go_ret
            rw [HN1.out]
            exact ⟨rfl, HC0.out⟩
          · have z3 : decide ((8 : Int) < (f.kids.length : Int)) = false := decide_eq_false (by omega)
            have h9 : ¬ (8 < f.kids.length ∨ (([], []) : RoleB) ≠ ([], [])) := fun h => h.elim h8 (fun h => h rfl)
            by_cases h4 : f.op = 4
            · have z4 : decide (f.op < 4) = false := decide_eq_false (by omega)
              have z5 : (f.op == 4) = true := beq_iff_eq.2 h4
              have hrn : rightN f.op f.k ([], []) f.kids.length = (decide (0 < f.kids.length) && (decide (0 ≤ f.k) && decide (f.k ≤ (f.kids.length : Int)))) := by unfold rightN; rw [if_neg ho]; rw [if_neg h9, if_neg (by omega), if_pos h4]
              have H4 := hid h4
              clear h4
              by_cases hn1 : (f.kids.length : Int) < 1
              · have z6 : decide ((f.kids.length : Int) < 1) = true := decide_eq_true hn1
                have HN1 : Hid (rightF f = false) := hid (by rw [HRE2.out, (show rightN f.op f.k ([], []) f.kids.length = false by rw [hrn, decide_eq_false (show ¬ 0 < f.kids.length by omega)]; rfl), Bool.and_false])
                go_wp2
                go_ret
                rw [HN1.out]
                exact ⟨rfl, HC0.out⟩
              · have z6 : decide ((f.kids.length : Int) < 1) = false := decide_eq_false hn1
                by_cases hk0 : f.k < 0
                · have z7 : decide (f.k < 0) = true := decide_eq_true hk0
                  have HN1 : Hid (rightF f = false) := hid (by rw [HRE2.out, (show rightN f.op f.k ([], []) f.kids.length = false by rw [hrn, decide_eq_false (show ¬ 0 ≤ f.k by omega)]; simp), Bool.and_false])
                  go_wp2
                  go_ret
                  rw [HN1.out]
                  exact ⟨rfl, HC0.out⟩
                · have z7 : decide (f.k < 0) = false := decide_eq_false hk0
                  by_cases hkn : (f.kids.length : Int) < f.k
                  · have z8 : decide ((f.kids.length : Int) < f.k) = true := decide_eq_true hkn
                    have HN1 : Hid (rightF f = false) := hid (by rw [HRE2.out, (show rightN f.op f.k ([], []) f.kids.length = false by rw [hrn, decide_eq_false (show ¬ f.k ≤ (f.kids.length : Int) by omega)]; simp), Bool.and_false])
                    go_wp2
                    go_ret
                    rw [HN1.out]
                    exact ⟨rfl, HC0.out⟩
                  · have z8 : decide ((f.kids.length : Int) < f.k) = false := decide_eq_false hkn
                    have HN1 : Hid (rightN f.op f.k ([], []) f.kids.length = true) := hid (by rw [hrn, decide_eq_true (show 0 < f.kids.length by omega), decide_eq_true (show 0 ≤ f.k by omega), decide_eq_true (show f.k ≤ (f.kids.length : Int) by omega)]; rfl)
                    clear hrn h9 h8 hg hl ho hn1 hk0 hkn
                    go_wp2
                    go_loopw [73] (fun i wr => ∃ j : Nat, j ≤ f.kids.length ∧ i = .int .i64 j ∧ Hid (rightL (f.kids.take j) = true ∧ Chg (fun _ => False) w wr)) (fun i _ => f.kids.length - (intOf i).toNat)
                    case atStart => exact ⟨0, Nat.zero_le _, rfl, hid ⟨rfl, HC0.out⟩⟩
                    case round =>
                      obtain ⟨j, hj, rfl, hrel⟩ := hrel
                      by_cases hlt : j < f.kids.length
                      · have hcw := hrel.out.2
                        obtain ⟨b, off, hao, hDb, hat⟩ := (HX.out.keep hcw (fun _ _ => id)) j hlt
                        obtain ⟨d, ao2, cp2, hd2, ⟨a0, a1, a2, a3, a4⟩, hok2, hz2, hkids⟩ := hat.open_
                        have hle1 := nodesL_mem (List.getElem_mem hlt)
                        have hrs := rightL_snoc (f.kids.take j) f.kids[j]
                        rw [← List.take_succ_eq_append_getElem hlt, hrel.out.1, Bool.true_and] at hrs
                        have hno : rightF f.kids[j] = false → rightF f = false := fun h => by rw [rightF_eq, rightL_no hlt h, Bool.false_and]
                        generalize f.kids[j] = g at *
                        have HNO := hid hno
                        have HRS := hid hrs
                        have hcB : Chg (fun _ => False) wr (wr.alloc (.cells #[.int .i64 g.op, .int .i64 g.k, .string ⟨g.r.1.toArray⟩, .string ⟨g.r.2.toArray⟩, .slice ao2 g.kids.length cp2] 26)) := (Chg.refl _ wr).alloc _
                        have hnb := heap_alloc_new wr (.cells #[.int .i64 g.op, .int .i64 g.k, .string ⟨g.r.1.toArray⟩, .string ⟨g.r.2.toArray⟩, .slice ao2 g.kids.length cp2] 26)
                        have t0 := cell_blk hnb 0
                        have t1 := cell_blk hnb 1
                        have t2 := cell_blk hnb 2
                        have t3 := cell_blk hnb 3
                        have t4 := cell_blk hnb 4
                        simp only [List.getElem?_toArray, List.getElem?_cons_zero, List.getElem?_cons_succ] at t0 t1 t2 t3 t4
                        have HIH := hid (HIN.out d hd2 g ao2 cp2 (wr.alloc (.cells #[.int .i64 g.op, .int .i64 g.k, .string ⟨g.r.1.toArray⟩, .string ⟨g.r.2.toArray⟩, .slice ao2 g.kids.length cp2] 26)) (hkids.keep hcB (fun _ _ => id)) hok2 (by omega))
                        have HC2 := hid (hcw.trans hcB (fun _ _ h => h))
                        have HLT := hid hlt
                        clear hcB hnb hrel hkids hat hle1 hok2 hd2 hcw s0 s1 s2 s3 s4 hrs hno
                        subst hao
                        go_wp2_with fail
                        refine HIH.out.mono ?_
                        rintro e w3 ⟨rfl, hc3⟩
                        have HC3 := hid (HC2.out.trans hc3 (fun _ _ h => h))
                        clear HIH HC2 hc3 a0 a1 a2 a3 a4 t0 t1 t2 t3 t4
                        cases hg : rightF g with
                        | false =>
                          go_wp2
                          go_ret
                          rw [HNO.out hg]
                          exact ⟨rfl, HC3.out⟩
                        | true =>
                          have HR2 : Hid (rightL (f.kids.take (j + 1)) = true) := hid (by rw [HRS.out, hg])
                          clear hg
                          go_wp2
                          go_roundw
                          case rel => exact ⟨j + 1, HLT.out, by go_num, hid ⟨HR2.out, HC3.out⟩⟩
                          case measure => have := HLT.out; simp [intOf]; omega
                      · have hje : j = f.kids.length := by omega
                        have hr := hrel.out
                        rw [hje, List.take_length] at hr
                        have HR := hid hr
                        clear hr hrel hje
                        go_wp2
                        go_ret
                        rw [HRE2.out, HR.out.1, HN1.out]
                        exact ⟨rfl, HR.out.2⟩
            · have z4 : decide (f.op < 4) = true := decide_eq_true (by omega)
              have z5 : (f.op == 4) = false := by simpa using h4
              have hrn : rightN f.op f.k ([], []) f.kids.length = decide (f.k = 0) := by unfold rightN; rw [if_neg ho]; rw [if_neg h9, if_pos (by omega)]
              by_cases hk0 : f.k = 0
              · have z6 : (f.k == 0) = true := beq_iff_eq.2 hk0
                have z6b : (f.k != 0) = false := by rw [bne, z6]; rfl
                have HN1 : Hid (rightN f.op f.k ([], []) f.kids.length = true) := hid (by rw [hrn, decide_eq_true hk0])
                clear hrn h9 h8 hg hl ho h4 hk0
                go_wp2
                go_loopw [73] (fun i wr => ∃ j : Nat, j ≤ f.kids.length ∧ i = .int .i64 j ∧ Hid (rightL (f.kids.take j) = true ∧ Chg (fun _ => False) w wr)) (fun i _ => f.kids.length - (intOf i).toNat)
                case atStart => exact ⟨0, Nat.zero_le _, rfl, hid ⟨rfl, HC0.out⟩⟩
                case round =>
                  obtain ⟨j, hj, rfl, hrel⟩ := hrel
                  by_cases hlt : j < f.kids.length
                  · have hcw := hrel.out.2
                    obtain ⟨b, off, hao, hDb, hat⟩ := (HX.out.keep hcw (fun _ _ => id)) j hlt
                    obtain ⟨d, ao2, cp2, hd2, ⟨a0, a1, a2, a3, a4⟩, hok2, hz2, hkids⟩ := hat.open_
                    have hle1 := nodesL_mem (List.getElem_mem hlt)
                    have hrs := rightL_snoc (f.kids.take j) f.kids[j]
                    rw [← List.take_succ_eq_append_getElem hlt, hrel.out.1, Bool.true_and] at hrs
                    have hno : rightF f.kids[j] = false → rightF f = false := fun h => by rw [rightF_eq, rightL_no hlt h, Bool.false_and]
                    generalize f.kids[j] = g at *
                    have HNO := hid hno
                    have HRS := hid hrs
                    have hcB : Chg (fun _ => False) wr (wr.alloc (.cells #[.int .i64 g.op, .int .i64 g.k, .string ⟨g.r.1.toArray⟩, .string ⟨g.r.2.toArray⟩, .slice ao2 g.kids.length cp2] 26)) := (Chg.refl _ wr).alloc _
                    have hnb := heap_alloc_new wr (.cells #[.int .i64 g.op, .int .i64 g.k, .string ⟨g.r.1.toArray⟩, .string ⟨g.r.2.toArray⟩, .slice ao2 g.kids.length cp2] 26)
                    have t0 := cell_blk hnb 0
                    have t1 := cell_blk hnb 1
                    have t2 := cell_blk hnb 2
                    have t3 := cell_blk hnb 3
                    have t4 := cell_blk hnb 4
                    simp only [List.getElem?_toArray, List.getElem?_cons_zero, List.getElem?_cons_succ] at t0 t1 t2 t3 t4
                    have HIH := hid (HIN.out d hd2 g ao2 cp2 (wr.alloc (.cells #[.int .i64 g.op, .int .i64 g.k, .string ⟨g.r.1.toArray⟩, .string ⟨g.r.2.toArray⟩, .slice ao2 g.kids.length cp2] 26)) (hkids.keep hcB (fun _ _ => id)) hok2 (by omega))
                    have HC2 := hid (hcw.trans hcB (fun _ _ h => h))
                    have HLT := hid hlt
                    clear hcB hnb hrel hkids hat hle1 hok2 hd2 hcw s0 s1 s2 s3 s4 hrs hno
                    subst hao
                    go_wp2_with fail
                    refine HIH.out.mono ?_
                    rintro e w3 ⟨rfl, hc3⟩
                    have HC3 := hid (HC2.out.trans hc3 (fun _ _ h => h))
                    clear HIH HC2 hc3 a0 a1 a2 a3 a4 t0 t1 t2 t3 t4
                    cases hg : rightF g with
                    | false =>
                      go_wp2
                      go_ret
                      rw [HNO.out hg]
                      exact ⟨rfl, HC3.out⟩
                    | true =>
                      have HR2 : Hid (rightL (f.kids.take (j + 1)) = true) := hid (by rw [HRS.out, hg])
                      clear hg
                      go_wp2
                      go_roundw
                      case rel => exact ⟨j + 1, HLT.out, by go_num, hid ⟨HR2.out, HC3.out⟩⟩
                      case measure => have := HLT.out; simp [intOf]; omega
                  · have hje : j = f.kids.length := by omega
                    have hr := hrel.out
                    rw [hje, List.take_length] at hr
                    have HR := hid hr
                    clear hr hrel hje
                    go_wp2
                    go_ret
                    rw [HRE2.out, HR.out.1, HN1.out]
                    exact ⟨rfl, HR.out.2⟩
              · have z6 : (f.k == 0) = false := by simpa using hk0
                have z6b : (f.k != 0) = true := by rw [bne, z6]; rfl
                have HN1 : Hid (rightF f = false) := hid (by rw [HRE2.out, (show rightN f.op f.k ([], []) f.kids.length = false by rw [hrn, decide_eq_false hk0]), Bool.and_false])
                go_wp2
                go_ret
                rw [HN1.out]
                exact ⟨rfl, HC0.out⟩
        · have hq := run_neq_role rr ([], [])
          rw [decide_eq_true hr] at hq
          have hq1 := hq (w.alloc (.cells #[.int .i64 f.op, .int .i64 f.k, .string ⟨rr.1.toArray⟩, .string ⟨rr.2.toArray⟩, .slice ao f.kids.length cp] 26))
          have HN1 : Hid (rightF f = false) := hid (by rw [HRE2.out, (show rightN f.op f.k rr f.kids.length = false by unfold rightN; rw [if_neg ho]; rw [if_pos (.inr hr)]), Bool.and_false])
          go_wp2
          go_ret
          rw [HN1.out]
          exact ⟨rfl, HC0.out⟩

set_option maxRecDepth 100000 in
set_option maxHeartbeats 1000000 in
theorem rn_right {D : Nat → Prop} (n : Nat) (f : FmB) (ao : Option Addr) (cp : Nat) (w : World) (h : FmsAt D w n ao f.kids) (hok : FmOk f) (hN : nodesF f ≤ 1048576) :
    Calls Try.prog 26 #[.agg #[.int .i64 f.op, .int .i64 f.k, .string ⟨f.r.1.toArray⟩, .string ⟨f.r.2.toArray⟩, .slice ao f.kids.length cp]] w fun e w' => e = .returned (.bool (isF f)) ∧ Chg (fun _ => False) w w' := by
  have hcA : Chg (fun _ => False) w (w.alloc (.cells #[.int .i64 f.op, .int .i64 f.k, .string ⟨f.r.1.toArray⟩, .string ⟨f.r.2.toArray⟩, .slice ao f.kids.length cp] 26)) := (Chg.refl _ w).alloc _
  have hb := heap_alloc_new w (.cells #[.int .i64 f.op, .int .i64 f.k, .string ⟨f.r.1.toArray⟩, .string ⟨f.r.2.toArray⟩, .slice ao f.kids.length cp] 26)
  have s0 := cell_blk hb 0
  have s1 := cell_blk hb 1
  have s2 := cell_blk hb 2
  have s3 := cell_blk hb 3
  have s4 := cell_blk hb 4
  simp only [List.getElem?_toArray, List.getElem?_cons_zero, List.getElem?_cons_succ] at s0 s1 s2 s3 s4
  have HX := hid (And.intro h (And.intro hok (And.intro hN (And.intro hcA hb))))
  have H1 := hid (rn_nodes n f ao cp (w.alloc (.cells #[.int .i64 f.op, .int .i64 f.k, .string ⟨f.r.1.toArray⟩, .string ⟨f.r.2.toArray⟩, .slice ao f.kids.length cp] 26)) (h.keep hcA (fun _ _ => id)) hok hN)
  obtain ⟨m, hm⟩ : ∃ m, m = nodesF f := ⟨_, rfl⟩
  have HM := hid hm
  rw [← hm] at H1
  clear h hok hN hcA hb hm
  go_enter Try.func26, Try.ntmps26
  go_wp2_with fail
  refine H1.out.mono ?_
  rintro e w1 ⟨rfl, hc1⟩
  have hc := HX.out.2.2.2.1.trans hc1 (fun _ _ h => h)
  have HC := hid hc
  have hb1 := blk_keep HX.out.2.2.2.2 hc1 id
  have H2 := hid (rn_deep n f ao cp w1 (HX.out.1.keep hc (fun _ _ => id)) HX.out.2.1 HX.out.2.2.1)
  obtain ⟨dd, hdd⟩ : ∃ m, m = deepF f := ⟨_, rfl⟩
  have HD := hid hdd
  rw [← hdd] at H2
  clear s0 s1 s2 s3 s4 hc hc1 H1 hdd
  have s0 := cell_blk hb1 0
  have s1 := cell_blk hb1 1
  have s2 := cell_blk hb1 2
  have s3 := cell_blk hb1 3
  have s4 := cell_blk hb1 4
  simp only [List.getElem?_toArray, List.getElem?_cons_zero, List.getElem?_cons_succ] at s0 s1 s2 s3 s4
  have HB1 := hid hb1
  clear hb1
  by_cases h1 : m ≤ 64
  · have z1 : decide ((m : Int) ≤ 64) = true := decide_eq_true (by omega)
    have HM1 := hid h1
    clear h1
    go_wp2_with fail
    refine H2.out.mono ?_
    rintro e w2 ⟨rfl, hc2⟩
    have hc := HC.out.trans hc2 (fun _ _ h => h)
    have HC2 := hid hc
    have hb2 := blk_keep HB1.out hc2 id
    have H3 := hid (rn_well n f ao cp w2 (HX.out.1.keep hc (fun _ _ => id)) HX.out.2.1 HX.out.2.2.1)
    clear s0 s1 s2 s3 s4 hc hc2 H2 HC HB1
    have s0 := cell_blk hb2 0
    have s1 := cell_blk hb2 1
    have s2 := cell_blk hb2 2
    have s3 := cell_blk hb2 3
    have s4 := cell_blk hb2 4
    simp only [List.getElem?_toArray, List.getElem?_cons_zero, List.getElem?_cons_succ] at s0 s1 s2 s3 s4
    clear hb2
    by_cases h2 : dd ≤ 6
    · have z2 : decide ((dd : Int) ≤ 6) = true := decide_eq_true (by omega)
      have HF : Hid (isF f = rightF f) := hid (by unfold isF; rw [← HM.out, ← HD.out, decide_eq_true HM1.out, decide_eq_true h2]; rfl)
      clear h2
      go_wp2_with fail
      refine H3.out.mono ?_
      rintro e w3 ⟨rfl, hc3⟩
      have HC3 := hid (HC2.out.trans hc3 (fun _ _ h => h))
      clear hc3 s0 s1 s2 s3 s4
      go_wp2
      go_ret
      rw [HF.out]
      exact ⟨rfl, HC3.out⟩
    · have z2 : decide ((dd : Int) ≤ 6) = false := decide_eq_false (by omega)
      have HF : Hid (isF f = false) := hid (by unfold isF; rw [← HD.out, decide_eq_false h2]; simp)
      clear h2
      go_wp2
      go_ret
      rw [HF.out]
      exact ⟨rfl, HC2.out⟩
  · have z1 : decide ((m : Int) ≤ 64) = false := decide_eq_false (by omega)
    have HF : Hid (isF f = false) := hid (by unfold isF; rw [← HM.out, decide_eq_false h1]; rfl)
    clear h1
    go_wp2
    go_ret
    rw [HF.out]
    exact ⟨rfl, HC.out⟩
end Go.Proofs.Ytcbfieodjbfjdaa

/- Credentials: which are right, their bytes, their order; how they lie in memory: plain words. -/
namespace Go.Proofs.Ytcbfieodjbfjdaa
open Go.RowKit

end Go.Proofs.Ytcbfieodjbfjdaa

/- A credential's text, and its bytes; a text cut at each place where another one stands: plain words. -/
namespace Go.Proofs.Ytcbfieodjbfjdaa
open Go.RowKit

end Go.Proofs.Ytcbfieodjbfjdaa

/- Which role a text is. -/
namespace Go.Proofs.Ytcbfieodjbfjdaa
open Go.RowKit

end Go.Proofs.Ytcbfieodjbfjdaa

/- A number's bytes, written and read again. -/
namespace Go.Proofs.Ytcbfieodjbfjdaa
open Go.RowKit

end Go.Proofs.Ytcbfieodjbfjdaa

/- Roles put and got, told and parsed, and their order: plain words. -/
namespace Go.Proofs.Ytcbfieodjbfjdaa
open Go.RowKit

end Go.Proofs.Ytcbfieodjbfjdaa

/- Which credential any bytes are, and the error; what is put is got: plain words. -/
namespace Go.Proofs.Ytcbfieodjbfjdaa
open Go.RowKit

end Go.Proofs.Ytcbfieodjbfjdaa

/- cred.Bytes: the program's contract. -/
namespace Go.Proofs.Ytcbfieodjbfjdaa
open Go.RowKit

theorem pc_roleEnc_len {r : RoleB} (h : isRole r = true) : (roleEnc r).length ≤ 34 := by
  have hl := role_len h
  rw [roleEnc, enc_small (by omega), enc_small (by omega)]
  simp
  omega

end Go.Proofs.Ytcbfieodjbfjdaa

/- The bytes of a formula; what pens leave, carried on. -/
namespace Go.Proofs.Ytcbfieodjbfjdaa
open Go.RowKit

mutual
def encF : FmB → List UInt8
  | .mk op k r kids => enc op.toNat ++ (if op = 1 then roleEnc r else (if op = 4 then enc k.toNat else []) ++ (enc kids.length ++ encFs kids))
def encFs : List FmB → List UInt8
  | [] => []
  | f :: l => encF f ++ encFs l
end
theorem encFs_snoc (a : List FmB) (x : FmB) : encFs (a ++ [x]) = encFs a ++ encF x := by
  induction a with
  | nil => simp [encFs]
  | cons y l ih => rw [List.cons_append, encFs, encFs, ih, List.append_assoc]
theorem encF_eq (f : FmB) : encF f = enc f.op.toNat ++ (if f.op = 1 then roleEnc f.r else (if f.op = 4 then enc f.k.toNat else []) ++ (enc f.kids.length ++ encFs f.kids)) := by cases f; rfl

theorem rightN_op {op k : Int} {r : RoleB} {n : Nat} (h : rightN op k r n = true) : (op = 1 ∧ isRole r = true ∧ n = 0 ∧ k = 0) ∨ ((op = 2 ∨ op = 3) ∧ r = ([], []) ∧ n ≤ 8 ∧ k = 0) ∨ (op = 4 ∧ r = ([], []) ∧ 0 < n ∧ n ≤ 8 ∧ 0 ≤ k ∧ k ≤ (n : Int)) := by
  unfold rightN at h
  by_cases h1 : op = 1
  · rw [if_pos h1] at h
    simp at h
    exact .inl ⟨h1, h.1, by simpa using h.2.1, h.2.2⟩
  · rw [if_neg h1] at h
    by_cases h2 : 8 < n ∨ r ≠ ([], [])
    · rw [if_pos h2] at h; cases h
    · rw [if_neg h2] at h
      have h3 : n ≤ 8 ∧ r = ([], []) := ⟨by omega, by
        by_cases e : r = ([], [])
        · exact e
        · exact absurd (.inr e) h2⟩
      by_cases h4 : op = 2 ∨ op = 3
      · rw [if_pos h4] at h
        exact .inr (.inl ⟨h4, h3.2, h3.1, of_decide_eq_true h⟩)
      · rw [if_neg h4] at h
        by_cases h5 : op = 4
        · rw [if_pos h5] at h
          simp at h
          exact .inr (.inr ⟨h5, h3.2, by omega, h3.1, h.2.1, h.2.2⟩)
        · rw [if_neg h5] at h; cases h

theorem encF_len : ∀ f : FmB, rightF f = true → (encF f).length ≤ 40 * nodesF f := by
  refine nodes_ind fun f ih hr => ?_
  rw [rightF_eq, Bool.and_eq_true] at hr
  have hk := rightL_mem hr.1
  have key : ∀ l : List FmB, (∀ g ∈ l, (encF g).length ≤ 40 * nodesF g) → (encFs l).length ≤ 40 * nodesL l := by
    intro l
    induction l with
    | nil => exact fun _ => by simp [encFs]
    | cons x l ih2 =>
      intro h
      have h1 := h x (by simp)
      have h2 := ih2 (fun g hg => h g (by simp [hg]))
      rw [encFs, nodesL, List.length_append]
      omega
  have hkk := key _ (fun g hg => ih g hg (hk g hg))
  rw [encF_eq, nodesF_eq]
  rcases rightN_op hr.2 with ⟨h1, h2, h3, h4⟩ | ⟨h1, h2, h3, h4⟩ | ⟨h1, h2, h3, h4, h5, h6⟩
  · have hl := pc_roleEnc_len h2
    rw [if_pos h1, h1, List.length_append, show (1 : Int).toNat = 1 from rfl, enc_small (by omega)]
    simp only [List.length_cons, List.length_nil]
    omega
  · have e1 : f.op ≠ 1 := by omega
    have e4 : f.op ≠ 4 := by omega
    have e5 : f.op.toNat < 128 := by omega
    rw [if_neg e1, if_neg e4, List.nil_append, List.length_append, List.length_append, enc_small e5, enc_small (by omega)]
    simp only [List.length_cons, List.length_nil]
    omega
  · have e1 : f.op ≠ 1 := by omega
    have e5 : f.op.toNat < 128 := by omega
    have e6 : f.k.toNat < 128 := by omega
    rw [if_neg e1, if_pos h1, List.length_append, List.length_append, List.length_append, enc_small e5, enc_small e6, enc_small (by omega)]
    simp only [List.length_cons, List.length_nil]
    omega

theorem encFs_len (l : List FmB) (h : rightL l = true) : (encFs l).length ≤ 40 * nodesL l := by
  have hk := rightL_mem h
  clear h
  induction l with
  | nil => simp [encFs]
  | cons x l ih2 =>
    have h1 := encF_len x (hk x (by simp))
    have h2 := ih2 (fun g hg => hk g (by simp [hg]))
    rw [encFs, nodesL, List.length_append]
    omega
theorem rightL_take {l : List FmB} (h : rightL l = true) (j : Nat) : rightL (l.take j) = true := by
  have e : rightL (l.take j ++ l.drop j) = true := by rw [List.take_append_drop]; exact h
  have app : ∀ a b : List FmB, rightL (a ++ b) = true → rightL a = true := by
    intro a b
    induction a with
    | nil => exact fun _ => rfl
    | cons x a ih =>
      intro h
      rw [List.cons_append, rightL, Bool.and_eq_true] at h
      rw [rightL, h.1, ih h.2]
      rfl
  exact app _ _ e

theorem PenPost.next {B P : Nat} {ao0 : Option Addr} {ys : List UInt8} {w1 wj : World} (h : PenPost B P ao0 ys w1 wj) : ∃ ao cap, PenAt B wj P ao cap ys ∧ ∀ zs w', PenPost B P ao zs wj w' → PenPost B P ao0 zs w1 w' := by
  obtain ⟨ao, cap, hp, hc⟩ := h
  exact ⟨ao, cap, hp, fun zs w' ⟨ao', cap', hp', hc'⟩ => ⟨ao', cap', hp', hc.trans hc'⟩⟩
theorem PenPost.chg {B P : Nat} {ao0 : Option Addr} {ys : List UInt8} {w1 wj : World} (h : PenPost B P ao0 ys w1 wj) : Chg (fun k => k = P ∨ rowOf ao0 = some k) w1 wj := by
  obtain ⟨ao, cap, hp, hc⟩ := h
  exact hc.chg
theorem PenPost.quiet {B P : Nat} {ao0 : Option Addr} {ys : List UInt8} {w1 wj w' : World} (h : PenPost B P ao0 ys w1 wj) (hc : Chg (fun _ => False) wj w') : PenPost B P ao0 ys w1 w' := by
  obtain ⟨ao, cap, hp, hch⟩ := h
  exact ⟨ao, cap, hp.keep hc id (fun _ _ => id), ⟨hch.chg.trans hc (fun _ _ h => h.elim), hch.row⟩⟩
theorem PenPost.from_ {B P : Nat} {ao0 : Option Addr} {ys : List UInt8} {w w1 w' : World} (hc : Chg (fun _ => False) w w1) (h : PenPost B P ao0 ys w1 w') : PenPost B P ao0 ys w w' := by
  obtain ⟨ao, cap, hp, hch⟩ := h
  refine ⟨ao, cap, hp, (hc.mono (fun _ _ h => h.elim)).trans hch.chg (fun i _ h => h), ?_⟩
  rcases hch.row with h | ⟨g, k1, k2⟩
  · exact .inl h
  · have := hc.size
    exact .inr ⟨g, k1, by omega⟩
theorem PenPost.start {B P cap : Nat} {ao : Option Addr} {xs : List UInt8} {w : World} (h : PenAt B w P ao cap xs) : PenPost B P ao xs w w := ⟨ao, cap, h, PChg.refl _ _ _⟩
theorem PenAt.rowlt {B P cap : Nat} {ao : Option Addr} {xs : List UInt8} {w : World} (h : PenAt B w P ao cap xs) : ∀ k, rowOf ao = some k → B ≤ k ∧ k < w.heap.size := fun k hk => h.row.lt k ((rowOf_block _ _ _).trans hk)
end Go.Proofs.Ytcbfieodjbfjdaa
