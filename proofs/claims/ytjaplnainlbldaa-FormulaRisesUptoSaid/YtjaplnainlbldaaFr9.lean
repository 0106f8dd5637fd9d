/- Texts that the proof leans on, in one: FmRight, FmIs, CredMath, CredText, RoleParse, BackNum, RoleBackMath, CredGet, CredOrd, CredOwn, ShelfStr, RoleCmp, RoleOr, Grown. -/
import Derived.Test.YtjaplnainlbldaaFr6
import Derived.Test.YtjaplnainlbldaaFr8
import Derived.Test.YtjaplnainlbldaaFr1
import Derived.Test.YtjaplnainlbldaaFr2
import Derived.Test.YtjaplnainlbldaaFr3
import Derived.Shelf.Small.Strs
import Derived.Shelf.Strings.Search1
import Derived.Shelf.Strings.Search2
import Derived.Test.YtjaplnainlbldaaProg
import Derived.Sort.Grow
/- Which formulas are right. -/
namespace Go.Proofs.Ytjaplnainlbldaa
open Go.RowKit

theorem run_neq_role (a b : RoleB) (w : World) : Sem.run Try.prog (binOp BinOp.neq 24 (.agg #[.string ⟨a.1.toArray⟩, .string ⟨a.2.toArray⟩]) (.agg #[.string ⟨b.1.toArray⟩, .string ⟨b.2.toArray⟩])) w = .ok (.bool (decide (a ≠ b))) w := by
  have : decide (a ≠ b) = decide (¬ (a.1 = b.1 ∧ a.2 = b.2)) := by simp only [ne_eq, Prod.ext_iff]
  rw [this]
  go_simp
  repeat' split
  all_goals simp_all

set_option maxRecDepth 100000 in
set_option maxHeartbeats 4000000 in
theorem fm_rightNode (op k : Int) (r : RoleB) (ao : Option Addr) (n cp : Nat) (w : World) (h1 : r.1.length ≤ 9223372036854775807) (h2 : r.2.length ≤ 9223372036854775807) (hn : n ≤ 9223372036854775807) :
    Calls Try.prog 96 #[.agg #[.int .i64 op, .int .i64 k, .string ⟨r.1.toArray⟩, .string ⟨r.2.toArray⟩, .slice ao n cp]] w fun e w' => e = .returned (.bool (rightN op k r n)) ∧ Chg (fun _ => False) w w' := by
  have hc : Chg (fun _ => False) w (w.alloc (.cells #[.int .i64 op, .int .i64 k, .string ⟨r.1.toArray⟩, .string ⟨r.2.toArray⟩, .slice ao n cp] 58)) := (Chg.refl _ w).alloc _
  have hb := heap_alloc_new w (.cells #[.int .i64 op, .int .i64 k, .string ⟨r.1.toArray⟩, .string ⟨r.2.toArray⟩, .slice ao n cp] 58)
  have s0 := cell_blk hb 0
  have s1 := cell_blk hb 1
  have s2 := cell_blk hb 2
  have s3 := cell_blk hb 3
  have s4 := cell_blk hb 4
  simp only [List.getElem?_toArray, List.getElem?_cons_zero, List.getElem?_cons_succ] at s0 s1 s2 s3 s4
  have HC := hid hc
  have HB := hid hb
  have HR := hid (fun w => pright r w h1 h2)
  clear hc hb h1 h2
  go_enter Try.func96, Try.ntmps96
  by_cases ho : op = 1
  · subst ho
    go_wp2_with fail
    refine (HR.out _).mono ?_
    rintro e w2 ⟨rfl, hc2⟩
    have hb2 := blk_keep HB.out hc2 id
    have HC2 := hid (HC.out.trans hc2 (fun _ _ h => h))
    clear s0 s1 s2 s3 s4 HC
    have HC := HC2
    have s1 := cell_blk hb2 1
    have s4 := cell_blk hb2 4
    simp only [List.getElem?_toArray, List.getElem?_cons_zero, List.getElem?_cons_succ] at s1 s4
    clear hb2 hc2 HR HB
    cases hr : isRole r with
    | false =>
      go_wp2
      go_ret
      exact ⟨by simp [rightN, hr], HC.out⟩
    | true =>
      by_cases hz : n = 0
      · subst hz
        by_cases hk : k = 0
        · subst hk
          go_wp2
          go_ret
          exact ⟨by simp [rightN, hr], HC.out⟩
        · have z1 : decide (k = 0) = false := decide_eq_false hk
          go_wp2
          go_ret
          exact ⟨by simp [rightN, hr, hk], HC.out⟩
      · have z1 : decide ((n : Int) = 0) = false := decide_eq_false (by omega)
        go_wp2
        go_ret
        exact ⟨by simp [rightN, hr, hz], HC.out⟩
  · have z0 : decide (op = 1) = false := decide_eq_false ho
    clear HR
    by_cases h8 : 8 < n
    · have z1 : decide ((8 : Int) < (n : Int)) = true := decide_eq_true (by omega)
      go_wp2
      go_ret
      exact ⟨by simp [rightN, ho, h8], HC.out⟩
    · have z1 : decide ((8 : Int) < (n : Int)) = false := decide_eq_false (by omega)
      by_cases hr : r = ([], [])
      · subst hr
        by_cases h2 : op = 2
        · subst h2
          by_cases hk : k = 0
          · subst hk
            go_wp2
            go_ret
            exact ⟨by simp [rightN, h8], HC.out⟩
          · have z2 : decide (k = 0) = false := decide_eq_false hk
            go_wp2
            go_ret
            exact ⟨by simp [rightN, h8, hk], HC.out⟩
        · have z2 : decide (op = 2) = false := decide_eq_false h2
          by_cases h3 : op = 3
          · subst h3
            by_cases hk : k = 0
            · subst hk
              go_wp2
              go_ret
              exact ⟨by simp [rightN, h8], HC.out⟩
            · have z2 : decide (k = 0) = false := decide_eq_false hk
              go_wp2
              go_ret
              exact ⟨by simp [rightN, h8, hk], HC.out⟩
          · have z3 : decide (op = 3) = false := decide_eq_false h3
            by_cases h4 : op = 4
            · subst h4
              by_cases hz : 0 < n
              · have z4 : decide ((0 : Int) < (n : Int)) = true := decide_eq_true (by omega)
                by_cases hk : 0 ≤ k
                · have z5 : decide ((0 : Int) ≤ k) = true := decide_eq_true hk
                  by_cases hm : k ≤ (n : Int)
                  · have z6 : decide (k ≤ (n : Int)) = true := decide_eq_true hm
                    go_wp2
                    go_ret
                    exact ⟨by simp [rightN, h8, hz, hk, hm], HC.out⟩
                  · have z6 : decide (k ≤ (n : Int)) = false := decide_eq_false hm
                    go_wp2
                    go_ret
                    exact ⟨by simp [rightN, h8, hz]; omega, HC.out⟩
                · have z5 : decide ((0 : Int) ≤ k) = false := decide_eq_false hk
                  go_wp2
                  go_ret
                  exact ⟨by simp [rightN, h8, hz]; omega, HC.out⟩
              · have z4 : decide ((0 : Int) < (n : Int)) = false := decide_eq_false (by omega)
                go_wp2
                go_ret
                exact ⟨by simp [rightN, h8, hz], HC.out⟩
            · have z4 : decide (op = 4) = false := decide_eq_false h4
              go_wp2
              go_ret
              exact ⟨by simp [rightN, ho, h8, h2, h3, h4], HC.out⟩
      · have hq := run_neq_role r ([], [])
        rw [decide_eq_true hr] at hq
        have hq1 := hq (w.alloc (.cells #[.int .i64 op, .int .i64 k, .string ⟨r.1.toArray⟩, .string ⟨r.2.toArray⟩, .slice ao n cp] 58))
        go_wp2
        go_ret
        exact ⟨by simp [rightN, ho, h8, hr], HC.out⟩
end Go.Proofs.Ytjaplnainlbldaa

/- Are all nodes right? Is a formula? -/
namespace Go.Proofs.Ytjaplnainlbldaa
open Go.RowKit

set_option maxRecDepth 100000 in
set_option maxHeartbeats 4000000 in
theorem fm_rightNodes {D : Nat → Prop} : ∀ (n : Nat) (f : FmB) (ao : Option Addr) (cp : Nat) (w : World), FmsAt D w n ao f.kids → FmOk f → nodesF f ≤ 1048576 →
    Calls Try.prog 62 #[.agg #[.int .i64 f.op, .int .i64 f.k, .string ⟨f.r.1.toArray⟩, .string ⟨f.r.2.toArray⟩, .slice ao f.kids.length cp]] w fun e w' => e = .returned (.bool (rightF f)) ∧ Chg (fun _ => False) w w' := by
  intro n
  induction n using Nat.strongRecOn with
  | _ n ih =>
  intro f ao cp w h hok hN
  have hnl := nodesL_len f.kids
  have hnf := nodesF_eq f
  have HX := hid h
  have HIN := hid ih
  have HOK := hid hok
  clear h ih hok
  have hcA : Chg (fun _ => False) w (w.alloc (.cells #[.int .i64 f.op, .int .i64 f.k, .string ⟨f.r.1.toArray⟩, .string ⟨f.r.2.toArray⟩, .slice ao f.kids.length cp] 58)) := (Chg.refl _ w).alloc _
  have hb := heap_alloc_new w (.cells #[.int .i64 f.op, .int .i64 f.k, .string ⟨f.r.1.toArray⟩, .string ⟨f.r.2.toArray⟩, .slice ao f.kids.length cp] 58)
  have s0 := cell_blk hb 0
  have s1 := cell_blk hb 1
  have s2 := cell_blk hb 2
  have s3 := cell_blk hb 3
  have s4 := cell_blk hb 4
  simp only [List.getElem?_toArray, List.getElem?_cons_zero, List.getElem?_cons_succ] at s0 s1 s2 s3 s4
  have HC0 := hid hcA
  have HB0 := hid hb
  clear hcA hb
  go_enter Try.func62, Try.ntmps62
  go_wp2
  go_loopw [8] (fun i wr => ∃ j : Nat, j ≤ f.kids.length ∧ i = .int .i64 j ∧ Hid (rightL (f.kids.take j) = true ∧ Chg (fun _ => False) (w.alloc (.cells #[.int .i64 f.op, .int .i64 f.k, .string ⟨f.r.1.toArray⟩, .string ⟨f.r.2.toArray⟩, .slice ao f.kids.length cp] 58)) wr)) (fun i _ => f.kids.length - (intOf i).toNat)
  case atStart => exact ⟨0, Nat.zero_le _, rfl, hid ⟨rfl, Chg.refl _ _⟩⟩
  case round =>
    obtain ⟨j, hj, rfl, hrel⟩ := hrel
    by_cases hlt : j < f.kids.length
    · have hcw := HC0.out.trans hrel.out.2 (fun _ _ h => h)
      obtain ⟨b, off, hao, hDb, hat⟩ := (HX.out.keep hcw (fun _ _ => id)) j hlt
      obtain ⟨d, ao2, cp2, hd2, ⟨a0, a1, a2, a3, a4⟩, hok2, hz2, hkids⟩ := hat.open_
      have hrs := rightL_snoc (f.kids.take j) f.kids[j]
      rw [← List.take_succ_eq_append_getElem hlt, hrel.out.1, Bool.true_and] at hrs
      have hno : rightF f.kids[j] = false → rightF f = false := fun h => by rw [rightF_eq, rightL_no hlt h, Bool.false_and]
      have hle1 := nodesL_mem (List.getElem_mem hlt)
      generalize f.kids[j] = g at *
      have HNO := hid hno
      have HRS := hid hrs
      have hcB : Chg (fun _ => False) wr (wr.alloc (.cells #[.int .i64 g.op, .int .i64 g.k, .string ⟨g.r.1.toArray⟩, .string ⟨g.r.2.toArray⟩, .slice ao2 g.kids.length cp2] 58)) := (Chg.refl _ wr).alloc _
      have hnb := heap_alloc_new wr (.cells #[.int .i64 g.op, .int .i64 g.k, .string ⟨g.r.1.toArray⟩, .string ⟨g.r.2.toArray⟩, .slice ao2 g.kids.length cp2] 58)
      have t0 := cell_blk hnb 0
      have t1 := cell_blk hnb 1
      have t2 := cell_blk hnb 2
      have t3 := cell_blk hnb 3
      have t4 := cell_blk hnb 4
      simp only [List.getElem?_toArray, List.getElem?_cons_zero, List.getElem?_cons_succ] at t0 t1 t2 t3 t4
      have HIH := hid (HIN.out d hd2 g ao2 cp2 (wr.alloc (.cells #[.int .i64 g.op, .int .i64 g.k, .string ⟨g.r.1.toArray⟩, .string ⟨g.r.2.toArray⟩, .slice ao2 g.kids.length cp2] 58)) (hkids.keep hcB (fun _ _ => id)) hok2 (by omega))
      have HC1 := hid (hcw.trans hcB (fun _ _ h => h))
      have HC2 := hid (hrel.out.2.trans hcB (fun _ _ h => h))
      have HLT := hid hlt
      clear hcB hnb hrel hkids hat hle1 hok2 hd2 hno hrs hcw s0 s1 s2 s3 s4
      subst hao
      go_wp2_with fail
      refine HIH.out.mono ?_
      rintro e w3 ⟨rfl, hc3⟩
      have HC3 := hid (HC2.out.trans hc3 (fun _ _ h => h))
      have HC4 := hid (HC1.out.trans hc3 (fun _ _ h => h))
      clear HIH HC2 HC1 hc3 a0 a1 a2 a3 a4 t0 t1 t2 t3 t4
      cases hg : rightF g with
      | false =>
        go_wp2_with fail
        go_ret
        rw [HNO.out hg]
        exact ⟨rfl, HC4.out⟩
      | true =>
        have HR2 : Hid (rightL (f.kids.take (j + 1)) = true) := hid (by rw [HRS.out, hg])
        clear hg
        go_wp2
        go_roundw
        case rel => exact ⟨j + 1, HLT.out, by go_num, hid ⟨HR2.out, HC3.out⟩⟩
        case measure => have := HLT.out; simp [intOf]; omega
    · have hje : j = f.kids.length := by omega
      have hr := hrel.out
      rw [hje, List.take_length] at hr
      have HR := hid hr
      have HNODE := hid (fm_rightNode f.op f.k f.r ao f.kids.length cp wr HOK.out.1 HOK.out.2 (by omega))
      have hb := blk_keep HB0.out hr.2 id
      clear hr hrel s0 s1 s2 s3 s4
      have s0 := cell_blk hb 0
      have s1 := cell_blk hb 1
      have s2 := cell_blk hb 2
      have s3 := cell_blk hb 3
      have s4 := cell_blk hb 4
      simp only [List.getElem?_toArray, List.getElem?_cons_zero, List.getElem?_cons_succ] at s0 s1 s2 s3 s4
      clear hb hje
      go_wp2_with fail
      refine HNODE.out.mono ?_
      rintro e w3 ⟨rfl, hc3⟩
      have HC3 := hid ((HC0.out.trans HR.out.2 (fun _ _ h => h)).trans hc3 (fun _ _ h => h))
      clear hc3 HNODE s0 s1 s2 s3 s4
      go_wp2
      go_ret
      rw [rightF_eq, HR.out.1, Bool.true_and]
      exact ⟨rfl, HC3.out⟩

set_option maxRecDepth 100000 in
set_option maxHeartbeats 4000000 in
theorem fm_right {D : Nat → Prop} (n : Nat) (f : FmB) (ao : Option Addr) (cp : Nat) (w : World) (h : FmsAt D w n ao f.kids) (hD : ∀ i, D i → i < w.heap.size) (hok : FmOk f) (hN : nodesF f ≤ 4096) :
    Calls Try.prog 30 #[.agg #[.int .i64 f.op, .int .i64 f.k, .string ⟨f.r.1.toArray⟩, .string ⟨f.r.2.toArray⟩, .slice ao f.kids.length cp]] w fun e w' => e = .returned (.bool (isF f)) ∧ Chg (fun _ => False) w w' := by
  have hcA : Chg (fun _ => False) w (w.alloc (.cells #[.int .i64 f.op, .int .i64 f.k, .string ⟨f.r.1.toArray⟩, .string ⟨f.r.2.toArray⟩, .slice ao f.kids.length cp] 58)) := (Chg.refl _ w).alloc _
  have hb := heap_alloc_new w (.cells #[.int .i64 f.op, .int .i64 f.k, .string ⟨f.r.1.toArray⟩, .string ⟨f.r.2.toArray⟩, .slice ao f.kids.length cp] 58)
  have s0 := cell_blk hb 0
  have s1 := cell_blk hb 1
  have s2 := cell_blk hb 2
  have s3 := cell_blk hb 3
  have s4 := cell_blk hb 4
  simp only [List.getElem?_toArray, List.getElem?_cons_zero, List.getElem?_cons_succ] at s0 s1 s2 s3 s4
  have HSZ := hid (fm_size n f ao cp (w.alloc (.cells #[.int .i64 f.op, .int .i64 f.k, .string ⟨f.r.1.toArray⟩, .string ⟨f.r.2.toArray⟩, .slice ao f.kids.length cp] 58)) (h.keep hcA (fun _ _ => id)) (fun i hi => Nat.lt_of_lt_of_le (hD i hi) hcA.size) hN)
  have HX := hid (fun w' (hc : Chg (fun _ => False) w w') => fm_rightNodes n f ao cp w' (h.keep hc (fun _ _ => id)) hok (by omega))
  have hp := nodesF_pos f
  have HC0 := hid hcA
  have HB0 := hid hb
  clear hcA hb h hD hok
  go_enter Try.func30, Try.ntmps30
  go_wp2_with fail
  refine HSZ.out.mono ?_
  rintro e w2 ⟨rfl, hc2⟩
  have hb2 := blk_keep HB0.out hc2 id
  have HC2 := hid (HC0.out.trans hc2 (fun _ _ h => h))
  clear s0 s1 s2 s3 s4 HSZ HC0 hc2
  have s0 := cell_blk hb2 0
  have s1 := cell_blk hb2 1
  have s2 := cell_blk hb2 2
  have s3 := cell_blk hb2 3
  have s4 := cell_blk hb2 4
  simp only [List.getElem?_toArray, List.getElem?_cons_zero, List.getElem?_cons_succ] at s0 s1 s2 s3 s4
  clear hb2
  have z1 : decide ((0 : Int) < (nodesF f : Int)) = true := decide_eq_true (by omega)
  by_cases h64 : nodesF f ≤ 64
  · have z2 : decide ((nodesF f : Int) ≤ 64) = true := decide_eq_true (by omega)
    by_cases h6 : deepF f ≤ 6
    · have z3 : decide ((deepF f : Int) ≤ 6) = true := decide_eq_true (by omega)
      have HRS := hid (HX.out w2 HC2.out)
      go_wp2_with fail
      refine HRS.out.mono ?_
      rintro e w3 ⟨rfl, hc3⟩
      have HC3 := hid (HC2.out.trans hc3 (fun _ _ h => h))
      clear HRS HX hc3 HC2 HB0 s0 s1 s2 s3 s4
      go_wp2
      go_ret
      exact ⟨by simp [isF, h64, h6], HC3.out⟩
    · have z3 : decide ((deepF f : Int) ≤ 6) = false := decide_eq_false (by omega)
      clear HX
      go_wp2
      go_ret
      exact ⟨by simp [isF, h6], HC2.out⟩
  · have z2 : decide ((nodesF f : Int) ≤ 64) = false := decide_eq_false (by omega)
    clear HX
    go_wp2
    go_ret
    exact ⟨by simp [isF, h64], HC2.out⟩
end Go.Proofs.Ytjaplnainlbldaa

/- Credentials: which are right, their bytes, their order; how they lie in memory: plain words. -/
namespace Go.Proofs.Ytjaplnainlbldaa
open Go.RowKit

end Go.Proofs.Ytjaplnainlbldaa

/- A credential's text, and its bytes; a text cut at each place where another one stands: plain words. -/
namespace Go.Proofs.Ytjaplnainlbldaa
open Go.RowKit

end Go.Proofs.Ytjaplnainlbldaa

/- Which role a text is. -/
namespace Go.Proofs.Ytjaplnainlbldaa
open Go.RowKit

end Go.Proofs.Ytjaplnainlbldaa

/- A number's bytes, written and read again. -/
namespace Go.Proofs.Ytjaplnainlbldaa
open Go.RowKit

theorem digits_join (n m k : Nat) : n + (128 + m % 128 - 128) * 128 ^ k + m / 128 * 128 ^ (k + 1) = n + m * 128 ^ k := by
  have h1 : 128 + m % 128 - 128 = m % 128 := by omega
  have h2 : m % 128 + m / 128 * 128 = m := by omega
  rw [h1, Nat.pow_succ]
  generalize 128 ^ k = c
  have h3 : m / 128 * (c * 128) = m / 128 * 128 * c := by rw [Nat.mul_assoc, Nat.mul_comm c 128]
  rw [h3, Nat.add_assoc, ← Nat.add_mul, h2]

/-- What is written is read again. -/
theorem numN_enc : ∀ (f m k n : Nat) (r : List UInt8), (enc m).length ≤ f → (k = 0 ∨ 0 < m) → numN f (enc m ++ r) k n = (n + m * 128 ^ k, k + (enc m).length, 0)
  | 0, m, _, _, _, hf, _ => by have := enc_pos m; omega
  | f + 1, m, k, n, r, hf, hk => by
    by_cases h : m < 128
    · rw [enc_small h, List.singleton_append]
      unfold numN
      rw [ds_toNat h, if_neg (by omega), if_pos h]
      simp
    · rw [enc_big (by omega), List.cons_append]
      rw [enc_big (by omega), List.length_cons] at hf
      unfold numN
      have hm := Nat.mod_lt m (show 0 < 128 by decide)
      rw [dg_toNat, if_neg (by omega), if_neg (by omega), numN_enc f (m / 128) (k + 1) _ r (by omega) (.inr (by omega))]
      have e : n + (128 + m % 128 - 128) * 128 ^ k + m / 128 * 128 ^ (k + 1) = n + m * 128 ^ k := digits_join n m k
      rw [e, List.length_cons]
      congr 2
      omega

/-- A number ahead of other bytes. -/
theorem numN_enc9 {m : Nat} (h : m < 9223372036854775808) (r : List UInt8) : numN 9 (enc m ++ r) 0 0 = (m, (enc m).length, 0) := by
  rw [numN_enc 9 m 0 0 r (enc_length9 h) (.inl rfl)]
  simp

end Go.Proofs.Ytjaplnainlbldaa

/- Roles put and got, told and parsed, and their order: plain words. -/
namespace Go.Proofs.Ytjaplnainlbldaa
open Go.RowKit

theorem name_enc {o : List UInt8} (h : isName o = true) (x : List UInt8) : nameOk ((enc o.length ++ o) ++ x) = true ∧ nameOf ((enc o.length ++ o) ++ x) = o ∧ nameRest ((enc o.length ++ o) ++ x) = x := by
  have hl := isName_len h
  have hN := numN_enc9 (m := o.length) (by omega) (o ++ x)
  rw [← List.append_assoc] at hN
  have h1 : errText ((enc o.length ++ o) ++ x) 16 = 0 := by
    unfold errText
    rw [hN]
    simp only [if_true, List.length_append]
    rw [if_neg (by omega), if_neg (by omega)]
  have h2 : nameOf ((enc o.length ++ o) ++ x) = o := by
    unfold nameOf
    rw [hN]
    simp
  refine ⟨by rw [nameOk, decide_eq_true h1, h2, h]; rfl, h2, ?_⟩
  unfold nameRest
  rw [hN, List.append_assoc, ← List.drop_drop]
  simp

end Go.Proofs.Ytjaplnainlbldaa

/- Which credential any bytes are, and the error; what is put is got: plain words. -/
namespace Go.Proofs.Ytjaplnainlbldaa
open Go.RowKit

theorem role_enc {r : RoleB} (h : isRole r = true) (x : List UInt8) : roleOk (roleEnc r ++ x) = true ∧ roleOf (roleEnc r ++ x) = r ∧ roleRest (roleEnc r ++ x) = x := by
  have hn : isName r.1 = true ∧ isName r.2 = true := by simpa [isRole] using h
  obtain ⟨a1, a2, a3⟩ := name_enc hn.1 ((enc r.2.length ++ r.2) ++ x)
  obtain ⟨b1, b2, b3⟩ := name_enc hn.2 x
  have e : roleEnc r ++ x = (enc r.1.length ++ r.1) ++ ((enc r.2.length ++ r.2) ++ x) := by rw [roleEnc, List.append_assoc]
  rw [e]
  exact ⟨by rw [roleOk, a1, a3, b1]; rfl, by rw [roleOf, a2, a3, b2], by rw [roleRest, a3, b3]⟩

end Go.Proofs.Ytjaplnainlbldaa

/- The order of credentials, made whole: by their bytes, then by their fields; sets of right ones: plain words. -/
namespace Go.Proofs.Ytjaplnainlbldaa
open Go.RowKit

end Go.Proofs.Ytjaplnainlbldaa

/- Lists of credentials of the call's own. -/
namespace Go.Proofs.Ytjaplnainlbldaa
open Go.RowKit

end Go.Proofs.Ytjaplnainlbldaa

/-
  DERIVED: THE SHELF's CONTRACTS AT THIS DUMP, IN PLAIN WORDS (tools/lay-plain.mjs out of 'TryShelfStr.lean', which tools/lay-shelf.mjs wrote): THE SAME DECLARATIONS UNDER THE SAME NAMES: 'import', 'namespace', 'open', 'def', 'theorem' AND NOTHING ELSE: no command of the shelf's: FOR A HAND-IN. Each laying: the table of numbers ('.._ren') and one theorem, a field a fact of the dump's own or the kernel's comparison; each contract: ONE APPLICATION.
-/
namespace Go.Proofs
open Go.Shelf
def Try.lays106_ren : Go.Shelf.Ren := ⟨fun | 106 => 141 | 213 => 159 | 265 => 164 | n => n, fun | 9 => 9 | 3 => 3 | n => n, fun | n => n⟩
theorem Try.lays106 : Go.Proofs.Lays.n106 Try.prog Try.lays106_ren := {
  mixed := by kernel_rfl
  f106 := Try.func141.trans (congrArg some (by kernel_rfl))
  f213 := Try.func159.trans (congrArg some (by kernel_rfl))
  f265 := Try.func164.trans (congrArg some (by kernel_rfl))
  t3 := Try.underlying3
  a3 := Try.isAgg3
  z3 := Try.sizeOf3
  v3 := Try.zeroValue3
  t9 := Try.underlying9
  a9 := Try.isAgg9
  z9 := Try.sizeOf9
  v9 := Try.zeroValue9 }
open Go.RowKit in
/-- strings.Compare: "Compare returns an integer comparing two strings lexicographically. The result will be 0 if a == b, -1 if a < b, and +1 if a > b.": IT RETURNS 'Lib.compareBytes a b'; the world is as it was. (LAID: no walk: one application.) -/
theorem Try.strings_Compare (a b : ByteArray) (w : World) :
    Calls Try.prog 141 #[.string a, .string b] w fun e w' => e = .returned (.int .i64 (Lib.compareBytes a.data.toList b.data.toList)) ∧ w' = w := Any.strings_Compare Try.lays106 a b w
end Go.Proofs

/- The order of two roles, as a program tells it by strings.Compare. -/
namespace Go.Proofs.Ytjaplnainlbldaa
open Go.RowKit

theorem cmpB_eq : ∀ (a b : List UInt8), Lib.compareBytes a b = if ltS a b then -1 else if ltS b a then 1 else 0
  | [], [] => rfl
  | [], _ :: _ => rfl
  | _ :: _, [] => by simp [Lib.compareBytes, ltS_nil, ltS_nil_cons]
  | x :: a, y :: b => by
    rw [Lib.compareBytes, ltS_cons, ltS_cons, cmpB_eq a b]
    by_cases h1 : x < y
    · simp [h1]
    · by_cases h2 : y < x
      · have hne : x ≠ y := fun e => by subst e; exact h1 h2
        simp [h1, h2, hne]
      · have e : x = y := by
          have h1' : ¬ x.toNat < y.toNat := h1
          have h2' : ¬ y.toNat < x.toNat := h2
          exact UInt8.toNat_inj.1 (by omega)
        subst e
        simp [h1]

theorem cmpB_zero (a b : List UInt8) : Lib.compareBytes a b = 0 ↔ a = b := by
  rw [cmpB_eq]
  constructor
  · intro h
    rcases ltS_tri a b with k | k | k
    · rw [if_pos k] at h; cases h
    · exact k
    · by_cases hb : ltS a b = true
      · rw [if_pos hb] at h; cases h
      · rw [if_neg hb, if_pos k] at h; cases h
  · rintro rfl
    rw [ltS_irrefl]
    rfl

theorem cmpR_eq (a b : RoleB) : cmpR a b = if Lib.compareBytes a.1 b.1 = 0 then Lib.compareBytes a.2 b.2 else Lib.compareBytes a.1 b.1 := by
  obtain ⟨o, x⟩ := a
  obtain ⟨p, y⟩ := b
  rw [cmpR, ltR_def, ltR_def]
  dsimp only
  by_cases h : o = p
  · subst h
    rw [if_pos ((cmpB_zero o o).2 rfl), cmpB_eq x y, ltS_irrefl]
    simp
  · have h2 : p ≠ o := fun e => h e.symm
    rw [if_neg (fun e => h ((cmpB_zero o p).1 e)), cmpB_eq o p]
    simp [h, h2]

end Go.Proofs.Ytjaplnainlbldaa

/- cmp.Or at two ints: the first that isn't zero, else zero. -/
namespace Go.Proofs.Ytjaplnainlbldaa
open Go.RowKit

/-- A slice of two ints. -/
def Spec.two (x y : Int) : Spec :=
  ⟨fun v w => ∃ g ty f, v = .slice (some ⟨g, 0, none⟩) 2 2 ∧ w.heap[g]? = some (.cells #[.int .i64 x, .int .i64 y] ty f), fun _ _ _ hc ⟨g, ty, f, h1, h2⟩ => ⟨g, ty, f, h1, blk_keep h2 hc id⟩⟩

set_option maxRecDepth 100000 in
theorem por_two (g : Nat) (f : Nat × Nat) (ty : Nat) (x y : Int) (w : World) (h : w.heap[g]? = some (.cells #[.int .i64 x, .int .i64 y] ty f)) :
    Calls Try.prog 140 #[.slice (some ⟨g, 0, none⟩) 2 2] w fun e w' => e = .returned (.int .i64 (if x = 0 then y else x)) ∧ w' = w := by
  have c0 := cell_blk h 0
  have c1 := cell_blk h 1
  simp only [List.getElem?_toArray, List.getElem?_cons_zero, List.getElem?_cons_succ] at c0 c1
  clear h
  by_cases hx : x = 0
  · subst hx
    rw [if_pos rfl]
    by_cases hy : y = 0
    · subst hy
      go_enter Try.func140, Try.ntmps140
      go_wp2
      refine wp_loop_rounds 3 ?_
      rw [rounds_succ]
      go_wp2
      rw [rounds_succ]
      go_wp2
      rw [rounds_succ]
      go_wp2
      go_ret
      exact ⟨rfl, rfl⟩
    · have z : (y == 0) = false := beq_eq_false_iff_ne.2 hy
      clear hy
      go_enter Try.func140, Try.ntmps140
      go_wp2
      refine wp_loop_rounds 2 ?_
      rw [rounds_succ]
      go_wp2
      rw [rounds_succ]
      go_wp2
      go_ret
      exact ⟨rfl, rfl⟩
  · rw [if_neg hx]
    have z : (x == 0) = false := beq_eq_false_iff_ne.2 hx
    clear hx
    go_enter Try.func140, Try.ntmps140
    go_wp2
    refine wp_loop_rounds 1 ?_
    rw [rounds_succ]
    go_wp2
    go_ret
    exact ⟨rfl, rfl⟩
end Go.Proofs.Ytjaplnainlbldaa

/- Worlds that have grown by draws and new blocks alone; a region that draws its order and grows so. -/
namespace Go.Proofs.Ytjaplnainlbldaa
open Go.RowKit Go.Sort

/-- Draws, and blocks behind the heap: nothing else. -/
def Gr (w w' : World) : Prop := ∃ (q : Nat) (os : Array Obj), w' = grow (w.drewN q) os

theorem Gr.refl (w : World) : Gr w w := ⟨0, #[], by rw [grow_empty]; rfl⟩

theorem Gr.trans {a b c : World} (h : Gr a b) (k : Gr b c) : Gr a c := by
  obtain ⟨n, os, rfl⟩ := h
  obtain ⟨q, os', rfl⟩ := k
  exact ⟨n + q, os ++ os', by show grow (grow ((a.drewN n).drewN q) os) os' = _; rw [grow_grow, World.drewN_drewN]⟩

theorem Gr.alloc {a b : World} (h : Gr a b) (o : Obj) : Gr a (b.alloc o) :=
  h.trans ⟨0, #[o], by rw [alloc_eq_grow]; rfl⟩

theorem Gr.drew {a b : World} (h : Gr a b) : Gr a b.drew := h.trans ⟨1, #[], by rw [grow_empty]; rfl⟩

theorem Gr.chg {a b : World} (h : Gr a b) (S : Nat → Prop) : Chg S a b := by
  obtain ⟨n, os, rfl⟩ := h
  refine ⟨rfl, rfl, rfl, ?_, fun k hk _ => ?_⟩
  · rw [size_grow]; exact Nat.le_add_right _ _
  · exact heap_grow_old _ _ hk

/-- wp_region_specs, for a region whose calls and operations only grow the world. -/
theorem wp_region_grown {P : Program} {Q : Exit → Act → World → Prop} {w0 : World} {a0 : Act} {id : Nat} {l : List Oper} (specs : List Spec) (ds outs : List Tmp) (hm : P.follows .mixedOrders = true) (hok : regOk l.toArray ds = true)
    (hsize : (ds.all fun t => decide (t < a0.tmps.size)) = true) (houts : ((outsOf l.toArray ds).all fun t => outs.contains t) = true)
    (hstart : ∀ t ∈ outs, Knows (specAt specs) a0 w0 t)
    (hobs : Obs P Q Gr (specAt specs) w0 l.toArray l)
    (hfin : ∀ (vals : Tmp → Value) (w : World), Gr w0 w → (∀ t ∈ ds, specAt specs t (vals t) w) → Q .normal ⟨putAll vals ds a0.tmps, a0.defers⟩ w) :
    (Code.region id l.toArray true).wp P Q a0 w0 :=
  wp_region_known (R := Gr) (G := specAt specs) (ds := ds) hm hok (fun _ _ _ h k => h.trans k) (Gr.refl _).drew (fun t v w w' hc h => specAt_st specs t v w w' (hc.chg _) h) hsize _ rfl
    (fun w hc t ht => by
      have h1 := List.all_eq_true.1 houts t ht
      obtain ⟨v, hv, hg⟩ := hstart t (by simpa using h1)
      exact ⟨v, hv, specAt_st specs t v w0 w (hc.chg _) hg⟩)
    hobs hfin
end Go.Proofs.Ytjaplnainlbldaa
