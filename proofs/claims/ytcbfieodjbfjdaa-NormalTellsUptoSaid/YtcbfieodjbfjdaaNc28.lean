/- Texts that the proof leans on, in one: FmHolds, End, Defer, Read, FmTrue, RoleHas, RoleSpec, NnSays, RnBytes, NnOrd. -/
import Derived.Test.YtcbfieodjbfjdaaNc8
import Derived.Test.YtcbfieodjbfjdaaNc7
import Derived.Test.YtcbfieodjbfjdaaNc6
import Derived.Defers
import Derived.Recover
import Derived.LaidEqlPtr
import Derived.Test.YtcbfieodjbfjdaaNc2
import Derived.Test.YtcbfieodjbfjdaaNc3
import Derived.Test.YtcbfieodjbfjdaaNc27
import Derived.Test.YtcbfieodjbfjdaaNc5
import Derived.Test.YtcbfieodjbfjdaaNc20
import Derived.Test.YtcbfieodjbfjdaaNc10
import Derived.Test.YtcbfieodjbfjdaaNc21
/- Is a formula true? -/
namespace Go.Proofs.Ytcbfieodjbfjdaa
open Go.RowKit

end Go.Proofs.Ytcbfieodjbfjdaa

/- The contract of a reader's end. -/
namespace Go.Proofs.Ytcbfieodjbfjdaa
open Go.RowKit

end Go.Proofs.Ytcbfieodjbfjdaa

/- The three contracts of the function that Read defers. -/
namespace Go.Proofs.Ytcbfieodjbfjdaa
open Go.RowKit

end Go.Proofs.Ytcbfieodjbfjdaa

/- The four contracts of Read, by how f ends. -/
namespace Go.Proofs.Ytcbfieodjbfjdaa
open Go.RowKit

end Go.Proofs.Ytcbfieodjbfjdaa

/- True: is a formula true, of the roles that a function tells? -/
namespace Go.Proofs.Ytcbfieodjbfjdaa
open Go.RowKit

end Go.Proofs.Ytcbfieodjbfjdaa

/- The contracts of the document's Has and Same of layer 4. -/
namespace Go.Proofs.Ytcbfieodjbfjdaa
open Go.RowKit

end Go.Proofs.Ytcbfieodjbfjdaa

/- Roles in slots. -/
namespace Go.Proofs.Ytcbfieodjbfjdaa
open Go.RowKit

end Go.Proofs.Ytcbfieodjbfjdaa

/- The law NormalSays, walked. -/
namespace Go.Proofs.Ytcbfieodjbfjdaa
open Go.RowKit Go.Lib Go.Sort

/-- What is asked of a formula that lies in the world w. -/
structure FmIn (D : Nat → Prop) (w : World) (n : Nat) (f : FmB) (ao : Option Addr) (cp : Nat) : Prop where
  at_ : FmsAt D w n ao f.kids
  lt : ∀ i, D i → i < w.heap.size
  ok : FmOk f
  z : ao = none → cp = 0
theorem FmIn.keep {D : Nat → Prop} {w w' : World} {n : Nat} {f : FmB} {ao : Option Addr} {cp : Nat} (h : FmIn D w n f ao cp) (hc : Chg (fun _ => False) w w') : FmIn D w' n f ao cp := ⟨h.at_.keep hc (fun _ _ => id), fun i hi => Nat.lt_of_lt_of_le (h.lt i hi) hc.size, h.ok, h.z⟩
theorem own_in {B : Nat} {w : World} {x : AT} (h : OwnA B w x) : ∃ xo xc, FmIn (fun k => B ≤ k ∧ k < w.heap.size) w (deepF (eraseA x)) (eraseA x) xo xc ∧ fmV x = .agg #[.int .i64 (eraseA x).op, .int .i64 (eraseA x).k, .string ⟨(eraseA x).r.1.toArray⟩, .string ⟨(eraseA x).r.2.toArray⟩, .slice xo (eraseA x).kids.length xc] ∧ x.v = .slice xo x.kids.length xc := by
  obtain ⟨xo, xc, x1, x5, x2, x3, x4⟩ := own_val h
  refine ⟨xo, xc, ⟨x3, fun i hi => hi.2, x4, x2⟩, by rw [← x1]; rfl, ?_⟩
  rw [x5, eraseA_eq]
  simp only [FmB.kids, eraseL_len]

end Go.Proofs.Ytcbfieodjbfjdaa

/- The document's bytes of a formula, and its order. -/
namespace Go.Proofs.Ytcbfieodjbfjdaa
open Go.RowKit

theorem rightL_of' {l : List FmB} (h : ∀ x ∈ l, rightF x = true) : rightL l = true := by
  induction l with
  | nil => rfl
  | cons a l ih => rw [rightL, h a (by simp), ih (fun x hx => h x (List.mem_cons_of_mem _ hx))]; rfl

theorem pc_roleEnc_len' {r : RoleB} (h1 : r.1.length ≤ 16) (h2 : r.2.length ≤ 16) : (roleEnc r).length ≤ 34 := by
  unfold roleEnc
  rw [enc_small (by omega), enc_small (by omega)]
  simp
  omega

set_option maxRecDepth 100000 in
set_option maxHeartbeats 8000000 in
theorem rnbytes {D : Nat → Prop} : ∀ (n : Nat) (f : FmB) (ao : Option Addr) (cp : Nat) (w : World), FmsAt D w n ao f.kids → FmOk f → rightF f = true → nodesF f ≤ 64 →
    Calls Try.prog 102 #[.agg #[.int .i64 f.op, .int .i64 f.k, .string ⟨f.r.1.toArray⟩, .string ⟨f.r.2.toArray⟩, .slice ao f.kids.length cp]] w fun e w' => e = .returned (.string ⟨(encF f).toArray⟩) ∧ Chg (fun _ => False) w w' := by
  intro n
  induction n using Nat.strongRecOn with
  | _ n ih =>
  intro f ao cp w h hok hr hN
  have hnl := nodesL_len f.kids
  have hnf := nodesF_eq f
  have hrk := rightF_eq f
  rw [hr, eq_comm, Bool.and_eq_true] at hrk
  have HX := hid h
  have HIN := hid ih
  have HRL := hid (rightL_mem hrk.1)
  have hcA : Chg (fun _ => False) w (w.alloc (.cells #[.int .i64 f.op, .int .i64 f.k, .string ⟨f.r.1.toArray⟩, .string ⟨f.r.2.toArray⟩, .slice ao f.kids.length cp] 26)) := (Chg.refl _ w).alloc _
  have hb := heap_alloc_new w (.cells #[.int .i64 f.op, .int .i64 f.k, .string ⟨f.r.1.toArray⟩, .string ⟨f.r.2.toArray⟩, .slice ao f.kids.length cp] 26)
  have s0 := cell_blk hb 0
  have s1 := cell_blk hb 1
  have s2 := cell_blk hb 2
  have s3 := cell_blk hb 3
  have s4 := cell_blk hb 4
  simp only [List.getElem?_toArray, List.getElem?_cons_zero, List.getElem?_cons_succ] at s0 s1 s2 s3 s4
  obtain ⟨q, hq, hq4⟩ : ∃ q : Nat, f.op = q ∧ 1 ≤ q ∧ q ≤ 4 := ⟨f.op.toNat, by rcases rightN_op hrk.2 with h | h | h <;> omega, by rcases rightN_op hrk.2 with h | h | h <;> omega⟩
  have hN1 := refnum_any q (w.alloc (.cells #[.int .i64 f.op, .int .i64 f.k, .string ⟨f.r.1.toArray⟩, .string ⟨f.r.2.toArray⟩, .slice ao f.kids.length cp] 26)) (by omega)
  rw [← hq] at hN1
  have HN1 := hid hN1
  have hl1 : (enc q).length = 1 := by rw [enc_small (by omega)]; rfl
  have HOP := hid hrk.2
  have HC0 := hid hcA
  have HB0 := hid hb
  have HEN := hid (encF_eq f)
  have HQ := hid hq
  have HL1 := hid hl1
  clear h ih hok hr hrk hcA hb hN1 hq
  go_enter Try.func102, Try.ntmps102
  go_wp2_with fail
  refine HN1.out.mono ?_
  rintro e w2 ⟨rfl, hc2⟩
  have hb2 := blk_keep HB0.out hc2 id
  have s0 := cell_blk hb2 0
  have s1 := cell_blk hb2 1
  have s2 := cell_blk hb2 2
  have s3 := cell_blk hb2 3
  have s4 := cell_blk hb2 4
  simp only [List.getElem?_toArray, List.getElem?_cons_zero, List.getElem?_cons_succ] at s0 s1 s2 s3 s4
  have HC2 := hid (And.intro hb2 (HC0.out.trans hc2 (fun _ _ h => h)))
  clear HN1 hc2 hb2 hl1
  have hq := HQ.out
  by_cases h1 : q = 1
  · have z0 : (f.op == 1) = true := by rw [hq, h1]; rfl
    have hro : f.r.1.length ≤ 16 ∧ f.r.2.length ≤ 16 := by
      rcases rightN_op HOP.out with h | h | h
      · exact role_len h.2.1
      · omega
      · omega
    have hrb := rbytes_ref f.r w2 (by omega) (by omega)
    have hrl := pc_roleEnc_len' hro.1 hro.2
    obtain ⟨re, hre⟩ : ∃ re, re = roleEnc f.r := ⟨_, rfl⟩
    rw [← hre] at hrb hrl
    unfold roleV at hrb
    have HRB := hid hrb
    have hb1 : ¬ 9223372036854775807 < (enc q).length + re.length := by have := HL1.out; omega
    have HE : Hid (encF f = enc q ++ re) := hid (by rw [HEN.out, if_pos (by rw [hq, h1]; rfl), hre, hq]; rfl)
    obtain ⟨eq9, heq9⟩ : ∃ eq9, eq9 = enc q := ⟨_, rfl⟩
    rw [← heq9] at hb1 HE
    rw [← heq9]
    clear hrb hro hre hrl hq heq9
    go_wp2_with fail
    refine HRB.out.mono ?_
    rintro e w3 ⟨rfl, hc3⟩
    have HC3 := hid (HC2.out.2.trans hc3 (fun _ _ h => h))
    clear hc3 HRB
    go_wp2
    go_ret
    refine ⟨?_, HC3.out⟩
    rw [HE.out]
    refine congrArg (fun b => Ending.returned (.string b)) ?_
    show (⟨eq9.toArray⟩ : ByteArray) ++ ⟨re.toArray⟩ = _
    rw [ByteArray.mk_append_mk]
    try simp
  · have z0 : (f.op == 1) = false := by rw [hq]; simp; omega
    have hk8 : f.kids.length ≤ 8 := by rcases rightN_op HOP.out with h | h | h <;> omega
    have hl3 : (enc f.kids.length).length = 1 := by rw [enc_small (by omega)]; rfl
    have HL3 := hid hl3
    by_cases h4 : q = 4
    · have z4 : (f.op == 4) = true := by rw [hq, h4]; rfl
      obtain ⟨k, hk⟩ : ∃ k : Nat, f.k = k ∧ k ≤ 8 := ⟨f.k.toNat, by rcases rightN_op HOP.out with h | h | h <;> omega, by rcases rightN_op HOP.out with h | h | h <;> omega⟩
      have hN2 := refnum_any k w2 (by omega)
      rw [← hk.1] at hN2
      have HN2 := hid hN2
      have hl2 : (enc k).length = 1 := by rw [enc_small (by omega)]; rfl
      have hb1 : ¬ 9223372036854775807 < (enc q).length + (enc k).length := by have := HL1.out; omega
      have hb3 : ¬ 9223372036854775807 < (enc q).length + (enc k).length + (enc f.kids.length).length := by have := HL1.out; omega
      have HEQ : Hid (encF f = (enc q ++ enc k ++ enc f.kids.length) ++ encFs f.kids) := hid (by rw [HEN.out, if_neg (by rw [hq]; omega), if_pos (by rw [hq]; omega), hq, hk.1]; simp)
      have HKK := hid hk
      have hpl : (enc q ++ enc k ++ enc f.kids.length).length ≤ 3000 := by simp only [List.length_append]; have := HL1.out; omega
      have HPL : Hid ((enc q ++ enc k ++ enc f.kids.length).length ≤ 3) := hid (by simp only [List.length_append]; have := HL1.out; omega)
      clear hN2 hq hk hl3 hl2 h4
      go_wp2_with fail
      refine HN2.out.mono ?_
      rintro e w3 ⟨rfl, hc3⟩
      have hb3' := blk_keep HC2.out.1 hc3 id
      have s0 := cell_blk hb3' 0
      have s1 := cell_blk hb3' 1
      have s2 := cell_blk hb3' 2
      have s3 := cell_blk hb3' 3
      have s4 := cell_blk hb3' 4
      simp only [List.getElem?_toArray, List.getElem?_cons_zero, List.getElem?_cons_succ] at s0 s1 s2 s3 s4
      have HC3 := hid (And.intro hb3' (HC2.out.2.trans hc3 (fun _ _ h => h)))
      have HN3 := hid (refnum_any f.kids.length w3 (by omega))
      clear hc3 hb3' HN2
      go_wp2_with fail
      refine HN3.out.mono ?_
      rintro e w4 ⟨rfl, hc4⟩
      have hb4 := blk_keep HC3.out.1 hc4 id
      have s0 := cell_blk hb4 0
      have s1 := cell_blk hb4 1
      have s2 := cell_blk hb4 2
      have s3 := cell_blk hb4 3
      have s4 := cell_blk hb4 4
      simp only [List.getElem?_toArray, List.getElem?_cons_zero, List.getElem?_cons_succ] at s0 s1 s2 s3 s4
      have HCL := hid (HC3.out.2.trans hc4 (fun _ _ h => h))
      clear hc4 hb4 HN3
      go_wp2
      obtain ⟨P9, hP9⟩ : ∃ P9, P9 = enc q ++ enc k ++ enc f.kids.length := ⟨_, rfl⟩
      rw [← hP9] at HEQ hpl HPL
      go_loopw [3, 34] (fun a i wr => ∃ (j : Nat) (acc : List UInt8), j ≤ f.kids.length ∧ a = .string ⟨acc.toArray⟩ ∧ i = .int .i64 j ∧ acc.length ≤ 3000 ∧ Hid (acc = P9 ++ encFs (f.kids.take j) ∧ Chg (fun _ => False) w wr)) (fun _ i _ => f.kids.length - (intOf i).toNat)
      case atStart => exact ⟨0, P9, Nat.zero_le _, (by rw [hP9]; simp only [ByteArray.mk_append_mk]; try simp), rfl, hpl, hid ⟨by simp [encFs], HCL.out⟩⟩
      case round =>
        obtain ⟨j, acc, hj, rfl, rfl, hal, hrel⟩ := hrel
        by_cases hlt : j < f.kids.length
        · have hcw := hrel.out.2
          obtain ⟨b, off, hao, hDb, hat⟩ := (HX.out.keep hcw (fun _ _ => id)) j hlt
          obtain ⟨d, ao2, cp2, hd2, ⟨a0, a1, a2, a3, a4⟩, hok2, hz2, hkids⟩ := hat.open_
          have hrg := HRL.out _ (List.getElem_mem hlt)
          have hle1 := nodesL_mem (List.getElem_mem hlt)
          have hsn := encFs_snoc (f.kids.take j) f.kids[j]
          rw [← List.take_succ_eq_append_getElem hlt] at hsn
          have hlen := encFs_len (f.kids.take (j + 1)) (rightL_of' fun g hg => HRL.out g (List.mem_of_mem_take hg))
          have hnt := nodesL_take f.kids (j + 1)
          generalize f.kids[j] = g at *
          have hcB : Chg (fun _ => False) wr (wr.alloc (.cells #[.int .i64 g.op, .int .i64 g.k, .string ⟨g.r.1.toArray⟩, .string ⟨g.r.2.toArray⟩, .slice ao2 g.kids.length cp2] 26)) := (Chg.refl _ wr).alloc _
          have hnb := heap_alloc_new wr (.cells #[.int .i64 g.op, .int .i64 g.k, .string ⟨g.r.1.toArray⟩, .string ⟨g.r.2.toArray⟩, .slice ao2 g.kids.length cp2] 26)
          have t0 := cell_blk hnb 0
          have t1 := cell_blk hnb 1
          have t2 := cell_blk hnb 2
          have t3 := cell_blk hnb 3
          have t4 := cell_blk hnb 4
          simp only [List.getElem?_toArray, List.getElem?_cons_zero, List.getElem?_cons_succ] at t0 t1 t2 t3 t4
          have HIH := hid (HIN.out d hd2 g ao2 cp2 (wr.alloc (.cells #[.int .i64 g.op, .int .i64 g.k, .string ⟨g.r.1.toArray⟩, .string ⟨g.r.2.toArray⟩, .slice ao2 g.kids.length cp2] 26)) (hkids.keep hcB (fun _ _ => id)) hok2 hrg (by omega))
          have HCB2 := hid (hcw.trans hcB (fun _ _ h => h))
          have HAC := hid hrel.out.1
          obtain ⟨tg, htg⟩ : ∃ tg, tg = encF g := ⟨_, rfl⟩
          rw [← htg] at HIH hsn
          have HNX : Hid (acc ++ tg = P9 ++ encFs (f.kids.take (j + 1))) := hid (by rw [HAC.out, hsn]; simp)
          have hb2 : (acc ++ tg).length ≤ 3000 := by
            have := congrArg List.length HNX.out
            have h10 : (P9 ++ encFs (f.kids.take (j + 1))).length = P9.length + (encFs (f.kids.take (j + 1))).length := List.length_append
            rw [h10] at this
            have := HPL.out
            omega
          have hb1 : ¬ 9223372036854775807 < acc.length + tg.length := by rw [List.length_append] at hb2; omega
          clear hcB hnb hrel hkids hat hok2 hd2 hcw hrg htg hsn hlen hnt hj
          subst hao
          go_wp2_with fail
          refine HIH.out.mono ?_
          rintro e w3 ⟨rfl, hc3⟩
          have HC3 := hid (HCB2.out.trans hc3 (fun _ _ h => h))
          clear HIH HCB2 hc3 a0 a1 a2 a3 a4 t0 t1 t2 t3 t4
          go_wp2
          go_roundw
          case rel => exact ⟨j + 1, acc ++ tg, hlt, (by first | rfl | (congr 1; exact ByteArray.mk_append_mk ..) | (rw [ByteArray.mk_append_mk]; simp)), by go_num, hb2, hid ⟨HNX.out, HC3.out⟩⟩
          case measure => simp [intOf]; omega
        · have hje : j = f.kids.length := by omega
          have hr := hrel.out
          rw [hje, List.take_length] at hr
          have HR := hid hr
          clear hr hrel hje
          go_wp2
          go_ret
          refine ⟨?_, HR.out.2⟩
          rw [HEQ.out, ← HR.out.1]
          rfl
    · have z4 : (f.op == 4) = false := by rw [hq]; simp; omega
      have hb3 : ¬ 9223372036854775807 < (enc q).length + (enc f.kids.length).length := by have := HL1.out; omega
      have HEQ : Hid (encF f = (enc q ++ enc f.kids.length) ++ encFs f.kids) := hid (by rw [HEN.out, if_neg (by rw [hq]; omega), if_neg (by rw [hq]; omega), hq]; simp)
      have hpl : (enc q ++ enc f.kids.length).length ≤ 3000 := by simp only [List.length_append]; have := HL1.out; omega
      have HPL : Hid ((enc q ++ enc f.kids.length).length ≤ 3) := hid (by simp only [List.length_append]; have := HL1.out; omega)
      have HN3 := hid (refnum_any f.kids.length w2 (by omega))
      clear hq hl3
      go_wp2_with fail
      refine HN3.out.mono ?_
      rintro e w4 ⟨rfl, hc4⟩
      have hb4 := blk_keep HC2.out.1 hc4 id
      have s0 := cell_blk hb4 0
      have s1 := cell_blk hb4 1
      have s2 := cell_blk hb4 2
      have s3 := cell_blk hb4 3
      have s4 := cell_blk hb4 4
      simp only [List.getElem?_toArray, List.getElem?_cons_zero, List.getElem?_cons_succ] at s0 s1 s2 s3 s4
      have HCL := hid (HC2.out.2.trans hc4 (fun _ _ h => h))
      clear hc4 hb4 HN3
      go_wp2
      obtain ⟨P9, hP9⟩ : ∃ P9, P9 = enc q ++ enc f.kids.length := ⟨_, rfl⟩
      rw [← hP9] at HEQ hpl HPL
      go_loopw [3, 34] (fun a i wr => ∃ (j : Nat) (acc : List UInt8), j ≤ f.kids.length ∧ a = .string ⟨acc.toArray⟩ ∧ i = .int .i64 j ∧ acc.length ≤ 3000 ∧ Hid (acc = P9 ++ encFs (f.kids.take j) ∧ Chg (fun _ => False) w wr)) (fun _ i _ => f.kids.length - (intOf i).toNat)
      case atStart => exact ⟨0, P9, Nat.zero_le _, (by rw [hP9]; simp only [ByteArray.mk_append_mk]; try simp), rfl, hpl, hid ⟨by simp [encFs], HCL.out⟩⟩
      case round =>
        obtain ⟨j, acc, hj, rfl, rfl, hal, hrel⟩ := hrel
        by_cases hlt : j < f.kids.length
        · have hcw := hrel.out.2
          obtain ⟨b, off, hao, hDb, hat⟩ := (HX.out.keep hcw (fun _ _ => id)) j hlt
          obtain ⟨d, ao2, cp2, hd2, ⟨a0, a1, a2, a3, a4⟩, hok2, hz2, hkids⟩ := hat.open_
          have hrg := HRL.out _ (List.getElem_mem hlt)
          have hle1 := nodesL_mem (List.getElem_mem hlt)
          have hsn := encFs_snoc (f.kids.take j) f.kids[j]
          rw [← List.take_succ_eq_append_getElem hlt] at hsn
          have hlen := encFs_len (f.kids.take (j + 1)) (rightL_of' fun g hg => HRL.out g (List.mem_of_mem_take hg))
          have hnt := nodesL_take f.kids (j + 1)
          generalize f.kids[j] = g at *
          have hcB : Chg (fun _ => False) wr (wr.alloc (.cells #[.int .i64 g.op, .int .i64 g.k, .string ⟨g.r.1.toArray⟩, .string ⟨g.r.2.toArray⟩, .slice ao2 g.kids.length cp2] 26)) := (Chg.refl _ wr).alloc _
          have hnb := heap_alloc_new wr (.cells #[.int .i64 g.op, .int .i64 g.k, .string ⟨g.r.1.toArray⟩, .string ⟨g.r.2.toArray⟩, .slice ao2 g.kids.length cp2] 26)
          have t0 := cell_blk hnb 0
          have t1 := cell_blk hnb 1
          have t2 := cell_blk hnb 2
          have t3 := cell_blk hnb 3
          have t4 := cell_blk hnb 4
          simp only [List.getElem?_toArray, List.getElem?_cons_zero, List.getElem?_cons_succ] at t0 t1 t2 t3 t4
          have HIH := hid (HIN.out d hd2 g ao2 cp2 (wr.alloc (.cells #[.int .i64 g.op, .int .i64 g.k, .string ⟨g.r.1.toArray⟩, .string ⟨g.r.2.toArray⟩, .slice ao2 g.kids.length cp2] 26)) (hkids.keep hcB (fun _ _ => id)) hok2 hrg (by omega))
          have HCB2 := hid (hcw.trans hcB (fun _ _ h => h))
          have HAC := hid hrel.out.1
          obtain ⟨tg, htg⟩ : ∃ tg, tg = encF g := ⟨_, rfl⟩
          rw [← htg] at HIH hsn
          have HNX : Hid (acc ++ tg = P9 ++ encFs (f.kids.take (j + 1))) := hid (by rw [HAC.out, hsn]; simp)
          have hb2 : (acc ++ tg).length ≤ 3000 := by
            have := congrArg List.length HNX.out
            have h10 : (P9 ++ encFs (f.kids.take (j + 1))).length = P9.length + (encFs (f.kids.take (j + 1))).length := List.length_append
            rw [h10] at this
            have := HPL.out
            omega
          have hb1 : ¬ 9223372036854775807 < acc.length + tg.length := by rw [List.length_append] at hb2; omega
          clear hcB hnb hrel hkids hat hok2 hd2 hcw hrg htg hsn hlen hnt hj
          subst hao
          go_wp2_with fail
          refine HIH.out.mono ?_
          rintro e w3 ⟨rfl, hc3⟩
          have HC3 := hid (HCB2.out.trans hc3 (fun _ _ h => h))
          clear HIH HCB2 hc3 a0 a1 a2 a3 a4 t0 t1 t2 t3 t4
          go_wp2
          go_roundw
          case rel => exact ⟨j + 1, acc ++ tg, hlt, (by first | rfl | (congr 1; exact ByteArray.mk_append_mk ..) | (rw [ByteArray.mk_append_mk]; simp)), by go_num, hb2, hid ⟨HNX.out, HC3.out⟩⟩
          case measure => simp [intOf]; omega
        · have hje : j = f.kids.length := by omega
          have hr := hrel.out
          rw [hje, List.take_length] at hr
          have HR := hid hr
          clear hr hrel hje
          go_wp2
          go_ret
          refine ⟨?_, HR.out.2⟩
          rw [HEQ.out, ← HR.out.1]
          rfl
end Go.Proofs.Ytcbfieodjbfjdaa

/- A row that is kept in order, each once or not: one more. -/
namespace Go.Proofs.Ytcbfieodjbfjdaa
open Go.RowKit

/-- Does x stand behind k? -/
def gtN (k x : FmB) : Bool := ltS (wrN k) (wrN x)
theorem leN_gt {k x : FmB} : leN x k ↔ gtN k x = false := Iff.rfl
theorem gt_ne {k x : FmB} (h : gtN k x = true) : k ≠ x := by
  rintro rfl
  unfold gtN at h
  rw [ltS_irrefl] at h
  cases h
theorem gt_le {k x : FmB} (h : gtN k x = true) : leN k x := by
  unfold gtN leN at *
  cases e : ltS (wrN x) (wrN k) with
  | false => rfl
  | true => have := ltS_trans _ _ _ h e; rw [ltS_irrefl] at this; cases this
theorem gt_trans {k x y : FmB} (h : gtN k x = true) (hle : leN x y) : gtN k y = true := by
  cases e : gtN k y with
  | true => rfl
  | false =>
    have := leN_trans hle (leN_gt.2 e)
    rw [leN_gt] at this
    rw [this] at h; cases h
theorem split_le (k : FmB) : ∀ {S : List FmB}, S.Pairwise leN → S = S.filter (fun x => !gtN k x) ++ S.filter (gtN k)
  | [], _ => rfl
  | x :: S, h => by
    rw [List.pairwise_cons] at h
    cases e : gtN k x with
    | false =>
      rw [List.filter_cons_of_pos (p := fun x => !gtN k x) (by simp [e]), List.filter_cons_of_neg (p := gtN k) (by simp [e]), List.cons_append, ← split_le k h.2]
    | true =>
      have hall : ∀ y ∈ S, gtN k y = true := fun y hy => gt_trans e (h.1 y hy)
      have h1 : S.filter (fun x => !gtN k x) = [] := by rw [List.filter_eq_nil_iff]; intro y hy; simp [hall y hy]
      have h2 : S.filter (gtN k) = S := by rw [List.filter_eq_self]; exact hall
      rw [List.filter_cons_of_neg (p := fun x => !gtN k x) (by simp [e]), List.filter_cons_of_pos (p := gtN k) e, h1, h2, List.nil_append]
theorem cmpct_app : ∀ {a b : List FmB}, (∀ x ∈ a, ∀ y ∈ b, x ≠ y) → cmpctN (a ++ b) = cmpctN a ++ cmpctN b
  | [], b, _ => rfl
  | [x], [], _ => rfl
  | [x], y :: b, h => by
    show cmpctN (x :: y :: b) = [x] ++ cmpctN (y :: b)
    simp only [cmpctN, if_neg (h x (by simp) y (by simp)), List.singleton_append]
  | x :: y :: a, b, h => by
    have ih := cmpct_app (a := y :: a) (b := b) (fun z hz => h z (List.mem_cons_of_mem _ hz))
    simp only [List.cons_append] at ih ⊢
    rw [cmpctN, cmpctN, ih]
    split <;> simp
theorem cmpct_dupO : ∀ (l : List FmB) (y : FmB), cmpctN (l ++ [y, y]) = cmpctN (l ++ [y])
  | [], y => by simp [cmpctN]
  | [a], y => by
    simp only [List.cons_append, List.nil_append, cmpctN]
    by_cases e : a = y <;> simp [e]
  | a :: b :: l, y => by
    have ih := cmpct_dupO (b :: l) y
    simp only [List.cons_append] at ih ⊢
    rw [cmpctN, cmpctN, ih]
theorem cmpct_moreO : ∀ (l : List FmB) (y x : FmB), y ≠ x → cmpctN (l ++ [y, x]) = cmpctN (l ++ [y]) ++ [x]
  | [], y, x, h => by simp [cmpctN, h]
  | [a], y, x, h => by
    simp only [List.cons_append, List.nil_append, cmpctN]
    by_cases e : a = y <;> simp [e, h]
  | a :: b :: l, y, x, h => by
    have ih := cmpct_moreO (b :: l) y x h
    simp only [List.cons_append] at ih ⊢
    rw [cmpctN, cmpctN, ih]
    split <;> simp
theorem cmpct_last : ∀ (l : List FmB), (cmpctN l).getLast? = l.getLast?
  | [] => rfl
  | [x] => rfl
  | x :: y :: l => by
    rw [cmpctN]
    split
    · rw [cmpct_last (y :: l)]; simp
    · obtain ⟨t, ht⟩ := cmpct_head y l
      have ih := cmpct_last (y :: l)
      rw [ht] at ih ⊢
      rw [List.getLast?_cons_cons, ih, List.getLast?_cons_cons]
/-- One more behind those that are no greater: it is there, or it is added. -/
theorem cmpct_end (S : List FmB) (k : FmB) : (S.getLast? = some k ∧ cmpctN (S ++ [k]) = cmpctN S) ∨ (S.getLast? ≠ some k ∧ cmpctN (S ++ [k]) = cmpctN S ++ [k]) := by
  rcases List.eq_nil_or_concat S with rfl | ⟨l, y, rfl⟩
  · exact .inr ⟨by simp, rfl⟩
  · by_cases e : y = k
    · subst e
      exact .inl ⟨by simp, by rw [List.concat_eq_append, List.append_assoc]; exact cmpct_dupO l y⟩
    · exact .inr ⟨by simp [e], by rw [List.concat_eq_append, List.append_assoc]; exact cmpct_moreO l y k e⟩

/-- out is what is kept of the formulas ks, in order; each once, if that is asked for. -/
def KeptN (once : Bool) (ks out : List FmB) : Prop := ∃ S : List FmB, S.Perm ks ∧ S.Pairwise leN ∧ out = if once then cmpctN S else S
theorem KeptN.nil (once : Bool) : KeptN once [] [] := ⟨[], List.Perm.refl _, List.Pairwise.nil, by cases once <;> rfl⟩
theorem KeptN.sorted {once : Bool} {ks out : List FmB} (h : KeptN once ks out) : out.Pairwise leN := by
  obtain ⟨S, _, h2, rfl⟩ := h
  cases once with
  | false => exact h2
  | true => exact h2.sublist (cmpct_sub S)
/-- One more: behind the first i stand those that are greater; the last of the first i is no greater. -/
theorem KeptN.parts {once : Bool} {ks A C : List FmB} {k : FmB} (h : KeptN once ks (A ++ C)) (hC : ∀ x ∈ C, gtN k x = true) (hA : ∀ x, A.getLast? = some x → gtN k x = false) :
    (once = true → A.getLast? = some k → KeptN once (ks ++ [k]) (A ++ C)) ∧ ((once = false ∨ A.getLast? ≠ some k) → KeptN once (ks ++ [k]) (A ++ k :: C)) := by
  have hs := h.sorted
  have hA2 : ∀ x ∈ A, gtN k x = false := by
    rcases List.eq_nil_or_concat A with rfl | ⟨l, y, rfl⟩
    · exact fun _ h => by cases h
    · have hy := hA y (by simp)
      intro x hx
      rw [List.concat_eq_append] at hx hs
      rcases List.mem_append.1 hx with hx | hx
      · have h1 := (List.pairwise_append.1 (List.pairwise_append.1 hs).1).2.2 x hx y (by simp)
        exact leN_trans h1 hy
      · rw [List.mem_singleton.1 hx]; exact hy
  obtain ⟨S, hp, hso, he⟩ := h
  have hsp := split_le k hso
  obtain ⟨S1, hS1⟩ : ∃ S1, S1 = S.filter (fun x => !gtN k x) := ⟨_, rfl⟩
  obtain ⟨S2, hS2⟩ : ∃ S2, S2 = S.filter (gtN k) := ⟨_, rfl⟩
  rw [← hS1, ← hS2] at hsp
  have m1 : ∀ x ∈ S1, gtN k x = false := fun x hx => by rw [hS1, List.mem_filter] at hx; simpa using hx.2
  have m2 : ∀ x ∈ S2, gtN k x = true := fun x hx => by rw [hS2, List.mem_filter] at hx; exact hx.2
  have hne : ∀ x ∈ S1, ∀ y ∈ S2, x ≠ y := fun x hx y hy e => by have := m1 x hx; rw [e, m2 y hy] at this; cases this
  have hne2 : ∀ x ∈ S1 ++ [k], ∀ y ∈ S2, x ≠ y := fun x hx y hy e => by
    rcases List.mem_append.1 hx with hx | hx
    · exact hne x hx y hy e
    · rw [List.mem_singleton.1 hx] at e; exact gt_ne (m2 y hy) e
  have hso1 : S1.Pairwise leN := hS1 ▸ hso.filter _
  have hso2 : S2.Pairwise leN := hS2 ▸ hso.filter _
  have hperm : (S1 ++ k :: S2).Perm (ks ++ [k]) := by
    have : (S1 ++ S2).Perm ks := by rw [← hsp]; exact hp
    exact (List.perm_middle.trans (this.cons k)).trans (List.perm_append_singleton k ks).symm
  have hsort : (S1 ++ k :: S2).Pairwise leN := by
    rw [List.pairwise_append, List.pairwise_cons]
    refine ⟨hso1, ⟨fun y hy => gt_le (m2 y hy), hso2⟩, fun x hx y hy => ?_⟩
    rcases List.mem_cons.1 hy with rfl | hy
    · exact m1 x hx
    · exact leN_trans (leN_gt.2 (m1 x hx)) (gt_le (m2 y hy))
  have filt : ∀ (X Y : List FmB), (∀ x ∈ X, gtN k x = false) → (∀ y ∈ Y, gtN k y = true) → (X ++ Y).filter (fun x => !gtN k x) = X ∧ (X ++ Y).filter (gtN k) = Y := fun X Y hX hY => by
    rw [List.filter_append, List.filter_append]
    have a1 : X.filter (fun x => !gtN k x) = X := by rw [List.filter_eq_self]; intro x hx; simp [hX x hx]
    have a2 : Y.filter (fun x => !gtN k x) = [] := by rw [List.filter_eq_nil_iff]; intro x hx; simp [hY x hx]
    have a3 : X.filter (gtN k) = [] := by rw [List.filter_eq_nil_iff]; intro x hx; simp [hX x hx]
    have a4 : Y.filter (gtN k) = Y := by rw [List.filter_eq_self]; exact hY
    rw [a1, a2, a3, a4]
    simp
  cases once with
  | false =>
    refine ⟨fun e => (by cases e), fun _ => ⟨S1 ++ k :: S2, hperm, hsort, ?_⟩⟩
    rw [if_neg (by simp)] at he ⊢
    rw [hsp] at he
    have f1 := filt A C hA2 hC
    have f2 := filt S1 S2 m1 m2
    rw [he] at f1
    rw [← f1.1, ← f1.2, f2.1, f2.2]
  | true =>
    rw [if_pos rfl] at he
    rw [hsp, cmpct_app hne] at he
    have f1 := filt A C hA2 hC
    have f2 := filt (cmpctN S1) (cmpctN S2) (fun x hx => m1 x ((cmpct_mem _ _).1 hx)) (fun x hx => m2 x ((cmpct_mem _ _).1 hx))
    rw [he] at f1
    have eA : A = cmpctN S1 := by rw [← f1.1, f2.1]
    have eC : C = cmpctN S2 := by rw [← f1.2, f2.2]
    have e3 : S1 ++ k :: S2 = (S1 ++ [k]) ++ S2 := by simp
    have key : cmpctN (S1 ++ k :: S2) = cmpctN (S1 ++ [k]) ++ cmpctN S2 := by rw [e3, cmpct_app hne2]
    rw [eA, cmpct_last]
    rcases cmpct_end S1 k with ⟨c1, c2⟩ | ⟨c1, c2⟩
    · exact ⟨fun _ _ => ⟨S1 ++ k :: S2, hperm, hsort, by rw [if_pos rfl, key, c2, eC]⟩, fun h => h.elim (fun e => by cases e) (fun e => absurd c1 e)⟩
    · exact ⟨fun _ e => absurd e c1, fun _ => ⟨S1 ++ k :: S2, hperm, hsort, by rw [if_pos rfl, key, c2, eC]; simp⟩⟩
end Go.Proofs.Ytcbfieodjbfjdaa
