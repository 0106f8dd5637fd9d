/- The document's Text of layer 12. -/
import Derived.Test.YtojbhlbknjnioaaGreatDoorPt25
import Derived.Test.YtojbhlbknjnioaaGreatDoorPt1
namespace Go.Proofs.YtojbhlbknjnioaaGreatDoor
open Go.RowKit

theorem textT_snoc (l : List FmB) (g : FmB) : textT (l ++ [g]) = textT l ++ (44 :: 32 :: textF g) := by
  induction l with
  | nil => simp [textT]
  | cons x l ih => rw [List.cons_append, textT, ih, textT]; simp
theorem textL_snoc (l : List FmB) (g : FmB) : textL (l ++ [g]) = textL l ++ ((if l = [] then [] else [44, 32]) ++ textF g) := by
  cases l with
  | nil => simp [textL, textT]
  | cons x l => rw [List.cons_append, textL, textT_snoc, textL, if_neg (by simp)]; simp
theorem textL_len (l : List FmB) (h : ∀ g ∈ l, rightF g = true) : (textL l).length ≤ 40 * nodesL l := by
  have hT : ∀ l : List FmB, (∀ g ∈ l, rightF g = true) → (textT l).length ≤ 40 * nodesL l := by
    intro l
    induction l with
    | nil => intro _; simp [textT, nodesL]
    | cons g l ihl =>
      intro h
      have h1 := text_len g (h g (by simp))
      have h2 := ihl (fun x hx => h x (List.mem_cons_of_mem _ hx))
      rw [textT, nodesL]
      simp only [List.length_cons, List.length_append]
      omega
  cases l with
  | nil => simp [textL, nodesL]
  | cons g l =>
    have h1 := text_len g (h g (by simp))
    have h2 := hT l (fun x hx => h x (List.mem_cons_of_mem _ hx))
    rw [textL, nodesL, List.length_append]
    omega

set_option maxRecDepth 100000 in
set_option maxHeartbeats 8000000 in
theorem rtext12 {D : Nat → Prop} : ∀ (n : Nat) (f : FmB) (ao : Option Addr) (cp : Nat) (w : World), FmsAt D w n ao f.kids → FmOk f → rightF f = true → nodesF f ≤ 64 →
    Calls Tryz.prog 8 #[.agg #[.int .i64 f.op, .int .i64 f.k, .string ⟨f.r.1.toArray⟩, .string ⟨f.r.2.toArray⟩, .slice ao f.kids.length cp]] w fun e w' => e = .returned (.string ⟨(textF f).toArray⟩) ∧ Chg (fun _ => False) w w' := by
  intro n
  induction n using Nat.strongRecOn with
  | _ n ih =>
  intro f ao cp w h hok hr hN
  have hnl := nodesL_len f.kids
  have hnf := nodesF_eq f
  have hrk := rightF_eq f
  rw [hr, eq_comm, Bool.and_eq_true] at hrk
  have HX := hid h
  have HIN := hid ih
  have HRL := hid (rightL_mem hrk.1)
  have hcA : Chg (fun _ => False) w (w.alloc (.cells #[.int .i64 f.op, .int .i64 f.k, .string ⟨f.r.1.toArray⟩, .string ⟨f.r.2.toArray⟩, .slice ao f.kids.length cp] 26)) := (Chg.refl _ w).alloc _
  have hb := heap_alloc_new w (.cells #[.int .i64 f.op, .int .i64 f.k, .string ⟨f.r.1.toArray⟩, .string ⟨f.r.2.toArray⟩, .slice ao f.kids.length cp] 26)
  have s0 := cell_blk hb 0
  have s1 := cell_blk hb 1
  have s2 := cell_blk hb 2
  have s3 := cell_blk hb 3
  have s4 := cell_blk hb 4
  simp only [List.getElem?_toArray, List.getElem?_cons_zero, List.getElem?_cons_succ] at s0 s1 s2 s3 s4
  by_cases h1 : f.op = 1
  · have z0 : (f.op == 1) = true := beq_iff_eq.2 h1
    have hro : f.r.1.length ≤ 16 ∧ f.r.2.length ≤ 16 := by
      have := hrk.2
      unfold rightN at this
      rw [if_pos h1, Bool.and_eq_true] at this
      exact role_len16 this.1
    have HC0 := hid hcA
    have HE : Hid (textF f = roleText f.r) := hid (by rw [textF_eq, if_pos h1])
    have hb1 : ¬ 9223372036854775807 < f.r.1.length + 1 := by omega
    have hb2 : ¬ 9223372036854775807 < f.r.1.length + 1 + f.r.2.length := by omega
    clear h ih hok hr hrk hcA hb hro h1 HX HIN HRL
    go_enter Tryz.func8, Tryz.ntmps8
    go_wp2
    go_ret
    rw [HE.out]
    refine ⟨congrArg (fun b => Ending.returned (.string b)) ?_, HC0.out⟩
    show (⟨f.r.1.toArray⟩ : ByteArray) ++ ⟨([46] : List UInt8).toArray⟩ ++ ⟨f.r.2.toArray⟩ = ⟨(roleText f.r).toArray⟩
    rw [ByteArray.mk_append_mk, ByteArray.mk_append_mk]
    simp [roleText]
  · have z0 : (f.op == 1) = false := by simpa using h1
    have HEQ : Hid (textF f = headW f.op f.k ++ (40 :: (textL f.kids ++ [41]))) := hid (by rw [textF_eq, if_neg h1])
    have HHL : Hid ((headW f.op f.k).length ≤ 4) := hid (by
      unfold headW
      split
      · decide
      · split
        · simp [atW]
        · decide)
    have hop := (rightN_k hrk.2 h1).2
    have HC0 := hid hcA
    have HB0 := hid hb
    clear h ih hok hr hrk hcA hb h1
    go_enter Tryz.func8, Tryz.ntmps8
    rcases hop with ⟨h2, hk⟩ | ⟨h2, hk⟩ | ⟨h2, h0, h8⟩
    · have z3 : (f.op == 3) = false := by rw [h2]; rfl
      have z4 : (f.op == 4) = false := by rw [h2]; rfl
      have HHD : Hid (([97, 108, 108, 40] : Tok) = headW f.op f.k ++ (40 :: textL (f.kids.take 0))) := hid (by rw [h2]; rfl)
      clear h2 hk
      go_wp2
      go_loopw [3, 34] (fun a i wr => ∃ (j : Nat) (acc : Tok), j ≤ f.kids.length ∧ a = .string ⟨acc.toArray⟩ ∧ i = .int .i64 j ∧ acc.length ≤ 2600 ∧ Hid (acc = headW f.op f.k ++ (40 :: textL (f.kids.take j)) ∧ Chg (fun _ => False) w wr)) (fun _ i _ => f.kids.length - (intOf i).toNat)
      case atStart => exact ⟨0, [97, 108, 108, 40], Nat.zero_le _, (by first | rfl | (simp only [ByteArray.mk_append_mk]; rfl)), rfl, (by simp), hid ⟨HHD.out, HC0.out⟩⟩
      case round =>
        obtain ⟨j, acc, hj, rfl, rfl, hal, hrel⟩ := hrel
        by_cases hlt : j < f.kids.length
        · have hcw := hrel.out.2
          obtain ⟨b, off, hao, hDb, hat⟩ := (HX.out.keep hcw (fun _ _ => id)) j hlt
          obtain ⟨d, ao2, cp2, hd2, ⟨a0, a1, a2, a3, a4⟩, hok2, hz2, hkids⟩ := hat.open_
          have hrg := HRL.out _ (List.getElem_mem hlt)
          have hle1 := nodesL_mem (List.getElem_mem hlt)
          have hsn := textL_snoc (f.kids.take j) f.kids[j]
          rw [← List.take_succ_eq_append_getElem hlt] at hsn
          have hlen := textL_len (f.kids.take (j + 1)) (fun g hg => HRL.out g (List.mem_of_mem_take hg))
          have hnt := nodesL_take f.kids (j + 1)
          have htk : (f.kids.take j).length = j := by rw [List.length_take]; omega
          generalize f.kids[j] = g at *
          have hcB : Chg (fun _ => False) wr (wr.alloc (.cells #[.int .i64 g.op, .int .i64 g.k, .string ⟨g.r.1.toArray⟩, .string ⟨g.r.2.toArray⟩, .slice ao2 g.kids.length cp2] 26)) := (Chg.refl _ wr).alloc _
          have hnb := heap_alloc_new wr (.cells #[.int .i64 g.op, .int .i64 g.k, .string ⟨g.r.1.toArray⟩, .string ⟨g.r.2.toArray⟩, .slice ao2 g.kids.length cp2] 26)
          have t0 := cell_blk hnb 0
          have t1 := cell_blk hnb 1
          have t2 := cell_blk hnb 2
          have t3 := cell_blk hnb 3
          have t4 := cell_blk hnb 4
          simp only [List.getElem?_toArray, List.getElem?_cons_zero, List.getElem?_cons_succ] at t0 t1 t2 t3 t4
          have HIH := hid (HIN.out d hd2 g ao2 cp2 (wr.alloc (.cells #[.int .i64 g.op, .int .i64 g.k, .string ⟨g.r.1.toArray⟩, .string ⟨g.r.2.toArray⟩, .slice ao2 g.kids.length cp2] 26)) (hkids.keep hcB (fun _ _ => id)) hok2 hrg (by omega))
          have HC2 := hid (hcw.trans hcB (fun _ _ h => h))
          have HLT := hid hlt
          have HAC := hid hrel.out.1
          obtain ⟨tg, htg⟩ : ∃ tg, tg = textF g := ⟨_, rfl⟩
          rw [← htg] at HIH hsn
          clear hcB hnb hrel hkids hat hok2 hd2 hcw hrg s0 s1 s2 s3 s4 htg
          subst hao
          by_cases hj0 : j = 0
          · have z1 : decide ((0 : Int) < (j : Int)) = false := decide_eq_false (by omega)
            have z1n : ¬ 0 < j := by omega
            have hsn2 : textL (f.kids.take (j + 1)) = textL (f.kids.take j) ++ tg := by rw [hsn, if_pos (List.eq_nil_of_length_eq_zero (by omega))]; simp
            have HNX : Hid (acc ++ tg = headW f.op f.k ++ (40 :: textL (f.kids.take (j + 1)))) := hid (by rw [HAC.out, hsn2]; simp)
            have hb1 : ¬ 9223372036854775807 < acc.length + tg.length := by
              rw [hsn2, List.length_append] at hlen; omega
            have hb2 : (acc ++ tg).length ≤ 2600 := by
              have := congrArg List.length HNX.out
              have hhl := HHL.out
              simp only [List.length_append, List.length_cons] at this ⊢
              omega
            have HB2 := hid hb2
            have HJ0 := hid hj0
            clear hsn hsn2 hlen hnt htk hj0 hb2
            go_wp2_with fail
            refine HIH.out.mono ?_
            rintro e w3 ⟨rfl, hc3⟩
            have HC3 := hid (HC2.out.trans hc3 (fun _ _ h => h))
            clear HIH HC2 hc3 a0 a1 a2 a3 a4 t0 t1 t2 t3 t4
            go_wp2
            go_roundw
            case rel => exact ⟨j + 1, acc ++ tg, HLT.out, (by first | rfl | (congr 1; exact ByteArray.mk_append_mk ..) | (rw [ByteArray.mk_append_mk]; simp)), by go_num, HB2.out, hid ⟨HNX.out, HC3.out⟩⟩
            case measure => have := HLT.out; simp [intOf]; omega
          · have z1 : decide ((0 : Int) < (j : Int)) = true := decide_eq_true (by omega)
            have z1n : 0 < j := by omega
            have hsn2 : textL (f.kids.take (j + 1)) = textL (f.kids.take j) ++ (44 :: 32 :: tg) := by
              rw [hsn, if_neg (fun e => hj0 (by rw [← htk, e]; rfl))]; simp
            have HNX : Hid (acc ++ [44, 32] ++ tg = headW f.op f.k ++ (40 :: textL (f.kids.take (j + 1)))) := hid (by rw [HAC.out, hsn2]; simp)
            have hb1 : ¬ 9223372036854775807 < acc.length + 2 := by omega
            have hb3 : ¬ 9223372036854775807 < acc.length + 2 + tg.length := by
              rw [hsn2] at hlen; simp only [List.length_append, List.length_cons] at hlen; omega
            have hb2 : (acc ++ [44, 32] ++ tg).length ≤ 2600 := by
              have := congrArg List.length HNX.out
              have hhl := HHL.out
              simp only [List.length_append, List.length_cons] at this ⊢
              omega
            have HB2 := hid hb2
            clear hsn hsn2 hlen hnt htk hb2
            go_wp2_with fail
            refine HIH.out.mono ?_
            rintro e w3 ⟨rfl, hc3⟩
            have HC3 := hid (HC2.out.trans hc3 (fun _ _ h => h))
            clear HIH HC2 hc3 a0 a1 a2 a3 a4 t0 t1 t2 t3 t4
            go_wp2
            go_roundw
            case rel => exact ⟨j + 1, acc ++ [44, 32] ++ tg, HLT.out, (by
              show Value.string ((⟨acc.toArray⟩ : ByteArray) ++ ⟨([44, 32] : List UInt8).toArray⟩ ++ ⟨tg.toArray⟩) = _
              rw [ByteArray.mk_append_mk, ByteArray.mk_append_mk]
              try simp), by go_num, HB2.out, hid ⟨HNX.out, HC3.out⟩⟩
            case measure => have := HLT.out; simp [intOf]; omega
        · have hje : j = f.kids.length := by omega
          have hr := hrel.out
          rw [hje, List.take_length] at hr
          have HR := hid hr
          have hb1 : ¬ 9223372036854775807 < acc.length + 1 := by omega
          have HT : Hid (acc ++ [41] = textF f) := hid (by rw [HEQ.out, hr.1]; simp)
          clear hr hrel hje
          go_wp2
          go_ret
          refine ⟨?_, HR.out.2⟩
          rw [← HT.out]
          refine congrArg (fun b => Ending.returned (.string b)) ?_
          show (⟨acc.toArray⟩ : ByteArray) ++ ⟨([41] : List UInt8).toArray⟩ = _
          rw [ByteArray.mk_append_mk]
          try simp
    · have z3 : (f.op == 3) = true := by rw [h2]; rfl
      have z4 : (f.op == 4) = false := by rw [h2]; rfl
      have HHD : Hid (([115, 111, 109, 101, 40] : Tok) = headW f.op f.k ++ (40 :: textL (f.kids.take 0))) := hid (by rw [h2]; rfl)
      clear h2 hk
      go_wp2
      go_loopw [3, 34] (fun a i wr => ∃ (j : Nat) (acc : Tok), j ≤ f.kids.length ∧ a = .string ⟨acc.toArray⟩ ∧ i = .int .i64 j ∧ acc.length ≤ 2600 ∧ Hid (acc = headW f.op f.k ++ (40 :: textL (f.kids.take j)) ∧ Chg (fun _ => False) w wr)) (fun _ i _ => f.kids.length - (intOf i).toNat)
      case atStart => exact ⟨0, [115, 111, 109, 101, 40], Nat.zero_le _, (by first | rfl | (simp only [ByteArray.mk_append_mk]; rfl)), rfl, (by simp), hid ⟨HHD.out, HC0.out⟩⟩
      case round =>
        obtain ⟨j, acc, hj, rfl, rfl, hal, hrel⟩ := hrel
        by_cases hlt : j < f.kids.length
        · have hcw := hrel.out.2
          obtain ⟨b, off, hao, hDb, hat⟩ := (HX.out.keep hcw (fun _ _ => id)) j hlt
          obtain ⟨d, ao2, cp2, hd2, ⟨a0, a1, a2, a3, a4⟩, hok2, hz2, hkids⟩ := hat.open_
          have hrg := HRL.out _ (List.getElem_mem hlt)
          have hle1 := nodesL_mem (List.getElem_mem hlt)
          have hsn := textL_snoc (f.kids.take j) f.kids[j]
          rw [← List.take_succ_eq_append_getElem hlt] at hsn
          have hlen := textL_len (f.kids.take (j + 1)) (fun g hg => HRL.out g (List.mem_of_mem_take hg))
          have hnt := nodesL_take f.kids (j + 1)
          have htk : (f.kids.take j).length = j := by rw [List.length_take]; omega
          generalize f.kids[j] = g at *
          have hcB : Chg (fun _ => False) wr (wr.alloc (.cells #[.int .i64 g.op, .int .i64 g.k, .string ⟨g.r.1.toArray⟩, .string ⟨g.r.2.toArray⟩, .slice ao2 g.kids.length cp2] 26)) := (Chg.refl _ wr).alloc _
          have hnb := heap_alloc_new wr (.cells #[.int .i64 g.op, .int .i64 g.k, .string ⟨g.r.1.toArray⟩, .string ⟨g.r.2.toArray⟩, .slice ao2 g.kids.length cp2] 26)
          have t0 := cell_blk hnb 0
          have t1 := cell_blk hnb 1
          have t2 := cell_blk hnb 2
          have t3 := cell_blk hnb 3
          have t4 := cell_blk hnb 4
          simp only [List.getElem?_toArray, List.getElem?_cons_zero, List.getElem?_cons_succ] at t0 t1 t2 t3 t4
          have HIH := hid (HIN.out d hd2 g ao2 cp2 (wr.alloc (.cells #[.int .i64 g.op, .int .i64 g.k, .string ⟨g.r.1.toArray⟩, .string ⟨g.r.2.toArray⟩, .slice ao2 g.kids.length cp2] 26)) (hkids.keep hcB (fun _ _ => id)) hok2 hrg (by omega))
          have HC2 := hid (hcw.trans hcB (fun _ _ h => h))
          have HLT := hid hlt
          have HAC := hid hrel.out.1
          obtain ⟨tg, htg⟩ : ∃ tg, tg = textF g := ⟨_, rfl⟩
          rw [← htg] at HIH hsn
          clear hcB hnb hrel hkids hat hok2 hd2 hcw hrg s0 s1 s2 s3 s4 htg
          subst hao
          by_cases hj0 : j = 0
          · have z1 : decide ((0 : Int) < (j : Int)) = false := decide_eq_false (by omega)
            have z1n : ¬ 0 < j := by omega
            have hsn2 : textL (f.kids.take (j + 1)) = textL (f.kids.take j) ++ tg := by rw [hsn, if_pos (List.eq_nil_of_length_eq_zero (by omega))]; simp
            have HNX : Hid (acc ++ tg = headW f.op f.k ++ (40 :: textL (f.kids.take (j + 1)))) := hid (by rw [HAC.out, hsn2]; simp)
            have hb1 : ¬ 9223372036854775807 < acc.length + tg.length := by
              rw [hsn2, List.length_append] at hlen; omega
            have hb2 : (acc ++ tg).length ≤ 2600 := by
              have := congrArg List.length HNX.out
              have hhl := HHL.out
              simp only [List.length_append, List.length_cons] at this ⊢
              omega
            have HB2 := hid hb2
            have HJ0 := hid hj0
            clear hsn hsn2 hlen hnt htk hj0 hb2
            go_wp2_with fail
            refine HIH.out.mono ?_
            rintro e w3 ⟨rfl, hc3⟩
            have HC3 := hid (HC2.out.trans hc3 (fun _ _ h => h))
            clear HIH HC2 hc3 a0 a1 a2 a3 a4 t0 t1 t2 t3 t4
            go_wp2
            go_roundw
            case rel => exact ⟨j + 1, acc ++ tg, HLT.out, (by first | rfl | (congr 1; exact ByteArray.mk_append_mk ..) | (rw [ByteArray.mk_append_mk]; simp)), by go_num, HB2.out, hid ⟨HNX.out, HC3.out⟩⟩
            case measure => have := HLT.out; simp [intOf]; omega
          · have z1 : decide ((0 : Int) < (j : Int)) = true := decide_eq_true (by omega)
            have z1n : 0 < j := by omega
            have hsn2 : textL (f.kids.take (j + 1)) = textL (f.kids.take j) ++ (44 :: 32 :: tg) := by
              rw [hsn, if_neg (fun e => hj0 (by rw [← htk, e]; rfl))]; simp
            have HNX : Hid (acc ++ [44, 32] ++ tg = headW f.op f.k ++ (40 :: textL (f.kids.take (j + 1)))) := hid (by rw [HAC.out, hsn2]; simp)
            have hb1 : ¬ 9223372036854775807 < acc.length + 2 := by omega
            have hb3 : ¬ 9223372036854775807 < acc.length + 2 + tg.length := by
              rw [hsn2] at hlen; simp only [List.length_append, List.length_cons] at hlen; omega
            have hb2 : (acc ++ [44, 32] ++ tg).length ≤ 2600 := by
              have := congrArg List.length HNX.out
              have hhl := HHL.out
              simp only [List.length_append, List.length_cons] at this ⊢
              omega
            have HB2 := hid hb2
            clear hsn hsn2 hlen hnt htk hb2
            go_wp2_with fail
            refine HIH.out.mono ?_
            rintro e w3 ⟨rfl, hc3⟩
            have HC3 := hid (HC2.out.trans hc3 (fun _ _ h => h))
            clear HIH HC2 hc3 a0 a1 a2 a3 a4 t0 t1 t2 t3 t4
            go_wp2
            go_roundw
            case rel => exact ⟨j + 1, acc ++ [44, 32] ++ tg, HLT.out, (by
              show Value.string ((⟨acc.toArray⟩ : ByteArray) ++ ⟨([44, 32] : List UInt8).toArray⟩ ++ ⟨tg.toArray⟩) = _
              rw [ByteArray.mk_append_mk, ByteArray.mk_append_mk]
              try simp), by go_num, HB2.out, hid ⟨HNX.out, HC3.out⟩⟩
            case measure => have := HLT.out; simp [intOf]; omega
        · have hje : j = f.kids.length := by omega
          have hr := hrel.out
          rw [hje, List.take_length] at hr
          have HR := hid hr
          have hb1 : ¬ 9223372036854775807 < acc.length + 1 := by omega
          have HT : Hid (acc ++ [41] = textF f) := hid (by rw [HEQ.out, hr.1]; simp)
          clear hr hrel hje
          go_wp2
          go_ret
          refine ⟨?_, HR.out.2⟩
          rw [← HT.out]
          refine congrArg (fun b => Ending.returned (.string b)) ?_
          show (⟨acc.toArray⟩ : ByteArray) ++ ⟨([41] : List UInt8).toArray⟩ = _
          rw [ByteArray.mk_append_mk]
          try simp
    · have z3 : (f.op == 3) = false := by rw [h2]; rfl
      have z4 : (f.op == 4) = true := by rw [h2]; rfl
      have HHD : Hid ((atW ++ [32, digitP f.k] ++ [40] : Tok) = headW f.op f.k ++ (40 :: textL (f.kids.take 0))) := hid (by rw [h2]; rfl)
      have hdn := digit_nat h0 h8
      have hcv := conv_one (digitP f.k) (48 + f.k) (w.alloc (.cells #[.int .i64 f.op, .int .i64 f.k, .string ⟨f.r.1.toArray⟩, .string ⟨f.r.2.toArray⟩, .slice ao f.kids.length cp] 26)) (by omega)
      rw [World.size_alloc] at hcv
      have hw1 : IntKind.i64.wrap (48 + f.k) = 48 + f.k := by rw [IntKind.wrap_i64]; omega
      have hw2 : IntKind.u8.wrap (48 + f.k) = 48 + f.k := by rw [IntKind.wrap_u8]; omega
      have HCA := hid (HC0.out.alloc (.cells #[.int .u8 (48 + f.k)] 5))
      clear h2 h0 h8 hdn
      go_wp2
      go_loopw [3, 34] (fun a i wr => ∃ (j : Nat) (acc : Tok), j ≤ f.kids.length ∧ a = .string ⟨acc.toArray⟩ ∧ i = .int .i64 j ∧ acc.length ≤ 2600 ∧ Hid (acc = headW f.op f.k ++ (40 :: textL (f.kids.take j)) ∧ Chg (fun _ => False) w wr)) (fun _ i _ => f.kids.length - (intOf i).toNat)
      case atStart => exact ⟨0, atW ++ [32, digitP f.k] ++ [40], Nat.zero_le _, (by first | rfl | (simp only [ByteArray.mk_append_mk]; rfl)), rfl, (by simp [atW]), hid ⟨HHD.out, HCA.out⟩⟩
      case round =>
        obtain ⟨j, acc, hj, rfl, rfl, hal, hrel⟩ := hrel
        by_cases hlt : j < f.kids.length
        · have hcw := hrel.out.2
          obtain ⟨b, off, hao, hDb, hat⟩ := (HX.out.keep hcw (fun _ _ => id)) j hlt
          obtain ⟨d, ao2, cp2, hd2, ⟨a0, a1, a2, a3, a4⟩, hok2, hz2, hkids⟩ := hat.open_
          have hrg := HRL.out _ (List.getElem_mem hlt)
          have hle1 := nodesL_mem (List.getElem_mem hlt)
          have hsn := textL_snoc (f.kids.take j) f.kids[j]
          rw [← List.take_succ_eq_append_getElem hlt] at hsn
          have hlen := textL_len (f.kids.take (j + 1)) (fun g hg => HRL.out g (List.mem_of_mem_take hg))
          have hnt := nodesL_take f.kids (j + 1)
          have htk : (f.kids.take j).length = j := by rw [List.length_take]; omega
          generalize f.kids[j] = g at *
          have hcB : Chg (fun _ => False) wr (wr.alloc (.cells #[.int .i64 g.op, .int .i64 g.k, .string ⟨g.r.1.toArray⟩, .string ⟨g.r.2.toArray⟩, .slice ao2 g.kids.length cp2] 26)) := (Chg.refl _ wr).alloc _
          have hnb := heap_alloc_new wr (.cells #[.int .i64 g.op, .int .i64 g.k, .string ⟨g.r.1.toArray⟩, .string ⟨g.r.2.toArray⟩, .slice ao2 g.kids.length cp2] 26)
          have t0 := cell_blk hnb 0
          have t1 := cell_blk hnb 1
          have t2 := cell_blk hnb 2
          have t3 := cell_blk hnb 3
          have t4 := cell_blk hnb 4
          simp only [List.getElem?_toArray, List.getElem?_cons_zero, List.getElem?_cons_succ] at t0 t1 t2 t3 t4
          have HIH := hid (HIN.out d hd2 g ao2 cp2 (wr.alloc (.cells #[.int .i64 g.op, .int .i64 g.k, .string ⟨g.r.1.toArray⟩, .string ⟨g.r.2.toArray⟩, .slice ao2 g.kids.length cp2] 26)) (hkids.keep hcB (fun _ _ => id)) hok2 hrg (by omega))
          have HC2 := hid (hcw.trans hcB (fun _ _ h => h))
          have HLT := hid hlt
          have HAC := hid hrel.out.1
          obtain ⟨tg, htg⟩ : ∃ tg, tg = textF g := ⟨_, rfl⟩
          rw [← htg] at HIH hsn
          clear hcB hnb hrel hkids hat hok2 hd2 hcw hrg s0 s1 s2 s3 s4 htg
          subst hao
          by_cases hj0 : j = 0
          · have z1 : decide ((0 : Int) < (j : Int)) = false := decide_eq_false (by omega)
            have z1n : ¬ 0 < j := by omega
            have hsn2 : textL (f.kids.take (j + 1)) = textL (f.kids.take j) ++ tg := by rw [hsn, if_pos (List.eq_nil_of_length_eq_zero (by omega))]; simp
            have HNX : Hid (acc ++ tg = headW f.op f.k ++ (40 :: textL (f.kids.take (j + 1)))) := hid (by rw [HAC.out, hsn2]; simp)
            have hb1 : ¬ 9223372036854775807 < acc.length + tg.length := by
              rw [hsn2, List.length_append] at hlen; omega
            have hb2 : (acc ++ tg).length ≤ 2600 := by
              have := congrArg List.length HNX.out
              have hhl := HHL.out
              simp only [List.length_append, List.length_cons] at this ⊢
              omega
            have HB2 := hid hb2
            have HJ0 := hid hj0
            clear hsn hsn2 hlen hnt htk hj0 hb2
            go_wp2_with fail
            refine HIH.out.mono ?_
            rintro e w3 ⟨rfl, hc3⟩
            have HC3 := hid (HC2.out.trans hc3 (fun _ _ h => h))
            clear HIH HC2 hc3 a0 a1 a2 a3 a4 t0 t1 t2 t3 t4
            go_wp2
            go_roundw
            case rel => exact ⟨j + 1, acc ++ tg, HLT.out, (by first | rfl | (congr 1; exact ByteArray.mk_append_mk ..) | (rw [ByteArray.mk_append_mk]; simp)), by go_num, HB2.out, hid ⟨HNX.out, HC3.out⟩⟩
            case measure => have := HLT.out; simp [intOf]; omega
          · have z1 : decide ((0 : Int) < (j : Int)) = true := decide_eq_true (by omega)
            have z1n : 0 < j := by omega
            have hsn2 : textL (f.kids.take (j + 1)) = textL (f.kids.take j) ++ (44 :: 32 :: tg) := by
              rw [hsn, if_neg (fun e => hj0 (by rw [← htk, e]; rfl))]; simp
            have HNX : Hid (acc ++ [44, 32] ++ tg = headW f.op f.k ++ (40 :: textL (f.kids.take (j + 1)))) := hid (by rw [HAC.out, hsn2]; simp)
            have hb1 : ¬ 9223372036854775807 < acc.length + 2 := by omega
            have hb3 : ¬ 9223372036854775807 < acc.length + 2 + tg.length := by
              rw [hsn2] at hlen; simp only [List.length_append, List.length_cons] at hlen; omega
            have hb2 : (acc ++ [44, 32] ++ tg).length ≤ 2600 := by
              have := congrArg List.length HNX.out
              have hhl := HHL.out
              simp only [List.length_append, List.length_cons] at this ⊢
              omega
            have HB2 := hid hb2
            clear hsn hsn2 hlen hnt htk hb2
            go_wp2_with fail
            refine HIH.out.mono ?_
            rintro e w3 ⟨rfl, hc3⟩
            have HC3 := hid (HC2.out.trans hc3 (fun _ _ h => h))
            clear HIH HC2 hc3 a0 a1 a2 a3 a4 t0 t1 t2 t3 t4
            go_wp2
            go_roundw
            case rel => exact ⟨j + 1, acc ++ [44, 32] ++ tg, HLT.out, (by
              show Value.string ((⟨acc.toArray⟩ : ByteArray) ++ ⟨([44, 32] : List UInt8).toArray⟩ ++ ⟨tg.toArray⟩) = _
              rw [ByteArray.mk_append_mk, ByteArray.mk_append_mk]
              try simp), by go_num, HB2.out, hid ⟨HNX.out, HC3.out⟩⟩
            case measure => have := HLT.out; simp [intOf]; omega
        · have hje : j = f.kids.length := by omega
          have hr := hrel.out
          rw [hje, List.take_length] at hr
          have HR := hid hr
          have hb1 : ¬ 9223372036854775807 < acc.length + 1 := by omega
          have HT : Hid (acc ++ [41] = textF f) := hid (by rw [HEQ.out, hr.1]; simp)
          clear hr hrel hje
          go_wp2
          go_ret
          refine ⟨?_, HR.out.2⟩
          rw [← HT.out]
          refine congrArg (fun b => Ending.returned (.string b)) ?_
          show (⟨acc.toArray⟩ : ByteArray) ++ ⟨([41] : List UInt8).toArray⟩ = _
          rw [ByteArray.mk_append_mk]
          try simp
end Go.Proofs.YtojbhlbknjnioaaGreatDoor
