/- A chain, written into a pen: the program's Put. -/
import Derived.Test.YtcdjjengkdbngaaKc36
import Derived.Test.YtcdjjengkdbngaaKc37
import Derived.Test.YtcdjjengkdbngaaKc7
import Derived.Test.YtcdjjengkdbngaaKc10
namespace Go.Proofs.Ytcdjjengkdbngaa
open Go.RowKit Go.Maps

theorem roleEnc_16 {r : RoleB} (h1 : r.1.length ≤ 16) (h2 : r.2.length ≤ 16) : (roleEnc r).length ≤ 34 := by
  rw [roleEnc, enc_small (by omega), enc_small (by omega)]
  simp
  omega
theorem encS_16 {s : List UInt8} (h : s.length ≤ 16) : (encS s).length ≤ 17 := by
  rw [encS, enc_small (by omega)]
  simp
  omega
theorem credEnc_200 {c : CredB} (h : isCred c = true) : (credEnc c).length ≤ 200 := by
  obtain ⟨s1, s2, s3, s4, s5, s6, s7, s8⟩ := isCred_short h
  have hk := isCred_kind h
  have l1 := enc_length9 (n := c.kind.toNat) (by omega)
  have l2 := roleEnc_16 s1 s2
  have l3 := roleEnc_16 s4 s5
  have l4 := roleEnc_16 s6 s7
  have l5 := encS_16 s3
  have l6 := encS_16 s8
  unfold credEnc credTail
  rw [List.length_append, List.length_append]
  split
  · omega
  · split
    · rw [List.length_append]; omega
    · split
      · rw [List.length_append]; omega
      · omega
theorem stepGood_yes {s : StepB} (h : stepGood s = true) : isCred s.c = true ∧ isName s.f.2 = true := by
  unfold stepGood at h
  rw [Bool.and_eq_true, Bool.and_eq_true] at h
  exact ⟨h.1, h.2.2⟩
theorem stepEnc_300 {s : StepB} (h : stepGood s = true) : (stepEnc s).length ≤ 300 := by
  have h1 := credEnc_200 (stepGood_yes h).1
  have h2 := pc_encS_len (stepGood_yes h).2
  unfold stepEnc
  rw [List.length_append]
  omega
theorem flat_300 : ∀ {ls : List StepB}, ls.all stepGood = true → (ls.flatMap stepEnc).length ≤ ls.length * 300
  | [], _ => by simp
  | x :: l, h => by
    rw [List.all_cons, Bool.and_eq_true] at h
    have h1 := flat_300 h.2
    have h2 := stepEnc_300 h.1
    rw [List.flatMap_cons, List.length_append, List.length_cons]
    omega
theorem kb_bad {ls : List StepB} {k : Nat} (h : k < ls.length) (hb : stepGood ls[k] = false) : chainBytes ls = [] := by
  unfold chainBytes
  rw [not_all_bad h hb]
  split <;> rfl
theorem kb_ok {ls : List StepB} (hn : ls.length ≤ 256) (h : ls.all stepGood = true) : chainBytes ls = enc ls.length ++ ls.flatMap stepEnc := by
  unfold chainBytes
  rw [h, if_neg (by omega)]
  rfl
theorem enc_ne (n : Nat) : enc n ≠ [] := by
  unfold enc
  split <;> simp
theorem kb_ne {ls : List StepB} (hn : ls.length ≤ 256) (h : ls.all stepGood = true) : decide (chainBytes ls ≠ []) = true := by
  rw [decide_eq_true_eq, kb_ok hn h]
  intro e
  exact enc_ne _ (List.append_eq_nil_iff.1 e).1

set_option maxRecDepth 100000 in
set_option maxHeartbeats 4000000 in
theorem kp_putNil {D : Nat → Prop} (cp : Nat) (ao : Option Addr) (ls : List StepB) (w : World) (hn : totalSt ls ≤ 2500) (h : StepsAt D w ao ls) : Calls Try.prog 26 #[.pointer none, .slice ao ls.length cp] w fun e w' => e = .returned (.bool false) ∧ Chg (fun _ => False) w w' := by
  have hl1 := totalSt_len ls
  have hlen : ls.length ≤ 250 := by omega
  have hbg : decide ((256 : Int) < (ls.length : Int)) = false := decide_eq_false (by omega)
  have HS := hid h
  clear h hl1 hn
  go_enter Try.func26, Try.ntmps26
  go_wp2
  go_loopw [14] (fun i wr => ∃ j : Nat, j ≤ ls.length ∧ i = .int .i64 j ∧ Hid (Chg (fun _ => False) w wr) ∧ Hid (∀ i (h : i < ls.length), i < j → stepGood ls[i] = true)) (fun i _ => ls.length - (intOf i).toNat)
  case atStart => exact ⟨0, Nat.zero_le _, rfl, hid (Chg.refl _ _), hid (fun _ _ h => absurd h (by omega))⟩
  case round =>
    obtain ⟨j, hj, rfl, hc, hgd⟩ := hrel
    by_cases hlt : j < ls.length
    · obtain ⟨b, off, hao, _, ⟨⟨a0, a1, a2, a3, a4, a5, a6, a7, a8⟩, ⟨b0, b1, b2⟩⟩, hss⟩ := (HS.out.keep hc.out (fun _ _ => id)) j hlt
      have HT : Hid ((stepGood ls[j] = false → chainBytes ls = []) ∧ (stepGood ls[j] = true → ∀ i (h : i < ls.length), i < j + 1 → stepGood ls[i] = true)) := hid ⟨fun h => kb_bad hlt h, fun h i hi hij => by
        by_cases e : i = j
        · subst e; exact h
        · exact hgd.out i hi (by omega)⟩
      generalize hsj : ls[j] = s at *
      clear hsj
      have hal : Chg (fun _ => False) wr (wr.alloc (.cells #[.int .i64 s.c.kind, .string ⟨s.c.head.1.toArray⟩, .string ⟨s.c.head.2.toArray⟩, .string ⟨s.c.who.toArray⟩, .string ⟨s.c.b.1.toArray⟩, .string ⟨s.c.b.2.toArray⟩, .string ⟨s.c.c.1.toArray⟩, .string ⟨s.c.c.2.toArray⟩, .string ⟨s.c.w2.toArray⟩, .string ⟨s.f.1.1.toArray⟩, .string ⟨s.f.1.2.toArray⟩, .string ⟨s.f.2.toArray⟩] 36)) := (Chg.refl _ _).alloc _
      have hbx := heap_alloc_new wr (.cells #[.int .i64 s.c.kind, .string ⟨s.c.head.1.toArray⟩, .string ⟨s.c.head.2.toArray⟩, .string ⟨s.c.who.toArray⟩, .string ⟨s.c.b.1.toArray⟩, .string ⟨s.c.b.2.toArray⟩, .string ⟨s.c.c.1.toArray⟩, .string ⟨s.c.c.2.toArray⟩, .string ⟨s.c.w2.toArray⟩, .string ⟨s.f.1.1.toArray⟩, .string ⟨s.f.1.2.toArray⟩, .string ⟨s.f.2.toArray⟩] 36)
      obtain ⟨⟨s0, s1, s2, s3, s4, s5, s6, s7, s8⟩, ⟨t0, t1, t2⟩⟩ := step_at_blk hbx
      simp only [Nat.zero_add] at s0 s1 s2 s3 s4 s5 s6 s7 s8 t0 t1 t2
      change wr.cell? ⟨b, off + j * 12 + 10, none⟩ = _ at b1
      change wr.cell? ⟨b, off + j * 12 + 11, none⟩ = _ at b2
      have hpu := kp_puts s (wr.alloc (.cells #[.int .i64 s.c.kind, .string ⟨s.c.head.1.toArray⟩, .string ⟨s.c.head.2.toArray⟩, .string ⟨s.c.who.toArray⟩, .string ⟨s.c.b.1.toArray⟩, .string ⟨s.c.b.2.toArray⟩, .string ⟨s.c.c.1.toArray⟩, .string ⟨s.c.c.2.toArray⟩, .string ⟨s.c.w2.toArray⟩, .string ⟨s.f.1.1.toArray⟩, .string ⟨s.f.1.2.toArray⟩, .string ⟨s.f.2.toArray⟩] 36)) hss
      have HPU := hid hpu
      have HC2 := hid (hc.out.trans hal (fun _ _ h => h))
      have HLT := hid hlt
      clear hbx hal hpu hss hgd hc hlt
      subst hao
      go_wp2_with fail
      refine HPU.out.mono ?_
      clear HPU s0 s1 s2 s3 s4 s5 s6 s7 s8 t0 t1 t2 a0 a1 a2 a3 a4 a5 a6 a7 a8 b0 b1 b2
      rintro e w2 ⟨rfl, hc2⟩
      have HC3 := hid (HC2.out.trans hc2 (fun _ _ h => h))
      clear hc2 HC2
      cases hgg : stepGood s with
      | false =>
        have HR : Hid (chainBytes ls = []) := hid (HT.out.1 hgg)
        clear hgg
        go_wp2_with fail
        go_ret
        exact ⟨rfl, HC3.out⟩
      | true =>
        have HU := hid (HT.out.2 hgg)
        clear hgg
        go_wp2_with fail
        go_roundw
        case rel => exact ⟨j + 1, by have := HLT.out; omega, by go_num, HC3, HU⟩
        case measure => have := HLT.out; simp [intOf]; omega
    · have hje : j = ls.length := by omega
      subst hje
      have HALL : Hid (ls.all stepGood = true) := hid (List.all_eq_true.2 (fun s hs => by
        obtain ⟨i, hi, rfl⟩ := List.mem_iff_getElem.1 hs
        exact hgd.out i hi hi))
      have HC := hid hc.out
      clear hgd hc hlt hj
      have hpn := pnum_nil (ls.length : Int) wr
      go_wp2_with fail
      refine hpn.mono ?_
      clear hpn
      rintro e w3 ⟨rfl, rfl⟩
      go_wp2
      go_ret
      exact ⟨rfl, HC.out⟩

set_option maxRecDepth 100000 in
set_option maxHeartbeats 4000000 in
theorem kp_put {D : Nat → Prop} (B P cp : Nat) (ao : Option Addr) (ls : List StepB) (w : World) (hn : totalSt ls ≤ 2500) (hp : PenAt B w P none 0 []) (hPB : P < B) (hB : B ≤ w.heap.size) (h : StepsAt D w ao ls) (hD : ∀ i, D i → i ≠ P ∧ i < w.heap.size) :
    Calls Try.prog 26 #[.pointer (some ⟨P, 0, none⟩), .slice ao ls.length cp] w fun e w' => e = .returned (.bool (decide (chainBytes ls ≠ []))) ∧ (∃ ao9 cap9, PenAt B w' P ao9 cap9 (chainBytes ls)) ∧ Chg (· = P) w w' := by
  have hl1 := totalSt_len ls
  have hlen : ls.length ≤ 250 := by omega
  have hbg : decide ((256 : Int) < (ls.length : Int)) = false := decide_eq_false (by omega)
  have HS := hid h
  have HD := hid hD
  have HP := hid hp
  have HB := hid (And.intro hPB hB)
  clear h hl1 hn hD hp hPB hB
  go_enter Try.func26, Try.ntmps26
  go_wp2
  go_loopw [14] (fun i wr => ∃ j : Nat, j ≤ ls.length ∧ i = .int .i64 j ∧ Hid (Chg (fun _ => False) w wr) ∧ Hid (∀ i (h : i < ls.length), i < j → stepGood ls[i] = true)) (fun i _ => ls.length - (intOf i).toNat)
  case atStart => exact ⟨0, Nat.zero_le _, rfl, hid (Chg.refl _ _), hid (fun _ _ h => absurd h (by omega))⟩
  case round =>
    obtain ⟨j, hj, rfl, hc, hgd⟩ := hrel
    by_cases hlt : j < ls.length
    · obtain ⟨b, off, hao, _, ⟨⟨a0, a1, a2, a3, a4, a5, a6, a7, a8⟩, ⟨b0, b1, b2⟩⟩, hss⟩ := (HS.out.keep hc.out (fun _ _ => id)) j hlt
      have HT : Hid ((stepGood ls[j] = false → chainBytes ls = []) ∧ (stepGood ls[j] = true → ∀ i (h : i < ls.length), i < j + 1 → stepGood ls[i] = true)) := hid ⟨fun h => kb_bad hlt h, fun h i hi hij => by
        by_cases e : i = j
        · subst e; exact h
        · exact hgd.out i hi (by omega)⟩
      generalize hsj : ls[j] = s at *
      clear hsj
      have hal : Chg (fun _ => False) wr (wr.alloc (.cells #[.int .i64 s.c.kind, .string ⟨s.c.head.1.toArray⟩, .string ⟨s.c.head.2.toArray⟩, .string ⟨s.c.who.toArray⟩, .string ⟨s.c.b.1.toArray⟩, .string ⟨s.c.b.2.toArray⟩, .string ⟨s.c.c.1.toArray⟩, .string ⟨s.c.c.2.toArray⟩, .string ⟨s.c.w2.toArray⟩, .string ⟨s.f.1.1.toArray⟩, .string ⟨s.f.1.2.toArray⟩, .string ⟨s.f.2.toArray⟩] 36)) := (Chg.refl _ _).alloc _
      have hbx := heap_alloc_new wr (.cells #[.int .i64 s.c.kind, .string ⟨s.c.head.1.toArray⟩, .string ⟨s.c.head.2.toArray⟩, .string ⟨s.c.who.toArray⟩, .string ⟨s.c.b.1.toArray⟩, .string ⟨s.c.b.2.toArray⟩, .string ⟨s.c.c.1.toArray⟩, .string ⟨s.c.c.2.toArray⟩, .string ⟨s.c.w2.toArray⟩, .string ⟨s.f.1.1.toArray⟩, .string ⟨s.f.1.2.toArray⟩, .string ⟨s.f.2.toArray⟩] 36)
      obtain ⟨⟨s0, s1, s2, s3, s4, s5, s6, s7, s8⟩, ⟨t0, t1, t2⟩⟩ := step_at_blk hbx
      simp only [Nat.zero_add] at s0 s1 s2 s3 s4 s5 s6 s7 s8 t0 t1 t2
      change wr.cell? ⟨b, off + j * 12 + 10, none⟩ = _ at b1
      change wr.cell? ⟨b, off + j * 12 + 11, none⟩ = _ at b2
      have hpu := kp_puts s (wr.alloc (.cells #[.int .i64 s.c.kind, .string ⟨s.c.head.1.toArray⟩, .string ⟨s.c.head.2.toArray⟩, .string ⟨s.c.who.toArray⟩, .string ⟨s.c.b.1.toArray⟩, .string ⟨s.c.b.2.toArray⟩, .string ⟨s.c.c.1.toArray⟩, .string ⟨s.c.c.2.toArray⟩, .string ⟨s.c.w2.toArray⟩, .string ⟨s.f.1.1.toArray⟩, .string ⟨s.f.1.2.toArray⟩, .string ⟨s.f.2.toArray⟩] 36)) hss
      have HPU := hid hpu
      have HC2 := hid (hc.out.trans hal (fun _ _ h => h))
      have HLT := hid hlt
      clear hbx hal hpu hss hgd hc hlt
      subst hao
      go_wp2_with fail
      refine HPU.out.mono ?_
      clear HPU s0 s1 s2 s3 s4 s5 s6 s7 s8 t0 t1 t2 a0 a1 a2 a3 a4 a5 a6 a7 a8 b0 b1 b2
      rintro e w2 ⟨rfl, hc2⟩
      have HC3 := hid (HC2.out.trans hc2 (fun _ _ h => h))
      clear hc2 HC2
      cases hgg : stepGood s with
      | false =>
        have HR : Hid (chainBytes ls = []) := hid (HT.out.1 hgg)
        clear hgg
        go_wp2_with fail
        go_ret
        exact ⟨by rw [HR.out]; rfl, ⟨none, 0, by rw [HR.out]; exact HP.out.keep HC3.out id (fun _ _ => id)⟩, HC3.out.mono (fun _ _ h => h.elim)⟩
      | true =>
        have HU := hid (HT.out.2 hgg)
        clear hgg
        go_wp2_with fail
        go_roundw
        case rel => exact ⟨j + 1, by have := HLT.out; omega, by go_num, HC3, HU⟩
        case measure => have := HLT.out; simp [intOf]; omega
    · have hje : j = ls.length := by omega
      subst hje
      have HALL : Hid (ls.all stepGood = true) := hid (List.all_eq_true.2 (fun s hs => by
        obtain ⟨i, hi, rfl⟩ := List.mem_iff_getElem.1 hs
        exact hgd.out i hi hi))
      have HC := hid hc.out
      clear hgd hc hlt hj
      have hpw := HP.out.keep HC.out id (fun _ _ => id)
      have hsz := HC.out.size
      have hB2 := HB.out
      have hpn := pnum_any B P 0 ls.length none [] wr (by omega) hpw (by omega) (by omega) (by have := enc_length9 (n := ls.length) (by omega); simp; omega)
      have HPN := hid hpn
      clear hpw hsz hB2 hpn
      go_wp2_with fail
      refine HPN.out.mono ?_
      clear HPN
      rintro e w3 ⟨rfl, ao3, cap3, hp3, hch3⟩
      rw [List.nil_append] at hp3
      have HP3 : Hid (PenAt B w3 P ao3 cap3 (enc ls.length ++ (ls.take 0).flatMap stepEnc)) := hid (by rw [List.take_zero, List.flatMap_nil, List.append_nil]; exact hp3)
      have HCH : Hid (PChg P none wr ao3 w3) := hid hch3
      clear hp3 hch3
      obtain ⟨w0, HC, HCH⟩ : ∃ w0, Hid (Chg (fun _ => False) w w0) ∧ Hid (PChg P none w0 ao3 w3) := ⟨wr, HC, HCH⟩
      go_wp2
      go_loopw [29] (fun i wl => ∃ j : Nat, j ≤ ls.length ∧ i = .int .i64 j ∧ Hid (∃ ao4 cap4, PenAt B wl P ao4 cap4 (enc ls.length ++ (ls.take j).flatMap stepEnc) ∧ PChg P none w0 ao4 wl)) (fun i _ => ls.length - (intOf i).toNat)
      case atStart => exact ⟨0, Nat.zero_le _, rfl, hid ⟨_, _, HP3.out, HCH.out⟩⟩
      case round =>
        obtain ⟨j, hj, rfl, hpp⟩ := hrel
        by_cases hlt : j < ls.length
        · obtain ⟨ao4, cap4, hp4, hch4⟩ := hpp.out
          have hcw : Chg (· = P) w wr := (HC.out.mono (fun _ _ h => h.elim)).trans (hch4.chg.mono (fun i _ h => h.elim id (fun h => by cases h))) (fun _ _ h => h)
          obtain ⟨b, off, hao, _, ⟨⟨a0, a1, a2, a3, a4, a5, a6, a7, a8⟩, ⟨b0, b1, b2⟩⟩, hss⟩ := (HS.out.keep hcw (fun i hi e => (HD.out i hi).1 e)) j hlt
          have hgs : stepGood ls[j] = true := (List.all_eq_true.1 HALL.out) _ (List.getElem_mem hlt)
          have htk : (ls.take (j + 1)).flatMap stepEnc = (ls.take j).flatMap stepEnc ++ stepEnc ls[j] := by rw [List.take_succ_eq_append_getElem hlt, flat_snoc]
          have hzl : (enc ls.length ++ (ls.take j).flatMap stepEnc).length ≤ 100000 := by
            have h1 := enc_length9 (n := ls.length) (by omega)
            have h2 : (ls.take j).all stepGood = true := List.all_eq_true.2 (fun x hx => List.all_eq_true.1 HALL.out x (List.mem_of_mem_take hx))
            have h3 := flat_300 h2
            have h4 : (ls.take j).length ≤ j := List.length_take_le _ _
            rw [List.length_append]
            omega
          generalize hsj : ls[j] = s at *
          clear hsj
          obtain ⟨zs, hzs⟩ : ∃ zs, enc ls.length ++ (ls.take j).flatMap stepEnc = zs := ⟨_, rfl⟩
          rw [hzs] at hp4 hzl
          have HZ := hid hzs
          have HTK := hid htk
          have HG := hid (stepGood_yes hgs)
          have hse := credEnc_200 (stepGood_yes hgs).1
          have hbe : credBytes s.c = credEnc s.c := by rw [credBytes, if_pos (stepGood_yes hgs).1]
          have hPl := lt_blk hp4.cell
          have hal : Chg (fun _ => False) wr (wr.alloc (.cells #[.int .i64 s.c.kind, .string ⟨s.c.head.1.toArray⟩, .string ⟨s.c.head.2.toArray⟩, .string ⟨s.c.who.toArray⟩, .string ⟨s.c.b.1.toArray⟩, .string ⟨s.c.b.2.toArray⟩, .string ⟨s.c.c.1.toArray⟩, .string ⟨s.c.c.2.toArray⟩, .string ⟨s.c.w2.toArray⟩, .string ⟨s.f.1.1.toArray⟩, .string ⟨s.f.1.2.toArray⟩, .string ⟨s.f.2.toArray⟩] 36)) := (Chg.refl _ _).alloc _
          have hbx := heap_alloc_new wr (.cells #[.int .i64 s.c.kind, .string ⟨s.c.head.1.toArray⟩, .string ⟨s.c.head.2.toArray⟩, .string ⟨s.c.who.toArray⟩, .string ⟨s.c.b.1.toArray⟩, .string ⟨s.c.b.2.toArray⟩, .string ⟨s.c.c.1.toArray⟩, .string ⟨s.c.c.2.toArray⟩, .string ⟨s.c.w2.toArray⟩, .string ⟨s.f.1.1.toArray⟩, .string ⟨s.f.1.2.toArray⟩, .string ⟨s.f.2.toArray⟩] 36)
          obtain ⟨⟨s0, s1, s2, s3, s4, s5, s6, s7, s8⟩, ⟨t0, t1, t2⟩⟩ := step_at_blk hbx
          simp only [Nat.zero_add] at s0 s1 s2 s3 s4 s5 s6 s7 s8 t0 t1 t2
          change wr.cell? ⟨b, off + j * 12 + 10, none⟩ = _ at b1
          change wr.cell? ⟨b, off + j * 12 + 11, none⟩ = _ at b2
          have hby := pcbytes s.c (wr.alloc (.cells #[.int .i64 s.c.kind, .string ⟨s.c.head.1.toArray⟩, .string ⟨s.c.head.2.toArray⟩, .string ⟨s.c.who.toArray⟩, .string ⟨s.c.b.1.toArray⟩, .string ⟨s.c.b.2.toArray⟩, .string ⟨s.c.c.1.toArray⟩, .string ⟨s.c.c.2.toArray⟩, .string ⟨s.c.w2.toArray⟩, .string ⟨s.f.1.1.toArray⟩, .string ⟨s.f.1.2.toArray⟩, .string ⟨s.f.2.toArray⟩] 36)) hss.1
          unfold credV at hby
          have HBY := hid hby
          have HX := hid (And.intro hbx (And.intro hal (And.intro hp4 hch4)))
          have HQ := hid (And.intro hzl (And.intro hse (And.intro hbe (And.intro hPl hss))))
          have HLT := hid hlt
          have HSZ := hid (And.intro HC.out.size hcw.size)
          clear hzs htk hgs hse hbe hPl hal hbx hby hp4 hch4 hzl hss hcw hlt hpp
          subst hao
          go_wp2_with fail
          refine HBY.out.mono ?_
          clear HBY s0 s1 s2 s3 s4 s5 s6 s7 s8 t0 t1 t2 a0 a1 a2 a3 a4 a5 a6 a7 a8 b0 b1 b2
          rintro e w5 ⟨ba, bc, rfl, hbt, hc5⟩
          obtain ⟨hbx, hal, hp4, hch4⟩ := HX.out
          have hc45 := hal.trans hc5 (fun _ _ h => h)
          have hp5 := hp4.keep hc45 id (fun _ _ => id)
          have hs5 := hc45.size
          have hr0 : ∀ k, rowOf ao4 = some k → B ≤ k ∧ k < wr.heap.size := fun k hk => hp4.row.lt k ((rowOf_block _ _ _).trans hk)
          have hb2 := HB.out
          have hsz := HSZ.out
          have hraw := raw_any B P cap4 ao4 zs (credBytes s.c) _ w5 hp5 (by omega) (by omega) (by rw [HQ.out.2.2.1]; have := HQ.out; omega) hbt
          have HRAW := hid hraw
          have HX5 := hid (And.intro (blk_keep hbx hc5 id) (And.intro hc45 (And.intro hr0 hch4)))
          clear hbx hal hp4 hch4 hc45 hp5 hs5 hr0 hb2 hraw hbt hc5 HX
          go_wp2_with fail
          refine HRAW.out.mono ?_
          clear HRAW
          rintro e w6 ⟨rfl, ao6, cap6, hp6, hch6⟩
          obtain ⟨hbx, hc45, hr0, hch4⟩ := HX5.out
          have hs5 := hc45.size
          have hs6 := hch6.chg.size
          have hQ := HQ.out
          have hPX : ∀ k, (k = P ∨ rowOf ao4 = some k) → k < wr.heap.size := fun k hk => by
            rcases hk with hk | hk
            · omega
            · exact (hr0 k hk).2
          obtain ⟨_, ⟨t0, t1, t2⟩⟩ := step_at_blk (blk_keep hbx hch6.chg (fun h => by have := hPX _ h; omega))
          simp only [Nat.zero_add] at t0 t1 t2
          have hb2 := HB.out
          have hpy := put_yes B P cap6 ao6 (zs ++ credBytes s.c) s.f.2 w6 hp6 (by omega) (by omega) (by rw [List.length_append, hQ.2.2.1]; omega) HG.out.2
          have HPY := hid hpy
          have hcc : PChg P ao4 wr ao6 w6 := ⟨(hc45.mono (fun _ _ h => h.elim)).trans hch6.chg (fun _ _ h => h), hch6.row.elim .inl (fun ⟨g, h1, h2⟩ => .inr ⟨g, h1, by omega⟩)⟩
          have HCC := hid (hch4.trans hcc)
          clear hbx hc45 hr0 hch4 hs5 hs6 hQ hPX hb2 hpy hcc hp6 hch6 HX5
          go_wp2_with fail
          refine HPY.out.mono ?_
          clear HPY t0 t1 t2
          rintro e w7 ⟨rfl, ao7, cap7, hp7, hch7⟩
          have HF : Hid (∃ ao4 cap4, PenAt B w7 P ao4 cap4 (enc ls.length ++ (ls.take (j + 1)).flatMap stepEnc) ∧ PChg P none w0 ao4 w7) := hid ⟨ao7, cap7, by
            rw [HQ.out.2.2.1] at hp7
            have e1 : enc ls.length ++ (ls.take (j + 1)).flatMap stepEnc = zs ++ credEnc s.c ++ (enc s.f.2.length ++ s.f.2) := by
              rw [HTK.out, ← List.append_assoc, HZ.out, List.append_assoc]
              rfl
            rw [e1]
            exact hp7, HCC.out.trans hch7⟩
          clear hp7 hch7
          go_wp2
          go_roundw
          case rel => exact ⟨j + 1, by have := HLT.out; omega, by go_num, HF⟩
          case measure => have := HLT.out; simp [intOf]; omega
        · have hje : j = ls.length := by omega
          subst hje
          have HF : Hid (∃ ao4 cap4, PenAt B wr P ao4 cap4 (chainBytes ls) ∧ PChg P none w0 ao4 wr) := hid (by
            have h1 := hpp.out
            rw [List.take_length] at h1
            rw [kb_ok (by omega) HALL.out]
            exact h1)
          clear hpp hlt
          go_wp2
          go_ret
          obtain ⟨ao4, cap4, h1, h2⟩ := HF.out
          exact ⟨by rw [kb_ne (by omega) HALL.out]; rfl, ⟨ao4, cap4, h1⟩, (HC.out.mono (fun _ _ h => h.elim)).trans (h2.chg.mono (fun i _ h => h.elim id (fun h => by cases h))) (fun _ _ h => h)⟩
end Go.Proofs.Ytcdjjengkdbngaa
