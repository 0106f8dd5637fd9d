/- Texts that the proof leans on, in one: RefCredBytes, RefKBytes, TagMath. -/
import Derived.Test.YtmmkopdcbiiedaaKb8
import Derived.Test.YtmmkopdcbiiedaaKb12
import Derived.Test.YtmmkopdcbiiedaaKb10
import Derived.Test.YtmmkopdcbiiedaaKb5
import Derived.Test.YtmmkopdcbiiedaaKb18
import Derived.Test.YtmmkopdcbiiedaaKb1
/- The contracts of the document's Bytes, bytes and Compare of layer 5. -/
namespace Go.Proofs.Ytmmkopdcbiiedaa
open Go.RowKit

def cbytesSpecs (A n : Nat) (ho hw : List UInt8) : List Spec :=
  [.any, .eq (.pointer (some ⟨A, 0, none⟩)), .any, .eq (.string ⟨(enc n ++ roleEnc (ho, hw)).toArray⟩), .eq (.pointer (some ⟨A, 0, none⟩)), .eq (.int .i64 n), .eq (.string ⟨(enc n).toArray⟩), .eq (.pointer (some ⟨A, 1, none⟩)), .eq (roleV (ho, hw)), .eq (.string ⟨(roleEnc (ho, hw)).toArray⟩), .eq (.string ⟨(enc n ++ roleEnc (ho, hw)).toArray⟩)]

theorem roleEnc_len (r : RoleB) (h1 : r.1.length ≤ 1048576) (h2 : r.2.length ≤ 1048576) : (roleEnc r).length ≤ 2097200 := by
  have l1 := enc_length9 (n := r.1.length) (by omega)
  have l2 := enc_length9 (n := r.2.length) (by omega)
  simp only [roleEnc, List.length_append]
  omega

theorem encS_len (s : List UInt8) (h1 : s.length ≤ 1048576) : (encS s).length ≤ 1048600 := by
  have l1 := enc_length9 (n := s.length) (by omega)
  simp only [encS, List.length_append]
  omega

set_option maxRecDepth 100000 in
set_option maxHeartbeats 2000000 in
theorem cbytes_ref (c : CredB) (w : World) (n : Nat) (hk : c.kind = n) (hn : n < 9223372036854775808) (hs : credShort c 1048576) :
    Calls Try.prog 43 #[credV c] w fun e w' => e = .returned (.string ⟨(credEnc c).toArray⟩) ∧ Chg (fun _ => False) w w' := by
  have hc0 : Chg (fun _ => False) w (w.alloc (.cells (credBox c) 32)) := (Chg.refl _ w).alloc _
  have hd := cred_at_blk (heap_alloc_new w (.cells (credBox c) 32))
  obtain ⟨k, ⟨ho, hw⟩, who, ⟨bo, bw⟩, ⟨co, cw⟩, w2⟩ := c
  obtain ⟨s1, s2, s3, s4, s5, s6, s7, s8⟩ := hs
  dsimp only at s1 s2 s3 s4 s5 s6 s7 s8 hk
  subst hk
  obtain ⟨a0, a1, a2, a3, a4, a5, a6, a7, a8⟩ := hd
  simp only [Nat.zero_add, credBox] at a0 a1 a2 a3 a4 a5 a6 a7 a8
  simp only [credBox] at hc0
  have hE : Hid (credEnc ⟨(n : Int), (ho, hw), who, (bo, bw), (co, cw), w2⟩ = (enc n ++ roleEnc (ho, hw)) ++ credTail ⟨(n : Int), (ho, hw), who, (bo, bw), (co, cw), w2⟩) := hid (by simp [credEnc])
  have l1 := enc_length9 (n := n) (by omega)
  have l2 := roleEnc_len (ho, hw) s1 s2
  have l3 := roleEnc_len (bo, bw) s4 s5
  have l4 := roleEnc_len (co, cw) s6 s7
  have l5 := encS_len who s3
  have l6 := encS_len w2 s8
  show Calls Try.prog 43 #[.agg #[.int .i64 n, .string ⟨ho.toArray⟩, .string ⟨hw.toArray⟩, .string ⟨who.toArray⟩, .string ⟨bo.toArray⟩, .string ⟨bw.toArray⟩, .string ⟨co.toArray⟩, .string ⟨cw.toArray⟩, .string ⟨w2.toArray⟩]] w _
  go_enter Try.func43, Try.ntmps43
  go_wp2_with fail
  generalize w.alloc (.cells #[.int .i64 (n : Int), .string ⟨ho.toArray⟩, .string ⟨hw.toArray⟩, .string ⟨who.toArray⟩, .string ⟨bo.toArray⟩, .string ⟨bw.toArray⟩, .string ⟨co.toArray⟩, .string ⟨cw.toArray⟩, .string ⟨w2.toArray⟩] 32) = w1 at *
  generalize w.heap.size = A at *
  refine wp_region_specs (cbytesSpecs A n ho hw) [4, 5, 6, 7, 8, 9, 10, 3] [1] (by kernel_rfl) (by kernel_rfl) (by rfl) (by kernel_rfl) ?start ?obs ?fin
  case start =>
    simp only [List.forall_mem_cons]
    exact ⟨⟨_, rfl, rfl⟩, fun _ h => by cases h⟩
  case obs =>
    clear hc0 hE
    refine Obs.cons none (by kernel_rfl) ?_ ?_
    · refine Ob.plain fun a w hR hk K k => ?_
      obtain ⟨_, e1, rfl⟩ := hk 1 (by decide)
      clear hk
      go_simp
      exact k _ _ (Chg.refl _ _) rfl
    refine Obs.cons none (by kernel_rfl) ?_ ?_
    · refine Ob.plain fun a w hR hk K k => ?_
      obtain ⟨_, e4, rfl⟩ := hk 4 (by decide)
      clear hk
      have q0 := hR.cell a0 id
      go_simp
      exact k _ _ (Chg.refl _ _) rfl
    refine Obs.cons none (by kernel_rfl) ?_ ?_
    · refine Ob.plain fun a w hR hk K k => ?_
      obtain ⟨_, e5, rfl⟩ := hk 5 (by decide)
      clear hk
      go_simp
      refine (refnum_any n _ hn).mono ?_
      rintro e w2 ⟨rfl, hc⟩
      exact k _ _ hc rfl
    refine Obs.cons none (by kernel_rfl) ?_ ?_
    · refine Ob.plain fun a w hR hk K k => ?_
      obtain ⟨_, e1, rfl⟩ := hk 1 (by decide)
      clear hk
      go_simp
      exact k _ _ (Chg.refl _ _) rfl
    refine Obs.cons none (by kernel_rfl) ?_ ?_
    · refine Ob.plain fun a w hR hk K k => ?_
      obtain ⟨_, e7, rfl⟩ := hk 7 (by decide)
      clear hk
      have q0 := hR.cell a1 id
      have q1 := hR.cell a2 id
      go_simp
      exact k _ _ (Chg.refl _ _) rfl
    refine Obs.cons none (by kernel_rfl) ?_ ?_
    · refine Ob.plain fun a w hR hk K k => ?_
      obtain ⟨_, e8, rfl⟩ := hk 8 (by decide)
      clear hk
      go_simp
      refine (rbytes_ref (ho, hw) _ s1 s2).mono ?_
      rintro e w2 ⟨rfl, hc⟩
      exact k _ _ hc rfl
    refine Obs.cons none (by kernel_rfl) ?_ ?_
    · refine Ob.plain fun a w hR hk K k => ?_
      obtain ⟨_, e6, rfl⟩ := hk 6 (by decide)
      obtain ⟨_, e9, rfl⟩ := hk 9 (by decide)
      clear hk
      obtain ⟨u, hu⟩ : ∃ u, u = enc n := ⟨_, rfl⟩
      obtain ⟨v, hv⟩ : ∃ v, v = roleEnc (ho, hw) := ⟨_, rfl⟩
      have hb : ¬ 9223372036854775807 < u.length + v.length := by rw [hu, hv]; omega
      rw [← hu] at e6
      rw [← hv] at e9
      have HU := hid (And.intro hu hv)
      clear hu hv
      go_simp
      exact k _ _ (Chg.refl _ _) (congrArg Value.string ((ByteArray.mk_append_mk u v).trans (by rw [HU.out.1, HU.out.2])))
    refine Obs.cons none (by kernel_rfl) ?_ Obs.nil
    · refine Ob.plain fun a w hR hk K k => ?_
      obtain ⟨_, e10, rfl⟩ := hk 10 (by decide)
      clear hk
      go_simp
      exact k _ _ (Chg.refl _ _) rfl
  case fin =>
    intro vals w3 hc3 hv
    have h3 : vals 3 = .string ⟨(enc n ++ roleEnc (ho, hw)).toArray⟩ := hv 3 (by decide)
    replace a0 := hc3.cell a0 id
    replace a3 := hc3.cell a3 id
    replace a4 := hc3.cell a4 id
    replace a5 := hc3.cell a5 id
    replace a6 := hc3.cell a6 id
    replace a7 := hc3.cell a7 id
    replace a8 := hc3.cell a8 id
    have HC := hid (hc0.trans hc3 (fun _ _ h => h))
    clear hc0 hc3 hv a1 a2
    simp only [putAll, List.setIfInBounds_toArray, List.set_cons_zero, List.set_cons_succ, h3]
    clear h3
    have l7 : (enc n ++ roleEnc (ho, hw)).length ≤ 2097300 := by rw [List.length_append]; omega
    generalize enc n ++ roleEnc (ho, hw) = eh at *
    clear l1 l2
    by_cases k1 : n = 1
    · subst k1
      go_wp2_with fail
      refine (reftext_any who _ (by omega)).mono ?_
      rintro e w4 ⟨rfl, hc4⟩
      have HC2 := hid (HC.out.trans hc4 (fun _ _ h => h))
      clear HC hc4
      have hT : Hid (credTail ⟨((1 : Nat) : Int), (ho, hw), who, (bo, bw), (co, cw), w2⟩ = encS who) := hid rfl
      rw [show enc who.length ++ who = encS who from rfl]
      generalize encS who = t at *
      have b1 : ¬ 9223372036854775807 < eh.length + t.length := by omega
      go_wp2
      go_ret
      exact ⟨congrArg (fun b => Ending.returned (.string b)) ((ByteArray.mk_append_mk eh t).trans (by rw [hE.out, hT.out])), HC2.out⟩
    · have z1 : ((n : Int) == 1) = false := beq_eq_false_iff_ne.2 (by omega)
      go_wp2_with fail
      refine (rbytes_ref (bo, bw) _ s4 s5).mono ?_
      rintro e w4 ⟨rfl, hc4⟩
      replace a0 := hc4.cell a0 id
      replace a6 := hc4.cell a6 id
      replace a7 := hc4.cell a7 id
      replace a8 := hc4.cell a8 id
      have HC2 := hid (HC.out.trans hc4 (fun _ _ h => h))
      clear HC hc4 a3 a4 a5
      have hT : Hid (credTail ⟨(n : Int), (ho, hw), who, (bo, bw), (co, cw), w2⟩ = (if (n : Int) = 3 then roleEnc (bo, bw) ++ encS w2 else if (n : Int) = 4 then roleEnc (bo, bw) ++ roleEnc (co, cw) else roleEnc (bo, bw))) := hid (by rw [credTail, if_neg (by show ¬ (n : Int) = 1; omega)])
      generalize roleEnc (bo, bw) = tb at *
      have b1 : ¬ 9223372036854775807 < eh.length + tb.length := by omega
      by_cases k3 : n = 3
      · subst k3
        rw [if_pos (by decide)] at hT
        go_wp2_with fail
        refine (reftext_any w2 _ (by omega)).mono ?_
        rintro e w5 ⟨rfl, hc5⟩
        replace a0 := hc5.cell a0 id
        have HC3 := hid (HC2.out.trans hc5 (fun _ _ h => h))
        clear HC2 hc5
        rw [show enc w2.length ++ w2 = encS w2 from rfl]
        generalize encS w2 = t at *
        have b2 : ¬ 9223372036854775807 < eh.length + tb.length + t.length := by omega
        go_wp2
        go_ret
        refine ⟨congrArg (fun b => Ending.returned (.string b)) ?_, HC3.out⟩
        show (⟨eh.toArray⟩ : ByteArray) ++ ⟨tb.toArray⟩ ++ ⟨t.toArray⟩ = _
        rw [ByteArray.mk_append_mk, ByteArray.mk_append_mk, hE.out, hT.out, List.append_assoc]
      · have z3 : ((n : Int) == 3) = false := beq_eq_false_iff_ne.2 (by omega)
        rw [if_neg (by omega)] at hT
        by_cases k4 : n = 4
        · subst k4
          rw [if_pos (by decide)] at hT
          go_wp2_with fail
          refine (rbytes_ref (co, cw) _ s6 s7).mono ?_
          rintro e w5 ⟨rfl, hc5⟩
          have HC3 := hid (HC2.out.trans hc5 (fun _ _ h => h))
          clear HC2 hc5
          generalize roleEnc (co, cw) = t at *
          have b2 : ¬ 9223372036854775807 < eh.length + tb.length + t.length := by omega
          go_wp2
          go_ret
          refine ⟨congrArg (fun b => Ending.returned (.string b)) ?_, HC3.out⟩
          show (⟨eh.toArray⟩ : ByteArray) ++ ⟨tb.toArray⟩ ++ ⟨t.toArray⟩ = _
          rw [ByteArray.mk_append_mk, ByteArray.mk_append_mk, hE.out, hT.out, List.append_assoc]
        · have z4 : ((n : Int) == 4) = false := beq_eq_false_iff_ne.2 (by omega)
          rw [if_neg (by omega)] at hT
          go_wp2
          go_ret
          exact ⟨congrArg (fun b => Ending.returned (.string b)) ((ByteArray.mk_append_mk eh tb).trans (by rw [hE.out, hT.out])), HC2.out⟩

theorem credShort.mono {c : CredB} {m n : Nat} (h : credShort c m) (hm : m ≤ n) : credShort c n := by
  obtain ⟨s1, s2, s3, s4, s5, s6, s7, s8⟩ := h
  exact ⟨by omega, by omega, by omega, by omega, by omega, by omega, by omega, by omega⟩

end Go.Proofs.Ytmmkopdcbiiedaa

/- The contract of the document's Bytes, of layer 9. -/
namespace Go.Proofs.Ytmmkopdcbiiedaa
open Go.RowKit

theorem run_neqg_roleK (x y : Operand) (a b : RoleB) (w : World) : Sem.run Try.prog (eqGuard BinOp.neq 25 x y (.agg #[.string ⟨a.1.toArray⟩, .string ⟨a.2.toArray⟩]) (.agg #[.string ⟨b.1.toArray⟩, .string ⟨b.2.toArray⟩])) w = .ok () w := by
  go_simp
theorem run_neq_roleK (a b : RoleB) (w : World) : Sem.run Try.prog (binOp BinOp.neq 25 (.agg #[.string ⟨a.1.toArray⟩, .string ⟨a.2.toArray⟩]) (.agg #[.string ⟨b.1.toArray⟩, .string ⟨b.2.toArray⟩])) w = .ok (.bool (!decide (a = b))) w := by
  have : decide (a = b) = decide (a.1 = b.1 ∧ a.2 = b.2) := by simp only [Prod.ext_iff]
  rw [this]
  go_simp
  by_cases h1 : a.1 = b.1 <;> by_cases h2 : a.2 = b.2 <;> simp [h1, h2]
attribute [local go_sem ↓ high] run_neqg_roleK run_neq_roleK

/-- May a step be written? -/
def stepGood (s : StepB) : Bool := isCred s.c && (decide (s.f.1 = s.c.head) && isName s.f.2)
def stepEnc (s : StepB) : List UInt8 := credEnc s.c ++ encS s.f.2
def chainBytes (ls : List StepB) : List UInt8 := if 256 < ls.length then [] else if ls.all stepGood then enc ls.length ++ ls.flatMap stepEnc else []

theorem credEnc_len9 {c : CredB} (h : isCred c = true) : (credEnc c).length ≤ 8000000 := by
  obtain ⟨s1, s2, s3, s4, s5, s6, s7, s8⟩ := (isCred_short h).mono (show 16 ≤ 1048576 by omega)
  have hk := isCred_kind h
  have l1 := enc_length9 (n := c.kind.toNat) (by omega)
  have l2 := roleEnc_len c.head s1 s2
  have l3 := roleEnc_len c.b s4 s5
  have l4 := roleEnc_len c.c s6 s7
  have l5 := encS_len c.who s3
  have l6 := encS_len c.w2 s8
  unfold credEnc credTail
  rw [List.length_append, List.length_append]
  split
  · omega
  · split
    · rw [List.length_append]; omega
    · split
      · rw [List.length_append]; omega
      · omega

theorem flat_snoc (ls : List StepB) (s : StepB) : (ls ++ [s]).flatMap stepEnc = ls.flatMap stepEnc ++ stepEnc s := by simp

theorem not_all_bad {ls : List StepB} {k : Nat} (h : k < ls.length) (hb : stepGood ls[k] = false) : ls.all stepGood = false := by
  rw [List.all_eq_false]
  exact ⟨_, List.getElem_mem h, by rw [hb]; simp⟩

def kbSpecs (X : Nat) (m : List UInt8) (s : StepB) : List Spec := [.any, .any, .any, .eq (.string ⟨(m ++ stepEnc s).toArray⟩), .any, .eq (.pointer (some ⟨X, 0, none⟩)), .any, .any, .any, .any, .any, .any, .any, .any, .any, .any, .any, .any, .any, .any, .any, .any, .any, .any, .any, .any, .any, .any, .any, .any, .any, .any, .any, .any, .any, .any, .any, .any, .eq (.string ⟨m.toArray⟩), .eq (.pointer (some ⟨X, 0, none⟩)), .eq (.agg #[.int .i64 s.c.kind, .string ⟨s.c.head.1.toArray⟩, .string ⟨s.c.head.2.toArray⟩, .string ⟨s.c.who.toArray⟩, .string ⟨s.c.b.1.toArray⟩, .string ⟨s.c.b.2.toArray⟩, .string ⟨s.c.c.1.toArray⟩, .string ⟨s.c.c.2.toArray⟩, .string ⟨s.c.w2.toArray⟩]), .eq (.string ⟨(credEnc s.c).toArray⟩), .eq (.pointer (some ⟨X, 9, none⟩)), .eq (.pointer (some ⟨X, 11, none⟩)), .eq (.string ⟨s.f.2.toArray⟩), .eq (.string ⟨(enc s.f.2.length ++ s.f.2).toArray⟩), .eq (.string ⟨(credEnc s.c ++ (enc s.f.2.length ++ s.f.2)).toArray⟩), .eq (.string ⟨(m ++ stepEnc s).toArray⟩), .any, .any]

set_option maxRecDepth 100000 in
set_option maxHeartbeats 8000000 in
theorem rkbytes {D : Nat → Prop} (ao : Option Addr) (cp : Nat) (ls : List StepB) (w : World) (hn : ls.length ≤ 4611686018427387904) (h : StepsAt D w ao ls) :
    Calls Try.prog 17 #[.slice ao ls.length cp] w fun e w' => e = .returned (.string ⟨(chainBytes ls).toArray⟩) ∧ Chg (fun _ => False) w w' := by
  have HX := hid h
  clear h
  by_cases hbig : 256 < ls.length
  · have z1 : decide ((256 : Int) < (ls.length : Int)) = true := decide_eq_true (by omega)
    have HRES : Hid (chainBytes ls = []) := hid (by unfold chainBytes; rw [if_pos hbig])
    clear hbig
    go_enter Try.func17, Try.ntmps17
    go_wp2
    go_ret
    exact ⟨by rw [HRES.out]; rfl, Chg.refl _ _⟩
  · have z1 : decide ((256 : Int) < (ls.length : Int)) = false := decide_eq_false (by omega)
    have hle : ls.length ≤ 256 := by omega
    have HNO : Hid (ls.all stepGood = false → chainBytes ls = []) := hid (fun h => by unfold chainBytes; rw [if_neg hbig, h]; rfl)
    have HYES : Hid (ls.all stepGood = true → chainBytes ls = enc ls.length ++ ls.flatMap stepEnc) := hid (fun h => by unfold chainBytes; rw [if_neg hbig, h]; rfl)
    have HNUM := hid (refnum_any ls.length w (by omega))
    have hel := enc_length9 (n := ls.length) (by omega)
    clear hbig
    go_enter Try.func17, Try.ntmps17
    go_wp2_with fail
    refine HNUM.out.mono ?_
    rintro e w1 ⟨rfl, hc1⟩
    have HC1 := hid hc1
    clear hc1 HNUM
    go_wp2
    go_loopw [3, 14] (fun v i wr => ∃ (k : Nat) (m : List UInt8), k ≤ ls.length ∧ v = .string ⟨m.toArray⟩ ∧ i = .int .i64 k ∧ m.length ≤ 9 + k * 8000100 ∧ Hid (m = enc ls.length ++ (ls.take k).flatMap stepEnc) ∧ Hid (∀ s ∈ ls.take k, stepGood s = true) ∧ Hid (Chg (fun _ => False) w wr)) (fun _ i _ => ls.length - (intOf i).toNat)
    case atStart => exact ⟨0, enc ls.length, Nat.zero_le _, rfl, rfl, by omega, hid (by simp), hid (fun s h => by simp at h), HC1⟩
    case round =>
      obtain ⟨k, m, hk, rfl, rfl, hml, hm, hgd, hc⟩ := hrel
      by_cases hlt : k < ls.length
      · obtain ⟨b, off, hao, _, ⟨⟨a0, a1, a2, a3, a4, a5, a6, a7, a8⟩, ⟨b0, b1, b2⟩⟩, hss⟩ := (HX.out.keep hc.out (fun _ _ => id)) k hlt
        have HNX : Hid ((stepGood ls[k] = true → (m ++ stepEnc ls[k] = enc ls.length ++ (ls.take (k + 1)).flatMap stepEnc ∧ ∀ s ∈ ls.take (k + 1), stepGood s = true)) ∧ (stepGood ls[k] = false → chainBytes ls = [])) := hid ⟨fun hg => ⟨by rw [List.take_succ_eq_append_getElem hlt, flat_snoc, hm.out, List.append_assoc], fun s hs => by
          rw [List.take_succ_eq_append_getElem hlt] at hs
          rcases List.mem_append.1 hs with h | h
          · exact hgd.out s h
          · rw [List.mem_singleton.1 h]; exact hg⟩, fun hb => HNO.out (not_all_bad hlt hb)⟩
        have HKL := hid hlt
        clear hm hgd
        generalize ls[k] = s at *
        change wr.cell? ⟨b, off + k * 12 + 10, none⟩ = _ at b1
        change wr.cell? ⟨b, off + k * 12 + 11, none⟩ = _ at b2
        have hSb : (wr.alloc (.cells #[.int .i64 s.c.kind, .string ⟨s.c.head.1.toArray⟩, .string ⟨s.c.head.2.toArray⟩, .string ⟨s.c.who.toArray⟩, .string ⟨s.c.b.1.toArray⟩, .string ⟨s.c.b.2.toArray⟩, .string ⟨s.c.c.1.toArray⟩, .string ⟨s.c.c.2.toArray⟩, .string ⟨s.c.w2.toArray⟩, .string ⟨s.f.1.1.toArray⟩, .string ⟨s.f.1.2.toArray⟩, .string ⟨s.f.2.toArray⟩] 34)).heap[wr.heap.size]? = some (.cells (stepBox s) 34 (0, 0)) := heap_alloc_new wr _
        have hcA : Chg (fun _ => False) wr (wr.alloc (.cells #[.int .i64 s.c.kind, .string ⟨s.c.head.1.toArray⟩, .string ⟨s.c.head.2.toArray⟩, .string ⟨s.c.who.toArray⟩, .string ⟨s.c.b.1.toArray⟩, .string ⟨s.c.b.2.toArray⟩, .string ⟨s.c.c.1.toArray⟩, .string ⟨s.c.c.2.toArray⟩, .string ⟨s.c.w2.toArray⟩, .string ⟨s.f.1.1.toArray⟩, .string ⟨s.f.1.2.toArray⟩, .string ⟨s.f.2.toArray⟩] 34)) := (Chg.refl _ wr).alloc _
        obtain ⟨⟨s0, s1, s2, s3, s4, s5, s6, s7, s8⟩, ⟨t0, t1, t2⟩⟩ := step_at_blk hSb
        simp only [Nat.zero_add] at s0 s1 s2 s3 s4 s5 s6 s7 s8 t0 t1 t2
        have HSB := hid hSb
        have HC2 := hid (hc.out.trans hcA (fun _ _ h => h))
        have HRT : Hid (Calls Try.prog 32 #[.agg #[.int .i64 s.c.kind, .string ⟨s.c.head.1.toArray⟩, .string ⟨s.c.head.2.toArray⟩, .string ⟨s.c.who.toArray⟩, .string ⟨s.c.b.1.toArray⟩, .string ⟨s.c.b.2.toArray⟩, .string ⟨s.c.c.1.toArray⟩, .string ⟨s.c.c.2.toArray⟩, .string ⟨s.c.w2.toArray⟩]] (wr.alloc (.cells #[.int .i64 s.c.kind, .string ⟨s.c.head.1.toArray⟩, .string ⟨s.c.head.2.toArray⟩, .string ⟨s.c.who.toArray⟩, .string ⟨s.c.b.1.toArray⟩, .string ⟨s.c.b.2.toArray⟩, .string ⟨s.c.c.1.toArray⟩, .string ⟨s.c.c.2.toArray⟩, .string ⟨s.c.w2.toArray⟩, .string ⟨s.f.1.1.toArray⟩, .string ⟨s.f.1.2.toArray⟩, .string ⟨s.f.2.toArray⟩] 34)) fun e w' => e = .returned (.bool (isCred s.c)) ∧ Chg (fun _ => False) (wr.alloc (.cells #[.int .i64 s.c.kind, .string ⟨s.c.head.1.toArray⟩, .string ⟨s.c.head.2.toArray⟩, .string ⟨s.c.who.toArray⟩, .string ⟨s.c.b.1.toArray⟩, .string ⟨s.c.b.2.toArray⟩, .string ⟨s.c.c.1.toArray⟩, .string ⟨s.c.c.2.toArray⟩, .string ⟨s.c.w2.toArray⟩, .string ⟨s.f.1.1.toArray⟩, .string ⟨s.f.1.2.toArray⟩, .string ⟨s.f.2.toArray⟩] 34)) w') := hid (cright_ref s.c _ hss.1)
        have HSS := hid hss
        clear hSb hcA hc hss
        subst hao
        go_wp2_with fail
        refine HRT.out.mono ?_
        clear HRT a0 a1 a2 a3 a4 a5 a6 a7 a8 b0 b1 b2
        generalize (wr.alloc (.cells #[.int .i64 s.c.kind, .string ⟨s.c.head.1.toArray⟩, .string ⟨s.c.head.2.toArray⟩, .string ⟨s.c.who.toArray⟩, .string ⟨s.c.b.1.toArray⟩, .string ⟨s.c.b.2.toArray⟩, .string ⟨s.c.c.1.toArray⟩, .string ⟨s.c.c.2.toArray⟩, .string ⟨s.c.w2.toArray⟩, .string ⟨s.f.1.1.toArray⟩, .string ⟨s.f.1.2.toArray⟩, .string ⟨s.f.2.toArray⟩] 34)) = w3 at *
        generalize wr.heap.size = X at *
        rintro e w4 ⟨rfl, hc4⟩
        replace s0 := hc4.cell s0 id
        replace s1 := hc4.cell s1 id
        replace s2 := hc4.cell s2 id
        replace t0 := hc4.cell t0 id
        replace t1 := hc4.cell t1 id
        replace t2 := hc4.cell t2 id
        clear s3 s4 s5 s6 s7 s8
        have HC4 := hid (HC2.out.trans hc4 (fun _ _ h => h))
        have HSB4 := hid (blk_keep HSB.out hc4 id)
        clear hc4 HC2 HSB
        cases hcr : isCred s.c with
        | false =>
          have HRES := hid (HNX.out.2 (by unfold stepGood; rw [hcr]; rfl))
          clear hcr
          go_wp2
          go_ret
          exact ⟨by rw [HRES.out]; rfl, HC4.out⟩
        | true =>
          have HCR := hid hcr
          clear hcr
          by_cases heq : s.f.1 = s.c.head
          · have d1 : decide (s.f.1 = s.c.head) = true := decide_eq_true heq
            have HNM := hid (refright_any s.f.2 w4 HSS.out.2.2.2)
            have HG1 : Hid (stepGood s = isName s.f.2) := hid (by unfold stepGood; rw [HCR.out, d1]; rfl)
            clear heq
            go_wp2_with fail
            refine HNM.out.mono ?_
            rintro e w5 ⟨rfl, rfl⟩
            clear HNM s0 s1 s2 t0 t1 t2 d1
            cases hnm : isName s.f.2 with
            | false =>
              have HRES := hid (HNX.out.2 (HG1.out.trans hnm))
              clear hnm
              go_wp2
              go_ret
              exact ⟨by rw [HRES.out]; rfl, HC4.out⟩
            | true =>
              have HUP := hid (HNX.out.1 (HG1.out.trans hnm))
              have HG : Hid (isCred s.c = true ∧ s.f.2.length ≤ 16) := hid ⟨HCR.out, (isName_len hnm).2⟩
              have HT : Hid (w4.heap[X]? = some (.cells (stepBox s) 34 (0, 0)) ∧ True) := hid ⟨HSB4.out, trivial⟩
              have hcl := credEnc_len9 HCR.out
              have hwl := (isName_len hnm).2
              have hel2 := enc_length9 (n := s.f.2.length) (by omega)
              have HL : Hid ((credEnc s.c).length + (enc s.f.2.length ++ s.f.2).length ≤ 8000100 ∧ (enc s.f.2.length ++ s.f.2).length ≤ 100 ∧ m.length + (credEnc s.c ++ (enc s.f.2.length ++ s.f.2)).length ≤ 3000000000) := hid ⟨by rw [List.length_append]; omega, by rw [List.length_append]; omega, by rw [List.length_append, List.length_append]; omega⟩
              have hml2 : (m ++ stepEnc s).length ≤ 9 + (k + 1) * 8000100 := by unfold stepEnc encS; rw [List.length_append, List.length_append, List.length_append]; omega
              clear hnm hcl hwl hel2
              go_wp2_with fail
              refine wp_region_specsE (kbSpecs X m s) [38, 39, 40, 41, 42, 43, 44, 45, 46, 47, 3] [5] 3 (.string ⟨m.toArray⟩) (by kernel_rfl) (by kernel_rfl) (by rfl) (by rfl) (by kernel_rfl) ?start ?obs ?fin
              case start =>
                simp only [List.forall_mem_cons]; exact ⟨⟨_, rfl, rfl⟩, fun _ h => by cases h⟩
              case obs =>
                refine ObsE.cons none (by kernel_rfl) ?_ ?_
                · refine ObE.plain fun a w hR hk K k9 => ?_
                  obtain ⟨_, e3, f3⟩ := hk 3 (by decide)
                  clear hk
                  go_simp
                  exact k9 _ _ (Chg.refl _ _) f3
                refine ObsE.cons none (by kernel_rfl) ?_ ?_
                · refine ObE.plain fun a w hR hk K k9 => ?_
                  obtain ⟨_, e5, rfl⟩ := hk 5 (by decide)
                  clear hk
                  go_simp
                  exact k9 _ _ (Chg.refl _ _) rfl
                refine ObsE.cons none (by kernel_rfl) ?_ ?_
                · refine ObE.plain fun a w hR hk K k9 => ?_
                  obtain ⟨_, e39, rfl⟩ := hk 39 (by decide)
                  clear hk
                  obtain ⟨⟨a0, a1, a2, a3, a4, a5, a6, a7, a8⟩, ⟨b0, b1, b2⟩⟩ := step_at_blk (blk_keep HT.out.1 hR id)
                  simp only [Nat.zero_add] at a0 a1 a2 a3 a4 a5 a6 a7 a8 b0 b1 b2
                  go_simp
                  exact k9 _ _ (Chg.refl _ _) rfl
                refine ObsE.cons none (by kernel_rfl) ?_ ?_
                · refine ObE.plain fun a w hR hk K k9 => ?_
                  obtain ⟨_, e40, rfl⟩ := hk 40 (by decide)
                  clear hk
                  have hq := cbytes_ref s.c w s.c.kind.toNat (by have := isCred_kind HG.out.1; omega) (by have := isCred_kind HG.out.1; omega) ((isCred_short HG.out.1).mono (by omega))
                  unfold credV credBox at hq
                  go_simp
                  refine hq.mono ?_
                  rintro e w2 ⟨rfl, hc⟩
                  exact k9 _ _ hc rfl
                refine ObsE.cons none (by kernel_rfl) ?_ ?_
                · refine ObE.plain fun a w hR hk K k9 => ?_
                  obtain ⟨_, e5, rfl⟩ := hk 5 (by decide)
                  clear hk
                  go_simp
                  exact k9 _ _ (Chg.refl _ _) rfl
                refine ObsE.cons none (by kernel_rfl) ?_ ?_
                · refine ObE.plain fun a w hR hk K k9 => ?_
                  obtain ⟨_, e42, rfl⟩ := hk 42 (by decide)
                  clear hk
                  go_simp
                  exact k9 _ _ (Chg.refl _ _) rfl
                refine ObsE.cons none (by kernel_rfl) ?_ ?_
                · refine ObE.plain fun a w hR hk K k9 => ?_
                  obtain ⟨_, e43, rfl⟩ := hk 43 (by decide)
                  clear hk
                  obtain ⟨⟨a0, a1, a2, a3, a4, a5, a6, a7, a8⟩, ⟨b0, b1, b2⟩⟩ := step_at_blk (blk_keep HT.out.1 hR id)
                  simp only [Nat.zero_add] at a0 a1 a2 a3 a4 a5 a6 a7 a8 b0 b1 b2
                  go_simp
                  exact k9 _ _ (Chg.refl _ _) rfl
                refine ObsE.cons none (by kernel_rfl) ?_ ?_
                · refine ObE.plain fun a w hR hk K k9 => ?_
                  obtain ⟨_, e44, rfl⟩ := hk 44 (by decide)
                  clear hk
                  have hq := reftext_any s.f.2 w (by have := HG.out.2; omega)
                  go_simp
                  refine hq.mono ?_
                  rintro e w2 ⟨rfl, hc⟩
                  exact k9 _ _ hc rfl
                refine ObsE.cons none (by kernel_rfl) ?_ ?_
                · refine ObE.plain fun a w hR hk K k9 => ?_
                  obtain ⟨_, e41, rfl⟩ := hk 41 (by decide)
                  obtain ⟨_, e45, rfl⟩ := hk 45 (by decide)
                  clear hk
                  have hz : ¬ (9223372036854775807 < (credEnc s.c).length + ((enc s.f.2.length).length + s.f.2.length)) := by have h1 := HL.out.1; rw [List.length_append] at h1; omega
                  go_simp
                  exact k9 _ _ (Chg.refl _ _) (by show Value.string _ = Value.string _; first | (rw [ByteArray.mk_append_mk]; done) | (rw [ByteArray.mk_append_mk]; rfl))
                refine ObsE.cons none (by kernel_rfl) ?_ ?_
                · refine ObE.plain fun a w hR hk K k9 => ?_
                  obtain ⟨_, e38, rfl⟩ := hk 38 (by decide)
                  obtain ⟨_, e46, rfl⟩ := hk 46 (by decide)
                  clear hk
                  have hz : ¬ (9223372036854775807 < m.length + ((credEnc s.c).length + ((enc s.f.2.length).length + s.f.2.length))) := by have h1 := HL.out.2.2; rw [List.length_append, List.length_append] at h1; omega
                  go_simp
                  exact k9 _ _ (Chg.refl _ _) (by show Value.string _ = Value.string _; first | (rw [ByteArray.mk_append_mk]; done) | (rw [ByteArray.mk_append_mk]; rfl))
                refine ObsE.cons none (by kernel_rfl) ?_ ?_
                · refine ObE.plain fun a w hR hk K k9 => ?_
                  obtain ⟨_, e47, f47⟩ := hk 47 (by decide)
                  clear hk
                  go_simp
                  exact k9 _ _ (Chg.refl _ _) f47
                exact ObsE.nil
              case fin =>
                intro vals w9 hc9 hv
                have h3 : vals 3 = .string ⟨(m ++ stepEnc s).toArray⟩ := hv 3 (by decide)
                have HC9 := hid (HC4.out.trans hc9 (fun _ _ h => h))
                simp only [putAll, List.setIfInBounds_toArray, List.set_cons_zero, List.set_cons_succ, h3]
                clear hv h3 hc9
                generalize m ++ stepEnc s = m2 at *
                go_wp2
                go_roundw
                case rel => exact ⟨k + 1, m2, by have := HKL.out; omega, rfl, by go_num, hml2, hid HUP.out.1, hid HUP.out.2, HC9⟩
                case measure => have := HKL.out; simp [intOf]; omega
          · have d1 : decide (s.f.1 = s.c.head) = false := decide_eq_false heq
            have HRES := hid (HNX.out.2 (by unfold stepGood; rw [d1]; simp))
            clear heq
            go_wp2
            go_ret
            exact ⟨by rw [HRES.out]; rfl, HC4.out⟩
      · have hk2 : k = ls.length := by omega
        have HRES : Hid (chainBytes ls = m) := hid (by
          have h1 : ls.all stepGood = true := by
            rw [List.all_eq_true]
            intro s hs
            exact hgd.out s (by rw [hk2, List.take_length]; exact hs)
          rw [HYES.out h1, hm.out, hk2, List.take_length])
        clear hm hgd
        go_wp2
        go_ret
        exact ⟨by rw [HRES.out]; rfl, hc.out⟩
end Go.Proofs.Ytmmkopdcbiiedaa

/- Plain arithmetic of layer 2's sums and tags: nothing of the program's text. -/
namespace Go.Proofs.Ytmmkopdcbiiedaa
open Go.RowKit

def two64 : Nat := 18446744073709551616
def fnvPrime : Nat := 1099511628211
def fnvBasis : Nat := 14695981039346656037
/-- The sum behind one byte more. -/
def fnvStep (h : Nat) (x : UInt8) : Nat := (h ^^^ x.toNat) * fnvPrime % two64
def fnv (h : Nat) (l : List UInt8) : Nat := l.foldl fnvStep h
/-- The sum of bytes. -/
def sumOf (l : List UInt8) : Nat := fnv fnvBasis l

/-- The eight bytes of a number, the greatest one first. -/
def bytes8 (h : Nat) : List UInt8 := (List.range 8).map fun i => UInt8.ofNat (h / 2 ^ (8 * (7 - i)) % 256)
/-- The tag of bytes with a key. -/
def tagSum (key b : List UInt8) : Nat := sumOf ([UInt8.ofNat key.length] ++ key ++ b ++ key)
def tagOf (key b : List UInt8) : List UInt8 := bytes8 (tagSum key b)

end Go.Proofs.Ytmmkopdcbiiedaa
