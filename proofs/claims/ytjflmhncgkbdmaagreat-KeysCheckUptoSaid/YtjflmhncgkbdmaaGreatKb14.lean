/- Texts that the proof leans on, in one: RefCredBytes, TagRef, RefCheck. -/
import Derived.Test.YtjflmhncgkbdmaaGreatKb7
import Derived.Test.YtjflmhncgkbdmaaGreatKb12
import Derived.Test.YtjflmhncgkbdmaaGreatKb2
import Derived.Test.YtjflmhncgkbdmaaGreatKb6
/- The contracts of the document's Bytes, bytes and Compare of layer 5. -/
namespace Go.Proofs.YtjflmhncgkbdmaaGreat
open Go.RowKit

def cbytesSpecs (A n : Nat) (ho hw : List UInt8) : List Spec :=
  [.any, .eq (.pointer (some ⟨A, 0, none⟩)), .any, .eq (.string ⟨(enc n ++ roleEnc (ho, hw)).toArray⟩), .eq (.pointer (some ⟨A, 0, none⟩)), .eq (.int .i64 n), .eq (.string ⟨(enc n).toArray⟩), .eq (.pointer (some ⟨A, 1, none⟩)), .eq (roleV (ho, hw)), .eq (.string ⟨(roleEnc (ho, hw)).toArray⟩), .eq (.string ⟨(enc n ++ roleEnc (ho, hw)).toArray⟩)]

theorem roleEnc_len (r : RoleB) (h1 : r.1.length ≤ 1048576) (h2 : r.2.length ≤ 1048576) : (roleEnc r).length ≤ 2097200 := by
  have l1 := enc_length9 (n := r.1.length) (by omega)
  have l2 := enc_length9 (n := r.2.length) (by omega)
  simp only [roleEnc, List.length_append]
  omega

theorem encS_len (s : List UInt8) (h1 : s.length ≤ 1048576) : (encS s).length ≤ 1048600 := by
  have l1 := enc_length9 (n := s.length) (by omega)
  simp only [encS, List.length_append]
  omega

set_option maxRecDepth 100000 in
set_option maxHeartbeats 2000000 in
theorem cbytes_ref (c : CredB) (w : World) (n : Nat) (hk : c.kind = n) (hn : n < 9223372036854775808) (hs : credShort c 1048576) :
    Calls Tryz.prog 42 #[credV c] w fun e w' => e = .returned (.string ⟨(credEnc c).toArray⟩) ∧ Chg (fun _ => False) w w' := by
  have hc0 : Chg (fun _ => False) w (w.alloc (.cells (credBox c) 35)) := (Chg.refl _ w).alloc _
  have hd := cred_at_blk (heap_alloc_new w (.cells (credBox c) 35))
  obtain ⟨k, ⟨ho, hw⟩, who, ⟨bo, bw⟩, ⟨co, cw⟩, w2⟩ := c
  obtain ⟨s1, s2, s3, s4, s5, s6, s7, s8⟩ := hs
  dsimp only at s1 s2 s3 s4 s5 s6 s7 s8 hk
  subst hk
  obtain ⟨a0, a1, a2, a3, a4, a5, a6, a7, a8⟩ := hd
  simp only [Nat.zero_add, credBox] at a0 a1 a2 a3 a4 a5 a6 a7 a8
  simp only [credBox] at hc0
  have hE : Hid (credEnc ⟨(n : Int), (ho, hw), who, (bo, bw), (co, cw), w2⟩ = (enc n ++ roleEnc (ho, hw)) ++ credTail ⟨(n : Int), (ho, hw), who, (bo, bw), (co, cw), w2⟩) := hid (by simp [credEnc])
  have l1 := enc_length9 (n := n) (by omega)
  have l2 := roleEnc_len (ho, hw) s1 s2
  have l3 := roleEnc_len (bo, bw) s4 s5
  have l4 := roleEnc_len (co, cw) s6 s7
  have l5 := encS_len who s3
  have l6 := encS_len w2 s8
  show Calls Tryz.prog 42 #[.agg #[.int .i64 n, .string ⟨ho.toArray⟩, .string ⟨hw.toArray⟩, .string ⟨who.toArray⟩, .string ⟨bo.toArray⟩, .string ⟨bw.toArray⟩, .string ⟨co.toArray⟩, .string ⟨cw.toArray⟩, .string ⟨w2.toArray⟩]] w _
  go_enter Tryz.func42, Tryz.ntmps42
  go_wp2_with fail
  generalize w.alloc (.cells #[.int .i64 (n : Int), .string ⟨ho.toArray⟩, .string ⟨hw.toArray⟩, .string ⟨who.toArray⟩, .string ⟨bo.toArray⟩, .string ⟨bw.toArray⟩, .string ⟨co.toArray⟩, .string ⟨cw.toArray⟩, .string ⟨w2.toArray⟩] 35) = w1 at *
  generalize w.heap.size = A at *
  refine wp_region_specs (cbytesSpecs A n ho hw) [4, 5, 6, 7, 8, 9, 10, 3] [1] (by kernel_rfl) (by kernel_rfl) (by rfl) (by kernel_rfl) ?start ?obs ?fin
  case start =>
    simp only [List.forall_mem_cons]
    exact ⟨⟨_, rfl, rfl⟩, fun _ h => by cases h⟩
  case obs =>
    clear hc0 hE
    refine Obs.cons none (by kernel_rfl) ?_ ?_
    · refine Ob.plain fun a w hR hk K k => ?_
      obtain ⟨_, e1, rfl⟩ := hk 1 (by decide)
      clear hk
      go_simp
      exact k _ _ (Chg.refl _ _) rfl
    refine Obs.cons none (by kernel_rfl) ?_ ?_
    · refine Ob.plain fun a w hR hk K k => ?_
      obtain ⟨_, e4, rfl⟩ := hk 4 (by decide)
      clear hk
      have q0 := hR.cell a0 id
      go_simp
      exact k _ _ (Chg.refl _ _) rfl
    refine Obs.cons none (by kernel_rfl) ?_ ?_
    · refine Ob.plain fun a w hR hk K k => ?_
      obtain ⟨_, e5, rfl⟩ := hk 5 (by decide)
      clear hk
      go_simp
      refine (refnum_any n _ hn).mono ?_
      rintro e w2 ⟨rfl, hc⟩
      exact k _ _ hc rfl
    refine Obs.cons none (by kernel_rfl) ?_ ?_
    · refine Ob.plain fun a w hR hk K k => ?_
      obtain ⟨_, e1, rfl⟩ := hk 1 (by decide)
      clear hk
      go_simp
      exact k _ _ (Chg.refl _ _) rfl
    refine Obs.cons none (by kernel_rfl) ?_ ?_
    · refine Ob.plain fun a w hR hk K k => ?_
      obtain ⟨_, e7, rfl⟩ := hk 7 (by decide)
      clear hk
      have q0 := hR.cell a1 id
      have q1 := hR.cell a2 id
      go_simp
      exact k _ _ (Chg.refl _ _) rfl
    refine Obs.cons none (by kernel_rfl) ?_ ?_
    · refine Ob.plain fun a w hR hk K k => ?_
      obtain ⟨_, e8, rfl⟩ := hk 8 (by decide)
      clear hk
      go_simp
      refine (rbytes_ref (ho, hw) _ s1 s2).mono ?_
      rintro e w2 ⟨rfl, hc⟩
      exact k _ _ hc rfl
    refine Obs.cons none (by kernel_rfl) ?_ ?_
    · refine Ob.plain fun a w hR hk K k => ?_
      obtain ⟨_, e6, rfl⟩ := hk 6 (by decide)
      obtain ⟨_, e9, rfl⟩ := hk 9 (by decide)
      clear hk
      obtain ⟨u, hu⟩ : ∃ u, u = enc n := ⟨_, rfl⟩
      obtain ⟨v, hv⟩ : ∃ v, v = roleEnc (ho, hw) := ⟨_, rfl⟩
      have hb : ¬ 9223372036854775807 < u.length + v.length := by rw [hu, hv]; omega
      rw [← hu] at e6
      rw [← hv] at e9
      have HU := hid (And.intro hu hv)
      clear hu hv
      go_simp
      exact k _ _ (Chg.refl _ _) (congrArg Value.string ((ByteArray.mk_append_mk u v).trans (by rw [HU.out.1, HU.out.2])))
    refine Obs.cons none (by kernel_rfl) ?_ Obs.nil
    · refine Ob.plain fun a w hR hk K k => ?_
      obtain ⟨_, e10, rfl⟩ := hk 10 (by decide)
      clear hk
      go_simp
      exact k _ _ (Chg.refl _ _) rfl
  case fin =>
    intro vals w3 hc3 hv
    have h3 : vals 3 = .string ⟨(enc n ++ roleEnc (ho, hw)).toArray⟩ := hv 3 (by decide)
    replace a0 := hc3.cell a0 id
    replace a3 := hc3.cell a3 id
    replace a4 := hc3.cell a4 id
    replace a5 := hc3.cell a5 id
    replace a6 := hc3.cell a6 id
    replace a7 := hc3.cell a7 id
    replace a8 := hc3.cell a8 id
    have HC := hid (hc0.trans hc3 (fun _ _ h => h))
    clear hc0 hc3 hv a1 a2
    simp only [putAll, List.setIfInBounds_toArray, List.set_cons_zero, List.set_cons_succ, h3]
    clear h3
    have l7 : (enc n ++ roleEnc (ho, hw)).length ≤ 2097300 := by rw [List.length_append]; omega
    generalize enc n ++ roleEnc (ho, hw) = eh at *
    clear l1 l2
    by_cases k1 : n = 1
    · subst k1
      go_wp2_with fail
      refine (reftext_any who _ (by omega)).mono ?_
      rintro e w4 ⟨rfl, hc4⟩
      have HC2 := hid (HC.out.trans hc4 (fun _ _ h => h))
      clear HC hc4
      have hT : Hid (credTail ⟨((1 : Nat) : Int), (ho, hw), who, (bo, bw), (co, cw), w2⟩ = encS who) := hid rfl
      rw [show enc who.length ++ who = encS who from rfl]
      generalize encS who = t at *
      have b1 : ¬ 9223372036854775807 < eh.length + t.length := by omega
      go_wp2
      go_ret
      exact ⟨congrArg (fun b => Ending.returned (.string b)) ((ByteArray.mk_append_mk eh t).trans (by rw [hE.out, hT.out])), HC2.out⟩
    · have z1 : ((n : Int) == 1) = false := beq_eq_false_iff_ne.2 (by omega)
      go_wp2_with fail
      refine (rbytes_ref (bo, bw) _ s4 s5).mono ?_
      rintro e w4 ⟨rfl, hc4⟩
      replace a0 := hc4.cell a0 id
      replace a6 := hc4.cell a6 id
      replace a7 := hc4.cell a7 id
      replace a8 := hc4.cell a8 id
      have HC2 := hid (HC.out.trans hc4 (fun _ _ h => h))
      clear HC hc4 a3 a4 a5
      have hT : Hid (credTail ⟨(n : Int), (ho, hw), who, (bo, bw), (co, cw), w2⟩ = (if (n : Int) = 3 then roleEnc (bo, bw) ++ encS w2 else if (n : Int) = 4 then roleEnc (bo, bw) ++ roleEnc (co, cw) else roleEnc (bo, bw))) := hid (by rw [credTail, if_neg (by show ¬ (n : Int) = 1; omega)])
      generalize roleEnc (bo, bw) = tb at *
      have b1 : ¬ 9223372036854775807 < eh.length + tb.length := by omega
      by_cases k3 : n = 3
      · subst k3
        rw [if_pos (by decide)] at hT
        go_wp2_with fail
        refine (reftext_any w2 _ (by omega)).mono ?_
        rintro e w5 ⟨rfl, hc5⟩
        replace a0 := hc5.cell a0 id
        have HC3 := hid (HC2.out.trans hc5 (fun _ _ h => h))
        clear HC2 hc5
        rw [show enc w2.length ++ w2 = encS w2 from rfl]
        generalize encS w2 = t at *
        have b2 : ¬ 9223372036854775807 < eh.length + tb.length + t.length := by omega
        go_wp2
        go_ret
        refine ⟨congrArg (fun b => Ending.returned (.string b)) ?_, HC3.out⟩
        show (⟨eh.toArray⟩ : ByteArray) ++ ⟨tb.toArray⟩ ++ ⟨t.toArray⟩ = _
        rw [ByteArray.mk_append_mk, ByteArray.mk_append_mk, hE.out, hT.out, List.append_assoc]
      · have z3 : ((n : Int) == 3) = false := beq_eq_false_iff_ne.2 (by omega)
        rw [if_neg (by omega)] at hT
        by_cases k4 : n = 4
        · subst k4
          rw [if_pos (by decide)] at hT
          go_wp2_with fail
          refine (rbytes_ref (co, cw) _ s6 s7).mono ?_
          rintro e w5 ⟨rfl, hc5⟩
          have HC3 := hid (HC2.out.trans hc5 (fun _ _ h => h))
          clear HC2 hc5
          generalize roleEnc (co, cw) = t at *
          have b2 : ¬ 9223372036854775807 < eh.length + tb.length + t.length := by omega
          go_wp2
          go_ret
          refine ⟨congrArg (fun b => Ending.returned (.string b)) ?_, HC3.out⟩
          show (⟨eh.toArray⟩ : ByteArray) ++ ⟨tb.toArray⟩ ++ ⟨t.toArray⟩ = _
          rw [ByteArray.mk_append_mk, ByteArray.mk_append_mk, hE.out, hT.out, List.append_assoc]
        · have z4 : ((n : Int) == 4) = false := beq_eq_false_iff_ne.2 (by omega)
          rw [if_neg (by omega)] at hT
          go_wp2
          go_ret
          exact ⟨congrArg (fun b => Ending.returned (.string b)) ((ByteArray.mk_append_mk eh tb).trans (by rw [hE.out, hT.out])), HC2.out⟩

theorem isCred_nat {c : CredB} (h : isCred c = true) : ∃ n : Nat, c.kind = n ∧ n < 9223372036854775808 := by
  refine ⟨c.kind.toNat, ?_, ?_⟩
  · unfold isCred at h
    by_cases h1 : c.kind = 1
    · omega
    · by_cases h2 : c.kind = 2
      · omega
      · by_cases h3 : c.kind = 3
        · omega
        · rw [if_neg h1, if_neg h2, if_neg h3] at h
          simp only [Bool.and_eq_true, beq_iff_eq] at h
          omega
  · unfold isCred at h
    by_cases h1 : c.kind = 1
    · omega
    · by_cases h2 : c.kind = 2
      · omega
      · by_cases h3 : c.kind = 3
        · omega
        · rw [if_neg h1, if_neg h2, if_neg h3] at h
          simp only [Bool.and_eq_true, beq_iff_eq] at h
          omega

theorem credShort.mono {c : CredB} {m n : Nat} (h : credShort c m) (hm : m ≤ n) : credShort c n := by
  obtain ⟨s1, s2, s3, s4, s5, s6, s7, s8⟩ := h
  exact ⟨by omega, by omega, by omega, by omega, by omega, by omega, by omega, by omega⟩

set_option maxRecDepth 100000 in
theorem cbytesof_ref (c : CredB) (w : World) (hs : credShort c 1048576) :
    Calls Tryz.prog 95 #[credV c] w fun e w' => e = .returned (.string ⟨(credBytes c).toArray⟩) ∧ Chg (fun _ => False) w w' := by
  have hc0 : Chg (fun _ => False) w (w.alloc (.cells (credBox c) 35)) := (Chg.refl _ w).alloc _
  have hA := heap_alloc_new w (.cells (credBox c) 35)
  have hr := fun w1 => cright_ref c w1 (hs.mono (by omega))
  cases hi : isCred c with
  | false =>
    have hB : Hid (credBytes c = []) := hid (by simp [credBytes, hi])
    rw [hi] at hr
    obtain ⟨k, ⟨ho, hw⟩, who, ⟨bo, bw⟩, ⟨co, cw⟩, w2⟩ := c
    show Calls Tryz.prog 95 #[.agg #[.int .i64 k, .string ⟨ho.toArray⟩, .string ⟨hw.toArray⟩, .string ⟨who.toArray⟩, .string ⟨bo.toArray⟩, .string ⟨bw.toArray⟩, .string ⟨co.toArray⟩, .string ⟨cw.toArray⟩, .string ⟨w2.toArray⟩]] w _
    clear hA
    have HH := hid (And.intro hr hc0)
    clear hr hc0
    go_enter Tryz.func95, Tryz.ntmps95
    go_wp2_with fail
    refine (HH.out.1 _).mono ?_
    rintro e w1 ⟨rfl, hc1⟩
    have HC := hid (HH.out.2.trans hc1 (fun _ _ h => h))
    clear HH hc1
    go_wp2
    go_ret
    exact ⟨by rw [hB.out]; rfl, HC.out⟩
  | true =>
    have hB : Hid (credBytes c = credEnc c) := hid (by simp [credBytes, hi])
    rw [hi] at hr
    obtain ⟨n, hn1, hn2⟩ := isCred_nat hi
    have hb := fun w1 => cbytes_ref c w1 n hn1 hn2 hs
    clear hn1 hi
    obtain ⟨k, ⟨ho, hw⟩, who, ⟨bo, bw⟩, ⟨co, cw⟩, w2⟩ := c
    show Calls Tryz.prog 95 #[.agg #[.int .i64 k, .string ⟨ho.toArray⟩, .string ⟨hw.toArray⟩, .string ⟨who.toArray⟩, .string ⟨bo.toArray⟩, .string ⟨bw.toArray⟩, .string ⟨co.toArray⟩, .string ⟨cw.toArray⟩, .string ⟨w2.toArray⟩]] w _
    have HH := hid (And.intro hr (And.intro hb (And.intro hc0 hA)))
    clear hr hc0 hA hb
    go_enter Tryz.func95, Tryz.ntmps95
    go_wp2_with fail
    obtain ⟨hr, hb, hc0, hA⟩ := HH.out
    refine (hr _).mono ?_
    rintro e w1 ⟨rfl, hc1⟩
    obtain ⟨a0, a1, a2, a3, a4, a5, a6, a7, a8⟩ := cred_at_blk (blk_keep hA hc1 id)
    simp only [Nat.zero_add] at a0 a1 a2 a3 a4 a5 a6 a7 a8
    have HH2 := hid (And.intro hb (hc0.trans hc1 (fun _ _ h => h)))
    clear HH hr hb hc0 hA hc1
    go_wp2_with fail
    refine (HH2.out.1 _).mono ?_
    rintro e w3 ⟨rfl, hc3⟩
    have HC := hid (HH2.out.2.trans hc3 (fun _ _ h => h))
    clear HH2 hc3
    generalize credEnc _ = u at *
    go_wp2
    go_ret
    exact ⟨by rw [hB.out]; rfl, HC.out⟩

set_option maxRecDepth 100000 in
theorem ccompare_ref (a b : CredB) (w : World) (ha : credShort a 1048576) (hb : credShort b 1048576) :
    Calls Tryz.prog 75 #[credV a, credV b] w fun e w' => e = .returned (.int .i64 (cmpC a b)) ∧ Chg (fun _ => False) w w' := by
  have hc0 : Chg (fun _ => False) w ((w.alloc (.cells (credBox a) 35)).alloc (.cells (credBox b) 35)) := ((Chg.refl _ w).alloc _).alloc _
  have hA := blk_keep (heap_alloc_new w (.cells (credBox a) 35)) ((Chg.refl (fun _ => False) _).alloc (.cells (credBox b) 35)) id
  have hB := heap_alloc_new (w.alloc (.cells (credBox a) 35)) (.cells (credBox b) 35)
  rw [show (w.alloc (.cells (credBox a) 35)).heap.size = w.heap.size + 1 by simp] at hB
  have hx := fun w1 => cbytesof_ref a w1 ha
  have hy := fun w1 => cbytesof_ref b w1 hb
  have hD : Hid (cmpC a b = if ltS (credBytes a) (credBytes b) then -1 else if ltS (credBytes b) (credBytes a) then 1 else 0) := hid rfl
  generalize credBytes a = x at *
  generalize credBytes b = y at *
  obtain ⟨k, ⟨ho, hw⟩, who, ⟨bo, bw⟩, ⟨co, cw⟩, w2⟩ := a
  obtain ⟨k', ⟨ho', hw'⟩, who', ⟨bo', bw'⟩, ⟨co', cw'⟩, w2'⟩ := b
  clear ha hb
  show Calls Tryz.prog 75 #[.agg #[.int .i64 k, .string ⟨ho.toArray⟩, .string ⟨hw.toArray⟩, .string ⟨who.toArray⟩, .string ⟨bo.toArray⟩, .string ⟨bw.toArray⟩, .string ⟨co.toArray⟩, .string ⟨cw.toArray⟩, .string ⟨w2.toArray⟩], .agg #[.int .i64 k', .string ⟨ho'.toArray⟩, .string ⟨hw'.toArray⟩, .string ⟨who'.toArray⟩, .string ⟨bo'.toArray⟩, .string ⟨bw'.toArray⟩, .string ⟨co'.toArray⟩, .string ⟨cw'.toArray⟩, .string ⟨w2'.toArray⟩]] w _
  have HH := hid (And.intro hx (And.intro hy (And.intro hc0 (And.intro hA hB))))
  clear hx hy hc0 hA hB
  go_enter Tryz.func75, Tryz.ntmps75
  go_wp2_with fail
  obtain ⟨hx, hy, hc0, hA, hB⟩ := HH.out
  refine (hx _).mono ?_
  rintro e w3 ⟨rfl, hc1⟩
  obtain ⟨b0, b1, b2, b3, b4, b5, b6, b7, b8⟩ := cred_at_blk (blk_keep hB hc1 id)
  simp only [Nat.zero_add] at b0 b1 b2 b3 b4 b5 b6 b7 b8
  have H2 := hid (And.intro hy (hc0.trans hc1 (fun _ _ h => h)))
  clear HH hx hy hc0 hA hB hc1
  go_wp2_with fail
  refine (H2.out.1 _).mono ?_
  rintro e w4 ⟨rfl, hc4⟩
  have HC := hid (H2.out.2.trans hc4 (fun _ _ h => h))
  clear H2 hc4 b0 b1 b2 b3 b4 b5 b6 b7 b8
  cases h1 : Op.bytesLess x y with
  | true =>
    have hh : Hid (cmpC ⟨k, (ho, hw), who, (bo, bw), (co, cw), w2⟩ ⟨k', (ho', hw'), who', (bo', bw'), (co', cw'), w2'⟩ = -1) := hid (by rw [hD.out, show ltS x y = true from h1]; rfl)
    go_wp2
    go_ret
    exact ⟨by rw [hh.out]; rfl, HC.out⟩
  | false =>
    cases h2 : (x == y) with
    | false =>
      have hne : x ≠ y := by simpa using h2
      have h3 : ltS y x = true := by
        rcases ltS_ord.tri x y with q | q | q
        · rw [show ltS x y = false from h1] at q; cases q
        · exact absurd q hne
        · exact q
      have hh : Hid (cmpC ⟨k, (ho, hw), who, (bo, bw), (co, cw), w2⟩ ⟨k', (ho', hw'), who', (bo', bw'), (co', cw'), w2'⟩ = 1) := hid (by rw [hD.out, show ltS x y = false from h1, h3]; rfl)
      clear h3 hne
      go_wp2
      go_ret
      exact ⟨by rw [hh.out]; rfl, HC.out⟩
    | true =>
      have he : x = y := by simpa using h2
      have hh : Hid (cmpC ⟨k, (ho, hw), who, (bo, bw), (co, cw), w2⟩ ⟨k', (ho', hw'), who', (bo', bw'), (co', cw'), w2'⟩ = 0) := hid (by rw [hD.out, ← he, ltS_ord.irrefl]; rfl)
      clear he
      go_wp2
      go_ret
      exact ⟨by rw [hh.out]; rfl, HC.out⟩
end Go.Proofs.YtjflmhncgkbdmaaGreat

/- The contract of the document's Make. -/
namespace Go.Proofs.YtjflmhncgkbdmaaGreat
open Go.RowKit

set_option maxHeartbeats 400000 in
theorem refsum_any (s : ByteArray) (w : World) (hs : s.size ≤ 9223372036854775807) :
    Calls Tryz.prog 72 #[.string s] w fun e w' => e = .returned (.int .u64 (sumOf s.data.toList : Nat)) ∧ w = w' := by
  go_enter Tryz.func72, Tryz.ntmps72
  go_wp2
  go_loop [3, 4] (fun h i => ∃ k : Nat, k ≤ s.size ∧ i = .int .i64 k ∧ h = .int .u64 ((fnv fnvBasis (s.data.toList.take k) : Nat) : Int)) (fun _ i => s.size - (intOf i).toNat)
  case atStart => exact ⟨0, Nat.zero_le _, rfl, rfl⟩
  case round =>
    obtain ⟨k, hk, rfl, rfl⟩ := hrel
    by_cases hlt : k < s.size
    · have hw := fnvStep_walk (fnv fnvBasis (s.data.toList.take k)) s[k] (fnv_lt _ _ (by unfold fnvBasis two64; omega))
      have ht := fnv_take fnvBasis s.data.toList k (by simpa using hlt)
      have HS : Hid (IntKind.u64.wrap (bits .xor .u64 (fnv fnvBasis (s.data.toList.take k) : Int) (IntKind.u64.wrap (s[k].toNat : Int)) * 1099511628211) = ((fnv fnvBasis (s.data.toList.take (k + 1)) : Nat) : Int)) := by rw [hw, ht]; rfl
      clear hw ht
      go_wp2
      go_round
      case rel => exact ⟨k + 1, by omega, by go_num, by rw [HS.out]⟩
      case measure => simp [intOf]; omega
    · go_wp2
      go_ret
      refine ⟨?_, rfl⟩
      rw [List.take_of_length_le (by simp; omega)]
      rfl

/-- The last k bytes of eight. -/
def sfx (n k : Nat) : List UInt8 := (bytes8 n).drop (8 - k)
theorem sfx_zero (n : Nat) : sfx n 0 = [] := List.drop_eq_nil_of_le (by rw [bytes8_length]; omega)
theorem sfx_eight (n : Nat) : sfx n 8 = bytes8 n := List.drop_zero
theorem sfx_length (n k : Nat) (h : k ≤ 8) : (sfx n k).length = k := by rw [sfx, List.length_drop, bytes8_length]; omega
theorem pow256 (k : Nat) : 256 ^ k = 2 ^ (8 * k) := by rw [Nat.pow_mul]
theorem sfx_succ (n k : Nat) (h : k < 8) : sfx n (k + 1) = UInt8.ofNat (n / 256 ^ k % 256) :: sfx n k := by
  unfold sfx
  rw [List.drop_eq_getElem_cons (by rw [bytes8_length]; omega)]
  rw [show 8 - (k + 1) + 1 = 8 - k from by omega]
  congr 1
  simp only [bytes8, List.getElem_map, List.getElem_range]
  rw [pow256, show 8 * (7 - (8 - (k + 1))) = 8 * k from by omega]

set_option maxRecDepth 100000 in
theorem refmake_any (key b : List UInt8) (w : World) (h2 : key.length ≤ 32) (hb : b.length ≤ 70368744177664) :
    Calls Tryz.prog 41 #[.string ⟨key.toArray⟩, .string ⟨b.toArray⟩] w fun e w' => e = .returned (.string ⟨(tagOf key b).toArray⟩) ∧ Chg (fun _ => False) w w' := by
  have hcv := conv_one (UInt8.ofNat key.length) key.length w (by rw [ofNat_u8 _ (by omega)])
  go_enter Tryz.func41, Tryz.ntmps41
  have hbs : (⟨#[UInt8.ofNat key.length]⟩ ++ ⟨key.toArray⟩ ++ ⟨b.toArray⟩ ++ ⟨key.toArray⟩ : ByteArray) = ⟨([UInt8.ofNat key.length] ++ key ++ b ++ key).toArray⟩ := by
    rw [show (#[UInt8.ofNat key.length] : Array UInt8) = [UInt8.ofNat key.length].toArray from rfl, ByteArray.mk_append_mk, ByteArray.mk_append_mk, ByteArray.mk_append_mk]
  have HB := hid hbs
  clear hbs
  go_wp2_with fail
  clear hcv
  rw [HB.out]
  refine (refsum_any ⟨([UInt8.ofNat key.length] ++ key ++ b ++ key).toArray⟩ _ ?_).mono ?_
  · show ([UInt8.ofNat key.length] ++ key ++ b ++ key).toArray.size ≤ _
    simp
    omega
  rintro e w1 ⟨rfl, rfl⟩
  clear HB
  rw [show sumOf (⟨([UInt8.ofNat key.length] ++ key ++ b ++ key).toArray⟩ : ByteArray).data.toList = tagSum key b from rfl]
  have hlt := tagSum_lt key b
  have hc := (Chg.refl (fun _ => False) w).alloc (.cells #[.int .u8 (key.length : Int)] 5)
  obtain ⟨n, hn⟩ : ∃ n, n = tagSum key b := ⟨_, rfl⟩
  rw [← hn] at hlt ⊢
  have HN := hid hn
  clear hn
  generalize w.alloc (.cells #[.int .u8 (key.length : Int)] 5) = w1 at *
  go_wp2
  go_loopw [5, 6, 7] (fun h s i wr => ∃ k : Nat, k ≤ 8 ∧ i = .int .i64 k ∧ h = .int .u64 ((n / 256 ^ k : Nat) : Int) ∧ s = .string ⟨(sfx n k).toArray⟩ ∧ Chg (fun _ => False) w wr) (fun _ _ i _ => 8 - (intOf i).toNat)
  case atStart => exact ⟨0, by omega, rfl, by simp, by rw [sfx_zero], hc⟩
  case round =>
    clear hc
    obtain ⟨k, hk, rfl, rfl, rfl, hc⟩ := hrel
    by_cases hlt8 : k < 8
    · have hm : n / 256 ^ k < 18446744073709551616 := Nat.lt_of_le_of_lt (Nat.div_le_self _ _) hlt
      have hs := sfx_succ n k hlt8
      have hq : n / 256 ^ (k + 1) = n / 256 ^ k / 256 := by rw [Nat.pow_succ, Nat.div_div_eq_div_mul]
      have hl := sfx_length n k hk
      have HS := hid (And.intro hs hq)
      clear hs hq
      generalize n / 256 ^ k = m at *
      have hcv := conv_one (UInt8.ofNat (m % 256)) ((m : Int) % 256) wr (by rw [ofNat_u8 _ (by omega)]; omega)
      go_wp2
      go_roundw
      case rel =>
        refine ⟨k + 1, by omega, by go_num, ?_, ?_, hc.alloc _⟩
        · rw [HS.out.2]; rfl
        · rw [HS.out.1]
          exact congrArg Value.string (ByteArray.mk_append_mk [UInt8.ofNat (m % 256)] (sfx n k))
      case measure => simp [intOf]; omega
    · have hk8 : k = 8 := by omega
      subst hk8
      go_wp2
      go_ret
      refine ⟨?_, hc⟩
      rw [sfx_eight, HN.out]
      rfl
end Go.Proofs.YtjflmhncgkbdmaaGreat

/- The contract of the document's Check, of layer 6. -/
namespace Go.Proofs.YtjflmhncgkbdmaaGreat
open Go.RowKit

theorem reg_key {l : List KeyB} (h : newErr l = 0) (o : List UInt8) : (keyOf l o).length ≤ 32 := by
  unfold keyOf keyAt
  cases hf : l.find? (·.who == o) with
  | none => simp
  | some k =>
    have hm := List.mem_of_find?_eq_some hf
    exact (reg_mem h hm).2.2

theorem signErr_ok {l : List KeyB} {c : CredB} (h : signErr l c = 0) : isCred c = true ∧ hasWho l c.head.1 = true := by
  unfold signErr at h
  by_cases h1 : isCred c = true
  · rw [if_pos h1] at h
    by_cases h2 : hasWho l c.head.1 = true
    · exact ⟨h1, h2⟩
    · rw [if_neg h2] at h; cases h
  · rw [if_neg h1] at h; cases h

def rckSpecs (A : Nat) (c : CredB) (tag key : List UInt8) (ta : Option Addr) (cap : Nat) (d : Bool) : List Spec := [.any, .any, .any, .eq (.pointer (some ⟨A, 0, none⟩)), .any, .eq (.string ⟨key.toArray⟩), .eq (.int .i64 0), .any, .any, .any, .any, .any, .any, .any, .eq (.int .i64 0), .eq (.bool true), .eq (.bool true), .eq (.string ⟨key.toArray⟩), .eq (.pointer (some ⟨A, 0, none⟩)), .eq (credV c), .eq (.string ⟨(credEnc c).toArray⟩), .eq (.string ⟨(tagOf key (credEnc c)).toArray⟩), .eq (.pointer (some ⟨A, 9, none⟩)), .eq (.slice ta tag.length cap), .eq (.string ⟨tag.toArray⟩), .eq (.bool d), .eq (.bool d), .any]
def rckSpecsN (A : Nat) (e : Int) : List Spec := [.any, .any, .any, .eq (.pointer (some ⟨A, 0, none⟩)), .any, .any, .eq (.int .i64 e), .any, .any, .any, .any, .any, .any, .any, .eq (.int .i64 e), .eq (.bool false), .eq (.bool false), .any, .any, .any, .any, .any, .any, .any, .any, .any, .eq (.bool false), .any]

set_option maxRecDepth 100000 in
set_option maxHeartbeats 2000000 in
theorem rcheck_any {D E : Nat → Prop} (ao : Option Addr) (cp : Nat) (l : List KeyB) (c : CredB) (tag : List UInt8) (ta : Option Addr) (cap : Nat) (w : World) (hn : l.length ≤ 4611686018427387904) (h : KeysAt D w ao l) (hreg : newErr l = 0) (hs : credShort c 1048576) (hce0 : isCred c = true → (credEnc c).length ≤ 1048576) (hb : BytesAt E w (.slice ta tag.length cap) tag) :
    Calls Tryz.prog 15 #[.slice ao l.length cp, signV c (.slice ta tag.length cap)] w fun e w' => e = .returned (.int .i64 (checkErr l ⟨c, tag⟩)) ∧ Chg (fun _ => False) w w' := by
  have hA1 : (w.alloc (.cells #[.int .i64 c.kind, .string ⟨c.head.1.toArray⟩, .string ⟨c.head.2.toArray⟩, .string ⟨c.who.toArray⟩, .string ⟨c.b.1.toArray⟩, .string ⟨c.b.2.toArray⟩, .string ⟨c.c.1.toArray⟩, .string ⟨c.c.2.toArray⟩, .string ⟨c.w2.toArray⟩, .slice ta tag.length cap] 38)).heap[w.heap.size]? = some (.cells (signBox c (.slice ta tag.length cap)) 38 (0, 0)) := heap_alloc_new w _
  have hc1 : Chg (fun _ => False) w (w.alloc (.cells #[.int .i64 c.kind, .string ⟨c.head.1.toArray⟩, .string ⟨c.head.2.toArray⟩, .string ⟨c.who.toArray⟩, .string ⟨c.b.1.toArray⟩, .string ⟨c.b.2.toArray⟩, .string ⟨c.c.1.toArray⟩, .string ⟨c.c.2.toArray⟩, .string ⟨c.w2.toArray⟩, .slice ta tag.length cap] 38)) := (Chg.refl _ w).alloc _
  have hkc := rkey_any ao cp l c (w.alloc (.cells #[.int .i64 c.kind, .string ⟨c.head.1.toArray⟩, .string ⟨c.head.2.toArray⟩, .string ⟨c.who.toArray⟩, .string ⟨c.b.1.toArray⟩, .string ⟨c.b.2.toArray⟩, .string ⟨c.c.1.toArray⟩, .string ⟨c.c.2.toArray⟩, .string ⟨c.w2.toArray⟩, .slice ta tag.length cap] 38)) hn (h.keep hc1 (fun _ _ => id)) (hs.mono (by decide))
  have HH := hid (And.intro hkc (And.intro hA1 (And.intro hc1 (hb.keep hc1 (fun _ _ => id)))))
  have hlen := reg_key hreg c.head.1
  have HK0 := hid hlen
  clear hkc hA1 hc1 hb hlen hreg
  show Calls Tryz.prog 15 #[.slice ao l.length cp, .agg #[.int .i64 c.kind, .string ⟨c.head.1.toArray⟩, .string ⟨c.head.2.toArray⟩, .string ⟨c.who.toArray⟩, .string ⟨c.b.1.toArray⟩, .string ⟨c.b.2.toArray⟩, .string ⟨c.c.1.toArray⟩, .string ⟨c.c.2.toArray⟩, .string ⟨c.w2.toArray⟩, .slice ta tag.length cap]] w _
  go_enter Tryz.func15, Tryz.ntmps15
  go_wp2_with fail
  obtain ⟨hkc, hA1, hc1, hb⟩ := HH.out
  clear HH
  generalize (w.alloc (.cells #[.int .i64 c.kind, .string ⟨c.head.1.toArray⟩, .string ⟨c.head.2.toArray⟩, .string ⟨c.who.toArray⟩, .string ⟨c.b.1.toArray⟩, .string ⟨c.b.2.toArray⟩, .string ⟨c.c.1.toArray⟩, .string ⟨c.c.2.toArray⟩, .string ⟨c.w2.toArray⟩, .slice ta tag.length cap] 38)) = w1 at *
  refine hkc.mono ?_
  rintro e w2 ⟨rfl, hc12⟩
  have hA2 := blk_keep hA1 hc12 id
  have hc2 := hc1.trans hc12 (fun _ _ h => h)
  have hb2 := hb.keep hc12 (fun _ _ => id)
  clear hkc hA1 hc1 hc12 hb
  generalize w.heap.size = A at *
  have HX := hid (And.intro hA2 hb2)
  have HC := hid hc2
  clear hA2 hb2 hc2 h
  by_cases h0 : signErr l c = 0
  · obtain ⟨hi, _⟩ := signErr_ok h0
    obtain ⟨n, hk1, hn2⟩ := isCred_nat hi
    have hce := hce0 hi
    have HE : Hid (keyStr l c = keyOf l c.head.1 ∧ checkErr l ⟨c, tag⟩ = if tagOf (keyOf l c.head.1) (credEnc c) = tag then 0 else 20) := hid ⟨by rw [keyStr, h0]; rfl, by rw [checkErr, if_pos h0]; rfl⟩
    have hn1 := hid hk1
    rw [h0, HE.out.1]
    obtain ⟨key, hkey⟩ : ∃ key, keyOf l c.head.1 = key := ⟨_, rfl⟩
    rw [hkey]
    have HK : Hid (key.length ≤ 32) := hid (by rw [← hkey]; exact HK0.out)
    have HE2 : Hid (checkErr l ⟨c, tag⟩ = if tagOf key (credEnc c) = tag then 0 else 20) := hid (by rw [HE.out.2, hkey])
    have hce : (credEnc c).length ≤ 70368744177664 := by omega
    obtain ⟨d, hd⟩ : ∃ d, (!(tagOf key (credEnc c) == tag)) = d := ⟨_, rfl⟩
    have HD := hid hd
    clear hkey hk1 h0 HE hi hce0 hd
    go_wp2_with fail
    refine wp_region_specs (rckSpecs A c tag key ta cap d) [14, 15, 16, 17, 18, 19, 20, 21, 22, 23, 24, 25, 26] [3, 5, 6] (by kernel_rfl) (by kernel_rfl) (by rfl) (by kernel_rfl) ?start ?obs ?fin
    case start =>
      simp only [List.forall_mem_cons]
      exact ⟨⟨_, rfl, rfl⟩, ⟨_, rfl, rfl⟩, ⟨_, rfl, rfl⟩, fun _ h => by cases h⟩
    case obs =>
      clear HC HE2
      refine Obs.cons none (by kernel_rfl) ?_ ?_
      · refine Ob.plain fun a w hR hk K k => ?_
        obtain ⟨_, e6, f6⟩ := hk 6 (by decide)
        clear hk
        go_simp
        exact k _ _ (Chg.refl _ _) f6
      refine Obs.cons none (by kernel_rfl) ?_ ?_
      · refine Ob.plain fun a w hR hk K k => ?_
        obtain ⟨_, e14, rfl⟩ := hk 14 (by decide)
        clear hk
        go_simp
        exact k _ _ (Chg.refl _ _) rfl
      refine Obs.cons none (by kernel_rfl) ?_ ?_
      · refine Ob.plain fun a w hR hk K k => ?_
        obtain ⟨_, e15, f15⟩ := hk 15 (by decide)
        clear hk
        go_simp
        exact k _ _ (Chg.refl _ _) f15
      refine Obs.cons (some (16, true)) (by kernel_rfl) ?_ ?_
      · refine Ob.yes (fun _ _ h => h) fun a w hR hk K k => ?_
        obtain ⟨_, e5, f5⟩ := hk 5 (by decide)
        clear hk
        go_simp
        exact k _ _ (Chg.refl _ _) f5
      refine Obs.cons (some (16, true)) (by kernel_rfl) ?_ ?_
      · refine Ob.yes (fun _ _ h => h) fun a w hR hk K k => ?_
        obtain ⟨_, e3, rfl⟩ := hk 3 (by decide)
        clear hk
        go_simp
        exact k _ _ (Chg.refl _ _) rfl
      refine Obs.cons (some (16, true)) (by kernel_rfl) ?_ ?_
      · refine Ob.yes (fun _ _ h => h) fun a w hR hk K k => ?_
        obtain ⟨_, e18, rfl⟩ := hk 18 (by decide)
        clear hk
        obtain ⟨hq, _⟩ := cred_at_sign HX.out.1
        obtain ⟨y0, y1, y2, y3, y4, y5, y6, y7, y8⟩ := hq.keep hR id
        simp only [Nat.zero_add] at y0 y1 y2 y3 y4 y5 y6 y7 y8
        clear hq
        go_simp
        exact k _ _ (Chg.refl _ _) rfl
      refine Obs.cons (some (16, true)) (by kernel_rfl) ?_ ?_
      · refine Ob.yes (fun _ _ h => h) fun a w hR hk K k => ?_
        obtain ⟨_, e19, rfl⟩ := hk 19 (by decide)
        clear hk
        go_simp
        refine (cbytes_ref c _ n hn1.out hn2 hs).mono ?_
        rintro e w2 ⟨rfl, hc⟩
        exact k _ _ hc rfl
      refine Obs.cons (some (16, true)) (by kernel_rfl) ?_ ?_
      · refine Ob.yes (fun _ _ h => h) fun a w hR hk K k => ?_
        obtain ⟨_, e17, rfl⟩ := hk 17 (by decide)
        obtain ⟨_, e20, rfl⟩ := hk 20 (by decide)
        clear hk
        go_simp
        refine (refmake_any key (credEnc c) _ HK.out hce).mono ?_
        rintro e w2 ⟨rfl, hc⟩
        exact k _ _ hc rfl
      refine Obs.cons (some (16, true)) (by kernel_rfl) ?_ ?_
      · refine Ob.yes (fun _ _ h => h) fun a w hR hk K k => ?_
        obtain ⟨_, e3, rfl⟩ := hk 3 (by decide)
        clear hk
        go_simp
        exact k _ _ (Chg.refl _ _) rfl
      refine Obs.cons (some (16, true)) (by kernel_rfl) ?_ ?_
      · refine Ob.yes (fun _ _ h => h) fun a w hR hk K k => ?_
        obtain ⟨_, e22, rfl⟩ := hk 22 (by decide)
        clear hk
        have z9 := hR.cell (cred_at_sign HX.out.1).2 id
        go_simp
        exact k _ _ (Chg.refl _ _) rfl
      refine Obs.cons (some (16, true)) (by kernel_rfl) ?_ ?_
      · refine Ob.yes (fun _ _ h => h) fun a w hR hk K k => ?_
        obtain ⟨_, e23, rfl⟩ := hk 23 (by decide)
        clear hk
        have hcv := conv_bytes (HX.out.2.keep hR (fun _ _ => id))
        go_simp
        exact k _ _ (Chg.refl _ _) rfl
      refine Obs.cons (some (16, true)) (by kernel_rfl) ?_ ?_
      · refine Ob.yes (fun _ _ h => h) fun a w hR hk K k => ?_
        obtain ⟨_, e21, rfl⟩ := hk 21 (by decide)
        obtain ⟨_, e24, rfl⟩ := hk 24 (by decide)
        clear hk
        go_simp
        exact k _ _ (Chg.refl _ _) (congrArg Value.bool HD.out)
      refine Obs.cons none (by kernel_rfl) ?_ ?_
      · refine Ob.plain fun a w hR hk K k => ?_
        obtain ⟨_, e16, rfl⟩ := hk 16 (by decide)
        obtain ⟨_, e25, rfl⟩ := hk 25 (by decide)
        clear hk
        go_simp
        exact k _ _ (Chg.refl _ _) rfl
      exact Obs.nil
    case fin =>
      intro vals w9 hc9 hv
      have h26 : vals 26 = .bool d := hv 26 (by decide)
      simp only [putAll, List.setIfInBounds_toArray, List.set_cons_zero, List.set_cons_succ, h26]
      have HC9 := hid (HC.out.trans hc9 (fun _ _ h => h))
      clear hc9 hv h26 HC HX
      cases d with
      | true =>
        have HF : Hid (checkErr l ⟨c, tag⟩ = 20) := hid (by
          rw [HE2.out, if_neg]
          have := HD.out
          simpa using this)
        go_wp2
        go_ret
        exact ⟨by rw [HF.out]; rfl, HC9.out⟩
      | false =>
        have HF : Hid (checkErr l ⟨c, tag⟩ = 0) := hid (by
          rw [HE2.out, if_pos]
          have := HD.out
          simpa using this)
        go_wp2
        go_ret
        exact ⟨by rw [HF.out]; rfl, HC9.out⟩
  · have HF : Hid (checkErr l ⟨c, tag⟩ = signErr l c) := hid (by rw [checkErr, if_neg h0])
    obtain ⟨e0, he0⟩ : ∃ e0 : Int, ((signErr l c : Nat) : Int) = e0 := ⟨_, rfl⟩
    have hne : (e0 == 0) = false := beq_eq_false_iff_ne.2 (by omega)
    rw [he0]
    have HE := hid he0
    have HNE := hid hne
    clear he0 h0 hne hce0
    go_wp2_with fail
    refine wp_region_specs (rckSpecsN A e0) [14, 15, 16, 17, 18, 19, 20, 21, 22, 23, 24, 25, 26] [3, 5, 6] (by kernel_rfl) (by kernel_rfl) (by rfl) (by kernel_rfl) ?start2 ?obs2 ?fin2
    case start2 =>
      simp only [List.forall_mem_cons]
      exact ⟨⟨_, rfl, rfl⟩, ⟨_, rfl, trivial⟩, ⟨_, rfl, rfl⟩, fun _ h => by cases h⟩
    case obs2 =>
      clear HC HF
      have hne := HNE.out
      refine Obs.cons none (by kernel_rfl) ?_ ?_
      · refine Ob.plain fun a w hR hk K k => ?_
        obtain ⟨_, e6, f6⟩ := hk 6 (by decide)
        clear hk
        go_simp
        exact k _ _ (Chg.refl _ _) f6
      refine Obs.cons none (by kernel_rfl) ?_ ?_
      · refine Ob.plain fun a w hR hk K k => ?_
        obtain ⟨_, e14, rfl⟩ := hk 14 (by decide)
        clear hk
        go_simp
        exact k _ _ (Chg.refl _ _) rfl
      refine Obs.cons none (by kernel_rfl) ?_ ?_
      · refine Ob.plain fun a w hR hk K k => ?_
        obtain ⟨_, e15, f15⟩ := hk 15 (by decide)
        clear hk
        go_simp
        exact k _ _ (Chg.refl _ _) f15
      refine Obs.cons (some (16, true)) (by kernel_rfl) ?_ ?_
      · exact Ob.no (fun _ _ h => h) (Chg.refl _) (fun _ _ => trivial)
      refine Obs.cons (some (16, true)) (by kernel_rfl) ?_ ?_
      · exact Ob.no (fun _ _ h => h) (Chg.refl _) (fun _ _ => trivial)
      refine Obs.cons (some (16, true)) (by kernel_rfl) ?_ ?_
      · exact Ob.no (fun _ _ h => h) (Chg.refl _) (fun _ _ => trivial)
      refine Obs.cons (some (16, true)) (by kernel_rfl) ?_ ?_
      · exact Ob.no (fun _ _ h => h) (Chg.refl _) (fun _ _ => trivial)
      refine Obs.cons (some (16, true)) (by kernel_rfl) ?_ ?_
      · exact Ob.no (fun _ _ h => h) (Chg.refl _) (fun _ _ => trivial)
      refine Obs.cons (some (16, true)) (by kernel_rfl) ?_ ?_
      · exact Ob.no (fun _ _ h => h) (Chg.refl _) (fun _ _ => trivial)
      refine Obs.cons (some (16, true)) (by kernel_rfl) ?_ ?_
      · exact Ob.no (fun _ _ h => h) (Chg.refl _) (fun _ _ => trivial)
      refine Obs.cons (some (16, true)) (by kernel_rfl) ?_ ?_
      · exact Ob.no (fun _ _ h => h) (Chg.refl _) (fun _ _ => trivial)
      refine Obs.cons (some (16, true)) (by kernel_rfl) ?_ ?_
      · exact Ob.no (fun _ _ h => h) (Chg.refl _) (fun _ _ => trivial)
      refine Obs.cons none (by kernel_rfl) ?_ ?_
      · refine Ob.plain fun a w hR hk K k => ?_
        obtain ⟨_, e16, rfl⟩ := hk 16 (by decide)
        obtain ⟨_, e25, _⟩ := hk 25 (by decide)
        clear hk
        go_simp
        exact k _ _ (Chg.refl _ _) rfl
      exact Obs.nil
    case fin2 =>
      intro vals w9 hc9 hv
      have h26 : vals 26 = .bool false := hv 26 (by decide)
      simp only [putAll, List.setIfInBounds_toArray, List.set_cons_zero, List.set_cons_succ, h26]
      have HC9 := hid (HC.out.trans hc9 (fun _ _ h => h))
      clear hc9 hv h26 HC HX
      go_wp2
      go_ret
      exact ⟨by rw [HF.out, HE.out]; rfl, HC9.out⟩
end Go.Proofs.YtjflmhncgkbdmaaGreat
