/- The contracts of the document's Bytes, bytes and Compare of layer 5. -/
import Derived.Test.YtjaplnainlbldaaUc6
import Derived.Test.YtjaplnainlbldaaUc8
namespace Go.Proofs.Ytjaplnainlbldaa
open Go.RowKit

def cbytesSpecs (A n : Nat) (ho hw : List UInt8) : List Spec :=
  [.any, .eq (.pointer (some ⟨A, 0, none⟩)), .any, .eq (.string ⟨(enc n ++ roleEnc (ho, hw)).toArray⟩), .eq (.pointer (some ⟨A, 0, none⟩)), .eq (.int .i64 n), .eq (.string ⟨(enc n).toArray⟩), .eq (.pointer (some ⟨A, 1, none⟩)), .eq (roleV (ho, hw)), .eq (.string ⟨(roleEnc (ho, hw)).toArray⟩), .eq (.string ⟨(enc n ++ roleEnc (ho, hw)).toArray⟩)]

theorem roleEnc_len (r : RoleB) (h1 : r.1.length ≤ 1048576) (h2 : r.2.length ≤ 1048576) : (roleEnc r).length ≤ 2097200 := by
  have l1 := enc_length9 (n := r.1.length) (by omega)
  have l2 := enc_length9 (n := r.2.length) (by omega)
  simp only [roleEnc, List.length_append]
  omega

theorem encS_len (s : List UInt8) (h1 : s.length ≤ 1048576) : (encS s).length ≤ 1048600 := by
  have l1 := enc_length9 (n := s.length) (by omega)
  simp only [encS, List.length_append]
  omega

set_option maxRecDepth 100000 in
set_option maxHeartbeats 2000000 in
theorem cbytes_ref (c : CredB) (w : World) (n : Nat) (hk : c.kind = n) (hn : n < 9223372036854775808) (hs : credShort c 1048576) :
    Calls Try.prog 114 #[credV c] w fun e w' => e = .returned (.string ⟨(credEnc c).toArray⟩) ∧ Chg (fun _ => False) w w' := by
  have hc0 : Chg (fun _ => False) w (w.alloc (.cells (credBox c) 36)) := (Chg.refl _ w).alloc _
  have hd := cred_at_blk (heap_alloc_new w (.cells (credBox c) 36))
  obtain ⟨k, ⟨ho, hw⟩, who, ⟨bo, bw⟩, ⟨co, cw⟩, w2⟩ := c
  obtain ⟨s1, s2, s3, s4, s5, s6, s7, s8⟩ := hs
  dsimp only at s1 s2 s3 s4 s5 s6 s7 s8 hk
  subst hk
  obtain ⟨a0, a1, a2, a3, a4, a5, a6, a7, a8⟩ := hd
  simp only [Nat.zero_add, credBox] at a0 a1 a2 a3 a4 a5 a6 a7 a8
  simp only [credBox] at hc0
  have hE : Hid (credEnc ⟨(n : Int), (ho, hw), who, (bo, bw), (co, cw), w2⟩ = (enc n ++ roleEnc (ho, hw)) ++ credTail ⟨(n : Int), (ho, hw), who, (bo, bw), (co, cw), w2⟩) := hid (by simp [credEnc])
  have l1 := enc_length9 (n := n) (by omega)
  have l2 := roleEnc_len (ho, hw) s1 s2
  have l3 := roleEnc_len (bo, bw) s4 s5
  have l4 := roleEnc_len (co, cw) s6 s7
  have l5 := encS_len who s3
  have l6 := encS_len w2 s8
  show Calls Try.prog 114 #[.agg #[.int .i64 n, .string ⟨ho.toArray⟩, .string ⟨hw.toArray⟩, .string ⟨who.toArray⟩, .string ⟨bo.toArray⟩, .string ⟨bw.toArray⟩, .string ⟨co.toArray⟩, .string ⟨cw.toArray⟩, .string ⟨w2.toArray⟩]] w _
  go_enter Try.func114, Try.ntmps114
  go_wp2_with fail
  generalize w.alloc (.cells #[.int .i64 (n : Int), .string ⟨ho.toArray⟩, .string ⟨hw.toArray⟩, .string ⟨who.toArray⟩, .string ⟨bo.toArray⟩, .string ⟨bw.toArray⟩, .string ⟨co.toArray⟩, .string ⟨cw.toArray⟩, .string ⟨w2.toArray⟩] 36) = w1 at *
  generalize w.heap.size = A at *
  refine wp_region_specs (cbytesSpecs A n ho hw) [4, 5, 6, 7, 8, 9, 10, 3] [1] (by kernel_rfl) (by kernel_rfl) (by rfl) (by kernel_rfl) ?start ?obs ?fin
  case start =>
    simp only [List.forall_mem_cons]
    exact ⟨⟨_, rfl, rfl⟩, fun _ h => by cases h⟩
  case obs =>
    clear hc0 hE
    refine Obs.cons none (by kernel_rfl) ?_ ?_
    · refine Ob.plain fun a w hR hk K k => ?_
      obtain ⟨_, e1, rfl⟩ := hk 1 (by decide)
      clear hk
      go_simp
      exact k _ _ (Chg.refl _ _) rfl
    refine Obs.cons none (by kernel_rfl) ?_ ?_
    · refine Ob.plain fun a w hR hk K k => ?_
      obtain ⟨_, e4, rfl⟩ := hk 4 (by decide)
      clear hk
      have q0 := hR.cell a0 id
      go_simp
      exact k _ _ (Chg.refl _ _) rfl
    refine Obs.cons none (by kernel_rfl) ?_ ?_
    · refine Ob.plain fun a w hR hk K k => ?_
      obtain ⟨_, e5, rfl⟩ := hk 5 (by decide)
      clear hk
      go_simp
      refine (refnum_any n _ hn).mono ?_
      rintro e w2 ⟨rfl, hc⟩
      exact k _ _ hc rfl
    refine Obs.cons none (by kernel_rfl) ?_ ?_
    · refine Ob.plain fun a w hR hk K k => ?_
      obtain ⟨_, e1, rfl⟩ := hk 1 (by decide)
      clear hk
      go_simp
      exact k _ _ (Chg.refl _ _) rfl
    refine Obs.cons none (by kernel_rfl) ?_ ?_
    · refine Ob.plain fun a w hR hk K k => ?_
      obtain ⟨_, e7, rfl⟩ := hk 7 (by decide)
      clear hk
      have q0 := hR.cell a1 id
      have q1 := hR.cell a2 id
      go_simp
      exact k _ _ (Chg.refl _ _) rfl
    refine Obs.cons none (by kernel_rfl) ?_ ?_
    · refine Ob.plain fun a w hR hk K k => ?_
      obtain ⟨_, e8, rfl⟩ := hk 8 (by decide)
      clear hk
      go_simp
      refine (rbytes_ref (ho, hw) _ s1 s2).mono ?_
      rintro e w2 ⟨rfl, hc⟩
      exact k _ _ hc rfl
    refine Obs.cons none (by kernel_rfl) ?_ ?_
    · refine Ob.plain fun a w hR hk K k => ?_
      obtain ⟨_, e6, rfl⟩ := hk 6 (by decide)
      obtain ⟨_, e9, rfl⟩ := hk 9 (by decide)
      clear hk
      obtain ⟨u, hu⟩ : ∃ u, u = enc n := ⟨_, rfl⟩
      obtain ⟨v, hv⟩ : ∃ v, v = roleEnc (ho, hw) := ⟨_, rfl⟩
      have hb : ¬ 9223372036854775807 < u.length + v.length := by rw [hu, hv]; omega
      rw [← hu] at e6
      rw [← hv] at e9
      have HU := hid (And.intro hu hv)
      clear hu hv
      go_simp
      exact k _ _ (Chg.refl _ _) (congrArg Value.string ((ByteArray.mk_append_mk u v).trans (by rw [HU.out.1, HU.out.2])))
    refine Obs.cons none (by kernel_rfl) ?_ Obs.nil
    · refine Ob.plain fun a w hR hk K k => ?_
      obtain ⟨_, e10, rfl⟩ := hk 10 (by decide)
      clear hk
      go_simp
      exact k _ _ (Chg.refl _ _) rfl
  case fin =>
    intro vals w3 hc3 hv
    have h3 : vals 3 = .string ⟨(enc n ++ roleEnc (ho, hw)).toArray⟩ := hv 3 (by decide)
    replace a0 := hc3.cell a0 id
    replace a3 := hc3.cell a3 id
    replace a4 := hc3.cell a4 id
    replace a5 := hc3.cell a5 id
    replace a6 := hc3.cell a6 id
    replace a7 := hc3.cell a7 id
    replace a8 := hc3.cell a8 id
    have HC := hid (hc0.trans hc3 (fun _ _ h => h))
    clear hc0 hc3 hv a1 a2
    simp only [putAll, List.setIfInBounds_toArray, List.set_cons_zero, List.set_cons_succ, h3]
    clear h3
    have l7 : (enc n ++ roleEnc (ho, hw)).length ≤ 2097300 := by rw [List.length_append]; omega
    generalize enc n ++ roleEnc (ho, hw) = eh at *
    clear l1 l2
    by_cases k1 : n = 1
    · subst k1
      go_wp2_with fail
      refine (reftext_any who _ (by omega)).mono ?_
      rintro e w4 ⟨rfl, hc4⟩
      have HC2 := hid (HC.out.trans hc4 (fun _ _ h => h))
      clear HC hc4
      have hT : Hid (credTail ⟨((1 : Nat) : Int), (ho, hw), who, (bo, bw), (co, cw), w2⟩ = encS who) := hid rfl
      rw [show enc who.length ++ who = encS who from rfl]
      generalize encS who = t at *
      have b1 : ¬ 9223372036854775807 < eh.length + t.length := by omega
      go_wp2
      go_ret
      exact ⟨congrArg (fun b => Ending.returned (.string b)) ((ByteArray.mk_append_mk eh t).trans (by rw [hE.out, hT.out])), HC2.out⟩
    · have z1 : ((n : Int) == 1) = false := beq_eq_false_iff_ne.2 (by omega)
      go_wp2_with fail
      refine (rbytes_ref (bo, bw) _ s4 s5).mono ?_
      rintro e w4 ⟨rfl, hc4⟩
      replace a0 := hc4.cell a0 id
      replace a6 := hc4.cell a6 id
      replace a7 := hc4.cell a7 id
      replace a8 := hc4.cell a8 id
      have HC2 := hid (HC.out.trans hc4 (fun _ _ h => h))
      clear HC hc4 a3 a4 a5
      have hT : Hid (credTail ⟨(n : Int), (ho, hw), who, (bo, bw), (co, cw), w2⟩ = (if (n : Int) = 3 then roleEnc (bo, bw) ++ encS w2 else if (n : Int) = 4 then roleEnc (bo, bw) ++ roleEnc (co, cw) else roleEnc (bo, bw))) := hid (by rw [credTail, if_neg (by show ¬ (n : Int) = 1; omega)])
      generalize roleEnc (bo, bw) = tb at *
      have b1 : ¬ 9223372036854775807 < eh.length + tb.length := by omega
      by_cases k3 : n = 3
      · subst k3
        rw [if_pos (by decide)] at hT
        go_wp2_with fail
        refine (reftext_any w2 _ (by omega)).mono ?_
        rintro e w5 ⟨rfl, hc5⟩
        replace a0 := hc5.cell a0 id
        have HC3 := hid (HC2.out.trans hc5 (fun _ _ h => h))
        clear HC2 hc5
        rw [show enc w2.length ++ w2 = encS w2 from rfl]
        generalize encS w2 = t at *
        have b2 : ¬ 9223372036854775807 < eh.length + tb.length + t.length := by omega
        go_wp2
        go_ret
        refine ⟨congrArg (fun b => Ending.returned (.string b)) ?_, HC3.out⟩
        show (⟨eh.toArray⟩ : ByteArray) ++ ⟨tb.toArray⟩ ++ ⟨t.toArray⟩ = _
        rw [ByteArray.mk_append_mk, ByteArray.mk_append_mk, hE.out, hT.out, List.append_assoc]
      · have z3 : ((n : Int) == 3) = false := beq_eq_false_iff_ne.2 (by omega)
        rw [if_neg (by omega)] at hT
        by_cases k4 : n = 4
        · subst k4
          rw [if_pos (by decide)] at hT
          go_wp2_with fail
          refine (rbytes_ref (co, cw) _ s6 s7).mono ?_
          rintro e w5 ⟨rfl, hc5⟩
          have HC3 := hid (HC2.out.trans hc5 (fun _ _ h => h))
          clear HC2 hc5
          generalize roleEnc (co, cw) = t at *
          have b2 : ¬ 9223372036854775807 < eh.length + tb.length + t.length := by omega
          go_wp2
          go_ret
          refine ⟨congrArg (fun b => Ending.returned (.string b)) ?_, HC3.out⟩
          show (⟨eh.toArray⟩ : ByteArray) ++ ⟨tb.toArray⟩ ++ ⟨t.toArray⟩ = _
          rw [ByteArray.mk_append_mk, ByteArray.mk_append_mk, hE.out, hT.out, List.append_assoc]
        · have z4 : ((n : Int) == 4) = false := beq_eq_false_iff_ne.2 (by omega)
          rw [if_neg (by omega)] at hT
          go_wp2
          go_ret
          exact ⟨congrArg (fun b => Ending.returned (.string b)) ((ByteArray.mk_append_mk eh tb).trans (by rw [hE.out, hT.out])), HC2.out⟩

theorem isCred_nat {c : CredB} (h : isCred c = true) : ∃ n : Nat, c.kind = n ∧ n < 9223372036854775808 := by
  refine ⟨c.kind.toNat, ?_, ?_⟩
  · unfold isCred at h
    by_cases h1 : c.kind = 1
    · omega
    · by_cases h2 : c.kind = 2
      · omega
      · by_cases h3 : c.kind = 3
        · omega
        · rw [if_neg h1, if_neg h2, if_neg h3] at h
          simp only [Bool.and_eq_true, beq_iff_eq] at h
          omega
  · unfold isCred at h
    by_cases h1 : c.kind = 1
    · omega
    · by_cases h2 : c.kind = 2
      · omega
      · by_cases h3 : c.kind = 3
        · omega
        · rw [if_neg h1, if_neg h2, if_neg h3] at h
          simp only [Bool.and_eq_true, beq_iff_eq] at h
          omega

theorem credShort.mono {c : CredB} {m n : Nat} (h : credShort c m) (hm : m ≤ n) : credShort c n := by
  obtain ⟨s1, s2, s3, s4, s5, s6, s7, s8⟩ := h
  exact ⟨by omega, by omega, by omega, by omega, by omega, by omega, by omega, by omega⟩

set_option maxRecDepth 100000 in
theorem cbytesof_ref (c : CredB) (w : World) (hs : credShort c 1048576) :
    Calls Try.prog 89 #[credV c] w fun e w' => e = .returned (.string ⟨(credBytes c).toArray⟩) ∧ Chg (fun _ => False) w w' := by
  have hc0 : Chg (fun _ => False) w (w.alloc (.cells (credBox c) 36)) := (Chg.refl _ w).alloc _
  have hA := heap_alloc_new w (.cells (credBox c) 36)
  have hr := fun w1 => cright_ref c w1 (hs.mono (by omega))
  cases hi : isCred c with
  | false =>
    have hB : Hid (credBytes c = []) := hid (by simp [credBytes, hi])
    rw [hi] at hr
    obtain ⟨k, ⟨ho, hw⟩, who, ⟨bo, bw⟩, ⟨co, cw⟩, w2⟩ := c
    show Calls Try.prog 89 #[.agg #[.int .i64 k, .string ⟨ho.toArray⟩, .string ⟨hw.toArray⟩, .string ⟨who.toArray⟩, .string ⟨bo.toArray⟩, .string ⟨bw.toArray⟩, .string ⟨co.toArray⟩, .string ⟨cw.toArray⟩, .string ⟨w2.toArray⟩]] w _
    clear hA
    have HH := hid (And.intro hr hc0)
    clear hr hc0
    go_enter Try.func89, Try.ntmps89
    go_wp2_with fail
    refine (HH.out.1 _).mono ?_
    rintro e w1 ⟨rfl, hc1⟩
    have HC := hid (HH.out.2.trans hc1 (fun _ _ h => h))
    clear HH hc1
    go_wp2
    go_ret
    exact ⟨by rw [hB.out]; rfl, HC.out⟩
  | true =>
    have hB : Hid (credBytes c = credEnc c) := hid (by simp [credBytes, hi])
    rw [hi] at hr
    obtain ⟨n, hn1, hn2⟩ := isCred_nat hi
    have hb := fun w1 => cbytes_ref c w1 n hn1 hn2 hs
    clear hn1 hi
    obtain ⟨k, ⟨ho, hw⟩, who, ⟨bo, bw⟩, ⟨co, cw⟩, w2⟩ := c
    show Calls Try.prog 89 #[.agg #[.int .i64 k, .string ⟨ho.toArray⟩, .string ⟨hw.toArray⟩, .string ⟨who.toArray⟩, .string ⟨bo.toArray⟩, .string ⟨bw.toArray⟩, .string ⟨co.toArray⟩, .string ⟨cw.toArray⟩, .string ⟨w2.toArray⟩]] w _
    have HH := hid (And.intro hr (And.intro hb (And.intro hc0 hA)))
    clear hr hc0 hA hb
    go_enter Try.func89, Try.ntmps89
    go_wp2_with fail
    obtain ⟨hr, hb, hc0, hA⟩ := HH.out
    refine (hr _).mono ?_
    rintro e w1 ⟨rfl, hc1⟩
    obtain ⟨a0, a1, a2, a3, a4, a5, a6, a7, a8⟩ := cred_at_blk (blk_keep hA hc1 id)
    simp only [Nat.zero_add] at a0 a1 a2 a3 a4 a5 a6 a7 a8
    have HH2 := hid (And.intro hb (hc0.trans hc1 (fun _ _ h => h)))
    clear HH hr hb hc0 hA hc1
    go_wp2_with fail
    refine (HH2.out.1 _).mono ?_
    rintro e w3 ⟨rfl, hc3⟩
    have HC := hid (HH2.out.2.trans hc3 (fun _ _ h => h))
    clear HH2 hc3
    generalize credEnc _ = u at *
    go_wp2
    go_ret
    exact ⟨by rw [hB.out]; rfl, HC.out⟩

set_option maxRecDepth 100000 in
theorem ccompare_ref (a b : CredB) (w : World) (ha : credShort a 1048576) (hb : credShort b 1048576) :
    Calls Try.prog 47 #[credV a, credV b] w fun e w' => e = .returned (.int .i64 (cmpC a b)) ∧ Chg (fun _ => False) w w' := by
  have hc0 : Chg (fun _ => False) w ((w.alloc (.cells (credBox a) 36)).alloc (.cells (credBox b) 36)) := ((Chg.refl _ w).alloc _).alloc _
  have hA := blk_keep (heap_alloc_new w (.cells (credBox a) 36)) ((Chg.refl (fun _ => False) _).alloc (.cells (credBox b) 36)) id
  have hB := heap_alloc_new (w.alloc (.cells (credBox a) 36)) (.cells (credBox b) 36)
  rw [show (w.alloc (.cells (credBox a) 36)).heap.size = w.heap.size + 1 by simp] at hB
  have hx := fun w1 => cbytesof_ref a w1 ha
  have hy := fun w1 => cbytesof_ref b w1 hb
  have hD : Hid (cmpC a b = if ltS (credBytes a) (credBytes b) then -1 else if ltS (credBytes b) (credBytes a) then 1 else 0) := hid rfl
  generalize credBytes a = x at *
  generalize credBytes b = y at *
  obtain ⟨k, ⟨ho, hw⟩, who, ⟨bo, bw⟩, ⟨co, cw⟩, w2⟩ := a
  obtain ⟨k', ⟨ho', hw'⟩, who', ⟨bo', bw'⟩, ⟨co', cw'⟩, w2'⟩ := b
  clear ha hb
  show Calls Try.prog 47 #[.agg #[.int .i64 k, .string ⟨ho.toArray⟩, .string ⟨hw.toArray⟩, .string ⟨who.toArray⟩, .string ⟨bo.toArray⟩, .string ⟨bw.toArray⟩, .string ⟨co.toArray⟩, .string ⟨cw.toArray⟩, .string ⟨w2.toArray⟩], .agg #[.int .i64 k', .string ⟨ho'.toArray⟩, .string ⟨hw'.toArray⟩, .string ⟨who'.toArray⟩, .string ⟨bo'.toArray⟩, .string ⟨bw'.toArray⟩, .string ⟨co'.toArray⟩, .string ⟨cw'.toArray⟩, .string ⟨w2'.toArray⟩]] w _
  have HH := hid (And.intro hx (And.intro hy (And.intro hc0 (And.intro hA hB))))
  clear hx hy hc0 hA hB
  go_enter Try.func47, Try.ntmps47
  go_wp2_with fail
  obtain ⟨hx, hy, hc0, hA, hB⟩ := HH.out
  refine (hx _).mono ?_
  rintro e w3 ⟨rfl, hc1⟩
  obtain ⟨b0, b1, b2, b3, b4, b5, b6, b7, b8⟩ := cred_at_blk (blk_keep hB hc1 id)
  simp only [Nat.zero_add] at b0 b1 b2 b3 b4 b5 b6 b7 b8
  have H2 := hid (And.intro hy (hc0.trans hc1 (fun _ _ h => h)))
  clear HH hx hy hc0 hA hB hc1
  go_wp2_with fail
  refine (H2.out.1 _).mono ?_
  rintro e w4 ⟨rfl, hc4⟩
  have HC := hid (H2.out.2.trans hc4 (fun _ _ h => h))
  clear H2 hc4 b0 b1 b2 b3 b4 b5 b6 b7 b8
  cases h1 : Op.bytesLess x y with
  | true =>
    have hh : Hid (cmpC ⟨k, (ho, hw), who, (bo, bw), (co, cw), w2⟩ ⟨k', (ho', hw'), who', (bo', bw'), (co', cw'), w2'⟩ = -1) := hid (by rw [hD.out, show ltS x y = true from h1]; rfl)
    go_wp2
    go_ret
    exact ⟨by rw [hh.out]; rfl, HC.out⟩
  | false =>
    cases h2 : (x == y) with
    | false =>
      have hne : x ≠ y := by simpa using h2
      have h3 : ltS y x = true := by
        rcases ltS_ord.tri x y with q | q | q
        · rw [show ltS x y = false from h1] at q; cases q
        · exact absurd q hne
        · exact q
      have hh : Hid (cmpC ⟨k, (ho, hw), who, (bo, bw), (co, cw), w2⟩ ⟨k', (ho', hw'), who', (bo', bw'), (co', cw'), w2'⟩ = 1) := hid (by rw [hD.out, show ltS x y = false from h1, h3]; rfl)
      clear h3 hne
      go_wp2
      go_ret
      exact ⟨by rw [hh.out]; rfl, HC.out⟩
    | true =>
      have he : x = y := by simpa using h2
      have hh : Hid (cmpC ⟨k, (ho, hw), who, (bo, bw), (co, cw), w2⟩ ⟨k', (ho', hw'), who', (bo', bw'), (co', cw'), w2'⟩ = 0) := hid (by rw [hD.out, ← he, ltS_ord.irrefl]; rfl)
      clear he
      go_wp2
      go_ret
      exact ⟨by rw [hh.out]; rfl, HC.out⟩
end Go.Proofs.Ytjaplnainlbldaa
