/- The walk of CredBack. -/
import Derived.Test.YtjohiggfjpfbeaaCm17
import Derived.Test.YtjohiggfjpfbeaaBm1
import Derived.Test.YtjohiggfjpfbeaaCm15
import Derived.Test.YtjohiggfjpfbeaaCm8
namespace Go.Proofs.Ytjohiggfjpfbeaa
open Go.RowKit

theorem credErr_enc {c : CredB} (h : isCred c = true) : credErr (credBytes c) = 0 ∧ credGot (credBytes c) noCred = c := by
  have h1 := credGet_enc h []
  rw [List.append_nil] at h1
  have h2 : credBytes c = credEnc c := by rw [credBytes, if_pos h]
  rw [h2, credErr, credGot, h1]
  exact ⟨rfl, rfl⟩

theorem credText_short {c : CredB} (h : isCred c = true) : (credText c).length ≤ 1048576 := by
  obtain ⟨s1, s2, s3, s4, s5, s6, s7, s8⟩ := isCred_short h
  have hr : ∀ r : RoleB, (roleText r).length = r.1.length + (r.2.length + 1) := fun r => by simp [roleText]
  unfold credText credBody
  rw [List.length_append, hr]
  split
  · simp only [List.length_append, List.length_cons, List.length_nil]; omega
  · split
    · simp only [List.length_append, List.length_cons, List.length_nil, hr]; omega
    · split <;> simp only [List.length_append, List.length_cons, List.length_nil, hr] <;> omega

theorem credBytes_short {c : CredB} (h : isCred c = true) : (credBytes c).length ≤ 1048576 := by
  have hh := pc_roleEnc_len (isCred_head h)
  have hk : (enc c.kind.toNat).length = 1 := by
    have := isCred_kind h
    rw [enc_small (by omega)]; rfl
  rw [credBytes, if_pos h, credEnc, List.length_append, List.length_append, hk]
  unfold credTail
  rcases isCred_kind h with k | k | k | k
  · have := pc_encS_len (isCred_one h k).1
    rw [if_pos k]; omega
  · have := pc_roleEnc_len (isCred_two h k).2.1
    rw [if_neg (by omega), if_neg (by omega), if_neg (by omega)]; omega
  · have h1 := pc_roleEnc_len (isCred_three h k).2.1
    have h2 := pc_encS_len (isCred_three h k).2.2.2.2
    rw [if_neg (by omega), if_pos k, List.length_append]; omega
  · have h1 := pc_roleEnc_len (isCred_four h k).2.1
    have h2 := pc_roleEnc_len (isCred_four h k).2.2.2.1
    rw [if_neg (by omega), if_neg (by omega), if_pos k, List.length_append]; omega

theorem parse_told {c : CredB} (h : isCred c = true) : credTextOr c = credText c ∧ (parseC (credText c)).getD noCred = c ∧ (parseC (credText c)).isSome = true := by
  rw [parse_credText h]
  exact ⟨by rw [credTextOr, h]; rfl, rfl, rfl⟩

theorem cmp_facts (a b : CredB) : IntKind.i64.wrap (-(cmpC b a)) = cmpC a b ∧ (isCred a = true → isCred b = true → (cmpC a b == 0) = eqC a b) := by
  constructor
  · rw [cmpC_neg a b, IntWalk.i64_in]
    unfold cmpC
    split
    · decide
    · split <;> decide
  · intro ha hb
    rw [Bool.eq_iff_iff, beq_iff_eq, eqC_true]
    exact cmpC_zero ha hb

def cbSpecsN (A B : Nat) (a b : CredB) : List Spec := [.any, .any, .eq (.pointer (some ⟨A, 0, none⟩)), .eq (.pointer (some ⟨B, 0, none⟩)), .eq (.bool true), .any, .any, .any, .any, .any, .any, .any, .any, .any, .any, .any, .any, .any, .any, .any, .any, .any, .any, .any, .any, .any, .any, .any, .any, .any, .any, .any, .any, .any, .any, .any, .any, .any, .any, .any, .any, .any, .any, .any, .any, .any, .any, .any, .any, .any, .any, .any, .any, .any, .any, .any, .eq (credV a), .eq (credV b), .eq (.int .i64 (cmpC a b)), .eq (credV b), .eq (credV a), .eq (.int .i64 (cmpC b a)), .eq (.int .i64 (cmpC a b)), .eq (.bool true), .eq (.bool true), .eq (credV a), .eq (.bool false), .eq (.bool true), .eq (.bool true), .any, .any, .any, .eq (.bool true), .eq (.bool true), .any, .any, .any, .any, .any, .any, .any, .any, .eq (.bool true), .eq (.bool true)]

def cbSpecsH (A B : Nat) (a b : CredB) : List Spec := [.any, .any, .eq (.pointer (some ⟨A, 0, none⟩)), .eq (.pointer (some ⟨B, 0, none⟩)), .eq (.bool true), .any, .any, .any, .any, .any, .any, .any, .any, .any, .any, .any, .any, .any, .any, .any, .any, .any, .any, .any, .any, .any, .any, .any, .any, .any, .any, .any, .any, .any, .any, .any, .any, .any, .any, .any, .any, .any, .any, .any, .any, .any, .any, .any, .any, .any, .any, .any, .any, .any, .any, .any, .eq (credV a), .eq (credV b), .eq (.int .i64 (cmpC a b)), .eq (credV b), .eq (credV a), .eq (.int .i64 (cmpC b a)), .eq (.int .i64 (cmpC a b)), .eq (.bool true), .eq (.bool true), .eq (credV a), .eq (.bool true), .eq (.bool false), .eq (.bool false), .eq (credV b), .eq (.bool false), .eq (.bool true), .eq (.bool true), .eq (.bool true), .any, .any, .any, .any, .any, .any, .any, .any, .eq (.bool true), .eq (.bool true)]

def cbSpecsY (A B : Nat) (a b : CredB) : List Spec := [.any, .any, .eq (.pointer (some ⟨A, 0, none⟩)), .eq (.pointer (some ⟨B, 0, none⟩)), .eq (.bool true), .any, .any, .any, .any, .any, .any, .any, .any, .any, .any, .any, .any, .any, .any, .any, .any, .any, .any, .any, .any, .any, .any, .any, .any, .any, .any, .any, .any, .any, .any, .any, .any, .any, .any, .any, .any, .any, .any, .any, .any, .any, .any, .any, .any, .any, .any, .any, .any, .any, .any, .any, .eq (credV a), .eq (credV b), .eq (.int .i64 (cmpC a b)), .eq (credV b), .eq (credV a), .eq (.int .i64 (cmpC b a)), .eq (.int .i64 (cmpC a b)), .eq (.bool true), .eq (.bool true), .eq (credV a), .eq (.bool true), .eq (.bool false), .eq (.bool false), .eq (credV b), .eq (.bool true), .eq (.bool false), .eq (.bool false), .eq (.bool false), .eq (credV a), .eq (credV b), .eq (.int .i64 (cmpC a b)), .eq (.bool (eqC a b)), .eq (credV a), .eq (credV b), .eq (.bool (eqC a b)), .eq (.bool true), .eq (.bool true), .eq (.bool true)]

set_option maxRecDepth 100000 in
set_option maxHeartbeats 8000000 in
theorem cback_main (a b : CredB) (w : World) (hz : totalC [a, b] ≤ 4503599627370496) (ha : credShort a 9223372036854775807) (hb : credShort b 9223372036854775807) (hm : MaxAt w) :
    Calls Try.prog 6 #[credV a, credV b] w fun e w' => e = .returned (.bool true) ∧ Chg (fun _ => False) w w' := by
  have hA0 : (w.alloc (.cells #[.int .i64 a.kind, .string ⟨a.head.1.toArray⟩, .string ⟨a.head.2.toArray⟩, .string ⟨a.who.toArray⟩, .string ⟨a.b.1.toArray⟩, .string ⟨a.b.2.toArray⟩, .string ⟨a.c.1.toArray⟩, .string ⟨a.c.2.toArray⟩, .string ⟨a.w2.toArray⟩] 25)).heap[w.heap.size]? = some (.cells (credBox a) 25 (0, 0)) := heap_alloc_new w _
  have hcA : Chg (fun _ => False) w (w.alloc (.cells #[.int .i64 a.kind, .string ⟨a.head.1.toArray⟩, .string ⟨a.head.2.toArray⟩, .string ⟨a.who.toArray⟩, .string ⟨a.b.1.toArray⟩, .string ⟨a.b.2.toArray⟩, .string ⟨a.c.1.toArray⟩, .string ⟨a.c.2.toArray⟩, .string ⟨a.w2.toArray⟩] 25)) := (Chg.refl _ w).alloc _
  have hB1 : ((w.alloc (.cells #[.int .i64 a.kind, .string ⟨a.head.1.toArray⟩, .string ⟨a.head.2.toArray⟩, .string ⟨a.who.toArray⟩, .string ⟨a.b.1.toArray⟩, .string ⟨a.b.2.toArray⟩, .string ⟨a.c.1.toArray⟩, .string ⟨a.c.2.toArray⟩, .string ⟨a.w2.toArray⟩] 25)).alloc (.cells #[.int .i64 b.kind, .string ⟨b.head.1.toArray⟩, .string ⟨b.head.2.toArray⟩, .string ⟨b.who.toArray⟩, .string ⟨b.b.1.toArray⟩, .string ⟨b.b.2.toArray⟩, .string ⟨b.c.1.toArray⟩, .string ⟨b.c.2.toArray⟩, .string ⟨b.w2.toArray⟩] 25)).heap[(w.alloc (.cells #[.int .i64 a.kind, .string ⟨a.head.1.toArray⟩, .string ⟨a.head.2.toArray⟩, .string ⟨a.who.toArray⟩, .string ⟨a.b.1.toArray⟩, .string ⟨a.b.2.toArray⟩, .string ⟨a.c.1.toArray⟩, .string ⟨a.c.2.toArray⟩, .string ⟨a.w2.toArray⟩] 25)).heap.size]? = some (.cells (credBox b) 25 (0, 0)) := heap_alloc_new (w.alloc (.cells #[.int .i64 a.kind, .string ⟨a.head.1.toArray⟩, .string ⟨a.head.2.toArray⟩, .string ⟨a.who.toArray⟩, .string ⟨a.b.1.toArray⟩, .string ⟨a.b.2.toArray⟩, .string ⟨a.c.1.toArray⟩, .string ⟨a.c.2.toArray⟩, .string ⟨a.w2.toArray⟩] 25)) _
  have hcB : Chg (fun _ => False) (w.alloc (.cells #[.int .i64 a.kind, .string ⟨a.head.1.toArray⟩, .string ⟨a.head.2.toArray⟩, .string ⟨a.who.toArray⟩, .string ⟨a.b.1.toArray⟩, .string ⟨a.b.2.toArray⟩, .string ⟨a.c.1.toArray⟩, .string ⟨a.c.2.toArray⟩, .string ⟨a.w2.toArray⟩] 25)) ((w.alloc (.cells #[.int .i64 a.kind, .string ⟨a.head.1.toArray⟩, .string ⟨a.head.2.toArray⟩, .string ⟨a.who.toArray⟩, .string ⟨a.b.1.toArray⟩, .string ⟨a.b.2.toArray⟩, .string ⟨a.c.1.toArray⟩, .string ⟨a.c.2.toArray⟩, .string ⟨a.w2.toArray⟩] 25)).alloc (.cells #[.int .i64 b.kind, .string ⟨b.head.1.toArray⟩, .string ⟨b.head.2.toArray⟩, .string ⟨b.who.toArray⟩, .string ⟨b.b.1.toArray⟩, .string ⟨b.b.2.toArray⟩, .string ⟨b.c.1.toArray⟩, .string ⟨b.c.2.toArray⟩, .string ⟨b.w2.toArray⟩] 25)) := (Chg.refl _ _).alloc _
  rw [show (w.alloc (.cells #[.int .i64 a.kind, .string ⟨a.head.1.toArray⟩, .string ⟨a.head.2.toArray⟩, .string ⟨a.who.toArray⟩, .string ⟨a.b.1.toArray⟩, .string ⟨a.b.2.toArray⟩, .string ⟨a.c.1.toArray⟩, .string ⟨a.c.2.toArray⟩, .string ⟨a.w2.toArray⟩] 25)).heap.size = w.heap.size + 1 by simp] at hB1
  have hA1 := blk_keep hA0 hcB id
  have hc1 := hcA.trans hcB (fun _ _ h => h)
  have hft := cfirst_any ((w.alloc (.cells #[.int .i64 a.kind, .string ⟨a.head.1.toArray⟩, .string ⟨a.head.2.toArray⟩, .string ⟨a.who.toArray⟩, .string ⟨a.b.1.toArray⟩, .string ⟨a.b.2.toArray⟩, .string ⟨a.c.1.toArray⟩, .string ⟨a.c.2.toArray⟩, .string ⟨a.w2.toArray⟩] 25)).alloc (.cells #[.int .i64 b.kind, .string ⟨b.head.1.toArray⟩, .string ⟨b.head.2.toArray⟩, .string ⟨b.who.toArray⟩, .string ⟨b.b.1.toArray⟩, .string ⟨b.b.2.toArray⟩, .string ⟨b.c.1.toArray⟩, .string ⟨b.c.2.toArray⟩, .string ⟨b.w2.toArray⟩] 25)) (hm.keep hc1 id)
  have HH := hid (And.intro hft (And.intro hA1 (And.intro hB1 hc1)))
  have HM := hid hm
  clear hft hA0 hcA hA1 hB1 hcB hc1 hm
  show Calls Try.prog 6 #[.agg #[.int .i64 a.kind, .string ⟨a.head.1.toArray⟩, .string ⟨a.head.2.toArray⟩, .string ⟨a.who.toArray⟩, .string ⟨a.b.1.toArray⟩, .string ⟨a.b.2.toArray⟩, .string ⟨a.c.1.toArray⟩, .string ⟨a.c.2.toArray⟩, .string ⟨a.w2.toArray⟩], .agg #[.int .i64 b.kind, .string ⟨b.head.1.toArray⟩, .string ⟨b.head.2.toArray⟩, .string ⟨b.who.toArray⟩, .string ⟨b.b.1.toArray⟩, .string ⟨b.b.2.toArray⟩, .string ⟨b.c.1.toArray⟩, .string ⟨b.c.2.toArray⟩, .string ⟨b.w2.toArray⟩]] w _
  go_enter Try.func6, Try.ntmps6
  go_wp2_with fail
  obtain ⟨hft, hA1, hB1, hc1⟩ := HH.out
  clear HH
  refine hft.mono ?_
  rintro e w2 ⟨rfl, hc12⟩
  have hA2 := blk_keep hA1 hc12 id
  have hB2 := blk_keep hB1 hc12 id
  have hc2 := hc1.trans hc12 (fun _ _ h => h)
  clear hft hA1 hB1 hc1 hc12
  generalize hBe : w.heap.size + 1 = B at *
  have HBe := hid hBe
  clear hBe
  generalize hAe : w.heap.size = A at *
  have HAe := hid hAe
  clear hAe
  obtain ⟨xa0, xa1, xa2, xa3, xa4, xa5, xa6, xa7, xa8⟩ := cred_at_blk hA2
  simp only [Nat.zero_add, credBox, noCred, noneR] at xa0 xa1 xa2 xa3 xa4 xa5 xa6 xa7 xa8
  obtain ⟨xb0, xb1, xb2, xb3, xb4, xb5, xb6, xb7, xb8⟩ := cred_at_blk hB2
  simp only [Nat.zero_add, credBox, noCred, noneR] at xb0 xb1 xb2 xb3 xb4 xb5 xb6 xb7 xb8
  have hl3 := creds_lit [a, b] w2 (0, 0) (by
    intro x hx
    rcases List.mem_cons.1 hx with rfl | hx
    · exact ha
    · rw [List.mem_singleton.1 hx]; exact hb)
  have ha3 : Chg (fun _ => False) w2 (w2.alloc (.cells (credRow [a, b]).toArray 25)) := (Chg.refl _ w2).alloc _
  have hgr := great_any (some ⟨w2.heap.size, 0, none⟩) 2 [a, b] (w2.alloc (.cells (credRow [a, b]).toArray 25)) hz hl3
  have HH := hid (And.intro hgr (And.intro ha3 (And.intro hA2 (And.intro hB2 hc2))))
  have HS := hid (And.intro ha hb)
  clear hgr hl3 ha3 hA2 hB2 hc2 ha hb
  go_wp2_with fail
  clear xa0 xa1 xa2 xa3 xa4 xa5 xa6 xa7 xa8 xb0 xb1 xb2 xb3 xb4 xb5 xb6 xb7 xb8
  obtain ⟨hgr, ha3, hA2, hB2, hc2⟩ := HH.out
  clear HH
  refine hgr.mono ?_
  rintro e w4 ⟨rfl, hc34⟩
  have hc24 := ha3.trans hc34 (fun _ _ h => h)
  have hA4 := blk_keep hA2 hc24 id
  have hB4 := blk_keep hB2 hc24 id
  have hc4 := hc2.trans hc24 (fun _ _ h => h)
  clear hgr ha3 hA2 hB2 hc2 hc34 hc24
  obtain ⟨tt, htt⟩ : ∃ tt, totalC [a, b] = tt := ⟨_, rfl⟩
  rw [htt]
  have HT := hid htt
  clear htt hz
  by_cases hbig : 800 < tt
  · have zz1 : ((800 : Int) < (tt : Int)) = True := eq_true (by omega)
    have HC := hid hc4
    clear hA4 hB4 hc4 hbig
    go_wp2
    go_ret
    exact ⟨rfl, HC.out⟩
  · have zz1 : ((800 : Int) < (tt : Int)) = False := eq_false (by omega)
    have htot : totalC [a, b] = sizeC a + sizeC b := by simp [totalC]
    have hsa : sizeC a ≤ 1048576 := by have := HT.out; omega
    have hsb : sizeC b ≤ 1048576 := by have := HT.out; omega
    have HSS : Hid (∀ x ∈ [a, b], credShort x 1048576) := hid (by
      intro x hx
      rcases List.mem_cons.1 hx with rfl | hx
      · exact sizeC_short hsa
      · rw [List.mem_singleton.1 hx]; exact sizeC_short hsb)
    clear hbig htot hsa hsb
    obtain ⟨xa0, xa1, xa2, xa3, xa4, xa5, xa6, xa7, xa8⟩ := cred_at_blk hA4
    simp only [Nat.zero_add, credBox, noCred, noneR] at xa0 xa1 xa2 xa3 xa4 xa5 xa6 xa7 xa8
    obtain ⟨xb0, xb1, xb2, xb3, xb4, xb5, xb6, xb7, xb8⟩ := cred_at_blk hB4
    simp only [Nat.zero_add, credBox, noCred, noneR] at xb0 xb1 xb2 xb3 xb4 xb5 xb6 xb7 xb8
    have hl5 := creds_lit [a, b] w4 (0, 0) (by
      intro x hx
      rcases List.mem_cons.1 hx with rfl | hx
      · exact HS.out.1
      · rw [List.mem_singleton.1 hx]; exact HS.out.2)
    have ha5 : Chg (fun _ => False) w4 (w4.alloc (.cells (credRow [a, b]).toArray 25)) := (Chg.refl _ w4).alloc _
    have HH := hid (And.intro hl5 (And.intro (blk_keep hA4 ha5 id) (And.intro (blk_keep hB4 ha5 id) (hc4.trans ha5 (fun _ _ h => h)))))
    clear hl5 ha5 hA4 hB4 hc4
    go_wp2
    obtain ⟨hl5, hA5, hB5, hc5⟩ := HH.out
    clear HH xa0 xa1 xa2 xa3 xa4 xa5 xa6 xa7 xa8 xb0 xb1 xb2 xb3 xb4 xb5 xb6 xb7 xb8
    change CredsAt _ (w4.alloc (.cells #[.int .i64 a.kind, .string ⟨a.head.1.toArray⟩, .string ⟨a.head.2.toArray⟩, .string ⟨a.who.toArray⟩, .string ⟨a.b.1.toArray⟩, .string ⟨a.b.2.toArray⟩, .string ⟨a.c.1.toArray⟩, .string ⟨a.c.2.toArray⟩, .string ⟨a.w2.toArray⟩, .int .i64 b.kind, .string ⟨b.head.1.toArray⟩, .string ⟨b.head.2.toArray⟩, .string ⟨b.who.toArray⟩, .string ⟨b.b.1.toArray⟩, .string ⟨b.b.2.toArray⟩, .string ⟨b.c.1.toArray⟩, .string ⟨b.c.2.toArray⟩, .string ⟨b.w2.toArray⟩] 25)) _ _ at hl5
    change (w4.alloc (.cells #[.int .i64 a.kind, .string ⟨a.head.1.toArray⟩, .string ⟨a.head.2.toArray⟩, .string ⟨a.who.toArray⟩, .string ⟨a.b.1.toArray⟩, .string ⟨a.b.2.toArray⟩, .string ⟨a.c.1.toArray⟩, .string ⟨a.c.2.toArray⟩, .string ⟨a.w2.toArray⟩, .int .i64 b.kind, .string ⟨b.head.1.toArray⟩, .string ⟨b.head.2.toArray⟩, .string ⟨b.who.toArray⟩, .string ⟨b.b.1.toArray⟩, .string ⟨b.b.2.toArray⟩, .string ⟨b.c.1.toArray⟩, .string ⟨b.c.2.toArray⟩, .string ⟨b.w2.toArray⟩] 25)).heap[A]? = _ at hA5
    change (w4.alloc (.cells #[.int .i64 a.kind, .string ⟨a.head.1.toArray⟩, .string ⟨a.head.2.toArray⟩, .string ⟨a.who.toArray⟩, .string ⟨a.b.1.toArray⟩, .string ⟨a.b.2.toArray⟩, .string ⟨a.c.1.toArray⟩, .string ⟨a.c.2.toArray⟩, .string ⟨a.w2.toArray⟩, .int .i64 b.kind, .string ⟨b.head.1.toArray⟩, .string ⟨b.head.2.toArray⟩, .string ⟨b.who.toArray⟩, .string ⟨b.b.1.toArray⟩, .string ⟨b.b.2.toArray⟩, .string ⟨b.c.1.toArray⟩, .string ⟨b.c.2.toArray⟩, .string ⟨b.w2.toArray⟩] 25)).heap[B]? = _ at hB5
    change Chg _ w (w4.alloc (.cells #[.int .i64 a.kind, .string ⟨a.head.1.toArray⟩, .string ⟨a.head.2.toArray⟩, .string ⟨a.who.toArray⟩, .string ⟨a.b.1.toArray⟩, .string ⟨a.b.2.toArray⟩, .string ⟨a.c.1.toArray⟩, .string ⟨a.c.2.toArray⟩, .string ⟨a.w2.toArray⟩, .int .i64 b.kind, .string ⟨b.head.1.toArray⟩, .string ⟨b.head.2.toArray⟩, .string ⟨b.who.toArray⟩, .string ⟨b.b.1.toArray⟩, .string ⟨b.b.2.toArray⟩, .string ⟨b.c.1.toArray⟩, .string ⟨b.c.2.toArray⟩, .string ⟨b.w2.toArray⟩] 25)) at hc5
    generalize w4.alloc (.cells #[.int .i64 a.kind, .string ⟨a.head.1.toArray⟩, .string ⟨a.head.2.toArray⟩, .string ⟨a.who.toArray⟩, .string ⟨a.b.1.toArray⟩, .string ⟨a.b.2.toArray⟩, .string ⟨a.c.1.toArray⟩, .string ⟨a.c.2.toArray⟩, .string ⟨a.w2.toArray⟩, .int .i64 b.kind, .string ⟨b.head.1.toArray⟩, .string ⟨b.head.2.toArray⟩, .string ⟨b.who.toArray⟩, .string ⟨b.b.1.toArray⟩, .string ⟨b.b.2.toArray⟩, .string ⟨b.c.1.toArray⟩, .string ⟨b.c.2.toArray⟩, .string ⟨b.w2.toArray⟩] 25) = w5 at *
    generalize w4.heap.size = Rw at *
    clear zz1 HT
    go_loopw [22] (fun i wr => ∃ k : Nat, k ≤ 2 ∧ i = .int .i64 k ∧ Chg (fun _ => False) w5 wr) (fun i _ => 2 - (intOf i).toNat)
    case atStart => exact ⟨0, by omega, rfl, Chg.refl _ _⟩
    case round =>
      obtain ⟨k, hk, rfl, hc6⟩ := hrel
      by_cases hlt : k < 2
      · obtain ⟨bb, off, hbo, _, hat, _⟩ := (hl5.keep hc6 (fun _ _ => id)) k hlt
        cases hbo
        have hmem : [a, b][k] ∈ [a, b] := List.getElem_mem hlt
        generalize [a, b][k] = c at *
        have hsh := HSS.out c hmem
        clear hmem
        obtain ⟨c0, c1, c2, c3, c4, c5, c6, c7, c8⟩ := hat
        simp only [Nat.zero_add] at c0 c1 c2 c3 c4 c5 c6 c7 c8
        have hS7 : (wr.alloc (.cells #[.int .i64 c.kind, .string ⟨c.head.1.toArray⟩, .string ⟨c.head.2.toArray⟩, .string ⟨c.who.toArray⟩, .string ⟨c.b.1.toArray⟩, .string ⟨c.b.2.toArray⟩, .string ⟨c.c.1.toArray⟩, .string ⟨c.c.2.toArray⟩, .string ⟨c.w2.toArray⟩] 25)).heap[wr.heap.size]? = some (.cells (credBox c) 25 (0, 0)) := heap_alloc_new wr _
        have hc7 : Chg (fun _ => False) wr (wr.alloc (.cells #[.int .i64 c.kind, .string ⟨c.head.1.toArray⟩, .string ⟨c.head.2.toArray⟩, .string ⟨c.who.toArray⟩, .string ⟨c.b.1.toArray⟩, .string ⟨c.b.2.toArray⟩, .string ⟨c.c.1.toArray⟩, .string ⟨c.c.2.toArray⟩, .string ⟨c.w2.toArray⟩] 25)) := (Chg.refl _ wr).alloc _
        have hrt := pcright c (wr.alloc (.cells #[.int .i64 c.kind, .string ⟨c.head.1.toArray⟩, .string ⟨c.head.2.toArray⟩, .string ⟨c.who.toArray⟩, .string ⟨c.b.1.toArray⟩, .string ⟨c.b.2.toArray⟩, .string ⟨c.c.1.toArray⟩, .string ⟨c.c.2.toArray⟩, .string ⟨c.w2.toArray⟩] 25)) (hsh.mono (by omega))
        have HH := hid (And.intro hrt (And.intro hS7 (hc6.trans hc7 (fun _ _ h => h))))
        have HW := hid (And.intro hl5 (And.intro hA5 (And.intro hB5 hc5)))
        clear hrt hS7 hc7 hc6 hl5 hA5 hB5 hc5
        go_wp2_with fail
        obtain ⟨hrt, hS7, hc7⟩ := HH.out
        clear HH c0 c1 c2 c3 c4 c5 c6 c7 c8
        generalize wr.alloc (.cells #[.int .i64 c.kind, .string ⟨c.head.1.toArray⟩, .string ⟨c.head.2.toArray⟩, .string ⟨c.who.toArray⟩, .string ⟨c.b.1.toArray⟩, .string ⟨c.b.2.toArray⟩, .string ⟨c.c.1.toArray⟩, .string ⟨c.c.2.toArray⟩, .string ⟨c.w2.toArray⟩] 25) = w7 at *
        generalize wr.heap.size = S at *
        refine hrt.mono ?_
        rintro e w8 ⟨rfl, hc78⟩
        have hS8 := blk_keep hS7 hc78 id
        have hc8 := hc7.trans hc78 (fun _ _ h => h)
        clear hrt hS7 hc7 hc78
        cases hi : isCred c with
        | false =>
          have HC := hid hc8
          clear hS8 hc8 hi
          go_wp2
          go_roundw
          case rel => exact ⟨k + 1, by omega, by go_num, HC.out⟩
          case measure => simp [intOf]; omega
        | true =>
          obtain ⟨hE1, hE2⟩ := credErr_enc hi
          have HE := hid (And.intro hE1 hE2)
          have HP := hid (And.intro (parse_told hi) (credText_short hi))
          have hbl0 := credBytes_short hi
          have hGw := hc8.size
          clear hE1 hE2 hi
          have hSl := lt_blk hS8
          have hcG : Chg (fun _ => False) w8 (w8.alloc (.cells #[.int .i64 0, .string ⟨#[]⟩, .string ⟨#[]⟩, .string ⟨#[]⟩, .string ⟨#[]⟩, .string ⟨#[]⟩, .string ⟨#[]⟩, .string ⟨#[]⟩, .string ⟨#[]⟩] 25)) := (Chg.refl _ w8).alloc _
          have hG9 : (w8.alloc (.cells #[.int .i64 0, .string ⟨#[]⟩, .string ⟨#[]⟩, .string ⟨#[]⟩, .string ⟨#[]⟩, .string ⟨#[]⟩, .string ⟨#[]⟩, .string ⟨#[]⟩, .string ⟨#[]⟩] 25)).heap[w8.heap.size]? = some (.cells (credBox noCred) 25 (0, 0)) := heap_alloc_new w8 _
          have hS9 := blk_keep hS8 hcG id
          have hc9 := hc8.trans hcG (fun _ _ h => h)
          obtain ⟨xs0, xs1, xs2, xs3, xs4, xs5, xs6, xs7, xs8⟩ := cred_at_blk hS9
          simp only [Nat.zero_add, credBox, noCred, noneR] at xs0 xs1 xs2 xs3 xs4 xs5 xs6 xs7 xs8
          have hbt := pcbytes c (w8.alloc (.cells #[.int .i64 0, .string ⟨#[]⟩, .string ⟨#[]⟩, .string ⟨#[]⟩, .string ⟨#[]⟩, .string ⟨#[]⟩, .string ⟨#[]⟩, .string ⟨#[]⟩, .string ⟨#[]⟩] 25)) (hsh.mono (by omega))
          have HH := hid (And.intro hbt (And.intro hG9 (And.intro hS9 hc9)))
          clear hbt hG9 hS9 hc9 hcG hS8 hc8
          go_wp2_with fail
          obtain ⟨hbt, hG9, hS9, hc9⟩ := HH.out
          clear HH xs0 xs1 xs2 xs3 xs4 xs5 xs6 xs7 xs8
          generalize w8.alloc (.cells #[.int .i64 0, .string ⟨#[]⟩, .string ⟨#[]⟩, .string ⟨#[]⟩, .string ⟨#[]⟩, .string ⟨#[]⟩, .string ⟨#[]⟩, .string ⟨#[]⟩, .string ⟨#[]⟩] 25) = w9 at *
          generalize w8.heap.size = G at *
          refine hbt.mono ?_
          rintro e w10 ⟨ao10, cp10, rfl, hb10, hc910⟩
          have hG10 := blk_keep hG9 hc910 id
          have hS10 := blk_keep hS9 hc910 id
          have hc10 := hc9.trans hc910 (fun _ _ h => h)
          have hGl : G < w9.heap.size := lt_blk hG9
          have hbl : (credBytes c).length ≤ 140737488355328 := by omega
          have hrd := creadB_any (z := noCred) hbl hb10 (fun i hi => hi.2) (fun h => by have := h.1; omega) hG10
          have HH := hid (And.intro hrd (And.intro hS10 hc10))
          clear hbt hG9 hS9 hc9 hc910 hb10 hG10 hrd hS10 hc10 hbl hbl0
          go_wp2_with fail
          obtain ⟨hrd, hS10, hc10⟩ := HH.out
          clear HH
          refine hrd.mono ?_
          rintro e w11 ⟨rfl, hG11, hc1011⟩
          rw [HE.out.2] at hG11
          rw [HE.out.1]
          have hS11 := blk_keep hS10 hc1011 (show ¬ S = G by omega)
          have hc11 : Chg (fun _ => False) w5 w11 := hc10.trans hc1011 (T := fun k => k = G) (S := fun _ => False) (fun i hi h => by have : i = G := h; have := hGw; omega)
          obtain ⟨⟨hTx, hPx, hOk⟩, hTl⟩ := HP.out
          have htx := pctext c w11 hsh
          rw [hTx] at htx
          obtain ⟨xs0, xs1, xs2, xs3, xs4, xs5, xs6, xs7, xs8⟩ := cred_at_blk hS11
          simp only [Nat.zero_add, credBox, noCred, noneR] at xs0 xs1 xs2 xs3 xs4 xs5 xs6 xs7 xs8
          have HH := hid (And.intro htx (And.intro hG11 (And.intro hS11 (And.intro hc11 (And.intro hPx (And.intro hOk hTl))))))
          clear htx hG11 hS11 hc11 hTx hPx hOk hTl hrd hS10 hc10 hc1011 HP HE
          go_wp2_with fail
          obtain ⟨htx, hG11, hS11, hc11, hPx, hOk, hTl⟩ := HH.out
          clear HH xs0 xs1 xs2 xs3 xs4 xs5 xs6 xs7 xs8
          refine htx.mono ?_
          rintro e w12 ⟨rfl, hc1112⟩
          have hG12 := blk_keep hG11 hc1112 id
          have hS12 := blk_keep hS11 hc1112 id
          have hc12 := hc11.trans hc1112 (fun _ _ h => h)
          have hm12 : MaxAt w12 := HM.out.keep (HW.out.2.2.2.trans hc12 (fun _ _ h => h)) id
          have hpp := pcparse (credText c) w12 hTl hm12
          have HH := hid (And.intro hpp (And.intro hG12 (And.intro hS12 (And.intro hc12 (And.intro hPx hOk)))))
          clear htx hG11 hS11 hc11 hc1112 hG12 hS12 hc12 hm12 hpp hPx hOk hTl
          go_wp2_with fail
          obtain ⟨hpp, hG12, hS12, hc12, hPx, hOk⟩ := HH.out
          clear HH
          refine hpp.mono ?_
          rintro e w13 ⟨rfl, hc1213⟩
          rw [hPx, hOk, show credV c = .agg #[.int .i64 c.kind, .string ⟨c.head.1.toArray⟩, .string ⟨c.head.2.toArray⟩, .string ⟨c.who.toArray⟩, .string ⟨c.b.1.toArray⟩, .string ⟨c.b.2.toArray⟩, .string ⟨c.c.1.toArray⟩, .string ⟨c.c.2.toArray⟩, .string ⟨c.w2.toArray⟩] from rfl]
          have hG13 := blk_keep hG12 hc1213 id
          have hS13 := blk_keep hS12 hc1213 id
          have hc13 := hc12.trans hc1213 (fun _ _ h => h)
          have hcY : Chg (fun _ => False) w13 (w13.alloc (.cells #[.int .i64 c.kind, .string ⟨c.head.1.toArray⟩, .string ⟨c.head.2.toArray⟩, .string ⟨c.who.toArray⟩, .string ⟨c.b.1.toArray⟩, .string ⟨c.b.2.toArray⟩, .string ⟨c.c.1.toArray⟩, .string ⟨c.c.2.toArray⟩, .string ⟨c.w2.toArray⟩] 25)) := (Chg.refl _ w13).alloc _
          have hG14 := blk_keep hG13 hcY id
          have hS14 := blk_keep hS13 hcY id
          have hc14 := hc13.trans hcY (fun _ _ h => h)
          have hY14 : (w13.alloc (.cells #[.int .i64 c.kind, .string ⟨c.head.1.toArray⟩, .string ⟨c.head.2.toArray⟩, .string ⟨c.who.toArray⟩, .string ⟨c.b.1.toArray⟩, .string ⟨c.b.2.toArray⟩, .string ⟨c.c.1.toArray⟩, .string ⟨c.c.2.toArray⟩, .string ⟨c.w2.toArray⟩] 25)).heap[w13.heap.size]? = some (.cells (credBox c) 25 (0, 0)) := heap_alloc_new w13 _
          have HC := hid hc14
          obtain ⟨xs0, xs1, xs2, xs3, xs4, xs5, xs6, xs7, xs8⟩ := cred_at_blk hS14
          simp only [Nat.zero_add, credBox, noCred, noneR] at xs0 xs1 xs2 xs3 xs4 xs5 xs6 xs7 xs8
          obtain ⟨xg0, xg1, xg2, xg3, xg4, xg5, xg6, xg7, xg8⟩ := cred_at_blk hG14
          simp only [Nat.zero_add, credBox, noCred, noneR] at xg0 xg1 xg2 xg3 xg4 xg5 xg6 xg7 xg8
          obtain ⟨xy0, xy1, xy2, xy3, xy4, xy5, xy6, xy7, xy8⟩ := cred_at_blk hY14
          simp only [Nat.zero_add, credBox, noCred, noneR] at xy0 xy1 xy2 xy3 xy4 xy5 xy6 xy7 xy8
          clear hpp hG12 hS12 hc12 hPx hOk hc1213 hG13 hS13 hc13 hcY hG14 hS14 hc14 hY14
          go_wp2
          go_roundw
          case rel => exact ⟨k + 1, by omega, by go_num, HC.out⟩
          case measure => simp [intOf]; omega
      · have HC := hid (hc5.trans hc6 (fun _ _ h => h))
        have HX := hid (And.intro (blk_keep hA5 hc6 id) (And.intro (blk_keep hB5 hc6 id) HS.out))
        have HN := hid (cmp_facts a b)
        clear hl5 hA5 hB5 hc5 hc6 HSS HS HM
        have hk2 : k = 2 := by omega
        subst hk2
        clear hlt hk
        cases hra : isCred a with
        | false =>
          have HA := hid hra
          have HB : Hid True := hid trivial
          clear hra
          go_wp2
          refine wp_region_specs (cbSpecsN A B a b) [56, 57, 58, 59, 60, 61, 62, 63, 64, 65, 66, 67, 68, 69, 70, 71, 72, 73, 74, 75, 76, 77, 78, 79, 80, 81, 82, 83, 4] [2, 3] (by kernel_rfl) (by kernel_rfl) (by rfl) (by kernel_rfl) ?start ?obs ?fin
          case start =>
            simp only [List.forall_mem_cons]
            exact ⟨⟨_, rfl, rfl⟩, ⟨_, rfl, rfl⟩, fun _ h => by cases h⟩
          case obs =>
            clear HC
            refine Obs.cons none (by kernel_rfl) ?_ ?_
            · refine Ob.plain fun ac w hR hk K k9 => ?_
              obtain ⟨_, e2, rfl⟩ := hk 2 (by decide)
              clear hk
              obtain ⟨z0, z1, z2, z3, z4, z5, z6, z7, z8⟩ := (cred_at_blk HX.out.1).keep hR id
              simp only [Nat.zero_add, credBox] at z0 z1 z2 z3 z4 z5 z6 z7 z8
              go_simp
              exact k9 _ _ (Chg.refl _ _) rfl
            refine Obs.cons none (by kernel_rfl) ?_ ?_
            · refine Ob.plain fun ac w hR hk K k9 => ?_
              obtain ⟨_, e3, rfl⟩ := hk 3 (by decide)
              clear hk
              obtain ⟨z0, z1, z2, z3, z4, z5, z6, z7, z8⟩ := (cred_at_blk HX.out.2.1).keep hR id
              simp only [Nat.zero_add, credBox] at z0 z1 z2 z3 z4 z5 z6 z7 z8
              go_simp
              exact k9 _ _ (Chg.refl _ _) rfl
            refine Obs.cons none (by kernel_rfl) ?_ ?_
            · refine Ob.plain fun ac w hR hk K k9 => ?_
              obtain ⟨_, e56, rfl⟩ := hk 56 (by decide)
              obtain ⟨_, e57, rfl⟩ := hk 57 (by decide)
              clear hk
              go_simp
              refine (pccompare a b _ HX.out.2.2.1 HX.out.2.2.2).mono ?_
              rintro e w2 ⟨rfl, hc⟩
              exact k9 _ _ hc rfl
            refine Obs.cons none (by kernel_rfl) ?_ ?_
            · refine Ob.plain fun ac w hR hk K k9 => ?_
              obtain ⟨_, e3, rfl⟩ := hk 3 (by decide)
              clear hk
              obtain ⟨z0, z1, z2, z3, z4, z5, z6, z7, z8⟩ := (cred_at_blk HX.out.2.1).keep hR id
              simp only [Nat.zero_add, credBox] at z0 z1 z2 z3 z4 z5 z6 z7 z8
              go_simp
              exact k9 _ _ (Chg.refl _ _) rfl
            refine Obs.cons none (by kernel_rfl) ?_ ?_
            · refine Ob.plain fun ac w hR hk K k9 => ?_
              obtain ⟨_, e2, rfl⟩ := hk 2 (by decide)
              clear hk
              obtain ⟨z0, z1, z2, z3, z4, z5, z6, z7, z8⟩ := (cred_at_blk HX.out.1).keep hR id
              simp only [Nat.zero_add, credBox] at z0 z1 z2 z3 z4 z5 z6 z7 z8
              go_simp
              exact k9 _ _ (Chg.refl _ _) rfl
            refine Obs.cons none (by kernel_rfl) ?_ ?_
            · refine Ob.plain fun ac w hR hk K k9 => ?_
              obtain ⟨_, e59, rfl⟩ := hk 59 (by decide)
              obtain ⟨_, e60, rfl⟩ := hk 60 (by decide)
              clear hk
              go_simp
              refine (pccompare b a _ HX.out.2.2.2 HX.out.2.2.1).mono ?_
              rintro e w2 ⟨rfl, hc⟩
              exact k9 _ _ hc rfl
            refine Obs.cons none (by kernel_rfl) ?_ ?_
            · refine Ob.plain fun ac w hR hk K k9 => ?_
              obtain ⟨_, e61, rfl⟩ := hk 61 (by decide)
              clear hk
              have hw := HN.out.1
              go_simp
              exact k9 _ _ (Chg.refl _ _) rfl
            refine Obs.cons none (by kernel_rfl) ?_ ?_
            · refine Ob.plain fun ac w hR hk K k9 => ?_
              obtain ⟨_, e58, rfl⟩ := hk 58 (by decide)
              obtain ⟨_, e62, rfl⟩ := hk 62 (by decide)
              clear hk
              generalize cmpC a b = v at *
              have z : (v == v) = true := by simp
              go_simp
              exact k9 _ _ (Chg.refl _ _) rfl
            refine Obs.cons none (by kernel_rfl) ?_ ?_
            · refine Ob.plain fun ac w hR hk K k9 => ?_
              obtain ⟨_, e63, f63⟩ := hk 63 (by decide)
              clear hk
              go_simp
              exact k9 _ _ (Chg.refl _ _) f63
            refine Obs.cons (some (64, true)) (by kernel_rfl) ?_ ?_
            · refine Ob.yes (fun _ _ h => h) fun ac w hR hk K k9 => ?_
              obtain ⟨_, e2, rfl⟩ := hk 2 (by decide)
              clear hk
              obtain ⟨z0, z1, z2, z3, z4, z5, z6, z7, z8⟩ := (cred_at_blk HX.out.1).keep hR id
              simp only [Nat.zero_add, credBox] at z0 z1 z2 z3 z4 z5 z6 z7 z8
              go_simp
              exact k9 _ _ (Chg.refl _ _) rfl
            refine Obs.cons (some (64, true)) (by kernel_rfl) ?_ ?_
            · refine Ob.yes (fun _ _ h => h) fun ac w hR hk K k9 => ?_
              obtain ⟨_, e65, rfl⟩ := hk 65 (by decide)
              clear hk
              go_simp
              refine (pcright a _ HX.out.2.2.1).mono ?_
              rintro e w2 ⟨rfl, hc⟩
              exact k9 _ _ hc (congrArg Value.bool HA.out)
            refine Obs.cons (some (64, true)) (by kernel_rfl) ?_ ?_
            · refine Ob.yes (fun _ _ h => h) fun ac w hR hk K k9 => ?_
              obtain ⟨_, e66, rfl⟩ := hk 66 (by decide)
              clear hk
              go_simp
              exact k9 _ _ (Chg.refl _ _) rfl
            refine Obs.cons (some (64, true)) (by kernel_rfl) ?_ ?_
            · refine Ob.yes (fun _ _ h => h) fun ac w hR hk K k9 => ?_
              obtain ⟨_, e67, f67⟩ := hk 67 (by decide)
              clear hk
              go_simp
              exact k9 _ _ (Chg.refl _ _) f67
            refine Obs.cons (some (68, false)) (by kernel_rfl) ?_ ?_
            · exact Ob.no (fun _ _ h => h) (Chg.refl _) (fun _ _ => trivial)
            refine Obs.cons (some (68, false)) (by kernel_rfl) ?_ ?_
            · exact Ob.no (fun _ _ h => h) (Chg.refl _) (fun _ _ => trivial)
            refine Obs.cons (some (68, false)) (by kernel_rfl) ?_ ?_
            · exact Ob.no (fun _ _ h => h) (Chg.refl _) (fun _ _ => trivial)
            refine Obs.cons (some (64, true)) (by kernel_rfl) ?_ ?_
            · refine Ob.yes (fun _ _ h => h) fun ac w hR hk K k9 => ?_
              obtain ⟨_, e68, rfl⟩ := hk 68 (by decide)
              obtain ⟨_, e71, _⟩ := hk 71 (by decide)
              clear hk
              go_simp
              exact k9 _ _ (Chg.refl _ _) rfl
            refine Obs.cons (some (64, true)) (by kernel_rfl) ?_ ?_
            · refine Ob.yes (fun _ _ h => h) fun ac w hR hk K k9 => ?_
              obtain ⟨_, e72, f72⟩ := hk 72 (by decide)
              clear hk
              go_simp
              exact k9 _ _ (Chg.refl _ _) f72
            refine Obs.cons (some (73, false)) (by kernel_rfl) ?_ ?_
            · exact Ob.no (fun _ _ h => h) (Chg.refl _) (fun _ _ => trivial)
            refine Obs.cons (some (73, false)) (by kernel_rfl) ?_ ?_
            · exact Ob.no (fun _ _ h => h) (Chg.refl _) (fun _ _ => trivial)
            refine Obs.cons (some (73, false)) (by kernel_rfl) ?_ ?_
            · exact Ob.no (fun _ _ h => h) (Chg.refl _) (fun _ _ => trivial)
            refine Obs.cons (some (73, false)) (by kernel_rfl) ?_ ?_
            · exact Ob.no (fun _ _ h => h) (Chg.refl _) (fun _ _ => trivial)
            refine Obs.cons (some (73, false)) (by kernel_rfl) ?_ ?_
            · exact Ob.no (fun _ _ h => h) (Chg.refl _) (fun _ _ => trivial)
            refine Obs.cons (some (73, false)) (by kernel_rfl) ?_ ?_
            · exact Ob.no (fun _ _ h => h) (Chg.refl _) (fun _ _ => trivial)
            refine Obs.cons (some (73, false)) (by kernel_rfl) ?_ ?_
            · exact Ob.no (fun _ _ h => h) (Chg.refl _) (fun _ _ => trivial)
            refine Obs.cons (some (73, false)) (by kernel_rfl) ?_ ?_
            · exact Ob.no (fun _ _ h => h) (Chg.refl _) (fun _ _ => trivial)
            refine Obs.cons (some (64, true)) (by kernel_rfl) ?_ ?_
            · refine Ob.yes (fun _ _ h => h) fun ac w hR hk K k9 => ?_
              obtain ⟨_, e73, rfl⟩ := hk 73 (by decide)
              obtain ⟨_, e81, _⟩ := hk 81 (by decide)
              clear hk
              go_simp
              exact k9 _ _ (Chg.refl _ _) rfl
            refine Obs.cons none (by kernel_rfl) ?_ ?_
            · refine Ob.plain fun ac w hR hk K k9 => ?_
              obtain ⟨_, e64, rfl⟩ := hk 64 (by decide)
              obtain ⟨_, e82, rfl⟩ := hk 82 (by decide)
              clear hk
              go_simp
              exact k9 _ _ (Chg.refl _ _) rfl
            refine Obs.cons none (by kernel_rfl) ?_ ?_
            · refine Ob.plain fun ac w hR hk K k9 => ?_
              obtain ⟨_, e83, f83⟩ := hk 83 (by decide)
              clear hk
              go_simp
              exact k9 _ _ (Chg.refl _ _) f83
            exact Obs.nil
          case fin =>
            intro vals w9 hc9 hv
            have h4 : vals 4 = .bool true := hv 4 (by decide)
            simp only [putAll, List.setIfInBounds_toArray, List.set_cons_zero, List.set_cons_succ, h4]
            have HC9 := hid (HC.out.trans hc9 (fun _ _ h => h))
            clear hc9 hv h4 HC HX HN HA HB
            go_wp2
            go_ret
            exact ⟨rfl, HC9.out⟩
        | true =>
          have HA := hid hra
          clear hra
          cases hrb : isCred b with
          | false =>
            have HB := hid hrb
            clear hrb
            go_wp2
            refine wp_region_specs (cbSpecsH A B a b) [56, 57, 58, 59, 60, 61, 62, 63, 64, 65, 66, 67, 68, 69, 70, 71, 72, 73, 74, 75, 76, 77, 78, 79, 80, 81, 82, 83, 4] [2, 3] (by kernel_rfl) (by kernel_rfl) (by rfl) (by kernel_rfl) ?start ?obs ?fin
            case start =>
              simp only [List.forall_mem_cons]
              exact ⟨⟨_, rfl, rfl⟩, ⟨_, rfl, rfl⟩, fun _ h => by cases h⟩
            case obs =>
              clear HC
              refine Obs.cons none (by kernel_rfl) ?_ ?_
              · refine Ob.plain fun ac w hR hk K k9 => ?_
                obtain ⟨_, e2, rfl⟩ := hk 2 (by decide)
                clear hk
                obtain ⟨z0, z1, z2, z3, z4, z5, z6, z7, z8⟩ := (cred_at_blk HX.out.1).keep hR id
                simp only [Nat.zero_add, credBox] at z0 z1 z2 z3 z4 z5 z6 z7 z8
                go_simp
                exact k9 _ _ (Chg.refl _ _) rfl
              refine Obs.cons none (by kernel_rfl) ?_ ?_
              · refine Ob.plain fun ac w hR hk K k9 => ?_
                obtain ⟨_, e3, rfl⟩ := hk 3 (by decide)
                clear hk
                obtain ⟨z0, z1, z2, z3, z4, z5, z6, z7, z8⟩ := (cred_at_blk HX.out.2.1).keep hR id
                simp only [Nat.zero_add, credBox] at z0 z1 z2 z3 z4 z5 z6 z7 z8
                go_simp
                exact k9 _ _ (Chg.refl _ _) rfl
              refine Obs.cons none (by kernel_rfl) ?_ ?_
              · refine Ob.plain fun ac w hR hk K k9 => ?_
                obtain ⟨_, e56, rfl⟩ := hk 56 (by decide)
                obtain ⟨_, e57, rfl⟩ := hk 57 (by decide)
                clear hk
                go_simp
                refine (pccompare a b _ HX.out.2.2.1 HX.out.2.2.2).mono ?_
                rintro e w2 ⟨rfl, hc⟩
                exact k9 _ _ hc rfl
              refine Obs.cons none (by kernel_rfl) ?_ ?_
              · refine Ob.plain fun ac w hR hk K k9 => ?_
                obtain ⟨_, e3, rfl⟩ := hk 3 (by decide)
                clear hk
                obtain ⟨z0, z1, z2, z3, z4, z5, z6, z7, z8⟩ := (cred_at_blk HX.out.2.1).keep hR id
                simp only [Nat.zero_add, credBox] at z0 z1 z2 z3 z4 z5 z6 z7 z8
                go_simp
                exact k9 _ _ (Chg.refl _ _) rfl
              refine Obs.cons none (by kernel_rfl) ?_ ?_
              · refine Ob.plain fun ac w hR hk K k9 => ?_
                obtain ⟨_, e2, rfl⟩ := hk 2 (by decide)
                clear hk
                obtain ⟨z0, z1, z2, z3, z4, z5, z6, z7, z8⟩ := (cred_at_blk HX.out.1).keep hR id
                simp only [Nat.zero_add, credBox] at z0 z1 z2 z3 z4 z5 z6 z7 z8
                go_simp
                exact k9 _ _ (Chg.refl _ _) rfl
              refine Obs.cons none (by kernel_rfl) ?_ ?_
              · refine Ob.plain fun ac w hR hk K k9 => ?_
                obtain ⟨_, e59, rfl⟩ := hk 59 (by decide)
                obtain ⟨_, e60, rfl⟩ := hk 60 (by decide)
                clear hk
                go_simp
                refine (pccompare b a _ HX.out.2.2.2 HX.out.2.2.1).mono ?_
                rintro e w2 ⟨rfl, hc⟩
                exact k9 _ _ hc rfl
              refine Obs.cons none (by kernel_rfl) ?_ ?_
              · refine Ob.plain fun ac w hR hk K k9 => ?_
                obtain ⟨_, e61, rfl⟩ := hk 61 (by decide)
                clear hk
                have hw := HN.out.1
                go_simp
                exact k9 _ _ (Chg.refl _ _) rfl
              refine Obs.cons none (by kernel_rfl) ?_ ?_
              · refine Ob.plain fun ac w hR hk K k9 => ?_
                obtain ⟨_, e58, rfl⟩ := hk 58 (by decide)
                obtain ⟨_, e62, rfl⟩ := hk 62 (by decide)
                clear hk
                generalize cmpC a b = v at *
                have z : (v == v) = true := by simp
                go_simp
                exact k9 _ _ (Chg.refl _ _) rfl
              refine Obs.cons none (by kernel_rfl) ?_ ?_
              · refine Ob.plain fun ac w hR hk K k9 => ?_
                obtain ⟨_, e63, f63⟩ := hk 63 (by decide)
                clear hk
                go_simp
                exact k9 _ _ (Chg.refl _ _) f63
              refine Obs.cons (some (64, true)) (by kernel_rfl) ?_ ?_
              · refine Ob.yes (fun _ _ h => h) fun ac w hR hk K k9 => ?_
                obtain ⟨_, e2, rfl⟩ := hk 2 (by decide)
                clear hk
                obtain ⟨z0, z1, z2, z3, z4, z5, z6, z7, z8⟩ := (cred_at_blk HX.out.1).keep hR id
                simp only [Nat.zero_add, credBox] at z0 z1 z2 z3 z4 z5 z6 z7 z8
                go_simp
                exact k9 _ _ (Chg.refl _ _) rfl
              refine Obs.cons (some (64, true)) (by kernel_rfl) ?_ ?_
              · refine Ob.yes (fun _ _ h => h) fun ac w hR hk K k9 => ?_
                obtain ⟨_, e65, rfl⟩ := hk 65 (by decide)
                clear hk
                go_simp
                refine (pcright a _ HX.out.2.2.1).mono ?_
                rintro e w2 ⟨rfl, hc⟩
                exact k9 _ _ hc (congrArg Value.bool HA.out)
              refine Obs.cons (some (64, true)) (by kernel_rfl) ?_ ?_
              · refine Ob.yes (fun _ _ h => h) fun ac w hR hk K k9 => ?_
                obtain ⟨_, e66, rfl⟩ := hk 66 (by decide)
                clear hk
                go_simp
                exact k9 _ _ (Chg.refl _ _) rfl
              refine Obs.cons (some (64, true)) (by kernel_rfl) ?_ ?_
              · refine Ob.yes (fun _ _ h => h) fun ac w hR hk K k9 => ?_
                obtain ⟨_, e67, f67⟩ := hk 67 (by decide)
                clear hk
                go_simp
                exact k9 _ _ (Chg.refl _ _) f67
              refine Obs.cons (some (68, false)) (by kernel_rfl) ?_ ?_
              · refine Ob.yes (fun _ _ h => h) fun ac w hR hk K k9 => ?_
                obtain ⟨_, e3, rfl⟩ := hk 3 (by decide)
                clear hk
                obtain ⟨z0, z1, z2, z3, z4, z5, z6, z7, z8⟩ := (cred_at_blk HX.out.2.1).keep hR id
                simp only [Nat.zero_add, credBox] at z0 z1 z2 z3 z4 z5 z6 z7 z8
                go_simp
                exact k9 _ _ (Chg.refl _ _) rfl
              refine Obs.cons (some (68, false)) (by kernel_rfl) ?_ ?_
              · refine Ob.yes (fun _ _ h => h) fun ac w hR hk K k9 => ?_
                obtain ⟨_, e69, rfl⟩ := hk 69 (by decide)
                clear hk
                go_simp
                refine (pcright b _ HX.out.2.2.2).mono ?_
                rintro e w2 ⟨rfl, hc⟩
                exact k9 _ _ hc (congrArg Value.bool HB.out)
              refine Obs.cons (some (68, false)) (by kernel_rfl) ?_ ?_
              · refine Ob.yes (fun _ _ h => h) fun ac w hR hk K k9 => ?_
                obtain ⟨_, e70, rfl⟩ := hk 70 (by decide)
                clear hk
                go_simp
                exact k9 _ _ (Chg.refl _ _) rfl
              refine Obs.cons (some (64, true)) (by kernel_rfl) ?_ ?_
              · refine Ob.yes (fun _ _ h => h) fun ac w hR hk K k9 => ?_
                obtain ⟨_, e68, rfl⟩ := hk 68 (by decide)
                obtain ⟨_, e71, rfl⟩ := hk 71 (by decide)
                clear hk
                go_simp
                exact k9 _ _ (Chg.refl _ _) rfl
              refine Obs.cons (some (64, true)) (by kernel_rfl) ?_ ?_
              · refine Ob.yes (fun _ _ h => h) fun ac w hR hk K k9 => ?_
                obtain ⟨_, e72, f72⟩ := hk 72 (by decide)
                clear hk
                go_simp
                exact k9 _ _ (Chg.refl _ _) f72
              refine Obs.cons (some (73, false)) (by kernel_rfl) ?_ ?_
              · exact Ob.no (fun _ _ h => h) (Chg.refl _) (fun _ _ => trivial)
              refine Obs.cons (some (73, false)) (by kernel_rfl) ?_ ?_
              · exact Ob.no (fun _ _ h => h) (Chg.refl _) (fun _ _ => trivial)
              refine Obs.cons (some (73, false)) (by kernel_rfl) ?_ ?_
              · exact Ob.no (fun _ _ h => h) (Chg.refl _) (fun _ _ => trivial)
              refine Obs.cons (some (73, false)) (by kernel_rfl) ?_ ?_
              · exact Ob.no (fun _ _ h => h) (Chg.refl _) (fun _ _ => trivial)
              refine Obs.cons (some (73, false)) (by kernel_rfl) ?_ ?_
              · exact Ob.no (fun _ _ h => h) (Chg.refl _) (fun _ _ => trivial)
              refine Obs.cons (some (73, false)) (by kernel_rfl) ?_ ?_
              · exact Ob.no (fun _ _ h => h) (Chg.refl _) (fun _ _ => trivial)
              refine Obs.cons (some (73, false)) (by kernel_rfl) ?_ ?_
              · exact Ob.no (fun _ _ h => h) (Chg.refl _) (fun _ _ => trivial)
              refine Obs.cons (some (73, false)) (by kernel_rfl) ?_ ?_
              · exact Ob.no (fun _ _ h => h) (Chg.refl _) (fun _ _ => trivial)
              refine Obs.cons (some (64, true)) (by kernel_rfl) ?_ ?_
              · refine Ob.yes (fun _ _ h => h) fun ac w hR hk K k9 => ?_
                obtain ⟨_, e73, rfl⟩ := hk 73 (by decide)
                obtain ⟨_, e81, _⟩ := hk 81 (by decide)
                clear hk
                go_simp
                exact k9 _ _ (Chg.refl _ _) rfl
              refine Obs.cons none (by kernel_rfl) ?_ ?_
              · refine Ob.plain fun ac w hR hk K k9 => ?_
                obtain ⟨_, e64, rfl⟩ := hk 64 (by decide)
                obtain ⟨_, e82, rfl⟩ := hk 82 (by decide)
                clear hk
                go_simp
                exact k9 _ _ (Chg.refl _ _) rfl
              refine Obs.cons none (by kernel_rfl) ?_ ?_
              · refine Ob.plain fun ac w hR hk K k9 => ?_
                obtain ⟨_, e83, f83⟩ := hk 83 (by decide)
                clear hk
                go_simp
                exact k9 _ _ (Chg.refl _ _) f83
              exact Obs.nil
            case fin =>
              intro vals w9 hc9 hv
              have h4 : vals 4 = .bool true := hv 4 (by decide)
              simp only [putAll, List.setIfInBounds_toArray, List.set_cons_zero, List.set_cons_succ, h4]
              have HC9 := hid (HC.out.trans hc9 (fun _ _ h => h))
              clear hc9 hv h4 HC HX HN HA HB
              go_wp2
              go_ret
              exact ⟨rfl, HC9.out⟩
          | true =>
            have HB := hid hrb
            clear hrb
            go_wp2
            refine wp_region_specs (cbSpecsY A B a b) [56, 57, 58, 59, 60, 61, 62, 63, 64, 65, 66, 67, 68, 69, 70, 71, 72, 73, 74, 75, 76, 77, 78, 79, 80, 81, 82, 83, 4] [2, 3] (by kernel_rfl) (by kernel_rfl) (by rfl) (by kernel_rfl) ?start ?obs ?fin
            case start =>
              simp only [List.forall_mem_cons]
              exact ⟨⟨_, rfl, rfl⟩, ⟨_, rfl, rfl⟩, fun _ h => by cases h⟩
            case obs =>
              clear HC
              refine Obs.cons none (by kernel_rfl) ?_ ?_
              · refine Ob.plain fun ac w hR hk K k9 => ?_
                obtain ⟨_, e2, rfl⟩ := hk 2 (by decide)
                clear hk
                obtain ⟨z0, z1, z2, z3, z4, z5, z6, z7, z8⟩ := (cred_at_blk HX.out.1).keep hR id
                simp only [Nat.zero_add, credBox] at z0 z1 z2 z3 z4 z5 z6 z7 z8
                go_simp
                exact k9 _ _ (Chg.refl _ _) rfl
              refine Obs.cons none (by kernel_rfl) ?_ ?_
              · refine Ob.plain fun ac w hR hk K k9 => ?_
                obtain ⟨_, e3, rfl⟩ := hk 3 (by decide)
                clear hk
                obtain ⟨z0, z1, z2, z3, z4, z5, z6, z7, z8⟩ := (cred_at_blk HX.out.2.1).keep hR id
                simp only [Nat.zero_add, credBox] at z0 z1 z2 z3 z4 z5 z6 z7 z8
                go_simp
                exact k9 _ _ (Chg.refl _ _) rfl
              refine Obs.cons none (by kernel_rfl) ?_ ?_
              · refine Ob.plain fun ac w hR hk K k9 => ?_
                obtain ⟨_, e56, rfl⟩ := hk 56 (by decide)
                obtain ⟨_, e57, rfl⟩ := hk 57 (by decide)
                clear hk
                go_simp
                refine (pccompare a b _ HX.out.2.2.1 HX.out.2.2.2).mono ?_
                rintro e w2 ⟨rfl, hc⟩
                exact k9 _ _ hc rfl
              refine Obs.cons none (by kernel_rfl) ?_ ?_
              · refine Ob.plain fun ac w hR hk K k9 => ?_
                obtain ⟨_, e3, rfl⟩ := hk 3 (by decide)
                clear hk
                obtain ⟨z0, z1, z2, z3, z4, z5, z6, z7, z8⟩ := (cred_at_blk HX.out.2.1).keep hR id
                simp only [Nat.zero_add, credBox] at z0 z1 z2 z3 z4 z5 z6 z7 z8
                go_simp
                exact k9 _ _ (Chg.refl _ _) rfl
              refine Obs.cons none (by kernel_rfl) ?_ ?_
              · refine Ob.plain fun ac w hR hk K k9 => ?_
                obtain ⟨_, e2, rfl⟩ := hk 2 (by decide)
                clear hk
                obtain ⟨z0, z1, z2, z3, z4, z5, z6, z7, z8⟩ := (cred_at_blk HX.out.1).keep hR id
                simp only [Nat.zero_add, credBox] at z0 z1 z2 z3 z4 z5 z6 z7 z8
                go_simp
                exact k9 _ _ (Chg.refl _ _) rfl
              refine Obs.cons none (by kernel_rfl) ?_ ?_
              · refine Ob.plain fun ac w hR hk K k9 => ?_
                obtain ⟨_, e59, rfl⟩ := hk 59 (by decide)
                obtain ⟨_, e60, rfl⟩ := hk 60 (by decide)
                clear hk
                go_simp
                refine (pccompare b a _ HX.out.2.2.2 HX.out.2.2.1).mono ?_
                rintro e w2 ⟨rfl, hc⟩
                exact k9 _ _ hc rfl
              refine Obs.cons none (by kernel_rfl) ?_ ?_
              · refine Ob.plain fun ac w hR hk K k9 => ?_
                obtain ⟨_, e61, rfl⟩ := hk 61 (by decide)
                clear hk
                have hw := HN.out.1
                go_simp
                exact k9 _ _ (Chg.refl _ _) rfl
              refine Obs.cons none (by kernel_rfl) ?_ ?_
              · refine Ob.plain fun ac w hR hk K k9 => ?_
                obtain ⟨_, e58, rfl⟩ := hk 58 (by decide)
                obtain ⟨_, e62, rfl⟩ := hk 62 (by decide)
                clear hk
                generalize cmpC a b = v at *
                have z : (v == v) = true := by simp
                go_simp
                exact k9 _ _ (Chg.refl _ _) rfl
              refine Obs.cons none (by kernel_rfl) ?_ ?_
              · refine Ob.plain fun ac w hR hk K k9 => ?_
                obtain ⟨_, e63, f63⟩ := hk 63 (by decide)
                clear hk
                go_simp
                exact k9 _ _ (Chg.refl _ _) f63
              refine Obs.cons (some (64, true)) (by kernel_rfl) ?_ ?_
              · refine Ob.yes (fun _ _ h => h) fun ac w hR hk K k9 => ?_
                obtain ⟨_, e2, rfl⟩ := hk 2 (by decide)
                clear hk
                obtain ⟨z0, z1, z2, z3, z4, z5, z6, z7, z8⟩ := (cred_at_blk HX.out.1).keep hR id
                simp only [Nat.zero_add, credBox] at z0 z1 z2 z3 z4 z5 z6 z7 z8
                go_simp
                exact k9 _ _ (Chg.refl _ _) rfl
              refine Obs.cons (some (64, true)) (by kernel_rfl) ?_ ?_
              · refine Ob.yes (fun _ _ h => h) fun ac w hR hk K k9 => ?_
                obtain ⟨_, e65, rfl⟩ := hk 65 (by decide)
                clear hk
                go_simp
                refine (pcright a _ HX.out.2.2.1).mono ?_
                rintro e w2 ⟨rfl, hc⟩
                exact k9 _ _ hc (congrArg Value.bool HA.out)
              refine Obs.cons (some (64, true)) (by kernel_rfl) ?_ ?_
              · refine Ob.yes (fun _ _ h => h) fun ac w hR hk K k9 => ?_
                obtain ⟨_, e66, rfl⟩ := hk 66 (by decide)
                clear hk
                go_simp
                exact k9 _ _ (Chg.refl _ _) rfl
              refine Obs.cons (some (64, true)) (by kernel_rfl) ?_ ?_
              · refine Ob.yes (fun _ _ h => h) fun ac w hR hk K k9 => ?_
                obtain ⟨_, e67, f67⟩ := hk 67 (by decide)
                clear hk
                go_simp
                exact k9 _ _ (Chg.refl _ _) f67
              refine Obs.cons (some (68, false)) (by kernel_rfl) ?_ ?_
              · refine Ob.yes (fun _ _ h => h) fun ac w hR hk K k9 => ?_
                obtain ⟨_, e3, rfl⟩ := hk 3 (by decide)
                clear hk
                obtain ⟨z0, z1, z2, z3, z4, z5, z6, z7, z8⟩ := (cred_at_blk HX.out.2.1).keep hR id
                simp only [Nat.zero_add, credBox] at z0 z1 z2 z3 z4 z5 z6 z7 z8
                go_simp
                exact k9 _ _ (Chg.refl _ _) rfl
              refine Obs.cons (some (68, false)) (by kernel_rfl) ?_ ?_
              · refine Ob.yes (fun _ _ h => h) fun ac w hR hk K k9 => ?_
                obtain ⟨_, e69, rfl⟩ := hk 69 (by decide)
                clear hk
                go_simp
                refine (pcright b _ HX.out.2.2.2).mono ?_
                rintro e w2 ⟨rfl, hc⟩
                exact k9 _ _ hc (congrArg Value.bool HB.out)
              refine Obs.cons (some (68, false)) (by kernel_rfl) ?_ ?_
              · refine Ob.yes (fun _ _ h => h) fun ac w hR hk K k9 => ?_
                obtain ⟨_, e70, rfl⟩ := hk 70 (by decide)
                clear hk
                go_simp
                exact k9 _ _ (Chg.refl _ _) rfl
              refine Obs.cons (some (64, true)) (by kernel_rfl) ?_ ?_
              · refine Ob.yes (fun _ _ h => h) fun ac w hR hk K k9 => ?_
                obtain ⟨_, e68, rfl⟩ := hk 68 (by decide)
                obtain ⟨_, e71, rfl⟩ := hk 71 (by decide)
                clear hk
                go_simp
                exact k9 _ _ (Chg.refl _ _) rfl
              refine Obs.cons (some (64, true)) (by kernel_rfl) ?_ ?_
              · refine Ob.yes (fun _ _ h => h) fun ac w hR hk K k9 => ?_
                obtain ⟨_, e72, f72⟩ := hk 72 (by decide)
                clear hk
                go_simp
                exact k9 _ _ (Chg.refl _ _) f72
              refine Obs.cons (some (73, false)) (by kernel_rfl) ?_ ?_
              · refine Ob.yes (fun _ _ h => h) fun ac w hR hk K k9 => ?_
                obtain ⟨_, e2, rfl⟩ := hk 2 (by decide)
                clear hk
                obtain ⟨z0, z1, z2, z3, z4, z5, z6, z7, z8⟩ := (cred_at_blk HX.out.1).keep hR id
                simp only [Nat.zero_add, credBox] at z0 z1 z2 z3 z4 z5 z6 z7 z8
                go_simp
                exact k9 _ _ (Chg.refl _ _) rfl
              refine Obs.cons (some (73, false)) (by kernel_rfl) ?_ ?_
              · refine Ob.yes (fun _ _ h => h) fun ac w hR hk K k9 => ?_
                obtain ⟨_, e3, rfl⟩ := hk 3 (by decide)
                clear hk
                obtain ⟨z0, z1, z2, z3, z4, z5, z6, z7, z8⟩ := (cred_at_blk HX.out.2.1).keep hR id
                simp only [Nat.zero_add, credBox] at z0 z1 z2 z3 z4 z5 z6 z7 z8
                go_simp
                exact k9 _ _ (Chg.refl _ _) rfl
              refine Obs.cons (some (73, false)) (by kernel_rfl) ?_ ?_
              · refine Ob.yes (fun _ _ h => h) fun ac w hR hk K k9 => ?_
                obtain ⟨_, e74, rfl⟩ := hk 74 (by decide)
                obtain ⟨_, e75, rfl⟩ := hk 75 (by decide)
                clear hk
                go_simp
                refine (pccompare a b _ HX.out.2.2.1 HX.out.2.2.2).mono ?_
                rintro e w2 ⟨rfl, hc⟩
                exact k9 _ _ hc rfl
              refine Obs.cons (some (73, false)) (by kernel_rfl) ?_ ?_
              · refine Ob.yes (fun _ _ h => h) fun ac w hR hk K k9 => ?_
                obtain ⟨_, e76, rfl⟩ := hk 76 (by decide)
                clear hk
                go_simp
                exact k9 _ _ (Chg.refl _ _) (congrArg Value.bool (HN.out.2 HA.out HB.out))
              refine Obs.cons (some (73, false)) (by kernel_rfl) ?_ ?_
              · refine Ob.yes (fun _ _ h => h) fun ac w hR hk K k9 => ?_
                obtain ⟨_, e2, rfl⟩ := hk 2 (by decide)
                clear hk
                obtain ⟨z0, z1, z2, z3, z4, z5, z6, z7, z8⟩ := (cred_at_blk HX.out.1).keep hR id
                simp only [Nat.zero_add, credBox] at z0 z1 z2 z3 z4 z5 z6 z7 z8
                go_simp
                exact k9 _ _ (Chg.refl _ _) rfl
              refine Obs.cons (some (73, false)) (by kernel_rfl) ?_ ?_
              · refine Ob.yes (fun _ _ h => h) fun ac w hR hk K k9 => ?_
                obtain ⟨_, e3, rfl⟩ := hk 3 (by decide)
                clear hk
                obtain ⟨z0, z1, z2, z3, z4, z5, z6, z7, z8⟩ := (cred_at_blk HX.out.2.1).keep hR id
                simp only [Nat.zero_add, credBox] at z0 z1 z2 z3 z4 z5 z6 z7 z8
                go_simp
                exact k9 _ _ (Chg.refl _ _) rfl
              refine Obs.cons (some (73, false)) (by kernel_rfl) ?_ ?_
              · refine Ob.yes (fun _ _ h => h) fun ac w hR hk K k9 => ?_
                obtain ⟨_, e78, rfl⟩ := hk 78 (by decide)
                obtain ⟨_, e79, rfl⟩ := hk 79 (by decide)
                clear hk
                go_simp
                simp only [run_eqgC, run_eqlC, Result.andThen]
                go_simp
                exact k9 _ _ (Chg.refl _ _) rfl
              refine Obs.cons (some (73, false)) (by kernel_rfl) ?_ ?_
              · refine Ob.yes (fun _ _ h => h) fun ac w hR hk K k9 => ?_
                obtain ⟨_, e77, rfl⟩ := hk 77 (by decide)
                obtain ⟨_, e80, rfl⟩ := hk 80 (by decide)
                clear hk
                generalize eqC a b = v at *
                have z : (v == v) = true := by simp
                go_simp
                exact k9 _ _ (Chg.refl _ _) rfl
              refine Obs.cons (some (64, true)) (by kernel_rfl) ?_ ?_
              · refine Ob.yes (fun _ _ h => h) fun ac w hR hk K k9 => ?_
                obtain ⟨_, e73, rfl⟩ := hk 73 (by decide)
                obtain ⟨_, e81, rfl⟩ := hk 81 (by decide)
                clear hk
                go_simp
                exact k9 _ _ (Chg.refl _ _) rfl
              refine Obs.cons none (by kernel_rfl) ?_ ?_
              · refine Ob.plain fun ac w hR hk K k9 => ?_
                obtain ⟨_, e64, rfl⟩ := hk 64 (by decide)
                obtain ⟨_, e82, rfl⟩ := hk 82 (by decide)
                clear hk
                go_simp
                exact k9 _ _ (Chg.refl _ _) rfl
              refine Obs.cons none (by kernel_rfl) ?_ ?_
              · refine Ob.plain fun ac w hR hk K k9 => ?_
                obtain ⟨_, e83, f83⟩ := hk 83 (by decide)
                clear hk
                go_simp
                exact k9 _ _ (Chg.refl _ _) f83
              exact Obs.nil
            case fin =>
              intro vals w9 hc9 hv
              have h4 : vals 4 = .bool true := hv 4 (by decide)
              simp only [putAll, List.setIfInBounds_toArray, List.set_cons_zero, List.set_cons_succ, h4]
              have HC9 := hid (HC.out.trans hc9 (fun _ _ h => h))
              clear hc9 hv h4 HC HX HN HA HB
              go_wp2
              go_ret
              exact ⟨rfl, HC9.out⟩
end Go.Proofs.Ytjohiggfjpfbeaa
