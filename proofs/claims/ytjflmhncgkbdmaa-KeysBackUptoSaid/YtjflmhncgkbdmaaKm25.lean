/- The law KeysBack, walked: what is signed is checked, and by put and get again. -/
import Derived.Test.YtjflmhncgkbdmaaKm23
import Derived.Test.YtjflmhncgkbdmaaKm24
namespace Go.Proofs.Ytjflmhncgkbdmaa
open Go.RowKit

/-- What the law holds once it has signed. -/
structure BSt (n : Nat) (l : List KeyB) (c : CredB) (tag : List UInt8) (w : World) (g A S : Nat) (ta : Option Addr) (cap : Nat) : Prop where
  rg : RegAt (fun i => i < n) w g l
  cA : w.heap[A]? = some (.cells (credBox c) 26 (0, 0))
  cS : w.heap[S]? = some (.cells (signBox c (.slice ta tag.length cap)) 36 (0, 0))
  bt : BytesAt (fun i => i < n) w (.slice ta tag.length cap) tag
  lA : A < n
  lS : S < n

theorem BSt.keep {n : Nat} {l : List KeyB} {c : CredB} {tag : List UInt8} {w w' : World} {g A S : Nat} {ta : Option Addr} {cap : Nat} {Q : Nat → Prop} (h : BSt n l c tag w g A S ta cap) (hc : Chg Q w w') (hQ : ∀ i, i < n → ¬ Q i) : BSt n l c tag w' g A S ta cap :=
  ⟨h.rg.keep hc hQ, blk_keep h.cA hc (hQ _ h.lA), blk_keep h.cS hc (hQ _ h.lS), h.bt.keep hc hQ, h.lA, h.lS⟩

theorem cred_one {w : World} {g : Nat} {c : CredB} (h : w.heap[g]? = some (.cells (credBox c) 26 (0, 0))) (hs : credShort c 9223372036854775807) : CredsAt (fun _ => True) w (some ⟨g, 0, none⟩) [c] := fun i hi => by
  match i, hi with
  | 0, _ => exact ⟨g, 0, rfl, trivial, cred_at_blk h, hs⟩

set_option maxRecDepth 100000 in
set_option maxHeartbeats 8000000 in
/-- Signed, checked, put and got. -/
theorem kback_ok {D : Nat → Prop} (ao : Option Addr) (cp : Nat) (l : List KeyB) (c : CredB) (w : World) (hl : totalK l ≤ 2000) (hcz : sizeC c ≤ 400) (h : KeysAt D w ao l) :
    Calls Try.prog 3 #[.slice ao l.length cp, credV c] w fun e w' => e = .returned (.bool true) ∧ Chg (fun _ => False) w w' := by
  have hs : credShort c 9223372036854775807 := (sizeC_short hcz).mono (by decide)
  have hll : l.length ≤ 4611686018427387904 := by have := totalK_len l; omega
  have hA1 : (w.alloc (.cells #[.int .i64 c.kind, .string ⟨c.head.1.toArray⟩, .string ⟨c.head.2.toArray⟩, .string ⟨c.who.toArray⟩, .string ⟨c.b.1.toArray⟩, .string ⟨c.b.2.toArray⟩, .string ⟨c.c.1.toArray⟩, .string ⟨c.c.2.toArray⟩, .string ⟨c.w2.toArray⟩] 26)).heap[w.heap.size]? = some (.cells (credBox c) 26 (0, 0)) := heap_alloc_new w _
  have hc1 : Chg (fun _ => False) w (w.alloc (.cells #[.int .i64 c.kind, .string ⟨c.head.1.toArray⟩, .string ⟨c.head.2.toArray⟩, .string ⟨c.who.toArray⟩, .string ⟨c.b.1.toArray⟩, .string ⟨c.b.2.toArray⟩, .string ⟨c.c.1.toArray⟩, .string ⟨c.c.2.toArray⟩, .string ⟨c.w2.toArray⟩] 26)) := (Chg.refl _ w).alloc _
  have hf := kfirst (w.alloc (.cells #[.int .i64 c.kind, .string ⟨c.head.1.toArray⟩, .string ⟨c.head.2.toArray⟩, .string ⟨c.who.toArray⟩, .string ⟨c.b.1.toArray⟩, .string ⟨c.b.2.toArray⟩, .string ⟨c.c.1.toArray⟩, .string ⟨c.c.2.toArray⟩, .string ⟨c.w2.toArray⟩] 26))
  have HH := hid (And.intro hf (And.intro hA1 (And.intro hc1 (h.keep hc1 (fun _ _ => id)))))
  clear hf hA1 hc1 h
  show Calls Try.prog 3 #[.slice ao l.length cp, .agg #[.int .i64 c.kind, .string ⟨c.head.1.toArray⟩, .string ⟨c.head.2.toArray⟩, .string ⟨c.who.toArray⟩, .string ⟨c.b.1.toArray⟩, .string ⟨c.b.2.toArray⟩, .string ⟨c.c.1.toArray⟩, .string ⟨c.c.2.toArray⟩, .string ⟨c.w2.toArray⟩]] w _
  go_enter Try.func3, Try.ntmps3
  go_wp2_with fail
  obtain ⟨hf, hA1, hc1, h1⟩ := HH.out
  clear HH
  generalize (w.alloc (.cells #[.int .i64 c.kind, .string ⟨c.head.1.toArray⟩, .string ⟨c.head.2.toArray⟩, .string ⟨c.who.toArray⟩, .string ⟨c.b.1.toArray⟩, .string ⟨c.b.2.toArray⟩, .string ⟨c.c.1.toArray⟩, .string ⟨c.c.2.toArray⟩, .string ⟨c.w2.toArray⟩] 26)) = w1 at *
  obtain ⟨A, hAe⟩ : ∃ A, w.heap.size = A := ⟨_, rfl⟩
  have HA0 := hid hAe
  rw [hAe] at hA1
  simp only [hAe]
  clear hAe
  refine hf.mono ?_
  rintro e w2 ⟨rfl, hc12⟩
  have hA2 := blk_keep hA1 hc12 id
  have h2 := h1.keep hc12 (fun _ _ => id)
  have hc2 := hc1.trans hc12 (fun _ _ h => h)
  clear hf hA1 hc1 h1 hc12
  have hgr : Calls Try.prog 5 #[.slice ao l.length cp, .slice none 0 0] w2 fun e w' => e = .returned (.int .i64 (totalK l : Nat)) ∧ Chg (fun _ => False) w2 w' :=
    kgreat_any ao none cp 0 l [] w2 (by show totalK l + 0 ≤ _; omega) h2 (SignsAt.nil (fun _ => True) w2 none)
  have HX := hid (And.intro hA2 (And.intro h2 hc2))
  clear hA2 h2 hc2
  go_wp2_with fail
  refine hgr.mono ?_
  rintro e w3 ⟨rfl, hc23⟩
  obtain ⟨hA2, h2, hc2⟩ := HX.out
  have hA3 := blk_keep hA2 hc23 id
  have HK := hid (h2.keep hc23 (fun _ _ => id))
  have hc3 := hc2.trans hc23 (fun _ _ h => h)
  clear hgr HX hA2 h2 hc2 hc23
  obtain ⟨tk, htk⟩ : ∃ tk : Int, ((totalK l : Nat) : Int) = tk := ⟨_, rfl⟩
  have d1 : decide (2000 < tk) = false := decide_eq_false (by omega)
  rw [htk]
  clear htk
  have hal : Chg (fun _ => False) w3 (w3.alloc (.cells #[.int .i64 c.kind, .string ⟨c.head.1.toArray⟩, .string ⟨c.head.2.toArray⟩, .string ⟨c.who.toArray⟩, .string ⟨c.b.1.toArray⟩, .string ⟨c.b.2.toArray⟩, .string ⟨c.c.1.toArray⟩, .string ⟨c.c.2.toArray⟩, .string ⟨c.w2.toArray⟩] 26)) := (Chg.refl _ w3).alloc _
  have hgc : Calls Try.prog 6 #[.slice (some ⟨w3.heap.size, 0, none⟩) 1 1] (w3.alloc (.cells #[.int .i64 c.kind, .string ⟨c.head.1.toArray⟩, .string ⟨c.head.2.toArray⟩, .string ⟨c.who.toArray⟩, .string ⟨c.b.1.toArray⟩, .string ⟨c.b.2.toArray⟩, .string ⟨c.c.1.toArray⟩, .string ⟨c.c.2.toArray⟩, .string ⟨c.w2.toArray⟩] 26)) fun e w' => e = .returned (.int .i64 (totalC [c] : Nat)) ∧ Chg (fun _ => False) (w3.alloc (.cells #[.int .i64 c.kind, .string ⟨c.head.1.toArray⟩, .string ⟨c.head.2.toArray⟩, .string ⟨c.who.toArray⟩, .string ⟨c.b.1.toArray⟩, .string ⟨c.b.2.toArray⟩, .string ⟨c.c.1.toArray⟩, .string ⟨c.c.2.toArray⟩, .string ⟨c.w2.toArray⟩] 26)) w' :=
    great_any (some ⟨w3.heap.size, 0, none⟩) 1 [c] _ (by show sizeC c + 0 ≤ _; omega) (cred_one (heap_alloc_new w3 _) hs)
  obtain ⟨b0, b1, b2, b3, b4, b5, b6, b7, b8⟩ := cred_at_blk hA3
  simp only [Nat.zero_add] at b0 b1 b2 b3 b4 b5 b6 b7 b8
  have HX := hid (And.intro hgc (And.intro (blk_keep hA3 hal id) (hc3.trans hal (fun _ _ h => h))))
  have HK4 := hid (HK.out.keep hal (fun _ _ => id))
  clear hgc hA3 hc3 hal HK
  go_wp2_with fail
  clear b0 b1 b2 b3 b4 b5 b6 b7 b8 d1
  obtain ⟨hgc, hA3, hc3⟩ := HX.out
  have HK := HK4
  clear HX HK4
  generalize (w3.alloc (.cells #[.int .i64 c.kind, .string ⟨c.head.1.toArray⟩, .string ⟨c.head.2.toArray⟩, .string ⟨c.who.toArray⟩, .string ⟨c.b.1.toArray⟩, .string ⟨c.b.2.toArray⟩, .string ⟨c.c.1.toArray⟩, .string ⟨c.c.2.toArray⟩, .string ⟨c.w2.toArray⟩] 26)) = w35 at *
  refine hgc.mono ?_
  rintro e w4 ⟨rfl, hc34⟩
  have hA4 := blk_keep hA3 hc34 id
  have HK4 := hid (HK.out.keep hc34 (fun _ _ => id))
  have hc4 := hc3.trans hc34 (fun _ _ h => h)
  clear hgc hA3 hc3 hc34 HK
  obtain ⟨tc, htc⟩ : ∃ tc : Int, ((totalC [c] : Nat) : Int) = tc := ⟨_, rfl⟩
  have d2 : decide (400 < tc) = false := decide_eq_false (by have : totalC [c] = sizeC c := rfl; omega)
  rw [htc]
  clear htc
  have hnew := pnew ao cp l w4 hll HK4.out
  have HX := hid (And.intro hA4 hc4)
  clear hA4 hc4 HK4
  go_wp2_with fail
  clear d2
  refine hnew.mono ?_
  rintro e w5 hN
  obtain ⟨hA4, hc4⟩ := HX.out
  clear hnew HX
  by_cases h0 : newErr l = 0
  · obtain ⟨g, rfl, hg, hc45⟩ := hN.ok h0
    have HR := hid h0
    have hA5 := blk_keep hA4 hc45 id
    have hc5 := hc4.trans hc45 (fun _ _ h => h)
    have hg5 : RegAt (fun i => i < w5.heap.size) w5 g l := RegAt.mono hg (fun i hi => hi.2)
    obtain ⟨b0, b1, b2, b3, b4, b5, b6, b7, b8⟩ := cred_at_blk hA5
    simp only [Nat.zero_add] at b0 b1 b2 b3 b4 b5 b6 b7 b8
    have hsg : Calls Try.prog 8 #[.pointer (some ⟨g, 0, none⟩), .agg #[.int .i64 c.kind, .string ⟨c.head.1.toArray⟩, .string ⟨c.head.2.toArray⟩, .string ⟨c.who.toArray⟩, .string ⟨c.b.1.toArray⟩, .string ⟨c.b.2.toArray⟩, .string ⟨c.c.1.toArray⟩, .string ⟨c.c.2.toArray⟩, .string ⟨c.w2.toArray⟩]] w5 (SignPost (signed l c) (signErr l c) w5) := psign (Bg := 0) g l c w5 (hg5.mono (fun i hi => ⟨Nat.zero_le _, hi⟩)) h0 hs
    have HX := hid (And.intro hA5 (And.intro hc5 hg5))
    clear h0 hN hg hc45 hA4 hc4 hA5 hc5 hg5
    go_wp2_with fail
    clear b0 b1 b2 b3 b4 b5 b6 b7 b8
    refine hsg.mono ?_
    rintro e w6 ⟨sv, rfl, ⟨ta, cap, rfl, hbt⟩, hc56⟩
    obtain ⟨hA5, hc5, hg5⟩ := HX.out
    have hs56 := hc56.size
    have hA6 := blk_keep hA5 hc56 id
    have hc6 := hc5.trans hc56 (fun _ _ h => h)
    have hg6 := (hg5.keep hc56 (fun _ _ => id)).mono (E := fun i => i < w6.heap.size) (fun i hi => by have h1 : i < w5.heap.size := hi; omega)
    clear hsg HX hA5 hc5 hg5 hc56
    by_cases h1 : signErr l c = 0
    · obtain ⟨tag, htag⟩ : ∃ tag, signTag l c = tag := ⟨_, rfl⟩
      have hsd : signed l c = ⟨c, tag⟩ := by rw [signed_eq h1, htag]
      have HS : Hid (isSign ⟨c, tag⟩ = true ∧ checkErr l ⟨c, tag⟩ = 0 ∧ isCred c = true ∧ tag.length = 8) := hid (by rw [← hsd]; exact ⟨signed_right h1, signed_check h1, (signErr_ok h1).1, by rw [← htag]; exact tagOf_length _ _⟩)
      rw [h1]
      simp only [hsd] at hbt ⊢
      clear htag hsd h1
      rw [show Value.tuple #[signV c (.slice ta tag.length cap), .int .i64 ((0 : Nat) : Int)] = .tuple #[.agg #[.int .i64 c.kind, .string ⟨c.head.1.toArray⟩, .string ⟨c.head.2.toArray⟩, .string ⟨c.who.toArray⟩, .string ⟨c.b.1.toArray⟩, .string ⟨c.b.2.toArray⟩, .string ⟨c.c.1.toArray⟩, .string ⟨c.c.2.toArray⟩, .string ⟨c.w2.toArray⟩, .slice ta tag.length cap], .int .i64 0] from rfl]
      have hS7 : (w6.alloc (.cells #[.int .i64 c.kind, .string ⟨c.head.1.toArray⟩, .string ⟨c.head.2.toArray⟩, .string ⟨c.who.toArray⟩, .string ⟨c.b.1.toArray⟩, .string ⟨c.b.2.toArray⟩, .string ⟨c.c.1.toArray⟩, .string ⟨c.c.2.toArray⟩, .string ⟨c.w2.toArray⟩, .slice ta tag.length cap] 36)).heap[w6.heap.size]? = some (.cells (signBox c (.slice ta tag.length cap)) 36 (0, 0)) := heap_alloc_new w6 _
      have hal7 : Chg (fun _ => False) w6 (w6.alloc (.cells #[.int .i64 c.kind, .string ⟨c.head.1.toArray⟩, .string ⟨c.head.2.toArray⟩, .string ⟨c.who.toArray⟩, .string ⟨c.b.1.toArray⟩, .string ⟨c.b.2.toArray⟩, .string ⟨c.c.1.toArray⟩, .string ⟨c.c.2.toArray⟩, .string ⟨c.w2.toArray⟩, .slice ta tag.length cap] 36)) := (Chg.refl _ w6).alloc _
      have hz7 : (w6.alloc (.cells #[.int .i64 c.kind, .string ⟨c.head.1.toArray⟩, .string ⟨c.head.2.toArray⟩, .string ⟨c.who.toArray⟩, .string ⟨c.b.1.toArray⟩, .string ⟨c.b.2.toArray⟩, .string ⟨c.c.1.toArray⟩, .string ⟨c.c.2.toArray⟩, .string ⟨c.w2.toArray⟩, .slice ta tag.length cap] 36)).heap.size = w6.heap.size + 1 := by simp
      have hA6l := lt_blk hA6
      have hB7 : BSt (w6.heap.size + 1) l c tag (w6.alloc (.cells #[.int .i64 c.kind, .string ⟨c.head.1.toArray⟩, .string ⟨c.head.2.toArray⟩, .string ⟨c.who.toArray⟩, .string ⟨c.b.1.toArray⟩, .string ⟨c.b.2.toArray⟩, .string ⟨c.c.1.toArray⟩, .string ⟨c.c.2.toArray⟩, .string ⟨c.w2.toArray⟩, .slice ta tag.length cap] 36)) g A w6.heap.size ta cap := ⟨(hg6.keep hal7 (fun _ _ => id)).mono (fun i hi => by have h1 : i < w6.heap.size := hi; omega), blk_keep hA6 hal7 id, hS7, (hbt.keep hal7 (fun _ _ => id)).mono (fun i hi => by omega), by omega, by omega⟩
      have hpn := pen_new (w6.alloc (.cells #[.int .i64 c.kind, .string ⟨c.head.1.toArray⟩, .string ⟨c.head.2.toArray⟩, .string ⟨c.who.toArray⟩, .string ⟨c.b.1.toArray⟩, .string ⟨c.b.2.toArray⟩, .string ⟨c.c.1.toArray⟩, .string ⟨c.c.2.toArray⟩, .string ⟨c.w2.toArray⟩, .slice ta tag.length cap] 36)) (w6.heap.size + 2)
      rw [hz7] at hpn
      have hal8 : Chg (fun _ => False) (w6.alloc (.cells #[.int .i64 c.kind, .string ⟨c.head.1.toArray⟩, .string ⟨c.head.2.toArray⟩, .string ⟨c.who.toArray⟩, .string ⟨c.b.1.toArray⟩, .string ⟨c.b.2.toArray⟩, .string ⟨c.c.1.toArray⟩, .string ⟨c.c.2.toArray⟩, .string ⟨c.w2.toArray⟩, .slice ta tag.length cap] 36)) ((w6.alloc (.cells #[.int .i64 c.kind, .string ⟨c.head.1.toArray⟩, .string ⟨c.head.2.toArray⟩, .string ⟨c.who.toArray⟩, .string ⟨c.b.1.toArray⟩, .string ⟨c.b.2.toArray⟩, .string ⟨c.c.1.toArray⟩, .string ⟨c.c.2.toArray⟩, .string ⟨c.w2.toArray⟩, .slice ta tag.length cap] 36)).alloc (.cells #[.slice none 0 0] 43)) := (Chg.refl _ _).alloc _
      have hz8 : ((w6.alloc (.cells #[.int .i64 c.kind, .string ⟨c.head.1.toArray⟩, .string ⟨c.head.2.toArray⟩, .string ⟨c.who.toArray⟩, .string ⟨c.b.1.toArray⟩, .string ⟨c.b.2.toArray⟩, .string ⟨c.c.1.toArray⟩, .string ⟨c.c.2.toArray⟩, .string ⟨c.w2.toArray⟩, .slice ta tag.length cap] 36)).alloc (.cells #[.slice none 0 0] 43)).heap.size = w6.heap.size + 2 := by simp
      have hal9 : Chg (fun _ => False) ((w6.alloc (.cells #[.int .i64 c.kind, .string ⟨c.head.1.toArray⟩, .string ⟨c.head.2.toArray⟩, .string ⟨c.who.toArray⟩, .string ⟨c.b.1.toArray⟩, .string ⟨c.b.2.toArray⟩, .string ⟨c.c.1.toArray⟩, .string ⟨c.c.2.toArray⟩, .string ⟨c.w2.toArray⟩, .slice ta tag.length cap] 36)).alloc (.cells #[.slice none 0 0] 43)) (((w6.alloc (.cells #[.int .i64 c.kind, .string ⟨c.head.1.toArray⟩, .string ⟨c.head.2.toArray⟩, .string ⟨c.who.toArray⟩, .string ⟨c.b.1.toArray⟩, .string ⟨c.b.2.toArray⟩, .string ⟨c.c.1.toArray⟩, .string ⟨c.c.2.toArray⟩, .string ⟨c.w2.toArray⟩, .slice ta tag.length cap] 36)).alloc (.cells #[.slice none 0 0] 43)).alloc (.cells #[.int .i64 0, .string ⟨#[]⟩, .string ⟨#[]⟩, .string ⟨#[]⟩, .string ⟨#[]⟩, .string ⟨#[]⟩, .string ⟨#[]⟩, .string ⟨#[]⟩, .string ⟨#[]⟩, .slice none 0 0] 36)) := (Chg.refl _ _).alloc _
      have hX9 : (((w6.alloc (.cells #[.int .i64 c.kind, .string ⟨c.head.1.toArray⟩, .string ⟨c.head.2.toArray⟩, .string ⟨c.who.toArray⟩, .string ⟨c.b.1.toArray⟩, .string ⟨c.b.2.toArray⟩, .string ⟨c.c.1.toArray⟩, .string ⟨c.c.2.toArray⟩, .string ⟨c.w2.toArray⟩, .slice ta tag.length cap] 36)).alloc (.cells #[.slice none 0 0] 43)).alloc (.cells #[.int .i64 0, .string ⟨#[]⟩, .string ⟨#[]⟩, .string ⟨#[]⟩, .string ⟨#[]⟩, .string ⟨#[]⟩, .string ⟨#[]⟩, .string ⟨#[]⟩, .string ⟨#[]⟩, .slice none 0 0] 36)).heap[w6.heap.size + 2]? = some (.cells (signBox noCred (.slice none 0 0)) 36 (0, 0)) := by
        have := heap_alloc_new ((w6.alloc (.cells #[.int .i64 c.kind, .string ⟨c.head.1.toArray⟩, .string ⟨c.head.2.toArray⟩, .string ⟨c.who.toArray⟩, .string ⟨c.b.1.toArray⟩, .string ⟨c.b.2.toArray⟩, .string ⟨c.c.1.toArray⟩, .string ⟨c.c.2.toArray⟩, .string ⟨c.w2.toArray⟩, .slice ta tag.length cap] 36)).alloc (.cells #[.slice none 0 0] 43)) (.cells #[.int .i64 0, .string ⟨#[]⟩, .string ⟨#[]⟩, .string ⟨#[]⟩, .string ⟨#[]⟩, .string ⟨#[]⟩, .string ⟨#[]⟩, .string ⟨#[]⟩, .string ⟨#[]⟩, .slice none 0 0] 36)
        rw [hz8] at this
        exact this
      have hz9 : (((w6.alloc (.cells #[.int .i64 c.kind, .string ⟨c.head.1.toArray⟩, .string ⟨c.head.2.toArray⟩, .string ⟨c.who.toArray⟩, .string ⟨c.b.1.toArray⟩, .string ⟨c.b.2.toArray⟩, .string ⟨c.c.1.toArray⟩, .string ⟨c.c.2.toArray⟩, .string ⟨c.w2.toArray⟩, .slice ta tag.length cap] 36)).alloc (.cells #[.slice none 0 0] 43)).alloc (.cells #[.int .i64 0, .string ⟨#[]⟩, .string ⟨#[]⟩, .string ⟨#[]⟩, .string ⟨#[]⟩, .string ⟨#[]⟩, .string ⟨#[]⟩, .string ⟨#[]⟩, .string ⟨#[]⟩, .slice none 0 0] 36)).heap.size = w6.heap.size + 3 := by simp
      have hal79 := hal8.trans hal9 (fun _ _ h => h)
      have hB9 := hB7.keep hal79 (fun _ _ => id)
      have hpn9 := hpn.keep hal9 id (fun _ _ => id)
      have hput : Calls Try.prog 10 #[.pointer (some ⟨w6.heap.size + 1, 0, none⟩), .agg #[.int .i64 c.kind, .string ⟨c.head.1.toArray⟩, .string ⟨c.head.2.toArray⟩, .string ⟨c.who.toArray⟩, .string ⟨c.b.1.toArray⟩, .string ⟨c.b.2.toArray⟩, .string ⟨c.c.1.toArray⟩, .string ⟨c.c.2.toArray⟩, .string ⟨c.w2.toArray⟩, .slice ta tag.length cap]] (((w6.alloc (.cells #[.int .i64 c.kind, .string ⟨c.head.1.toArray⟩, .string ⟨c.head.2.toArray⟩, .string ⟨c.who.toArray⟩, .string ⟨c.b.1.toArray⟩, .string ⟨c.b.2.toArray⟩, .string ⟨c.c.1.toArray⟩, .string ⟨c.c.2.toArray⟩, .string ⟨c.w2.toArray⟩, .slice ta tag.length cap] 36)).alloc (.cells #[.slice none 0 0] 43)).alloc (.cells #[.int .i64 0, .string ⟨#[]⟩, .string ⟨#[]⟩, .string ⟨#[]⟩, .string ⟨#[]⟩, .string ⟨#[]⟩, .string ⟨#[]⟩, .string ⟨#[]⟩, .string ⟨#[]⟩, .slice none 0 0] 36)) fun e w' => e = .returned (.bool true) ∧ PenPost (w6.heap.size + 2) (w6.heap.size + 1) none ([] ++ signBytes ⟨c, tag⟩) (((w6.alloc (.cells #[.int .i64 c.kind, .string ⟨c.head.1.toArray⟩, .string ⟨c.head.2.toArray⟩, .string ⟨c.who.toArray⟩, .string ⟨c.b.1.toArray⟩, .string ⟨c.b.2.toArray⟩, .string ⟨c.c.1.toArray⟩, .string ⟨c.c.2.toArray⟩, .string ⟨c.w2.toArray⟩, .slice ta tag.length cap] 36)).alloc (.cells #[.slice none 0 0] 43)).alloc (.cells #[.int .i64 0, .string ⟨#[]⟩, .string ⟨#[]⟩, .string ⟨#[]⟩, .string ⟨#[]⟩, .string ⟨#[]⟩, .string ⟨#[]⟩, .string ⟨#[]⟩, .string ⟨#[]⟩, .slice none 0 0] 36)) w' :=
        pkput_yes (w6.heap.size + 2) (w6.heap.size + 1) 0 none [] c tag ta cap _ hpn9 (by rw [hz9]; omega) (by omega) (by simp) HS.out.1 hs (short_enc HS.out.2.2.1) hB9.bt (fun i hi => ⟨by have : i < w6.heap.size + 1 := hi; omega, by simp [rowOf], by have : i < w6.heap.size + 1 := hi; rw [hz9]; omega⟩)
      obtain ⟨⟨b0, b1, b2, b3, b4, b5, b6, b7, b8⟩, b9⟩ := cred_at_sign hS7
      simp only [Nat.zero_add] at b0 b1 b2 b3 b4 b5 b6 b7 b8
      have HX := hid (And.intro hput (And.intro hpn9 (And.intro hB9 (And.intro hX9 (And.intro ((hc6.trans hal7 (fun _ _ h => h)).trans hal79 (fun _ _ h => h)) hz9)))))
      clear hput hpn hpn9 hB7 hB9 hX9 hal7 hal8 hal9 hal79 hz7 hz8 hz9 hS7 hA6 hc6 hg6 hbt hA6l
      go_wp2_with fail
      clear b0 b1 b2 b3 b4 b5 b6 b7 b8 b9
      obtain ⟨hput, hpn, hB9, hX9, hc9, hz9⟩ := HX.out
      clear HX
      have hw6 : w.heap.size ≤ w6.heap.size := by have := HA0.out; have := hB9.lA; have := hc9.size; omega
      generalize (((w6.alloc (.cells #[.int .i64 c.kind, .string ⟨c.head.1.toArray⟩, .string ⟨c.head.2.toArray⟩, .string ⟨c.who.toArray⟩, .string ⟨c.b.1.toArray⟩, .string ⟨c.b.2.toArray⟩, .string ⟨c.c.1.toArray⟩, .string ⟨c.c.2.toArray⟩, .string ⟨c.w2.toArray⟩, .slice ta tag.length cap] 36)).alloc (.cells #[.slice none 0 0] 43)).alloc (.cells #[.int .i64 0, .string ⟨#[]⟩, .string ⟨#[]⟩, .string ⟨#[]⟩, .string ⟨#[]⟩, .string ⟨#[]⟩, .string ⟨#[]⟩, .string ⟨#[]⟩, .string ⟨#[]⟩, .slice none 0 0] 36)) = w9 at *
      obtain ⟨S, hSe⟩ : ∃ S, w6.heap.size = S := ⟨_, rfl⟩
      rw [hSe] at hput hpn hB9 hX9 hz9 hw6 hs56
      simp only [hSe]
      clear hSe
      refine hput.mono ?_
      rintro e w10 ⟨rfl, pa, pc, hp10, hpc⟩
      rw [List.nil_append] at hp10
      have hs910 := hpc.chg.size
      have hc910 : Chg (fun i => i = S + 1) w9 w10 := hpc.chg.mono (fun i _ h => h.elim id (fun h => by simp [rowOf] at h))
      have hB10 := hB9.keep hc910 (fun i hi h => by omega)
      have hX10 := blk_keep hX9 hc910 (show ¬ S + 2 = S + 1 by omega)
      have hc10 : Chg (fun _ => False) w w10 := hc9.trans hc910 (fun i hi h => by have h1 : i = S + 1 := h; omega)
      have hby := bytes_any (S + 2) (S + 1) pc pa (signBytes ⟨c, tag⟩) w10 hp10 (signBytes_short HS.out.1)
      have HX := hid (And.intro hB10 (And.intro hX10 hc10))
      clear hput hpn hB9 hX9 hc9 hp10 hpc hc910 hB10 hX10 hc10
      go_wp2_with fail
      refine hby.mono ?_
      rintro e w11 ⟨ba, bc, rfl, hbb, hc1011⟩
      obtain ⟨hB10, hX10, hc10⟩ := HX.out
      have hX11 := blk_keep hX10 hc1011 id
      have hXl := lt_blk hX10
      have hrd := sreadB (signBytes_short HS.out.1) hbb (fun i hi => hi.2) (fun h => by have := h.1; omega) hX11
      have hmf : ∀ (fn : Fn) (first cap : Array Value) (w : World), (Instr.makeFunc fn first cap).run Try.prog w = .ok (.func fn first cap) w := fun _ _ _ _ => rfl
      have HX2 := hid (And.intro (hB10.keep hc1011 (fun _ _ => id)) (hc10.trans hc1011 (fun _ _ h => h)))
      clear hby HX hB10 hX10 hc10 hbb hc1011 hX11
      go_wp2_with fail
      clear hmf
      refine hrd.mono ?_
      rintro e w12 ⟨rfl, ⟨xa, xc, hX12, hxb⟩, hc1112⟩
      rw [sgErr_bytes HS.out.1]
      simp only [signGot_bytes HS.out.1] at hX12 hxb
      obtain ⟨hB11, hc11⟩ := HX2.out
      have hB12 := hB11.keep hc1112 (fun i hi h => by have h1 : i = S + 2 := h; omega)
      have hc12 : Chg (fun _ => False) w w12 := hc11.trans hc1112 (T := (· = S + 2)) (S := fun _ => False) (fun i hi h => by have h1 : i = S + 2 := h; omega)
      have hck := pcheck g l c tag ta cap w12 hB12.rg HR.out hs hB12.bt
      rw [HS.out.2.1] at hck
      obtain ⟨⟨b0, b1, b2, b3, b4, b5, b6, b7, b8⟩, b9⟩ := cred_at_sign hB12.cS
      simp only [Nat.zero_add] at b0 b1 b2 b3 b4 b5 b6 b7 b8
      have HX := hid (And.intro hB12 (And.intro hc12 (And.intro hX12 hxb)))
      clear hrd HX2 hB11 hc11 hc1112 hB12 hc12 hX12 hxb
      go_wp2_with fail
      refine hck.mono ?_
      rintro e w13 ⟨rfl, hc⟩
      obtain ⟨hB12, hc12, hX12, hxb⟩ := HX.out
      have hB13 := hB12.keep hc (fun _ _ => id)
      have hX13 := blk_keep hX12 hc id
      have hxb13 := hxb.keep hc (fun _ _ => id)
      have hc13 := hc12.trans hc (fun _ _ h => h)
      clear hck HX hB12 hc12 hX12 hxb hc b0 b1 b2 b3 b4 b5 b6 b7 b8 b9
      have hck := pcheck g l c tag xa xc w13 hB13.rg HR.out hs hxb13
      rw [HS.out.2.1] at hck
      obtain ⟨⟨d0, d1, d2, d3, d4, d5, d6, d7, d8⟩, d9⟩ := cred_at_sign hX13
      simp only [Nat.zero_add] at d0 d1 d2 d3 d4 d5 d6 d7 d8
      have HX := hid (And.intro hB13 (And.intro hc13 (And.intro hX13 hxb13)))
      clear hB13 hc13 hX13 hxb13
      go_wp2_with fail
      refine hck.mono ?_
      rintro e w14 ⟨rfl, hc⟩
      obtain ⟨hB13, hc13, hX13, hxb13⟩ := HX.out
      have hB14 := hB13.keep hc (fun _ _ => id)
      have hX14 := blk_keep hX13 hc id
      have hxb14 := hxb13.keep hc (fun _ _ => id)
      have hc14 := hc13.trans hc (fun _ _ h => h)
      clear hck HX hB13 hc13 hX13 hxb13 hc d0 d1 d2 d3 d4 d5 d6 d7 d8 d9
      have hal : Chg (fun _ => False) w14 (w14.alloc (.cells #[.int .i64 c.kind, .string ⟨c.head.1.toArray⟩, .string ⟨c.head.2.toArray⟩, .string ⟨c.who.toArray⟩, .string ⟨c.b.1.toArray⟩, .string ⟨c.b.2.toArray⟩, .string ⟨c.c.1.toArray⟩, .string ⟨c.c.2.toArray⟩, .string ⟨c.w2.toArray⟩, .slice ta tag.length cap, .int .i64 c.kind, .string ⟨c.head.1.toArray⟩, .string ⟨c.head.2.toArray⟩, .string ⟨c.who.toArray⟩, .string ⟨c.b.1.toArray⟩, .string ⟨c.b.2.toArray⟩, .string ⟨c.c.1.toArray⟩, .string ⟨c.c.2.toArray⟩, .string ⟨c.w2.toArray⟩, .slice xa tag.length xc] 36)) := (Chg.refl _ w14).alloc _
      have hgd : Calls Try.prog 9 #[.pointer (some ⟨g, 0, none⟩), .slice (some ⟨w14.heap.size, 0, none⟩) 2 2] (w14.alloc (.cells #[.int .i64 c.kind, .string ⟨c.head.1.toArray⟩, .string ⟨c.head.2.toArray⟩, .string ⟨c.who.toArray⟩, .string ⟨c.b.1.toArray⟩, .string ⟨c.b.2.toArray⟩, .string ⟨c.c.1.toArray⟩, .string ⟨c.c.2.toArray⟩, .string ⟨c.w2.toArray⟩, .slice ta tag.length cap, .int .i64 c.kind, .string ⟨c.head.1.toArray⟩, .string ⟨c.head.2.toArray⟩, .string ⟨c.who.toArray⟩, .string ⟨c.b.1.toArray⟩, .string ⟨c.b.2.toArray⟩, .string ⟨c.c.1.toArray⟩, .string ⟨c.c.2.toArray⟩, .string ⟨c.w2.toArray⟩, .slice xa tag.length xc] 36)) (SetPostC (goodC l [⟨c, tag⟩, ⟨c, tag⟩]) (w14.alloc (.cells #[.int .i64 c.kind, .string ⟨c.head.1.toArray⟩, .string ⟨c.head.2.toArray⟩, .string ⟨c.who.toArray⟩, .string ⟨c.b.1.toArray⟩, .string ⟨c.b.2.toArray⟩, .string ⟨c.c.1.toArray⟩, .string ⟨c.c.2.toArray⟩, .string ⟨c.w2.toArray⟩, .slice ta tag.length cap, .int .i64 c.kind, .string ⟨c.head.1.toArray⟩, .string ⟨c.head.2.toArray⟩, .string ⟨c.who.toArray⟩, .string ⟨c.b.1.toArray⟩, .string ⟨c.b.2.toArray⟩, .string ⟨c.c.1.toArray⟩, .string ⟨c.c.2.toArray⟩, .string ⟨c.w2.toArray⟩, .slice xa tag.length xc] 36))) :=
        pgood g l (some ⟨w14.heap.size, 0, none⟩) 2 [⟨c, tag⟩, ⟨c, tag⟩] _ (hB14.rg.keep hal (fun _ _ => id)) HR.out (by simp) (signs_two (s := ⟨c, tag⟩) (t := ⟨c, tag⟩) (a := ta) (b := xa) (c := cap) (d := xc) (heap_alloc_new w14 _) ((hB14.bt.keep hal (fun _ _ => id)).mono (fun _ _ => trivial)) ((hxb14.keep hal (fun _ _ => id)).mono (fun _ _ => trivial)) hs hs)
      obtain ⟨⟨b0, b1, b2, b3, b4, b5, b6, b7, b8⟩, b9⟩ := cred_at_sign hB14.cS
      simp only [Nat.zero_add] at b0 b1 b2 b3 b4 b5 b6 b7 b8
      obtain ⟨⟨d0, d1, d2, d3, d4, d5, d6, d7, d8⟩, d9⟩ := cred_at_sign hX14
      simp only [Nat.zero_add] at d0 d1 d2 d3 d4 d5 d6 d7 d8
      have HX := hid (And.intro hgd (And.intro (hB14.keep hal (fun _ _ => id)) (And.intro (hc14.trans hal (fun _ _ h => h)) (blk_keep hX14 hal id))))
      have hlA := hB14.lA
      clear hgd hal hB14 hc14 hX14 hxb14
      go_wp2_with fail
      clear b0 b1 b2 b3 b4 b5 b6 b7 b8 b9 d0 d1 d2 d3 d4 d5 d6 d7 d8 d9
      obtain ⟨hgd, hB15, hc15, hX15⟩ := HX.out
      clear HX
      generalize (w14.alloc (.cells #[.int .i64 c.kind, .string ⟨c.head.1.toArray⟩, .string ⟨c.head.2.toArray⟩, .string ⟨c.who.toArray⟩, .string ⟨c.b.1.toArray⟩, .string ⟨c.b.2.toArray⟩, .string ⟨c.c.1.toArray⟩, .string ⟨c.c.2.toArray⟩, .string ⟨c.w2.toArray⟩, .slice ta tag.length cap, .int .i64 c.kind, .string ⟨c.head.1.toArray⟩, .string ⟨c.head.2.toArray⟩, .string ⟨c.who.toArray⟩, .string ⟨c.b.1.toArray⟩, .string ⟨c.b.2.toArray⟩, .string ⟨c.c.1.toArray⟩, .string ⟨c.c.2.toArray⟩, .string ⟨c.w2.toArray⟩, .slice xa tag.length xc] 36)) = w15 at *
      refine hgd.mono ?_
      rintro e w16 ⟨gs, ga, gc, rfl, hset, _, hc, _⟩
      have hgs : gs = [c] := hset.single HS.out.2.2.1 (by rw [good_two HS.out.2.1]; simp) (by rw [good_two HS.out.2.1]; simp)
      subst hgs
      have HC := hid (hc15.trans hc (fun _ _ h => h))
      obtain ⟨⟨d0, d1, d2, d3, d4, d5, d6, d7, d8⟩, d9⟩ := cred_at_sign (blk_keep hX15 hc id)
      simp only [Nat.zero_add] at d0 d1 d2 d3 d4 d5 d6 d7 d8
      obtain ⟨b0, b1, b2, b3, b4, b5, b6, b7, b8⟩ := cred_at_blk (blk_keep hB15.cA hc id)
      simp only [Nat.zero_add] at b0 b1 b2 b3 b4 b5 b6 b7 b8
      clear hgd hset hB15 hc15 hX15 hc
      go_wp2
      go_ret
      exact ⟨rfl, HC.out⟩
    · have hsd : signed l c = noSign := by rw [signed, if_neg h1]
      obtain ⟨e0, he0⟩ : ∃ e0 : Int, ((signErr l c : Nat) : Int) = e0 := ⟨_, rfl⟩
      have hne : (e0 == 0) = false := beq_eq_false_iff_ne.2 (by omega)
      have hne2 : (e0 != 0) = true := by rw [bne, hne]; rfl
      rw [he0]
      simp only [hsd]
      rw [show Value.tuple #[signV noSign.c (.slice ta noSign.tag.length cap), .int .i64 e0] = .tuple #[.agg #[.int .i64 0, .string ⟨#[]⟩, .string ⟨#[]⟩, .string ⟨#[]⟩, .string ⟨#[]⟩, .string ⟨#[]⟩, .string ⟨#[]⟩, .string ⟨#[]⟩, .string ⟨#[]⟩, .slice ta 0 cap], .int .i64 e0] from rfl]
      have hal : Chg (fun _ => False) w6 ((w6.alloc (.cells #[.int .i64 0, .string ⟨#[]⟩, .string ⟨#[]⟩, .string ⟨#[]⟩, .string ⟨#[]⟩, .string ⟨#[]⟩, .string ⟨#[]⟩, .string ⟨#[]⟩, .string ⟨#[]⟩, .slice ta 0 cap] 36)).alloc (.cells #[.int .i64 0, .string ⟨#[]⟩, .string ⟨#[]⟩, .string ⟨#[]⟩, .string ⟨#[]⟩, .string ⟨#[]⟩, .string ⟨#[]⟩, .string ⟨#[]⟩, .string ⟨#[]⟩, .slice ta 0 cap] 36)) := ((Chg.refl _ w6).alloc _).alloc _
      have hb7 : ((w6.alloc (.cells #[.int .i64 0, .string ⟨#[]⟩, .string ⟨#[]⟩, .string ⟨#[]⟩, .string ⟨#[]⟩, .string ⟨#[]⟩, .string ⟨#[]⟩, .string ⟨#[]⟩, .string ⟨#[]⟩, .slice ta 0 cap] 36)).alloc (.cells #[.int .i64 0, .string ⟨#[]⟩, .string ⟨#[]⟩, .string ⟨#[]⟩, .string ⟨#[]⟩, .string ⟨#[]⟩, .string ⟨#[]⟩, .string ⟨#[]⟩, .string ⟨#[]⟩, .slice ta 0 cap] 36)).heap[w6.heap.size + 1]? = some (.cells (signBox noSign.c (.slice ta noSign.tag.length cap)) 36 (0, 0)) := by
        have := heap_alloc_new (w6.alloc (.cells #[.int .i64 0, .string ⟨#[]⟩, .string ⟨#[]⟩, .string ⟨#[]⟩, .string ⟨#[]⟩, .string ⟨#[]⟩, .string ⟨#[]⟩, .string ⟨#[]⟩, .string ⟨#[]⟩, .slice ta 0 cap] 36)) (.cells #[.int .i64 0, .string ⟨#[]⟩, .string ⟨#[]⟩, .string ⟨#[]⟩, .string ⟨#[]⟩, .string ⟨#[]⟩, .string ⟨#[]⟩, .string ⟨#[]⟩, .string ⟨#[]⟩, .slice ta 0 cap] 36)
        rw [show (w6.alloc (.cells #[.int .i64 0, .string ⟨#[]⟩, .string ⟨#[]⟩, .string ⟨#[]⟩, .string ⟨#[]⟩, .string ⟨#[]⟩, .string ⟨#[]⟩, .string ⟨#[]⟩, .string ⟨#[]⟩, .slice ta 0 cap] 36)).heap.size = w6.heap.size + 1 by simp] at this
        exact this
      rw [hsd] at hbt
      have hgd : Calls Try.prog 9 #[.pointer (some ⟨g, 0, none⟩), .slice (some ⟨w6.heap.size + 1, 0, none⟩) 1 1] ((w6.alloc (.cells #[.int .i64 0, .string ⟨#[]⟩, .string ⟨#[]⟩, .string ⟨#[]⟩, .string ⟨#[]⟩, .string ⟨#[]⟩, .string ⟨#[]⟩, .string ⟨#[]⟩, .string ⟨#[]⟩, .slice ta 0 cap] 36)).alloc (.cells #[.int .i64 0, .string ⟨#[]⟩, .string ⟨#[]⟩, .string ⟨#[]⟩, .string ⟨#[]⟩, .string ⟨#[]⟩, .string ⟨#[]⟩, .string ⟨#[]⟩, .string ⟨#[]⟩, .slice ta 0 cap] 36)) (SetPostC (goodC l [noSign]) ((w6.alloc (.cells #[.int .i64 0, .string ⟨#[]⟩, .string ⟨#[]⟩, .string ⟨#[]⟩, .string ⟨#[]⟩, .string ⟨#[]⟩, .string ⟨#[]⟩, .string ⟨#[]⟩, .string ⟨#[]⟩, .slice ta 0 cap] 36)).alloc (.cells #[.int .i64 0, .string ⟨#[]⟩, .string ⟨#[]⟩, .string ⟨#[]⟩, .string ⟨#[]⟩, .string ⟨#[]⟩, .string ⟨#[]⟩, .string ⟨#[]⟩, .string ⟨#[]⟩, .slice ta 0 cap] 36))) :=
        pgood g l (some ⟨w6.heap.size + 1, 0, none⟩) 1 [noSign] _ (hg6.keep hal (fun _ _ => id)) HR.out (by decide) (signs_one (s := noSign) (a := ta) (c := cap) hb7 ((hbt.keep hal (fun _ _ => id)).mono (fun _ _ => trivial)) (by unfold credShort; decide))
      have HX := hid (And.intro hgd (hc6.trans hal (fun _ _ h => h)))
      clear hgd hal hb7 hbt hsd he0 h1 hA6 hc6 hg6
      go_wp2_with fail
      obtain ⟨hgd, hc7⟩ := HX.out
      clear HX
      generalize ((w6.alloc (.cells #[.int .i64 0, .string ⟨#[]⟩, .string ⟨#[]⟩, .string ⟨#[]⟩, .string ⟨#[]⟩, .string ⟨#[]⟩, .string ⟨#[]⟩, .string ⟨#[]⟩, .string ⟨#[]⟩, .slice ta 0 cap] 36)).alloc (.cells #[.int .i64 0, .string ⟨#[]⟩, .string ⟨#[]⟩, .string ⟨#[]⟩, .string ⟨#[]⟩, .string ⟨#[]⟩, .string ⟨#[]⟩, .string ⟨#[]⟩, .string ⟨#[]⟩, .slice ta 0 cap] 36)) = w7 at *
      refine hgd.mono ?_
      rintro e w8 ⟨gs, ga, gc, rfl, hset, _, hc78, _⟩
      rw [good_noSign] at hset
      have hgs := hset.none
      subst hgs
      have HC := hid (hc7.trans hc78 (fun _ _ h => h))
      clear hgd hset hc7 hc78
      go_wp2
      go_ret
      exact ⟨rfl, HC.out⟩
  · obtain ⟨rfl, hc45⟩ := hN.bad h0
    obtain ⟨e0, he0⟩ : ∃ e0 : Int, ((newErr l : Nat) : Int) = e0 := ⟨_, rfl⟩
    have hne : (e0 == 0) = false := beq_eq_false_iff_ne.2 (by omega)
    have hne2 : (e0 != 0) = true := by rw [bne, hne]; rfl
    rw [he0]
    have HC := hid (hc4.trans hc45 (fun _ _ h => h))
    clear hN hA4 hc4 hc45 he0 h0
    go_wp2
    go_ret
    exact ⟨rfl, HC.out⟩
set_option maxRecDepth 100000 in
set_option maxHeartbeats 2000000 in
/-- What is too great is let go. -/
theorem kback_big {D : Nat → Prop} (ao : Option Addr) (cp : Nat) (l : List KeyB) (c : CredB) (w : World) (hl : totalK l ≤ 4503599627370496) (hcz : sizeC c ≤ 4503599627370496) (hs : credShort c 9223372036854775807) (h : KeysAt D w ao l) (hbig : 2000 < totalK l ∨ 400 < sizeC c) :
    Calls Try.prog 3 #[.slice ao l.length cp, credV c] w fun e w' => e = .returned (.bool true) ∧ Chg (fun _ => False) w w' := by
  have hA1 : (w.alloc (.cells #[.int .i64 c.kind, .string ⟨c.head.1.toArray⟩, .string ⟨c.head.2.toArray⟩, .string ⟨c.who.toArray⟩, .string ⟨c.b.1.toArray⟩, .string ⟨c.b.2.toArray⟩, .string ⟨c.c.1.toArray⟩, .string ⟨c.c.2.toArray⟩, .string ⟨c.w2.toArray⟩] 26)).heap[w.heap.size]? = some (.cells (credBox c) 26 (0, 0)) := heap_alloc_new w _
  have hc1 : Chg (fun _ => False) w (w.alloc (.cells #[.int .i64 c.kind, .string ⟨c.head.1.toArray⟩, .string ⟨c.head.2.toArray⟩, .string ⟨c.who.toArray⟩, .string ⟨c.b.1.toArray⟩, .string ⟨c.b.2.toArray⟩, .string ⟨c.c.1.toArray⟩, .string ⟨c.c.2.toArray⟩, .string ⟨c.w2.toArray⟩] 26)) := (Chg.refl _ w).alloc _
  have hf := kfirst (w.alloc (.cells #[.int .i64 c.kind, .string ⟨c.head.1.toArray⟩, .string ⟨c.head.2.toArray⟩, .string ⟨c.who.toArray⟩, .string ⟨c.b.1.toArray⟩, .string ⟨c.b.2.toArray⟩, .string ⟨c.c.1.toArray⟩, .string ⟨c.c.2.toArray⟩, .string ⟨c.w2.toArray⟩] 26))
  have HH := hid (And.intro hf (And.intro hA1 (And.intro hc1 (h.keep hc1 (fun _ _ => id)))))
  clear hf hA1 hc1 h
  show Calls Try.prog 3 #[.slice ao l.length cp, .agg #[.int .i64 c.kind, .string ⟨c.head.1.toArray⟩, .string ⟨c.head.2.toArray⟩, .string ⟨c.who.toArray⟩, .string ⟨c.b.1.toArray⟩, .string ⟨c.b.2.toArray⟩, .string ⟨c.c.1.toArray⟩, .string ⟨c.c.2.toArray⟩, .string ⟨c.w2.toArray⟩]] w _
  go_enter Try.func3, Try.ntmps3
  go_wp2_with fail
  obtain ⟨hf, hA1, hc1, h1⟩ := HH.out
  clear HH
  generalize (w.alloc (.cells #[.int .i64 c.kind, .string ⟨c.head.1.toArray⟩, .string ⟨c.head.2.toArray⟩, .string ⟨c.who.toArray⟩, .string ⟨c.b.1.toArray⟩, .string ⟨c.b.2.toArray⟩, .string ⟨c.c.1.toArray⟩, .string ⟨c.c.2.toArray⟩, .string ⟨c.w2.toArray⟩] 26)) = w1 at *
  generalize w.heap.size = A at *
  refine hf.mono ?_
  rintro e w2 ⟨rfl, hc12⟩
  have hA2 := blk_keep hA1 hc12 id
  have h2 := h1.keep hc12 (fun _ _ => id)
  have hc2 := hc1.trans hc12 (fun _ _ h => h)
  clear hf hA1 hc1 h1 hc12
  have hgr : Calls Try.prog 5 #[.slice ao l.length cp, .slice none 0 0] w2 fun e w' => e = .returned (.int .i64 (totalK l : Nat)) ∧ Chg (fun _ => False) w2 w' :=
    kgreat_any ao none cp 0 l [] w2 (by show totalK l + 0 ≤ _; omega) h2 (SignsAt.nil (fun _ => True) w2 none)
  have HX := hid (And.intro hA2 (And.intro h2 hc2))
  clear hA2 h2 hc2
  go_wp2_with fail
  refine hgr.mono ?_
  rintro e w3 ⟨rfl, hc23⟩
  obtain ⟨hA2, h2, hc2⟩ := HX.out
  have hA3 := blk_keep hA2 hc23 id
  have hc3 := hc2.trans hc23 (fun _ _ h => h)
  clear hgr HX hA2 h2 hc2 hc23
  obtain ⟨tk, htk⟩ : ∃ tk : Int, ((totalK l : Nat) : Int) = tk := ⟨_, rfl⟩
  rw [htk]
  by_cases hb : 2000 < totalK l
  · have d1 : decide (2000 < tk) = true := decide_eq_true (by omega)
    have HC := hid hc3
    clear htk hb hbig hA3 hc3
    go_wp2
    go_ret
    exact ⟨rfl, HC.out⟩
  · have hb2 : 400 < sizeC c := hbig.resolve_left hb
    have d1 : decide (2000 < tk) = false := decide_eq_false (by omega)
    have hal : Chg (fun _ => False) w3 (w3.alloc (.cells #[.int .i64 c.kind, .string ⟨c.head.1.toArray⟩, .string ⟨c.head.2.toArray⟩, .string ⟨c.who.toArray⟩, .string ⟨c.b.1.toArray⟩, .string ⟨c.b.2.toArray⟩, .string ⟨c.c.1.toArray⟩, .string ⟨c.c.2.toArray⟩, .string ⟨c.w2.toArray⟩] 26)) := (Chg.refl _ w3).alloc _
    have hgc : Calls Try.prog 6 #[.slice (some ⟨w3.heap.size, 0, none⟩) 1 1] (w3.alloc (.cells #[.int .i64 c.kind, .string ⟨c.head.1.toArray⟩, .string ⟨c.head.2.toArray⟩, .string ⟨c.who.toArray⟩, .string ⟨c.b.1.toArray⟩, .string ⟨c.b.2.toArray⟩, .string ⟨c.c.1.toArray⟩, .string ⟨c.c.2.toArray⟩, .string ⟨c.w2.toArray⟩] 26)) fun e w' => e = .returned (.int .i64 (totalC [c] : Nat)) ∧ Chg (fun _ => False) (w3.alloc (.cells #[.int .i64 c.kind, .string ⟨c.head.1.toArray⟩, .string ⟨c.head.2.toArray⟩, .string ⟨c.who.toArray⟩, .string ⟨c.b.1.toArray⟩, .string ⟨c.b.2.toArray⟩, .string ⟨c.c.1.toArray⟩, .string ⟨c.c.2.toArray⟩, .string ⟨c.w2.toArray⟩] 26)) w' :=
      great_any (some ⟨w3.heap.size, 0, none⟩) 1 [c] _ (by show sizeC c + 0 ≤ _; omega) (cred_one (heap_alloc_new w3 _) hs)
    obtain ⟨b0, b1, b2, b3, b4, b5, b6, b7, b8⟩ := cred_at_blk hA3
    simp only [Nat.zero_add] at b0 b1 b2 b3 b4 b5 b6 b7 b8
    have HX := hid (And.intro hgc (hc3.trans hal (fun _ _ h => h)))
    clear hgc hA3 hc3 hal htk hb hbig
    go_wp2_with fail
    clear b0 b1 b2 b3 b4 b5 b6 b7 b8 d1
    obtain ⟨hgc, hc3⟩ := HX.out
    clear HX
    generalize (w3.alloc (.cells #[.int .i64 c.kind, .string ⟨c.head.1.toArray⟩, .string ⟨c.head.2.toArray⟩, .string ⟨c.who.toArray⟩, .string ⟨c.b.1.toArray⟩, .string ⟨c.b.2.toArray⟩, .string ⟨c.c.1.toArray⟩, .string ⟨c.c.2.toArray⟩, .string ⟨c.w2.toArray⟩] 26)) = w35 at *
    refine hgc.mono ?_
    rintro e w4 ⟨rfl, hc34⟩
    have HC := hid (hc3.trans hc34 (fun _ _ h => h))
    clear hgc hc3 hc34
    obtain ⟨tc, htc⟩ : ∃ tc : Int, ((totalC [c] : Nat) : Int) = tc := ⟨_, rfl⟩
    have d2 : decide (400 < tc) = true := decide_eq_true (by have : totalC [c] = sizeC c := rfl; omega)
    rw [htc]
    clear htc hb2
    go_wp2
    go_ret
    exact ⟨rfl, HC.out⟩

theorem kback_main {D : Nat → Prop} (ao : Option Addr) (cp : Nat) (l : List KeyB) (c : CredB) (w : World) (hl : totalK l ≤ 4503599627370496) (hcz : sizeC c ≤ 4503599627370496) (hs : credShort c 9223372036854775807) (h : KeysAt D w ao l) :
    Calls Try.prog 3 #[.slice ao l.length cp, credV c] w fun e w' => e = .returned (.bool true) ∧ Chg (fun _ => False) w w' := by
  by_cases h1 : 2000 < totalK l
  · exact kback_big ao cp l c w hl hcz hs h (.inl h1)
  · by_cases h2 : 400 < sizeC c
    · exact kback_big ao cp l c w hl hcz hs h (.inr h2)
    · exact kback_ok ao cp l c w (by omega) (by omega) h
end Go.Proofs.Ytjflmhncgkbdmaa
