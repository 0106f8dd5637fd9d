/- The law KeysGet, walked: the bytes of any signed credential, and which any bytes are. -/
import Derived.Test.YtjflmhncgkbdmaaGreatKb27
import Derived.Test.YtjflmhncgkbdmaaGreatKb28
import Derived.Test.YtjflmhncgkbdmaaGreatKb20
namespace Go.Proofs.YtjflmhncgkbdmaaGreat
open Go.RowKit

/-- What holds of the world in the line of Put: is Put behind it? -/
structure StK (W0 : World) (A P : Nat) (c : CredB) (tag : List UInt8) (ta : Option Addr) (tcap : Nat) (zs : List UInt8) (b : Bool) (w : World) : Prop where
  box : w.heap[A]? = some (.cells (signBox c (.slice ta tag.length tcap)) 38 (0, 0))
  bt : BytesAt (fun i => i < P) w (.slice ta tag.length tcap) tag
  pen : ∃ ao cap, PenAt (P + 1) w P ao cap (if b then zs else []) ∧ (b = false → ao = none)
  chg : Chg (fun _ => False) W0 w

theorem StK.go {W0 : World} {A P : Nat} {c : CredB} {tag : List UInt8} {ta : Option Addr} {tcap : Nat} {zs : List UInt8} {b : Bool} {w w' : World} (h : StK W0 A P c tag ta tcap zs b w) (hc : Chg (fun _ => False) w w') : StK W0 A P c tag ta tcap zs b w' := by
  obtain ⟨h1, h2, ⟨ao, cap, h3, h4⟩, h5⟩ := h
  exact ⟨blk_keep h1 hc id, h2.keep hc (fun _ _ => id), ⟨ao, cap, h3.keep hc id (fun _ _ => id), h4⟩, h5.trans hc (fun _ _ h => h)⟩

def SpecR.textK (P : Nat) (zs : List UInt8) : SpecR (Chg (· = P)) :=
  ⟨fun v w => ∃ ao cp, v = .slice ao zs.length cp ∧ BytesAt (fun k => k ≠ P) w v zs, fun _ _ _ hc ⟨ao, cp, h1, h2⟩ => ⟨ao, cp, h1, h2.keep hc (fun i hi h => hi h)⟩⟩

theorem tapeEnd_bad {l : List UInt8} {e : Int} (h : e ≠ 0) : tapeEnd l e = e := by
  unfold tapeEnd
  first | rw [if_neg h] | simp [h] | (unfold endOf; rw [if_neg h])

def kgSpyes (A P : Nat) (c : CredB) (tag zs : List UInt8) (ta : Option Addr) (tcap : Nat) : List (SpecR (Chg (· = P))) := [.any, .any, .eq (.pointer (some ⟨A, 0, none⟩)), .any, .any, .eq (.pointer (some ⟨P, 0, none⟩)), .eq (.string ⟨zs.toArray⟩), .any, .any, .any, .any, .any, .any, .any, .any, .any, .any, .any, .any, .any, .any, .any, .any, .any, .any, .any, .any, .any, .eq (.pointer (some ⟨P, 0, none⟩)), .eq (signV c (.slice ta tag.length tcap)), .eq (.bool true), .eq (signV c (.slice ta tag.length tcap)), .eq (.bool true), .eq (.bool false), .eq (.bool false), .eq (.pointer (some ⟨P, 0, none⟩)), .textK P zs, .eq (.string ⟨zs.toArray⟩), .eq (.string ⟨zs.toArray⟩), .eq (.bool false), .eq (.bool false), .eq (.bool false), .eq (signV c (.slice ta tag.length tcap)), .eq (.bool false), .eq (.bool false)]

set_option maxRecDepth 100000 in
set_option maxHeartbeats 8000000 in
theorem kget_yes {E : Nat → Prop} (c : CredB) (tag : List UInt8) (ta : Option Addr) (tcap : Nat) (a1 : Option Addr) (c1 : Nat) (b : List UInt8) (w : World) (hsz : sizeS ⟨c, tag⟩ ≤ 600) (hb : b.length ≤ 400) (hbt : BytesAt (fun i => i < w.heap.size) w (.slice ta tag.length tcap) tag) (k1 : BytesAt E w (.slice a1 b.length c1) b) (hE : ∀ i, E i → i < w.heap.size) (hn : isSign ⟨c, tag⟩ = true) :
    Calls Tryz.prog 4 #[signV c (.slice ta tag.length tcap), .slice a1 b.length c1] w fun e w' => e = .returned (.bool true) ∧ Chg (fun _ => False) w w' := by
  have hcz : sizeC c ≤ 1048576 := by unfold sizeS at hsz; dsimp only at hsz; omega
  have hs : credShort c 9223372036854775807 := (sizeC_short hcz).mono (by decide)
  have hln : tag.length ≤ 9223372036854775807 := by unfold sizeS at hsz; dsimp only at hsz; omega
  have d2 : decide (400 < (b.length : Int)) = false := decide_eq_false (by omega)
  have hA1 : (w.alloc (.cells #[.int .i64 c.kind, .string ⟨c.head.1.toArray⟩, .string ⟨c.head.2.toArray⟩, .string ⟨c.who.toArray⟩, .string ⟨c.b.1.toArray⟩, .string ⟨c.b.2.toArray⟩, .string ⟨c.c.1.toArray⟩, .string ⟨c.c.2.toArray⟩, .string ⟨c.w2.toArray⟩, .slice ta tag.length tcap] 38)).heap[w.heap.size]? = some (.cells (signBox c (.slice ta tag.length tcap)) 38 (0, 0)) := heap_alloc_new w _
  have hc1 : Chg (fun _ => False) w (w.alloc (.cells #[.int .i64 c.kind, .string ⟨c.head.1.toArray⟩, .string ⟨c.head.2.toArray⟩, .string ⟨c.who.toArray⟩, .string ⟨c.b.1.toArray⟩, .string ⟨c.b.2.toArray⟩, .string ⟨c.c.1.toArray⟩, .string ⟨c.c.2.toArray⟩, .string ⟨c.w2.toArray⟩, .slice ta tag.length tcap] 38)) := (Chg.refl _ w).alloc _
  have hf := kfirst (w.alloc (.cells #[.int .i64 c.kind, .string ⟨c.head.1.toArray⟩, .string ⟨c.head.2.toArray⟩, .string ⟨c.who.toArray⟩, .string ⟨c.b.1.toArray⟩, .string ⟨c.b.2.toArray⟩, .string ⟨c.c.1.toArray⟩, .string ⟨c.c.2.toArray⟩, .string ⟨c.w2.toArray⟩, .slice ta tag.length tcap] 38))
  have HH := hid (And.intro hf (And.intro hA1 (And.intro hc1 (hbt.keep hc1 (fun _ _ => id)))))
  have HK1 := hid k1
  have HEE := hid hE
  clear hf hA1 hc1 hbt k1 hE
  show Calls Tryz.prog 4 #[.agg #[.int .i64 c.kind, .string ⟨c.head.1.toArray⟩, .string ⟨c.head.2.toArray⟩, .string ⟨c.who.toArray⟩, .string ⟨c.b.1.toArray⟩, .string ⟨c.b.2.toArray⟩, .string ⟨c.c.1.toArray⟩, .string ⟨c.c.2.toArray⟩, .string ⟨c.w2.toArray⟩, .slice ta tag.length tcap], .slice a1 b.length c1] w _
  go_enter Tryz.func4, Tryz.ntmps4
  go_wp2_with fail
  obtain ⟨hf, hA1, hc1, hbt1⟩ := HH.out
  clear HH
  generalize (w.alloc (.cells #[.int .i64 c.kind, .string ⟨c.head.1.toArray⟩, .string ⟨c.head.2.toArray⟩, .string ⟨c.who.toArray⟩, .string ⟨c.b.1.toArray⟩, .string ⟨c.b.2.toArray⟩, .string ⟨c.c.1.toArray⟩, .string ⟨c.c.2.toArray⟩, .string ⟨c.w2.toArray⟩, .slice ta tag.length tcap] 38)) = w1 at *
  obtain ⟨A, hAe⟩ : ∃ A, w.heap.size = A := ⟨_, rfl⟩
  have HA0 := hid hAe
  rw [hAe] at hA1 hbt1
  simp only [hAe]
  clear hAe
  refine hf.mono ?_
  rintro e w2 ⟨rfl, hc12⟩
  have hA2 := blk_keep hA1 hc12 id
  have hbt2 := hbt1.keep hc12 (fun _ _ => id)
  have hc2 := hc1.trans hc12 (fun _ _ h => h)
  clear hf hA1 hc1 hbt1 hc12
  have hal : Chg (fun _ => False) w2 (w2.alloc (.cells #[.int .i64 c.kind, .string ⟨c.head.1.toArray⟩, .string ⟨c.head.2.toArray⟩, .string ⟨c.who.toArray⟩, .string ⟨c.b.1.toArray⟩, .string ⟨c.b.2.toArray⟩, .string ⟨c.c.1.toArray⟩, .string ⟨c.c.2.toArray⟩, .string ⟨c.w2.toArray⟩, .slice ta tag.length tcap] 38)) := (Chg.refl _ w2).alloc _
  have hgr : Calls Tryz.prog 6 #[.slice none 0 0, .slice (some ⟨w2.heap.size, 0, none⟩) 1 1] (w2.alloc (.cells #[.int .i64 c.kind, .string ⟨c.head.1.toArray⟩, .string ⟨c.head.2.toArray⟩, .string ⟨c.who.toArray⟩, .string ⟨c.b.1.toArray⟩, .string ⟨c.b.2.toArray⟩, .string ⟨c.c.1.toArray⟩, .string ⟨c.c.2.toArray⟩, .string ⟨c.w2.toArray⟩, .slice ta tag.length tcap] 38)) fun e w' => e = .returned (.int .i64 (totalK [] + totalS [⟨c, tag⟩] : Nat)) ∧ Chg (fun _ => False) (w2.alloc (.cells #[.int .i64 c.kind, .string ⟨c.head.1.toArray⟩, .string ⟨c.head.2.toArray⟩, .string ⟨c.who.toArray⟩, .string ⟨c.b.1.toArray⟩, .string ⟨c.b.2.toArray⟩, .string ⟨c.c.1.toArray⟩, .string ⟨c.c.2.toArray⟩, .string ⟨c.w2.toArray⟩, .slice ta tag.length tcap] 38)) w' :=
    kgreat_any none (some ⟨w2.heap.size, 0, none⟩) 0 1 [] [⟨c, tag⟩] _ (by show 0 + (sizeS ⟨c, tag⟩ + 0) ≤ _; omega) (KeysAt.nil (fun _ => True) _ none) (signs_one (s := ⟨c, tag⟩) (a := ta) (c := tcap) (heap_alloc_new w2 _) ((hbt2.keep hal (fun _ _ => id)).mono (fun _ _ => trivial)) hs)
  obtain ⟨⟨b0, b1, b2, b3, b4, b5, b6, b7, b8⟩, b9⟩ := cred_at_sign hA2
  simp only [Nat.zero_add] at b0 b1 b2 b3 b4 b5 b6 b7 b8
  have HX := hid (And.intro hgr (And.intro (blk_keep hA2 hal id) (And.intro (hbt2.keep hal (fun _ _ => id)) (hc2.trans hal (fun _ _ h => h)))))
  clear hgr hA2 hbt2 hal hc2
  go_wp2_with fail
  clear b0 b1 b2 b3 b4 b5 b6 b7 b8 b9
  obtain ⟨hgr, hA2, hbt2, hc2⟩ := HX.out
  clear HX
  generalize (w2.alloc (.cells #[.int .i64 c.kind, .string ⟨c.head.1.toArray⟩, .string ⟨c.head.2.toArray⟩, .string ⟨c.who.toArray⟩, .string ⟨c.b.1.toArray⟩, .string ⟨c.b.2.toArray⟩, .string ⟨c.c.1.toArray⟩, .string ⟨c.c.2.toArray⟩, .string ⟨c.w2.toArray⟩, .slice ta tag.length tcap] 38)) = w25 at *
  refine hgr.mono ?_
  rintro e w3 ⟨rfl, hc23⟩
  have hA3 := blk_keep hA2 hc23 id
  have hbt3 := hbt2.keep hc23 (fun _ _ => id)
  have hc3 := hc2.trans hc23 (fun _ _ h => h)
  clear hgr hA2 hbt2 hc2 hc23
  obtain ⟨tk, htk⟩ : ∃ tk : Int, ((totalK [] + totalS [⟨c, tag⟩] : Nat) : Int) = tk := ⟨_, rfl⟩
  have d1 : decide (600 < tk) = false := decide_eq_false (by have h1 : totalK [] + totalS [⟨c, tag⟩] = 0 + (sizeS ⟨c, tag⟩ + 0) := rfl; omega)
  rw [htk]
  clear htk
  have hpn := pen_new w3 (w3.heap.size + 1)
  have hal : Chg (fun _ => False) w3 (w3.alloc (.cells #[.slice none 0 0] 56)) := (Chg.refl _ w3).alloc _
  have hrr := rsright_any c tag ta tcap (w3.alloc (.cells #[.slice none 0 0] 56)) hs hln
  unfold signV signBox at hrr
  obtain ⟨⟨b0, b1, b2, b3, b4, b5, b6, b7, b8⟩, b9⟩ := cred_at_sign hA3
  simp only [Nat.zero_add] at b0 b1 b2 b3 b4 b5 b6 b7 b8
  have hA3l := lt_blk hA3
  have HX := hid (And.intro hrr (And.intro (blk_keep hA3 hal id) (And.intro (hbt3.keep hal (fun _ _ => id)) (And.intro hpn (hc3.trans hal (fun _ _ h => h))))))
  clear hrr hA3 hbt3 hpn hal hc3
  go_wp2_with fail
  clear b0 b1 b2 b3 b4 b5 b6 b7 b8 b9 d1 d2
  obtain ⟨hrr, hA4, hbt4, hpn, hc4⟩ := HX.out
  clear HX
  have hs4 : (w3.alloc (.cells #[.slice none 0 0] 56)).heap.size = w3.heap.size + 1 := by simp
  generalize (w3.alloc (.cells #[.slice none 0 0] 56)) = w4 at *
  obtain ⟨P, hPe⟩ : ∃ P, w3.heap.size = P := ⟨_, rfl⟩
  rw [hPe] at hpn hA3l hs4
  simp only [hPe]
  clear hPe
  refine hrr.mono ?_
  rintro e w5 ⟨rfl, hc45⟩
  rw [hn]
  have hA5 := blk_keep hA4 hc45 id
  have hbt5 : BytesAt (fun i => i < P) w5 (.slice ta tag.length tcap) tag := (hbt4.keep hc45 (fun _ _ => id)).mono (fun i hi => by have h1 : i < A := hi; omega)
  have hp5 := hpn.keep hc45 id (fun _ _ => id)
  have hc5 := hc4.trans hc45 (fun _ _ h => h)
  have hP5 : P < w5.heap.size := by have := hc45.size; omega
  clear hrr hA4 hbt4 hpn hc4 hc45 hs4
  obtain ⟨n, hk0, hk1⟩ := isCred_nat (isSign_yes hn).1
  have hrb := rsbytes_any c tag ta tcap w5 n hk0 hk1 (sizeC_short hcz) (short_enc (isSign_yes hn).1) (isSign_yes hn).2 hbt5
  unfold signV signBox at hrb
  obtain ⟨⟨b0, b1, b2, b3, b4, b5, b6, b7, b8⟩, b9⟩ := cred_at_sign hA5
  simp only [Nat.zero_add] at b0 b1 b2 b3 b4 b5 b6 b7 b8
  have HX := hid (And.intro hA5 (And.intro hbt5 (And.intro hp5 hc5)))
  clear hA5 hbt5 hp5 hc5 hk0
  go_wp2_with fail
  clear b0 b1 b2 b3 b4 b5 b6 b7 b8 b9
  refine hrb.mono ?_
  rintro e w6 ⟨rfl, hc56⟩
  obtain ⟨hA5, hbt5, hp5, hc5⟩ := HX.out
  clear hrb HX
  have hSt : StK w A P c tag ta tcap (signBytes ⟨c, tag⟩) false w6 := ⟨blk_keep hA5 hc56 id, hbt5.keep hc56 (fun _ _ => id), ⟨none, 0, hp5.keep hc56 id (fun _ _ => id), fun _ => rfl⟩, hc5.trans hc56 (fun _ _ h => h)⟩
  have hP6 : P < w6.heap.size := by have := hc56.size; omega
  have hzl := signBytes_short hn
  clear hA5 hbt5 hp5 hc5 hc56
  generalize hzs : signBytes ⟨c, tag⟩ = zs at *
  have HZ := hid hzs
  clear hzs
  go_wp2_with fail
  have hc0 := hSt.chg
  have hwP : w.heap.size ≤ P := by have := HA0.out; omega
  refine wp_region_state (Chg (· = P)) (fun L w9 => StK w A P c tag ta tcap zs (L 2) w9 ∧ (L 5 = true → L 2 = true) ∧ (L 6 = true → L 2 = true)) (specAtR (kgSpyes A P c tag zs ta tcap)) [28, 29, 30, 31, 32, 33, 34, 35, 36, 37, 38, 39, 40, 41, 42, 43, 44] [2, 5, 6] (by kernel_rfl) (by kernel_rfl) ⟨hSt.go (Chg.refl _ _).drew, (fun h => by cases h), (fun h => by cases h)⟩ (fun t v w w' hc h => specAtR_st _ t v w w' hc h) (by rfl) (by kernel_rfl) ?start ?obs ?fin
  case start =>
    simp only [List.forall_mem_cons]; exact ⟨⟨_, rfl, rfl⟩, ⟨_, rfl, rfl⟩, ⟨_, rfl, rfl⟩, fun _ h => by cases h⟩
  case obs =>
    clear hSt hc0 HK1 HEE
    refine ObsL.cons none (by kernel_rfl) ?_ ?_
    · refine ObL.plain fun L a w hi he hW hk K k => ?_
      obtain ⟨_, e5, f5⟩ := hk 5 (by decide)
      clear hk
      clear hi he
      go_simp
      exact k _ _ (Chg.refl _ _) hW f5
    refine ObsL.cons none (by kernel_rfl) ?_ ?_
    · refine ObL.plain fun L a w hi he hW hk K k => ?_
      obtain ⟨_, e2, rfl⟩ := hk 2 (by decide)
      clear hk
      obtain ⟨⟨q0, q1, q2, q3, q4, q5, q6, q7, q8⟩, q9⟩ := cred_at_sign hW.1.box
      simp only [Nat.zero_add] at q0 q1 q2 q3 q4 q5 q6 q7 q8
      clear hi he
      go_simp
      exact k _ _ (Chg.refl _ _) hW rfl
    refine ObsL.cons none (by kernel_rfl) ?_ ?_
    · refine ObL.plain fun L a w hi he hW hk K k => ?_
      obtain ⟨_, e28, rfl⟩ := hk 28 (by decide)
      obtain ⟨_, e29, rfl⟩ := hk 29 (by decide)
      clear hk
      have hw1 := hW.1
      rw [hi] at hw1
      obtain ⟨hb1, hbt, ⟨ao, cap, hp, hz⟩, hch⟩ := hw1
      obtain rfl := hz rfl
      have hpl := lt_blk hp.cell
      have hput := pkput_yes (P + 1) P cap none [] c tag ta tcap _ hp (by omega) (by omega) (by simp) hn hs (short_enc (isSign_yes hn).1) hbt (fun i hi => ⟨by have h1 : i < P := hi; omega, by simp [rowOf], by have h1 : i < P := hi; omega⟩)
      clear he
      unfold signV signBox at hput
      go_simp
      refine hput.mono ?_
      rintro e w9 ⟨rfl, ao9, cap9, hp9, hch9⟩
      rw [List.nil_append, HZ.out] at hp9
      have hc9 := hch9.chg.mono (T := (· = P)) (fun _ _ h => h.elim id (fun h => by cases h))
      exact k _ _ hc9 ⟨⟨blk_keep hb1 hc9 (by omega), hbt.keep hc9 (fun i hi h => by have h1 : i < P := hi; have h2 : i = P := h; omega), ⟨ao9, cap9, hp9, fun h => by cases h⟩, hch.trans hc9 (fun i hi h => by have h2 : i = P := h; omega)⟩, fun _ => rfl, fun _ => rfl⟩ rfl
    refine ObsL.cons none (by kernel_rfl) ?_ ?_
    · refine ObL.plain fun L a w hi he hW hk K k => ?_
      obtain ⟨_, e2, rfl⟩ := hk 2 (by decide)
      clear hk
      obtain ⟨⟨q0, q1, q2, q3, q4, q5, q6, q7, q8⟩, q9⟩ := cred_at_sign hW.1.box
      simp only [Nat.zero_add] at q0 q1 q2 q3 q4 q5 q6 q7 q8
      clear hi he
      go_simp
      exact k _ _ (Chg.refl _ _) hW rfl
    refine ObsL.cons none (by kernel_rfl) ?_ ?_
    · refine ObL.plain fun L a w hi he hW hk K k => ?_
      obtain ⟨_, e31, rfl⟩ := hk 31 (by decide)
      clear hk
      clear hi he
      have hrr := rsright_any c tag ta tcap w hs hln
      unfold signV signBox at hrr
      go_simp
      refine hrr.mono ?_
      rintro e w9 ⟨rfl, hc⟩
      exact k _ _ (hc.mono (fun _ _ h => h.elim)) ⟨hW.1.go hc, hW.2⟩ (congrArg Value.bool hn)
    refine ObsL.cons none (by kernel_rfl) ?_ ?_
    · refine ObL.plain fun L a w hi he hW hk K k => ?_
      obtain ⟨_, e30, rfl⟩ := hk 30 (by decide)
      obtain ⟨_, e32, rfl⟩ := hk 32 (by decide)
      clear hk
      have h2 := he { on := 2, ground := Ground.data } (by simp) rfl
      clear hi he
      go_simp
      exact k _ _ (Chg.refl _ _) ⟨hW.1, fun _ => h2, hW.2.2⟩ rfl
    refine ObsL.cons none (by kernel_rfl) ?_ ?_
    · refine ObL.plain fun L a w hi he hW hk K k => ?_
      obtain ⟨_, e33, f33⟩ := hk 33 (by decide)
      clear hk
      have h2 := hW.2.1 (he { on := 5, ground := Ground.data } (by simp) rfl)
      clear hi he
      go_simp
      exact k _ _ (Chg.refl _ _) ⟨hW.1, hW.2.1, fun _ => h2⟩ f33
    refine ObsL.cons (some (34, false)) (by kernel_rfl) ?_ ?_
    · refine ObL.yes (fun _ _ h => h) fun L a w hi he hW hk K k => ?_
      obtain ⟨_, e5, f5⟩ := hk 5 (by decide)
      clear hk
      clear hi he
      go_simp
      exact k _ _ (Chg.refl _ _) hW f5
    refine ObsL.cons (some (34, false)) (by kernel_rfl) ?_ ?_
    · refine ObL.yes (fun _ _ h => h) fun L a w hi he hW hk K k => ?_
      obtain ⟨_, e35, rfl⟩ := hk 35 (by decide)
      clear hk
      have h2 := hW.2.2 (he { on := 6, ground := Ground.chain } (by simp) rfl)
      have hw1 := hW.1
      rw [h2] at hw1
      obtain ⟨hb1, hbt, ⟨ao, cap, hp, hz⟩, hch⟩ := hw1
      have hp2 : PenAt (P + 1) w P ao cap zs := hp
      have hpl := lt_blk hp.cell
      clear hi he
      go_simp
      refine (bytes_any _ _ _ _ zs _ hp2 hzl).mono ?_
      rintro e w9 ⟨ao9, cap9, rfl, hby, hc⟩
      exact k _ _ (hc.mono (fun _ _ h => h.elim)) ⟨hW.1.go hc, hW.2⟩ ⟨_, _, rfl, hby.mono (fun i hi => by omega)⟩
    refine ObsL.cons (some (34, false)) (by kernel_rfl) ?_ ?_
    · refine ObL.yes (fun _ _ h => h) fun L a w hi he hW hk K k => ?_
      obtain ⟨_, e36, f36⟩ := hk 36 (by decide)
      clear hk
      obtain ⟨ao, cp, rfl, hby⟩ := f36
      have hcv := conv_bytes hby
      clear hi he
      go_simp
      exact k _ _ (Chg.refl _ _) hW rfl
    refine ObsL.cons (some (34, false)) (by kernel_rfl) ?_ ?_
    · refine ObL.yes (fun _ _ h => h) fun L a w hi he hW hk K k => ?_
      obtain ⟨_, e6, f6⟩ := hk 6 (by decide)
      clear hk
      clear hi he
      go_simp
      exact k _ _ (Chg.refl _ _) hW f6
    refine ObsL.cons (some (34, false)) (by kernel_rfl) ?_ ?_
    · refine ObL.yes (fun _ _ h => h) fun L a w hi he hW hk K k => ?_
      obtain ⟨_, e37, rfl⟩ := hk 37 (by decide)
      obtain ⟨_, e38, rfl⟩ := hk 38 (by decide)
      clear hk
      have z : (zs == zs) = true := by simp
      clear hi he
      go_simp
      exact k _ _ (Chg.refl _ _) hW rfl
    refine ObsL.cons none (by kernel_rfl) ?_ ?_
    · refine ObL.plain fun L a w hi he hW hk K k => ?_
      obtain ⟨_, e34, rfl⟩ := hk 34 (by decide)
      obtain ⟨_, e39, rfl⟩ := hk 39 (by decide)
      clear hk
      clear hi he
      go_simp
      exact k _ _ (Chg.refl _ _) hW rfl
    refine ObsL.cons none (by kernel_rfl) ?_ ?_
    · refine ObL.plain fun L a w hi he hW hk K k => ?_
      obtain ⟨_, e40, f40⟩ := hk 40 (by decide)
      clear hk
      clear hi he
      go_simp
      exact k _ _ (Chg.refl _ _) hW f40
    refine ObsL.cons (some (41, false)) (by kernel_rfl) ?_ ?_
    · refine ObL.yes (fun _ _ h => h) fun L a w hi he hW hk K k => ?_
      obtain ⟨_, e2, rfl⟩ := hk 2 (by decide)
      clear hk
      obtain ⟨⟨q0, q1, q2, q3, q4, q5, q6, q7, q8⟩, q9⟩ := cred_at_sign hW.1.box
      simp only [Nat.zero_add] at q0 q1 q2 q3 q4 q5 q6 q7 q8
      clear hi he
      go_simp
      exact k _ _ (Chg.refl _ _) hW rfl
    refine ObsL.cons (some (41, false)) (by kernel_rfl) ?_ ?_
    · refine ObL.yes (fun _ _ h => h) fun L a w hi he hW hk K k => ?_
      obtain ⟨_, e42, rfl⟩ := hk 42 (by decide)
      clear hk
      clear hi he
      have hpn := pkput_nil c tag ta tcap w hs hln
      unfold signV signBox at hpn
      go_simp
      refine hpn.mono ?_
      rintro e w9 ⟨rfl, hc⟩
      exact k _ _ (hc.mono (fun _ _ h => h.elim)) ⟨hW.1.go hc, hW.2⟩ rfl
    refine ObsL.cons none (by kernel_rfl) ?_ ?_
    · refine ObL.plain fun L a w hi he hW hk K k => ?_
      obtain ⟨_, e41, rfl⟩ := hk 41 (by decide)
      obtain ⟨_, e43, rfl⟩ := hk 43 (by decide)
      clear hk
      clear hi he
      go_simp
      exact k _ _ (Chg.refl _ _) hW rfl
    exact ObsL.nil
  case fin =>
    intro L vals w9 hL hWL hv
    have h44 : vals 44 = .bool false := hv 44 (by decide)
    simp only [putAll, List.setIfInBounds_toArray, List.set_cons_zero, List.set_cons_succ, h44]
    have hc9 := hWL.1.chg
    clear hSt hc0 hv hWL h44 hL
    have k9 := HK1.out.keep hc9 (fun _ _ => id)
    have hs9 := hc9.size
    have hconv2 := conv_bytes k9
    have hT := heap_alloc_new w9 (.cells #[.string ⟨b.toArray⟩, .int .i64 0] 63)
    have hc1011 : Chg (fun _ => False) w9 (w9.alloc (.cells #[.string ⟨b.toArray⟩, .int .i64 0] 63)) := (Chg.refl _ w9).alloc _
    have hX := heap_alloc_new (w9.alloc (.cells #[.string ⟨b.toArray⟩, .int .i64 0] 63)) (.cells #[.int .i64 0, .string ⟨#[]⟩, .string ⟨#[]⟩, .string ⟨#[]⟩, .string ⟨#[]⟩, .string ⟨#[]⟩, .string ⟨#[]⟩, .string ⟨#[]⟩, .string ⟨#[]⟩, .slice none 0 0] 38)
    have hc1112 : Chg (fun _ => False) (w9.alloc (.cells #[.string ⟨b.toArray⟩, .int .i64 0] 63)) ((w9.alloc (.cells #[.string ⟨b.toArray⟩, .int .i64 0] 63)).alloc (.cells #[.int .i64 0, .string ⟨#[]⟩, .string ⟨#[]⟩, .string ⟨#[]⟩, .string ⟨#[]⟩, .string ⟨#[]⟩, .string ⟨#[]⟩, .string ⟨#[]⟩, .string ⟨#[]⟩, .slice none 0 0] 38)) := (Chg.refl _ _).alloc _
    have hsz2 : (w9.alloc (.cells #[.string ⟨b.toArray⟩, .int .i64 0] 63)).heap.size = w9.heap.size + 1 := by simp
    rw [hsz2] at hX
    have hT12 := blk_keep hT hc1112 id
    have hcT := hc1011.trans hc1112 (fun _ _ h => h)
    have hc12 := hc9.trans hcT (fun _ _ h => h)
    have k12 := k9.keep hcT (fun _ _ => id)
    have hs12 := hc12.size
    have hrd := sreadG (l := b) (w := ((w9.alloc (.cells #[.string ⟨b.toArray⟩, .int .i64 0] 63)).alloc (.cells #[.int .i64 0, .string ⟨#[]⟩, .string ⟨#[]⟩, .string ⟨#[]⟩, .string ⟨#[]⟩, .string ⟨#[]⟩, .string ⟨#[]⟩, .string ⟨#[]⟩, .string ⟨#[]⟩, .slice none 0 0] 38))) (X := w9.heap.size + 1) (by omega) k12 (fun i hi => by have := HEE.out i hi; omega) (fun h => by have := HEE.out _ h; omega) hX
    have HH := hid (And.intro hrd (And.intro hT12 hc12))
    have hmf : ∀ (fn : Fn) (first cap : Array Value) (w : World), (Instr.makeFunc fn first cap).run Tryz.prog w = .ok (.func fn first cap) w := fun _ _ _ _ => rfl
    clear hT hc1011 hX hc1112 hsz2 hT12 hcT hc12 k12 k9 hc9 hrd HK1 HEE
    go_wp2_with fail
    clear hmf hconv2
    obtain ⟨hrd, hT12, hc12⟩ := HH.out
    clear HH
    generalize ((w9.alloc (.cells #[.string ⟨b.toArray⟩, .int .i64 0] 63)).alloc (.cells #[.int .i64 0, .string ⟨#[]⟩, .string ⟨#[]⟩, .string ⟨#[]⟩, .string ⟨#[]⟩, .string ⟨#[]⟩, .string ⟨#[]⟩, .string ⟨#[]⟩, .string ⟨#[]⟩, .slice none 0 0] 38)) = w12 at *
    obtain ⟨T, hTe⟩ : ∃ T, w9.heap.size = T := ⟨_, rfl⟩
    rw [hTe] at hrd hT12 hs9
    simp only [hTe]
    clear hTe
    refine hrd.mono ?_
    rintro e w13 ⟨rfl, ⟨xa, xc, hX13, hxb⟩, hc1213⟩
    have hT13 : TapeAt w13 T b 0 := blk_keep hT12 hc1213 (by omega)
    have hc13 := hc12.trans hc1213 (T := (· = T + 1)) (S := fun _ => False) (fun i hi h => by have : i = T + 1 := h; omega)
    have hTl := lt_blk hT13
    have hgt := rsget_any T b w13 (by omega) hT13
    have HH := hid (And.intro hgt (And.intro hX13 (And.intro hxb hc13)))
    have hs1213 := hc1213.size
    have hT12l := lt_blk hT12
    clear hrd hT12 hc12 hX13 hxb hc1213 hT13 hc13 hgt
    go_wp2_with fail
    obtain ⟨hgt, hX13, hxb, hc13⟩ := HH.out
    clear HH
    refine hgt.mono ?_
    rintro e w14 ⟨yv, rfl, ⟨ya, yc, rfl, hyb⟩, ⟨l', e', hT14, hend⟩, hc1314⟩
    have hX14 := blk_keep hX13 hc1314 (show ¬ (T + 1 = T) by omega)
    have hxb14 := hxb.keep hc1314 (fun i hi h => by have h1 := hi.1; have h2 : i = T := h; omega)
    have hc14 := hc13.trans hc1314 (T := (· = T)) (S := fun _ => False) (fun i hi h => by have : i = T := h; omega)
    have HE : Hid (sgErr b = tapeEnd l' e') := hid (by
      unfold GotToS at hend
      unfold sgErr
      cases hg : signGet b with
      | ok s rest => rw [hg] at hend; obtain ⟨rfl, rfl⟩ := hend; rfl
      | bad m => rw [hg] at hend; obtain ⟨rfl, h0⟩ := hend; exact (tapeEnd_bad h0).symm)
    clear hgt hX13 hxb hc13 hc1314 hend
    generalize sgErr b = er at *
    generalize signGot b = gg at *
    obtain ⟨gc, gt⟩ := gg
    dsimp only at hyb hX14 hxb14
    rw [show signV (SignB.mk gc gt).c (.slice ya (SignB.mk gc gt).tag.length yc) = .agg #[.int .i64 gc.kind, .string ⟨gc.head.1.toArray⟩, .string ⟨gc.head.2.toArray⟩, .string ⟨gc.who.toArray⟩, .string ⟨gc.b.1.toArray⟩, .string ⟨gc.b.2.toArray⟩, .string ⟨gc.c.1.toArray⟩, .string ⟨gc.c.2.toArray⟩, .string ⟨gc.w2.toArray⟩, .slice ya gt.length yc] from rfl]
    have hc15 : Chg (fun _ => False) w14 (w14.alloc (.cells #[.int .i64 gc.kind, .string ⟨gc.head.1.toArray⟩, .string ⟨gc.head.2.toArray⟩, .string ⟨gc.who.toArray⟩, .string ⟨gc.b.1.toArray⟩, .string ⟨gc.b.2.toArray⟩, .string ⟨gc.c.1.toArray⟩, .string ⟨gc.c.2.toArray⟩, .string ⟨gc.w2.toArray⟩, .slice ya gt.length yc] 38)) := (Chg.refl _ w14).alloc _
    have hT15 : TapeAt (w14.alloc (.cells #[.int .i64 gc.kind, .string ⟨gc.head.1.toArray⟩, .string ⟨gc.head.2.toArray⟩, .string ⟨gc.who.toArray⟩, .string ⟨gc.b.1.toArray⟩, .string ⟨gc.b.2.toArray⟩, .string ⟨gc.c.1.toArray⟩, .string ⟨gc.c.2.toArray⟩, .string ⟨gc.w2.toArray⟩, .slice ya gt.length yc] 38)) T l' e' := blk_keep hT14 hc15 id
    have hX14l := lt_blk hX14
    obtain ⟨⟨x0, x1, x2, x3, x4, x5, x6, x7, x8⟩, x9⟩ := cred_at_sign hX14
    simp only [Nat.zero_add] at x0 x1 x2 x3 x4 x5 x6 x7 x8
    have hsm : Calls Tryz.prog 14 #[.agg #[.int .i64 gc.kind, .string ⟨gc.head.1.toArray⟩, .string ⟨gc.head.2.toArray⟩, .string ⟨gc.who.toArray⟩, .string ⟨gc.b.1.toArray⟩, .string ⟨gc.b.2.toArray⟩, .string ⟨gc.c.1.toArray⟩, .string ⟨gc.c.2.toArray⟩, .string ⟨gc.w2.toArray⟩, .slice xa gt.length xc], .agg #[.int .i64 gc.kind, .string ⟨gc.head.1.toArray⟩, .string ⟨gc.head.2.toArray⟩, .string ⟨gc.who.toArray⟩, .string ⟨gc.b.1.toArray⟩, .string ⟨gc.b.2.toArray⟩, .string ⟨gc.c.1.toArray⟩, .string ⟨gc.c.2.toArray⟩, .string ⟨gc.w2.toArray⟩, .slice ya gt.length yc]] (w14.alloc (.cells #[.int .i64 gc.kind, .string ⟨gc.head.1.toArray⟩, .string ⟨gc.head.2.toArray⟩, .string ⟨gc.who.toArray⟩, .string ⟨gc.b.1.toArray⟩, .string ⟨gc.b.2.toArray⟩, .string ⟨gc.c.1.toArray⟩, .string ⟨gc.c.2.toArray⟩, .string ⟨gc.w2.toArray⟩, .slice ya gt.length yc] 38)) fun e w' => e = .returned (.bool true) ∧ Chg (fun _ => False) (w14.alloc (.cells #[.int .i64 gc.kind, .string ⟨gc.head.1.toArray⟩, .string ⟨gc.head.2.toArray⟩, .string ⟨gc.who.toArray⟩, .string ⟨gc.b.1.toArray⟩, .string ⟨gc.b.2.toArray⟩, .string ⟨gc.c.1.toArray⟩, .string ⟨gc.c.2.toArray⟩, .string ⟨gc.w2.toArray⟩, .slice ya gt.length yc] 38)) w' :=
      rssame_yes gc gt xa ya xc yc _ (hxb14.keep hc15 (fun _ _ => id)) (hyb.keep hc15 (fun _ _ => id))
    have HH := hid (And.intro hsm (And.intro hT15 (hc14.trans hc15 (fun _ _ h => h))))
    clear hsm hT15 hX14 hxb14 hyb hT14 hc14 hc15
    go_wp2_with fail
    clear x0 x1 x2 x3 x4 x5 x6 x7 x8 x9
    obtain ⟨hsm, hT15, hc15⟩ := HH.out
    clear HH
    generalize (w14.alloc (.cells #[.int .i64 gc.kind, .string ⟨gc.head.1.toArray⟩, .string ⟨gc.head.2.toArray⟩, .string ⟨gc.who.toArray⟩, .string ⟨gc.b.1.toArray⟩, .string ⟨gc.b.2.toArray⟩, .string ⟨gc.c.1.toArray⟩, .string ⟨gc.c.2.toArray⟩, .string ⟨gc.w2.toArray⟩, .slice ya gt.length yc] 38)) = w15 at *
    refine hsm.mono ?_
    rintro e w16 ⟨rfl, hc1516⟩
    have hT16 : TapeAt w16 T l' e' := blk_keep hT15 hc1516 id
    have HC := hid (hc15.trans hc1516 (fun _ _ h => h))
    have htn := tend_any T l' e' w16 hT16
    clear hsm hT15 hc15 hc1516 hT16
    go_wp2_with fail
    refine htn.mono ?_
    rintro e w17 ⟨rfl, rfl⟩
    rw [← HE.out]
    clear htn HE
    go_wp2
    go_ret
    exact ⟨rfl, HC.out⟩

def kgSpno (A P : Nat) (c : CredB) (tag zs : List UInt8) (ta : Option Addr) (tcap : Nat) : List (SpecR (Chg (· = P))) := [.any, .any, .eq (.pointer (some ⟨A, 0, none⟩)), .any, .any, .eq (.pointer (some ⟨P, 0, none⟩)), .eq (.string ⟨zs.toArray⟩), .any, .any, .any, .any, .any, .any, .any, .any, .any, .any, .any, .any, .any, .any, .any, .any, .any, .any, .any, .any, .any, .eq (.pointer (some ⟨P, 0, none⟩)), .eq (signV c (.slice ta tag.length tcap)), .eq (.bool false), .eq (signV c (.slice ta tag.length tcap)), .eq (.bool false), .eq (.bool false), .eq (.bool false), .eq (.pointer (some ⟨P, 0, none⟩)), .textK P zs, .eq (.string ⟨zs.toArray⟩), .eq (.string ⟨zs.toArray⟩), .eq (.bool false), .eq (.bool false), .eq (.bool false), .eq (signV c (.slice ta tag.length tcap)), .eq (.bool false), .eq (.bool false)]

set_option maxRecDepth 100000 in
set_option maxHeartbeats 8000000 in
theorem kget_no {E : Nat → Prop} (c : CredB) (tag : List UInt8) (ta : Option Addr) (tcap : Nat) (a1 : Option Addr) (c1 : Nat) (b : List UInt8) (w : World) (hsz : sizeS ⟨c, tag⟩ ≤ 600) (hb : b.length ≤ 400) (hbt : BytesAt (fun i => i < w.heap.size) w (.slice ta tag.length tcap) tag) (k1 : BytesAt E w (.slice a1 b.length c1) b) (hE : ∀ i, E i → i < w.heap.size) (hn : isSign ⟨c, tag⟩ = false) :
    Calls Tryz.prog 4 #[signV c (.slice ta tag.length tcap), .slice a1 b.length c1] w fun e w' => e = .returned (.bool true) ∧ Chg (fun _ => False) w w' := by
  have hcz : sizeC c ≤ 1048576 := by unfold sizeS at hsz; dsimp only at hsz; omega
  have hs : credShort c 9223372036854775807 := (sizeC_short hcz).mono (by decide)
  have hln : tag.length ≤ 9223372036854775807 := by unfold sizeS at hsz; dsimp only at hsz; omega
  have d2 : decide (400 < (b.length : Int)) = false := decide_eq_false (by omega)
  have hA1 : (w.alloc (.cells #[.int .i64 c.kind, .string ⟨c.head.1.toArray⟩, .string ⟨c.head.2.toArray⟩, .string ⟨c.who.toArray⟩, .string ⟨c.b.1.toArray⟩, .string ⟨c.b.2.toArray⟩, .string ⟨c.c.1.toArray⟩, .string ⟨c.c.2.toArray⟩, .string ⟨c.w2.toArray⟩, .slice ta tag.length tcap] 38)).heap[w.heap.size]? = some (.cells (signBox c (.slice ta tag.length tcap)) 38 (0, 0)) := heap_alloc_new w _
  have hc1 : Chg (fun _ => False) w (w.alloc (.cells #[.int .i64 c.kind, .string ⟨c.head.1.toArray⟩, .string ⟨c.head.2.toArray⟩, .string ⟨c.who.toArray⟩, .string ⟨c.b.1.toArray⟩, .string ⟨c.b.2.toArray⟩, .string ⟨c.c.1.toArray⟩, .string ⟨c.c.2.toArray⟩, .string ⟨c.w2.toArray⟩, .slice ta tag.length tcap] 38)) := (Chg.refl _ w).alloc _
  have hf := kfirst (w.alloc (.cells #[.int .i64 c.kind, .string ⟨c.head.1.toArray⟩, .string ⟨c.head.2.toArray⟩, .string ⟨c.who.toArray⟩, .string ⟨c.b.1.toArray⟩, .string ⟨c.b.2.toArray⟩, .string ⟨c.c.1.toArray⟩, .string ⟨c.c.2.toArray⟩, .string ⟨c.w2.toArray⟩, .slice ta tag.length tcap] 38))
  have HH := hid (And.intro hf (And.intro hA1 (And.intro hc1 (hbt.keep hc1 (fun _ _ => id)))))
  have HK1 := hid k1
  have HEE := hid hE
  clear hf hA1 hc1 hbt k1 hE
  show Calls Tryz.prog 4 #[.agg #[.int .i64 c.kind, .string ⟨c.head.1.toArray⟩, .string ⟨c.head.2.toArray⟩, .string ⟨c.who.toArray⟩, .string ⟨c.b.1.toArray⟩, .string ⟨c.b.2.toArray⟩, .string ⟨c.c.1.toArray⟩, .string ⟨c.c.2.toArray⟩, .string ⟨c.w2.toArray⟩, .slice ta tag.length tcap], .slice a1 b.length c1] w _
  go_enter Tryz.func4, Tryz.ntmps4
  go_wp2_with fail
  obtain ⟨hf, hA1, hc1, hbt1⟩ := HH.out
  clear HH
  generalize (w.alloc (.cells #[.int .i64 c.kind, .string ⟨c.head.1.toArray⟩, .string ⟨c.head.2.toArray⟩, .string ⟨c.who.toArray⟩, .string ⟨c.b.1.toArray⟩, .string ⟨c.b.2.toArray⟩, .string ⟨c.c.1.toArray⟩, .string ⟨c.c.2.toArray⟩, .string ⟨c.w2.toArray⟩, .slice ta tag.length tcap] 38)) = w1 at *
  obtain ⟨A, hAe⟩ : ∃ A, w.heap.size = A := ⟨_, rfl⟩
  have HA0 := hid hAe
  rw [hAe] at hA1 hbt1
  simp only [hAe]
  clear hAe
  refine hf.mono ?_
  rintro e w2 ⟨rfl, hc12⟩
  have hA2 := blk_keep hA1 hc12 id
  have hbt2 := hbt1.keep hc12 (fun _ _ => id)
  have hc2 := hc1.trans hc12 (fun _ _ h => h)
  clear hf hA1 hc1 hbt1 hc12
  have hal : Chg (fun _ => False) w2 (w2.alloc (.cells #[.int .i64 c.kind, .string ⟨c.head.1.toArray⟩, .string ⟨c.head.2.toArray⟩, .string ⟨c.who.toArray⟩, .string ⟨c.b.1.toArray⟩, .string ⟨c.b.2.toArray⟩, .string ⟨c.c.1.toArray⟩, .string ⟨c.c.2.toArray⟩, .string ⟨c.w2.toArray⟩, .slice ta tag.length tcap] 38)) := (Chg.refl _ w2).alloc _
  have hgr : Calls Tryz.prog 6 #[.slice none 0 0, .slice (some ⟨w2.heap.size, 0, none⟩) 1 1] (w2.alloc (.cells #[.int .i64 c.kind, .string ⟨c.head.1.toArray⟩, .string ⟨c.head.2.toArray⟩, .string ⟨c.who.toArray⟩, .string ⟨c.b.1.toArray⟩, .string ⟨c.b.2.toArray⟩, .string ⟨c.c.1.toArray⟩, .string ⟨c.c.2.toArray⟩, .string ⟨c.w2.toArray⟩, .slice ta tag.length tcap] 38)) fun e w' => e = .returned (.int .i64 (totalK [] + totalS [⟨c, tag⟩] : Nat)) ∧ Chg (fun _ => False) (w2.alloc (.cells #[.int .i64 c.kind, .string ⟨c.head.1.toArray⟩, .string ⟨c.head.2.toArray⟩, .string ⟨c.who.toArray⟩, .string ⟨c.b.1.toArray⟩, .string ⟨c.b.2.toArray⟩, .string ⟨c.c.1.toArray⟩, .string ⟨c.c.2.toArray⟩, .string ⟨c.w2.toArray⟩, .slice ta tag.length tcap] 38)) w' :=
    kgreat_any none (some ⟨w2.heap.size, 0, none⟩) 0 1 [] [⟨c, tag⟩] _ (by show 0 + (sizeS ⟨c, tag⟩ + 0) ≤ _; omega) (KeysAt.nil (fun _ => True) _ none) (signs_one (s := ⟨c, tag⟩) (a := ta) (c := tcap) (heap_alloc_new w2 _) ((hbt2.keep hal (fun _ _ => id)).mono (fun _ _ => trivial)) hs)
  obtain ⟨⟨b0, b1, b2, b3, b4, b5, b6, b7, b8⟩, b9⟩ := cred_at_sign hA2
  simp only [Nat.zero_add] at b0 b1 b2 b3 b4 b5 b6 b7 b8
  have HX := hid (And.intro hgr (And.intro (blk_keep hA2 hal id) (And.intro (hbt2.keep hal (fun _ _ => id)) (hc2.trans hal (fun _ _ h => h)))))
  clear hgr hA2 hbt2 hal hc2
  go_wp2_with fail
  clear b0 b1 b2 b3 b4 b5 b6 b7 b8 b9
  obtain ⟨hgr, hA2, hbt2, hc2⟩ := HX.out
  clear HX
  generalize (w2.alloc (.cells #[.int .i64 c.kind, .string ⟨c.head.1.toArray⟩, .string ⟨c.head.2.toArray⟩, .string ⟨c.who.toArray⟩, .string ⟨c.b.1.toArray⟩, .string ⟨c.b.2.toArray⟩, .string ⟨c.c.1.toArray⟩, .string ⟨c.c.2.toArray⟩, .string ⟨c.w2.toArray⟩, .slice ta tag.length tcap] 38)) = w25 at *
  refine hgr.mono ?_
  rintro e w3 ⟨rfl, hc23⟩
  have hA3 := blk_keep hA2 hc23 id
  have hbt3 := hbt2.keep hc23 (fun _ _ => id)
  have hc3 := hc2.trans hc23 (fun _ _ h => h)
  clear hgr hA2 hbt2 hc2 hc23
  obtain ⟨tk, htk⟩ : ∃ tk : Int, ((totalK [] + totalS [⟨c, tag⟩] : Nat) : Int) = tk := ⟨_, rfl⟩
  have d1 : decide (600 < tk) = false := decide_eq_false (by have h1 : totalK [] + totalS [⟨c, tag⟩] = 0 + (sizeS ⟨c, tag⟩ + 0) := rfl; omega)
  rw [htk]
  clear htk
  have hpn := pen_new w3 (w3.heap.size + 1)
  have hal : Chg (fun _ => False) w3 (w3.alloc (.cells #[.slice none 0 0] 56)) := (Chg.refl _ w3).alloc _
  have hrr := rsright_any c tag ta tcap (w3.alloc (.cells #[.slice none 0 0] 56)) hs hln
  unfold signV signBox at hrr
  obtain ⟨⟨b0, b1, b2, b3, b4, b5, b6, b7, b8⟩, b9⟩ := cred_at_sign hA3
  simp only [Nat.zero_add] at b0 b1 b2 b3 b4 b5 b6 b7 b8
  have hA3l := lt_blk hA3
  have HX := hid (And.intro hrr (And.intro (blk_keep hA3 hal id) (And.intro (hbt3.keep hal (fun _ _ => id)) (And.intro hpn (hc3.trans hal (fun _ _ h => h))))))
  clear hrr hA3 hbt3 hpn hal hc3
  go_wp2_with fail
  clear b0 b1 b2 b3 b4 b5 b6 b7 b8 b9 d1 d2
  obtain ⟨hrr, hA4, hbt4, hpn, hc4⟩ := HX.out
  clear HX
  have hs4 : (w3.alloc (.cells #[.slice none 0 0] 56)).heap.size = w3.heap.size + 1 := by simp
  generalize (w3.alloc (.cells #[.slice none 0 0] 56)) = w4 at *
  obtain ⟨P, hPe⟩ : ∃ P, w3.heap.size = P := ⟨_, rfl⟩
  rw [hPe] at hpn hA3l hs4
  simp only [hPe]
  clear hPe
  refine hrr.mono ?_
  rintro e w5 ⟨rfl, hc45⟩
  rw [hn]
  have hA5 := blk_keep hA4 hc45 id
  have hbt5 : BytesAt (fun i => i < P) w5 (.slice ta tag.length tcap) tag := (hbt4.keep hc45 (fun _ _ => id)).mono (fun i hi => by have h1 : i < A := hi; omega)
  have hp5 := hpn.keep hc45 id (fun _ _ => id)
  have hc5 := hc4.trans hc45 (fun _ _ h => h)
  have hP5 : P < w5.heap.size := by have := hc45.size; omega
  clear hrr hA4 hbt4 hpn hc4 hc45 hs4
  skip
  have hSt : StK w A P c tag ta tcap [] false w5 := ⟨hA5, hbt5, ⟨none, 0, hp5, fun _ => rfl⟩, hc5⟩
  have hP6 : P < w5.heap.size := hP5
  obtain ⟨zs, hzs⟩ : ∃ zs : List UInt8, zs = [] := ⟨_, rfl⟩
  rw [← hzs] at hSt
  have hzl : zs.length ≤ 140737488355328 := by rw [hzs]; simp
  have HZ := hid hzs
  clear hA5 hbt5 hp5 hc5 hzs
  go_wp2_with fail
  have hc0 := hSt.chg
  have hwP : w.heap.size ≤ P := by have := HA0.out; omega
  refine wp_region_state (Chg (· = P)) (fun L w9 => StK w A P c tag ta tcap zs (L 2) w9 ∧ (L 5 = true → L 2 = true) ∧ (L 6 = true → L 2 = true)) (specAtR (kgSpno A P c tag zs ta tcap)) [28, 29, 30, 31, 32, 33, 34, 35, 36, 37, 38, 39, 40, 41, 42, 43, 44] [2, 5, 6] (by kernel_rfl) (by kernel_rfl) ⟨hSt.go (Chg.refl _ _).drew, (fun h => by cases h), (fun h => by cases h)⟩ (fun t v w w' hc h => specAtR_st _ t v w w' hc h) (by rfl) (by kernel_rfl) ?start ?obs ?fin
  case start =>
    simp only [List.forall_mem_cons]; exact ⟨⟨_, rfl, rfl⟩, ⟨_, rfl, rfl⟩, ⟨_, rfl, by rw [HZ.out]; rfl⟩, fun _ h => by cases h⟩
  case obs =>
    clear hSt hc0 HK1 HEE
    refine ObsL.cons none (by kernel_rfl) ?_ ?_
    · refine ObL.plain fun L a w hi he hW hk K k => ?_
      obtain ⟨_, e5, f5⟩ := hk 5 (by decide)
      clear hk
      clear hi he
      go_simp
      exact k _ _ (Chg.refl _ _) hW f5
    refine ObsL.cons none (by kernel_rfl) ?_ ?_
    · refine ObL.plain fun L a w hi he hW hk K k => ?_
      obtain ⟨_, e2, rfl⟩ := hk 2 (by decide)
      clear hk
      obtain ⟨⟨q0, q1, q2, q3, q4, q5, q6, q7, q8⟩, q9⟩ := cred_at_sign hW.1.box
      simp only [Nat.zero_add] at q0 q1 q2 q3 q4 q5 q6 q7 q8
      clear hi he
      go_simp
      exact k _ _ (Chg.refl _ _) hW rfl
    refine ObsL.cons none (by kernel_rfl) ?_ ?_
    · refine ObL.plain fun L a w hi he hW hk K k => ?_
      obtain ⟨_, e28, rfl⟩ := hk 28 (by decide)
      obtain ⟨_, e29, rfl⟩ := hk 29 (by decide)
      clear hk
      have hw1 := hW.1
      rw [hi] at hw1
      have hput := pkput_no (.pointer (some ⟨P, 0, none⟩)) c tag ta tcap w hs hln hn
      clear he
      unfold signV signBox at hput
      go_simp
      refine hput.mono ?_
      rintro e w9 ⟨rfl, hc⟩
      have hw2 := hw1.go hc
      exact k _ _ (hc.mono (fun _ _ h => h.elim)) ⟨⟨hw2.box, hw2.bt, by obtain ⟨ao, cap, hp, hz⟩ := hw2.pen; exact ⟨ao, cap, by show PenAt (P + 1) w9 P ao cap zs; rw [HZ.out]; exact hp, fun h => by cases h⟩, hw2.chg⟩, fun _ => rfl, fun _ => rfl⟩ rfl
    refine ObsL.cons none (by kernel_rfl) ?_ ?_
    · refine ObL.plain fun L a w hi he hW hk K k => ?_
      obtain ⟨_, e2, rfl⟩ := hk 2 (by decide)
      clear hk
      obtain ⟨⟨q0, q1, q2, q3, q4, q5, q6, q7, q8⟩, q9⟩ := cred_at_sign hW.1.box
      simp only [Nat.zero_add] at q0 q1 q2 q3 q4 q5 q6 q7 q8
      clear hi he
      go_simp
      exact k _ _ (Chg.refl _ _) hW rfl
    refine ObsL.cons none (by kernel_rfl) ?_ ?_
    · refine ObL.plain fun L a w hi he hW hk K k => ?_
      obtain ⟨_, e31, rfl⟩ := hk 31 (by decide)
      clear hk
      clear hi he
      have hrr := rsright_any c tag ta tcap w hs hln
      unfold signV signBox at hrr
      go_simp
      refine hrr.mono ?_
      rintro e w9 ⟨rfl, hc⟩
      exact k _ _ (hc.mono (fun _ _ h => h.elim)) ⟨hW.1.go hc, hW.2⟩ (congrArg Value.bool hn)
    refine ObsL.cons none (by kernel_rfl) ?_ ?_
    · refine ObL.plain fun L a w hi he hW hk K k => ?_
      obtain ⟨_, e30, rfl⟩ := hk 30 (by decide)
      obtain ⟨_, e32, rfl⟩ := hk 32 (by decide)
      clear hk
      have h2 := he { on := 2, ground := Ground.data } (by simp) rfl
      clear hi he
      go_simp
      exact k _ _ (Chg.refl _ _) ⟨hW.1, fun _ => h2, hW.2.2⟩ rfl
    refine ObsL.cons none (by kernel_rfl) ?_ ?_
    · refine ObL.plain fun L a w hi he hW hk K k => ?_
      obtain ⟨_, e33, f33⟩ := hk 33 (by decide)
      clear hk
      have h2 := hW.2.1 (he { on := 5, ground := Ground.data } (by simp) rfl)
      clear hi he
      go_simp
      exact k _ _ (Chg.refl _ _) ⟨hW.1, hW.2.1, fun _ => h2⟩ f33
    refine ObsL.cons (some (34, false)) (by kernel_rfl) ?_ ?_
    · refine ObL.yes (fun _ _ h => h) fun L a w hi he hW hk K k => ?_
      obtain ⟨_, e5, f5⟩ := hk 5 (by decide)
      clear hk
      clear hi he
      go_simp
      exact k _ _ (Chg.refl _ _) hW f5
    refine ObsL.cons (some (34, false)) (by kernel_rfl) ?_ ?_
    · refine ObL.yes (fun _ _ h => h) fun L a w hi he hW hk K k => ?_
      obtain ⟨_, e35, rfl⟩ := hk 35 (by decide)
      clear hk
      have h2 := hW.2.2 (he { on := 6, ground := Ground.chain } (by simp) rfl)
      have hw1 := hW.1
      rw [h2] at hw1
      obtain ⟨hb1, hbt, ⟨ao, cap, hp, hz⟩, hch⟩ := hw1
      have hp2 : PenAt (P + 1) w P ao cap zs := hp
      have hpl := lt_blk hp.cell
      clear hi he
      go_simp
      refine (bytes_any _ _ _ _ zs _ hp2 hzl).mono ?_
      rintro e w9 ⟨ao9, cap9, rfl, hby, hc⟩
      exact k _ _ (hc.mono (fun _ _ h => h.elim)) ⟨hW.1.go hc, hW.2⟩ ⟨_, _, rfl, hby.mono (fun i hi => by omega)⟩
    refine ObsL.cons (some (34, false)) (by kernel_rfl) ?_ ?_
    · refine ObL.yes (fun _ _ h => h) fun L a w hi he hW hk K k => ?_
      obtain ⟨_, e36, f36⟩ := hk 36 (by decide)
      clear hk
      obtain ⟨ao, cp, rfl, hby⟩ := f36
      have hcv := conv_bytes hby
      clear hi he
      go_simp
      exact k _ _ (Chg.refl _ _) hW rfl
    refine ObsL.cons (some (34, false)) (by kernel_rfl) ?_ ?_
    · refine ObL.yes (fun _ _ h => h) fun L a w hi he hW hk K k => ?_
      obtain ⟨_, e6, f6⟩ := hk 6 (by decide)
      clear hk
      clear hi he
      go_simp
      exact k _ _ (Chg.refl _ _) hW f6
    refine ObsL.cons (some (34, false)) (by kernel_rfl) ?_ ?_
    · refine ObL.yes (fun _ _ h => h) fun L a w hi he hW hk K k => ?_
      obtain ⟨_, e37, rfl⟩ := hk 37 (by decide)
      obtain ⟨_, e38, rfl⟩ := hk 38 (by decide)
      clear hk
      have z : (zs == zs) = true := by simp
      clear hi he
      go_simp
      exact k _ _ (Chg.refl _ _) hW rfl
    refine ObsL.cons none (by kernel_rfl) ?_ ?_
    · refine ObL.plain fun L a w hi he hW hk K k => ?_
      obtain ⟨_, e34, rfl⟩ := hk 34 (by decide)
      obtain ⟨_, e39, rfl⟩ := hk 39 (by decide)
      clear hk
      clear hi he
      go_simp
      exact k _ _ (Chg.refl _ _) hW rfl
    refine ObsL.cons none (by kernel_rfl) ?_ ?_
    · refine ObL.plain fun L a w hi he hW hk K k => ?_
      obtain ⟨_, e40, f40⟩ := hk 40 (by decide)
      clear hk
      clear hi he
      go_simp
      exact k _ _ (Chg.refl _ _) hW f40
    refine ObsL.cons (some (41, false)) (by kernel_rfl) ?_ ?_
    · refine ObL.yes (fun _ _ h => h) fun L a w hi he hW hk K k => ?_
      obtain ⟨_, e2, rfl⟩ := hk 2 (by decide)
      clear hk
      obtain ⟨⟨q0, q1, q2, q3, q4, q5, q6, q7, q8⟩, q9⟩ := cred_at_sign hW.1.box
      simp only [Nat.zero_add] at q0 q1 q2 q3 q4 q5 q6 q7 q8
      clear hi he
      go_simp
      exact k _ _ (Chg.refl _ _) hW rfl
    refine ObsL.cons (some (41, false)) (by kernel_rfl) ?_ ?_
    · refine ObL.yes (fun _ _ h => h) fun L a w hi he hW hk K k => ?_
      obtain ⟨_, e42, rfl⟩ := hk 42 (by decide)
      clear hk
      clear hi he
      have hpn := pkput_nil c tag ta tcap w hs hln
      unfold signV signBox at hpn
      go_simp
      refine hpn.mono ?_
      rintro e w9 ⟨rfl, hc⟩
      exact k _ _ (hc.mono (fun _ _ h => h.elim)) ⟨hW.1.go hc, hW.2⟩ rfl
    refine ObsL.cons none (by kernel_rfl) ?_ ?_
    · refine ObL.plain fun L a w hi he hW hk K k => ?_
      obtain ⟨_, e41, rfl⟩ := hk 41 (by decide)
      obtain ⟨_, e43, rfl⟩ := hk 43 (by decide)
      clear hk
      clear hi he
      go_simp
      exact k _ _ (Chg.refl _ _) hW rfl
    exact ObsL.nil
  case fin =>
    intro L vals w9 hL hWL hv
    have h44 : vals 44 = .bool false := hv 44 (by decide)
    simp only [putAll, List.setIfInBounds_toArray, List.set_cons_zero, List.set_cons_succ, h44]
    have hc9 := hWL.1.chg
    clear hSt hc0 hv hWL h44 hL
    have k9 := HK1.out.keep hc9 (fun _ _ => id)
    have hs9 := hc9.size
    have hconv2 := conv_bytes k9
    have hT := heap_alloc_new w9 (.cells #[.string ⟨b.toArray⟩, .int .i64 0] 63)
    have hc1011 : Chg (fun _ => False) w9 (w9.alloc (.cells #[.string ⟨b.toArray⟩, .int .i64 0] 63)) := (Chg.refl _ w9).alloc _
    have hX := heap_alloc_new (w9.alloc (.cells #[.string ⟨b.toArray⟩, .int .i64 0] 63)) (.cells #[.int .i64 0, .string ⟨#[]⟩, .string ⟨#[]⟩, .string ⟨#[]⟩, .string ⟨#[]⟩, .string ⟨#[]⟩, .string ⟨#[]⟩, .string ⟨#[]⟩, .string ⟨#[]⟩, .slice none 0 0] 38)
    have hc1112 : Chg (fun _ => False) (w9.alloc (.cells #[.string ⟨b.toArray⟩, .int .i64 0] 63)) ((w9.alloc (.cells #[.string ⟨b.toArray⟩, .int .i64 0] 63)).alloc (.cells #[.int .i64 0, .string ⟨#[]⟩, .string ⟨#[]⟩, .string ⟨#[]⟩, .string ⟨#[]⟩, .string ⟨#[]⟩, .string ⟨#[]⟩, .string ⟨#[]⟩, .string ⟨#[]⟩, .slice none 0 0] 38)) := (Chg.refl _ _).alloc _
    have hsz2 : (w9.alloc (.cells #[.string ⟨b.toArray⟩, .int .i64 0] 63)).heap.size = w9.heap.size + 1 := by simp
    rw [hsz2] at hX
    have hT12 := blk_keep hT hc1112 id
    have hcT := hc1011.trans hc1112 (fun _ _ h => h)
    have hc12 := hc9.trans hcT (fun _ _ h => h)
    have k12 := k9.keep hcT (fun _ _ => id)
    have hs12 := hc12.size
    have hrd := sreadG (l := b) (w := ((w9.alloc (.cells #[.string ⟨b.toArray⟩, .int .i64 0] 63)).alloc (.cells #[.int .i64 0, .string ⟨#[]⟩, .string ⟨#[]⟩, .string ⟨#[]⟩, .string ⟨#[]⟩, .string ⟨#[]⟩, .string ⟨#[]⟩, .string ⟨#[]⟩, .string ⟨#[]⟩, .slice none 0 0] 38))) (X := w9.heap.size + 1) (by omega) k12 (fun i hi => by have := HEE.out i hi; omega) (fun h => by have := HEE.out _ h; omega) hX
    have HH := hid (And.intro hrd (And.intro hT12 hc12))
    have hmf : ∀ (fn : Fn) (first cap : Array Value) (w : World), (Instr.makeFunc fn first cap).run Tryz.prog w = .ok (.func fn first cap) w := fun _ _ _ _ => rfl
    clear hT hc1011 hX hc1112 hsz2 hT12 hcT hc12 k12 k9 hc9 hrd HK1 HEE
    go_wp2_with fail
    clear hmf hconv2
    obtain ⟨hrd, hT12, hc12⟩ := HH.out
    clear HH
    generalize ((w9.alloc (.cells #[.string ⟨b.toArray⟩, .int .i64 0] 63)).alloc (.cells #[.int .i64 0, .string ⟨#[]⟩, .string ⟨#[]⟩, .string ⟨#[]⟩, .string ⟨#[]⟩, .string ⟨#[]⟩, .string ⟨#[]⟩, .string ⟨#[]⟩, .string ⟨#[]⟩, .slice none 0 0] 38)) = w12 at *
    obtain ⟨T, hTe⟩ : ∃ T, w9.heap.size = T := ⟨_, rfl⟩
    rw [hTe] at hrd hT12 hs9
    simp only [hTe]
    clear hTe
    refine hrd.mono ?_
    rintro e w13 ⟨rfl, ⟨xa, xc, hX13, hxb⟩, hc1213⟩
    have hT13 : TapeAt w13 T b 0 := blk_keep hT12 hc1213 (by omega)
    have hc13 := hc12.trans hc1213 (T := (· = T + 1)) (S := fun _ => False) (fun i hi h => by have : i = T + 1 := h; omega)
    have hTl := lt_blk hT13
    have hgt := rsget_any T b w13 (by omega) hT13
    have HH := hid (And.intro hgt (And.intro hX13 (And.intro hxb hc13)))
    have hs1213 := hc1213.size
    have hT12l := lt_blk hT12
    clear hrd hT12 hc12 hX13 hxb hc1213 hT13 hc13 hgt
    go_wp2_with fail
    obtain ⟨hgt, hX13, hxb, hc13⟩ := HH.out
    clear HH
    refine hgt.mono ?_
    rintro e w14 ⟨yv, rfl, ⟨ya, yc, rfl, hyb⟩, ⟨l', e', hT14, hend⟩, hc1314⟩
    have hX14 := blk_keep hX13 hc1314 (show ¬ (T + 1 = T) by omega)
    have hxb14 := hxb.keep hc1314 (fun i hi h => by have h1 := hi.1; have h2 : i = T := h; omega)
    have hc14 := hc13.trans hc1314 (T := (· = T)) (S := fun _ => False) (fun i hi h => by have : i = T := h; omega)
    have HE : Hid (sgErr b = tapeEnd l' e') := hid (by
      unfold GotToS at hend
      unfold sgErr
      cases hg : signGet b with
      | ok s rest => rw [hg] at hend; obtain ⟨rfl, rfl⟩ := hend; rfl
      | bad m => rw [hg] at hend; obtain ⟨rfl, h0⟩ := hend; exact (tapeEnd_bad h0).symm)
    clear hgt hX13 hxb hc13 hc1314 hend
    generalize sgErr b = er at *
    generalize signGot b = gg at *
    obtain ⟨gc, gt⟩ := gg
    dsimp only at hyb hX14 hxb14
    rw [show signV (SignB.mk gc gt).c (.slice ya (SignB.mk gc gt).tag.length yc) = .agg #[.int .i64 gc.kind, .string ⟨gc.head.1.toArray⟩, .string ⟨gc.head.2.toArray⟩, .string ⟨gc.who.toArray⟩, .string ⟨gc.b.1.toArray⟩, .string ⟨gc.b.2.toArray⟩, .string ⟨gc.c.1.toArray⟩, .string ⟨gc.c.2.toArray⟩, .string ⟨gc.w2.toArray⟩, .slice ya gt.length yc] from rfl]
    have hc15 : Chg (fun _ => False) w14 (w14.alloc (.cells #[.int .i64 gc.kind, .string ⟨gc.head.1.toArray⟩, .string ⟨gc.head.2.toArray⟩, .string ⟨gc.who.toArray⟩, .string ⟨gc.b.1.toArray⟩, .string ⟨gc.b.2.toArray⟩, .string ⟨gc.c.1.toArray⟩, .string ⟨gc.c.2.toArray⟩, .string ⟨gc.w2.toArray⟩, .slice ya gt.length yc] 38)) := (Chg.refl _ w14).alloc _
    have hT15 : TapeAt (w14.alloc (.cells #[.int .i64 gc.kind, .string ⟨gc.head.1.toArray⟩, .string ⟨gc.head.2.toArray⟩, .string ⟨gc.who.toArray⟩, .string ⟨gc.b.1.toArray⟩, .string ⟨gc.b.2.toArray⟩, .string ⟨gc.c.1.toArray⟩, .string ⟨gc.c.2.toArray⟩, .string ⟨gc.w2.toArray⟩, .slice ya gt.length yc] 38)) T l' e' := blk_keep hT14 hc15 id
    have hX14l := lt_blk hX14
    obtain ⟨⟨x0, x1, x2, x3, x4, x5, x6, x7, x8⟩, x9⟩ := cred_at_sign hX14
    simp only [Nat.zero_add] at x0 x1 x2 x3 x4 x5 x6 x7 x8
    have hsm : Calls Tryz.prog 14 #[.agg #[.int .i64 gc.kind, .string ⟨gc.head.1.toArray⟩, .string ⟨gc.head.2.toArray⟩, .string ⟨gc.who.toArray⟩, .string ⟨gc.b.1.toArray⟩, .string ⟨gc.b.2.toArray⟩, .string ⟨gc.c.1.toArray⟩, .string ⟨gc.c.2.toArray⟩, .string ⟨gc.w2.toArray⟩, .slice xa gt.length xc], .agg #[.int .i64 gc.kind, .string ⟨gc.head.1.toArray⟩, .string ⟨gc.head.2.toArray⟩, .string ⟨gc.who.toArray⟩, .string ⟨gc.b.1.toArray⟩, .string ⟨gc.b.2.toArray⟩, .string ⟨gc.c.1.toArray⟩, .string ⟨gc.c.2.toArray⟩, .string ⟨gc.w2.toArray⟩, .slice ya gt.length yc]] (w14.alloc (.cells #[.int .i64 gc.kind, .string ⟨gc.head.1.toArray⟩, .string ⟨gc.head.2.toArray⟩, .string ⟨gc.who.toArray⟩, .string ⟨gc.b.1.toArray⟩, .string ⟨gc.b.2.toArray⟩, .string ⟨gc.c.1.toArray⟩, .string ⟨gc.c.2.toArray⟩, .string ⟨gc.w2.toArray⟩, .slice ya gt.length yc] 38)) fun e w' => e = .returned (.bool true) ∧ Chg (fun _ => False) (w14.alloc (.cells #[.int .i64 gc.kind, .string ⟨gc.head.1.toArray⟩, .string ⟨gc.head.2.toArray⟩, .string ⟨gc.who.toArray⟩, .string ⟨gc.b.1.toArray⟩, .string ⟨gc.b.2.toArray⟩, .string ⟨gc.c.1.toArray⟩, .string ⟨gc.c.2.toArray⟩, .string ⟨gc.w2.toArray⟩, .slice ya gt.length yc] 38)) w' :=
      rssame_yes gc gt xa ya xc yc _ (hxb14.keep hc15 (fun _ _ => id)) (hyb.keep hc15 (fun _ _ => id))
    have HH := hid (And.intro hsm (And.intro hT15 (hc14.trans hc15 (fun _ _ h => h))))
    clear hsm hT15 hX14 hxb14 hyb hT14 hc14 hc15
    go_wp2_with fail
    clear x0 x1 x2 x3 x4 x5 x6 x7 x8 x9
    obtain ⟨hsm, hT15, hc15⟩ := HH.out
    clear HH
    generalize (w14.alloc (.cells #[.int .i64 gc.kind, .string ⟨gc.head.1.toArray⟩, .string ⟨gc.head.2.toArray⟩, .string ⟨gc.who.toArray⟩, .string ⟨gc.b.1.toArray⟩, .string ⟨gc.b.2.toArray⟩, .string ⟨gc.c.1.toArray⟩, .string ⟨gc.c.2.toArray⟩, .string ⟨gc.w2.toArray⟩, .slice ya gt.length yc] 38)) = w15 at *
    refine hsm.mono ?_
    rintro e w16 ⟨rfl, hc1516⟩
    have hT16 : TapeAt w16 T l' e' := blk_keep hT15 hc1516 id
    have HC := hid (hc15.trans hc1516 (fun _ _ h => h))
    have htn := tend_any T l' e' w16 hT16
    clear hsm hT15 hc15 hc1516 hT16
    go_wp2_with fail
    refine htn.mono ?_
    rintro e w17 ⟨rfl, rfl⟩
    rw [← HE.out]
    clear htn HE
    go_wp2
    go_ret
    exact ⟨rfl, HC.out⟩

set_option maxRecDepth 100000 in
set_option maxHeartbeats 2000000 in
/-- What is too great is let go. -/
theorem kget_big {E : Nat → Prop} (c : CredB) (tag : List UInt8) (ta : Option Addr) (tcap : Nat) (a1 : Option Addr) (c1 : Nat) (b : List UInt8) (w : World) (hsz : sizeS ⟨c, tag⟩ ≤ 4503599627370496) (hs : credShort c 9223372036854775807) (hbn : b.length ≤ 9223372036854775807) (hbt : BytesAt E w (.slice ta tag.length tcap) tag) (hbig : 600 < sizeS ⟨c, tag⟩ ∨ 400 < b.length) :
    Calls Tryz.prog 4 #[signV c (.slice ta tag.length tcap), .slice a1 b.length c1] w fun e w' => e = .returned (.bool true) ∧ Chg (fun _ => False) w w' := by
  have hA1 : (w.alloc (.cells #[.int .i64 c.kind, .string ⟨c.head.1.toArray⟩, .string ⟨c.head.2.toArray⟩, .string ⟨c.who.toArray⟩, .string ⟨c.b.1.toArray⟩, .string ⟨c.b.2.toArray⟩, .string ⟨c.c.1.toArray⟩, .string ⟨c.c.2.toArray⟩, .string ⟨c.w2.toArray⟩, .slice ta tag.length tcap] 38)).heap[w.heap.size]? = some (.cells (signBox c (.slice ta tag.length tcap)) 38 (0, 0)) := heap_alloc_new w _
  have hc1 : Chg (fun _ => False) w (w.alloc (.cells #[.int .i64 c.kind, .string ⟨c.head.1.toArray⟩, .string ⟨c.head.2.toArray⟩, .string ⟨c.who.toArray⟩, .string ⟨c.b.1.toArray⟩, .string ⟨c.b.2.toArray⟩, .string ⟨c.c.1.toArray⟩, .string ⟨c.c.2.toArray⟩, .string ⟨c.w2.toArray⟩, .slice ta tag.length tcap] 38)) := (Chg.refl _ w).alloc _
  have hf := kfirst (w.alloc (.cells #[.int .i64 c.kind, .string ⟨c.head.1.toArray⟩, .string ⟨c.head.2.toArray⟩, .string ⟨c.who.toArray⟩, .string ⟨c.b.1.toArray⟩, .string ⟨c.b.2.toArray⟩, .string ⟨c.c.1.toArray⟩, .string ⟨c.c.2.toArray⟩, .string ⟨c.w2.toArray⟩, .slice ta tag.length tcap] 38))
  have HH := hid (And.intro hf (And.intro hA1 (And.intro hc1 (hbt.keep hc1 (fun _ _ => id)))))
  clear hf hA1 hc1 hbt
  show Calls Tryz.prog 4 #[.agg #[.int .i64 c.kind, .string ⟨c.head.1.toArray⟩, .string ⟨c.head.2.toArray⟩, .string ⟨c.who.toArray⟩, .string ⟨c.b.1.toArray⟩, .string ⟨c.b.2.toArray⟩, .string ⟨c.c.1.toArray⟩, .string ⟨c.c.2.toArray⟩, .string ⟨c.w2.toArray⟩, .slice ta tag.length tcap], .slice a1 b.length c1] w _
  go_enter Tryz.func4, Tryz.ntmps4
  go_wp2_with fail
  obtain ⟨hf, hA1, hc1, hbt1⟩ := HH.out
  clear HH
  generalize (w.alloc (.cells #[.int .i64 c.kind, .string ⟨c.head.1.toArray⟩, .string ⟨c.head.2.toArray⟩, .string ⟨c.who.toArray⟩, .string ⟨c.b.1.toArray⟩, .string ⟨c.b.2.toArray⟩, .string ⟨c.c.1.toArray⟩, .string ⟨c.c.2.toArray⟩, .string ⟨c.w2.toArray⟩, .slice ta tag.length tcap] 38)) = w1 at *
  generalize w.heap.size = A at *
  refine hf.mono ?_
  rintro e w2 ⟨rfl, hc12⟩
  have hA2 := blk_keep hA1 hc12 id
  have hbt2 := hbt1.keep hc12 (fun _ _ => id)
  have hc2 := hc1.trans hc12 (fun _ _ h => h)
  clear hf hA1 hc1 hbt1 hc12
  have hal : Chg (fun _ => False) w2 (w2.alloc (.cells #[.int .i64 c.kind, .string ⟨c.head.1.toArray⟩, .string ⟨c.head.2.toArray⟩, .string ⟨c.who.toArray⟩, .string ⟨c.b.1.toArray⟩, .string ⟨c.b.2.toArray⟩, .string ⟨c.c.1.toArray⟩, .string ⟨c.c.2.toArray⟩, .string ⟨c.w2.toArray⟩, .slice ta tag.length tcap] 38)) := (Chg.refl _ w2).alloc _
  have hgr : Calls Tryz.prog 6 #[.slice none 0 0, .slice (some ⟨w2.heap.size, 0, none⟩) 1 1] (w2.alloc (.cells #[.int .i64 c.kind, .string ⟨c.head.1.toArray⟩, .string ⟨c.head.2.toArray⟩, .string ⟨c.who.toArray⟩, .string ⟨c.b.1.toArray⟩, .string ⟨c.b.2.toArray⟩, .string ⟨c.c.1.toArray⟩, .string ⟨c.c.2.toArray⟩, .string ⟨c.w2.toArray⟩, .slice ta tag.length tcap] 38)) fun e w' => e = .returned (.int .i64 (totalK [] + totalS [⟨c, tag⟩] : Nat)) ∧ Chg (fun _ => False) (w2.alloc (.cells #[.int .i64 c.kind, .string ⟨c.head.1.toArray⟩, .string ⟨c.head.2.toArray⟩, .string ⟨c.who.toArray⟩, .string ⟨c.b.1.toArray⟩, .string ⟨c.b.2.toArray⟩, .string ⟨c.c.1.toArray⟩, .string ⟨c.c.2.toArray⟩, .string ⟨c.w2.toArray⟩, .slice ta tag.length tcap] 38)) w' :=
    kgreat_any none (some ⟨w2.heap.size, 0, none⟩) 0 1 [] [⟨c, tag⟩] _ (by show 0 + (sizeS ⟨c, tag⟩ + 0) ≤ _; omega) (KeysAt.nil (fun _ => True) _ none) (signs_one (s := ⟨c, tag⟩) (a := ta) (c := tcap) (heap_alloc_new w2 _) ((hbt2.keep hal (fun _ _ => id)).mono (fun _ _ => trivial)) hs)
  obtain ⟨⟨b0, b1, b2, b3, b4, b5, b6, b7, b8⟩, b9⟩ := cred_at_sign hA2
  simp only [Nat.zero_add] at b0 b1 b2 b3 b4 b5 b6 b7 b8
  have HX := hid (And.intro hgr (hc2.trans hal (fun _ _ h => h)))
  clear hgr hA2 hbt2 hal hc2
  go_wp2_with fail
  clear b0 b1 b2 b3 b4 b5 b6 b7 b8 b9
  obtain ⟨hgr, hc2⟩ := HX.out
  clear HX
  generalize (w2.alloc (.cells #[.int .i64 c.kind, .string ⟨c.head.1.toArray⟩, .string ⟨c.head.2.toArray⟩, .string ⟨c.who.toArray⟩, .string ⟨c.b.1.toArray⟩, .string ⟨c.b.2.toArray⟩, .string ⟨c.c.1.toArray⟩, .string ⟨c.c.2.toArray⟩, .string ⟨c.w2.toArray⟩, .slice ta tag.length tcap] 38)) = w25 at *
  refine hgr.mono ?_
  rintro e w3 ⟨rfl, hc23⟩
  have HC := hid (hc2.trans hc23 (fun _ _ h => h))
  clear hgr hc2 hc23
  obtain ⟨tk, htk⟩ : ∃ tk : Int, ((totalK [] + totalS [⟨c, tag⟩] : Nat) : Int) = tk := ⟨_, rfl⟩
  have h1 : totalK [] + totalS [⟨c, tag⟩] = 0 + (sizeS ⟨c, tag⟩ + 0) := rfl
  rw [htk]
  by_cases hg : 600 < sizeS ⟨c, tag⟩
  · have d1 : decide (600 < tk) = true := decide_eq_true (by omega)
    clear htk h1 hg hbig
    go_wp2
    go_ret
    exact ⟨rfl, HC.out⟩
  · have d1 : decide (600 < tk) = false := decide_eq_false (by omega)
    have hb2 := hbig.resolve_left hg
    have d2 : decide (400 < (b.length : Int)) = true := decide_eq_true (by omega)
    clear htk h1 hg hbig hb2
    go_wp2
    go_ret
    exact ⟨rfl, HC.out⟩

theorem kget_main {E : Nat → Prop} (c : CredB) (tag : List UInt8) (ta : Option Addr) (tcap : Nat) (a1 : Option Addr) (c1 : Nat) (b : List UInt8) (w : World) (hsz : sizeS ⟨c, tag⟩ ≤ 4503599627370496) (hs : credShort c 9223372036854775807) (hbn : b.length ≤ 9223372036854775807) (hbt : BytesAt (fun i => i < w.heap.size) w (.slice ta tag.length tcap) tag) (k1 : BytesAt E w (.slice a1 b.length c1) b) (hE : ∀ i, E i → i < w.heap.size) :
    Calls Tryz.prog 4 #[signV c (.slice ta tag.length tcap), .slice a1 b.length c1] w fun e w' => e = .returned (.bool true) ∧ Chg (fun _ => False) w w' := by
  by_cases h1 : 600 < sizeS ⟨c, tag⟩
  · exact kget_big c tag ta tcap a1 c1 b w hsz hs hbn hbt (.inl h1)
  · by_cases h2 : 400 < b.length
    · exact kget_big c tag ta tcap a1 c1 b w hsz hs hbn hbt (.inr h2)
    · cases hn : isSign ⟨c, tag⟩ with
      | true => exact kget_yes c tag ta tcap a1 c1 b w (by omega) (by omega) hbt k1 hE hn
      | false => exact kget_no c tag ta tcap a1 c1 b w (by omega) (by omega) hbt k1 hE hn
end Go.Proofs.YtjflmhncgkbdmaaGreat
