/- Texts that the proof leans on, in one: PkPut, RefSigned. -/
import Derived.Test.YtjflmhncgkbdmaaGreatKb12
import Derived.Test.YtjflmhncgkbdmaaGreatKb13
import Derived.Test.YtjflmhncgkbdmaaGreatKb4
import Derived.Test.YtjflmhncgkbdmaaGreatKb8
import Derived.Test.YtjflmhncgkbdmaaGreatKb14
import Derived.Test.YtjflmhncgkbdmaaGreatKb2
import Derived.Test.YtjflmhncgkbdmaaGreatKb6
/- The contract of keys.Put. -/
namespace Go.Proofs.YtjflmhncgkbdmaaGreat
open Go.RowKit Go.Maps

theorem isSign_no {c : CredB} {tag : List UInt8} (h : isSign ⟨c, tag⟩ = false) : isCred c = false ∨ (isCred c = true ∧ tag.length ≠ 8) := by
  cases hc : isCred c with
  | false => exact .inl rfl
  | true => exact .inr ⟨rfl, fun e => by simp [isSign, hc, e] at h⟩
theorem isSign_yes {c : CredB} {tag : List UInt8} (h : isSign ⟨c, tag⟩ = true) : isCred c = true ∧ tag.length = 8 := by
  unfold isSign at h
  rw [Bool.and_eq_true] at h
  exact ⟨h.1, of_decide_eq_true h.2⟩

set_option maxRecDepth 100000 in
theorem pkput_no (p : Value) (c : CredB) (tag : List UInt8) (ta : Option Addr) (tcap : Nat) (w : World) (hs : credShort c 9223372036854775807) (hl : tag.length ≤ 9223372036854775807) (hn : isSign ⟨c, tag⟩ = false) :
    Calls Tryz.prog 22 #[p, signV c (.slice ta tag.length tcap)] w fun e w' => e = .returned (.bool false) ∧ Chg (fun _ => False) w w' := by
  have hA1 : (w.alloc (.cells #[.int .i64 c.kind, .string ⟨c.head.1.toArray⟩, .string ⟨c.head.2.toArray⟩, .string ⟨c.who.toArray⟩, .string ⟨c.b.1.toArray⟩, .string ⟨c.b.2.toArray⟩, .string ⟨c.c.1.toArray⟩, .string ⟨c.c.2.toArray⟩, .string ⟨c.w2.toArray⟩, .slice ta tag.length tcap] 38)).heap[w.heap.size]? = some (.cells (signBox c (.slice ta tag.length tcap)) 38 (0, 0)) := heap_alloc_new w _
  have hc1 : Chg (fun _ => False) w (w.alloc (.cells #[.int .i64 c.kind, .string ⟨c.head.1.toArray⟩, .string ⟨c.head.2.toArray⟩, .string ⟨c.who.toArray⟩, .string ⟨c.b.1.toArray⟩, .string ⟨c.b.2.toArray⟩, .string ⟨c.c.1.toArray⟩, .string ⟨c.c.2.toArray⟩, .string ⟨c.w2.toArray⟩, .slice ta tag.length tcap] 38)) := (Chg.refl _ w).alloc _
  have hrt := pcright c (w.alloc (.cells #[.int .i64 c.kind, .string ⟨c.head.1.toArray⟩, .string ⟨c.head.2.toArray⟩, .string ⟨c.who.toArray⟩, .string ⟨c.b.1.toArray⟩, .string ⟨c.b.2.toArray⟩, .string ⟨c.c.1.toArray⟩, .string ⟨c.c.2.toArray⟩, .string ⟨c.w2.toArray⟩, .slice ta tag.length tcap] 38)) hs
  have HH := hid (And.intro hrt (And.intro hA1 hc1))
  clear hrt hA1 hc1
  show Calls Tryz.prog 22 #[p, .agg #[.int .i64 c.kind, .string ⟨c.head.1.toArray⟩, .string ⟨c.head.2.toArray⟩, .string ⟨c.who.toArray⟩, .string ⟨c.b.1.toArray⟩, .string ⟨c.b.2.toArray⟩, .string ⟨c.c.1.toArray⟩, .string ⟨c.c.2.toArray⟩, .string ⟨c.w2.toArray⟩, .slice ta tag.length tcap]] w _
  go_enter Tryz.func22, Tryz.ntmps22
  go_wp2_with fail
  obtain ⟨hrt, hA1, hc1⟩ := HH.out
  clear HH
  generalize (w.alloc (.cells #[.int .i64 c.kind, .string ⟨c.head.1.toArray⟩, .string ⟨c.head.2.toArray⟩, .string ⟨c.who.toArray⟩, .string ⟨c.b.1.toArray⟩, .string ⟨c.b.2.toArray⟩, .string ⟨c.c.1.toArray⟩, .string ⟨c.c.2.toArray⟩, .string ⟨c.w2.toArray⟩, .slice ta tag.length tcap] 38)) = w1 at *
  refine hrt.mono ?_
  rintro e w2 ⟨rfl, hc12⟩
  have hA2 := blk_keep hA1 hc12 id
  have HC := hid (hc1.trans hc12 (fun _ _ h => h))
  clear hrt hA1 hc1 hc12
  generalize w.heap.size = A at *
  have b9 := (cred_at_sign hA2).2
  clear hA2
  rcases isSign_no hn with hi | ⟨hi, h8⟩
  · rw [hi]
    clear hn hi
    go_wp2
    go_ret
    exact ⟨rfl, HC.out⟩
  · rw [hi]
    have z : ((tag.length : Int) == 8) = false := beq_eq_false_iff_ne.2 (by omega)
    have z2 : ((tag.length : Int) != 8) = true := bne_iff_ne.2 (by omega)
    clear hn hi h8
    go_wp2
    go_ret
    exact ⟨rfl, HC.out⟩

set_option maxRecDepth 100000 in
set_option maxHeartbeats 2000000 in
theorem pkput_nil (c : CredB) (tag : List UInt8) (ta : Option Addr) (tcap : Nat) (w : World) (hs : credShort c 9223372036854775807) (hl : tag.length ≤ 9223372036854775807) :
    Calls Tryz.prog 22 #[.pointer none, signV c (.slice ta tag.length tcap)] w fun e w' => e = .returned (.bool false) ∧ Chg (fun _ => False) w w' := by
  cases hn : isSign ⟨c, tag⟩ with
  | false => exact pkput_no _ c tag ta tcap w hs hl hn
  | true =>
  obtain ⟨hi, h8⟩ := isSign_yes hn
  have hA1 : (w.alloc (.cells #[.int .i64 c.kind, .string ⟨c.head.1.toArray⟩, .string ⟨c.head.2.toArray⟩, .string ⟨c.who.toArray⟩, .string ⟨c.b.1.toArray⟩, .string ⟨c.b.2.toArray⟩, .string ⟨c.c.1.toArray⟩, .string ⟨c.c.2.toArray⟩, .string ⟨c.w2.toArray⟩, .slice ta tag.length tcap] 38)).heap[w.heap.size]? = some (.cells (signBox c (.slice ta tag.length tcap)) 38 (0, 0)) := heap_alloc_new w _
  have hc1 : Chg (fun _ => False) w (w.alloc (.cells #[.int .i64 c.kind, .string ⟨c.head.1.toArray⟩, .string ⟨c.head.2.toArray⟩, .string ⟨c.who.toArray⟩, .string ⟨c.b.1.toArray⟩, .string ⟨c.b.2.toArray⟩, .string ⟨c.c.1.toArray⟩, .string ⟨c.c.2.toArray⟩, .string ⟨c.w2.toArray⟩, .slice ta tag.length tcap] 38)) := (Chg.refl _ w).alloc _
  have hrt := pcright c (w.alloc (.cells #[.int .i64 c.kind, .string ⟨c.head.1.toArray⟩, .string ⟨c.head.2.toArray⟩, .string ⟨c.who.toArray⟩, .string ⟨c.b.1.toArray⟩, .string ⟨c.b.2.toArray⟩, .string ⟨c.c.1.toArray⟩, .string ⟨c.c.2.toArray⟩, .string ⟨c.w2.toArray⟩, .slice ta tag.length tcap] 38)) hs
  have HH := hid (And.intro hrt (And.intro hA1 hc1))
  have z : ((tag.length : Int) == 8) = true := beq_iff_eq.2 (by omega)
  have z2 : ((tag.length : Int) != 8) = false := by rw [bne, z]; rfl
  clear hrt hA1 hc1 hn h8
  show Calls Tryz.prog 22 #[.pointer none, .agg #[.int .i64 c.kind, .string ⟨c.head.1.toArray⟩, .string ⟨c.head.2.toArray⟩, .string ⟨c.who.toArray⟩, .string ⟨c.b.1.toArray⟩, .string ⟨c.b.2.toArray⟩, .string ⟨c.c.1.toArray⟩, .string ⟨c.c.2.toArray⟩, .string ⟨c.w2.toArray⟩, .slice ta tag.length tcap]] w _
  go_enter Tryz.func22, Tryz.ntmps22
  go_wp2_with fail
  obtain ⟨hrt, hA1, hc1⟩ := HH.out
  clear HH
  generalize (w.alloc (.cells #[.int .i64 c.kind, .string ⟨c.head.1.toArray⟩, .string ⟨c.head.2.toArray⟩, .string ⟨c.who.toArray⟩, .string ⟨c.b.1.toArray⟩, .string ⟨c.b.2.toArray⟩, .string ⟨c.c.1.toArray⟩, .string ⟨c.c.2.toArray⟩, .string ⟨c.w2.toArray⟩, .slice ta tag.length tcap] 38)) = w1 at *
  refine hrt.mono ?_
  rintro e w2 ⟨rfl, hc12⟩
  have hA2 := blk_keep hA1 hc12 id
  have HC := hid (hc1.trans hc12 (fun _ _ h => h))
  clear hrt hA1 hc1 hc12
  generalize w.heap.size = A at *
  obtain ⟨⟨b0, b1, b2, b3, b4, b5, b6, b7, b8⟩, b9⟩ := cred_at_sign hA2
  simp only [Nat.zero_add] at b0 b1 b2 b3 b4 b5 b6 b7 b8 b9
  rw [hi]
  clear hi hA2
  go_wp2_with fail
  refine (pcbytes c w2 hs).mono ?_
  rintro e w3 ⟨ba, bc, rfl, hbt, hc3⟩
  have HC3 := hid (HC.out.trans hc3 (fun _ _ h => h))
  clear hbt hc3 b0 b1 b2 b3 b4 b5 b6 b7 b8 b9 HC z z2
  go_wp2_with fail
  refine (raw_nil ba _ bc w3).mono ?_
  rintro e w4 ⟨rfl, rfl⟩
  go_wp2
  go_ret
  exact ⟨rfl, HC3.out⟩

set_option maxRecDepth 100000 in
set_option maxHeartbeats 2000000 in
theorem pkput_yes {D : Nat → Prop} (B P cap : Nat) (ao : Option Addr) (zs : List UInt8) (c : CredB) (tag : List UInt8) (ta : Option Addr) (tcap : Nat) (w : World) (hp : PenAt B w P ao cap zs) (hB : B ≤ w.heap.size) (hPB : P < B) (hx : zs.length ≤ 999000) (hn : isSign ⟨c, tag⟩ = true)
    (hs : credShort c 9223372036854775807) (hce : (credEnc c).length ≤ 1048576) (hb : BytesAt D w (.slice ta tag.length tcap) tag) (hD : ∀ i, D i → i ≠ P ∧ rowOf ao ≠ some i ∧ i < w.heap.size) :
    Calls Tryz.prog 22 #[.pointer (some ⟨P, 0, none⟩), signV c (.slice ta tag.length tcap)] w fun e w' => e = .returned (.bool true) ∧ PenPost B P ao (zs ++ signBytes ⟨c, tag⟩) w w' := by
  obtain ⟨hi, h8⟩ := isSign_yes hn
  have hPl := lt_blk hp.cell
  have hrow0 : ∀ k, rowOf ao = some k → B ≤ k ∧ k < w.heap.size := fun k hk => hp.row.lt k ((rowOf_block _ _ _).trans hk)
  have hA1 : (w.alloc (.cells #[.int .i64 c.kind, .string ⟨c.head.1.toArray⟩, .string ⟨c.head.2.toArray⟩, .string ⟨c.who.toArray⟩, .string ⟨c.b.1.toArray⟩, .string ⟨c.b.2.toArray⟩, .string ⟨c.c.1.toArray⟩, .string ⟨c.c.2.toArray⟩, .string ⟨c.w2.toArray⟩, .slice ta tag.length tcap] 38)).heap[w.heap.size]? = some (.cells (signBox c (.slice ta tag.length tcap)) 38 (0, 0)) := heap_alloc_new w _
  have hc1 : Chg (fun _ => False) w (w.alloc (.cells #[.int .i64 c.kind, .string ⟨c.head.1.toArray⟩, .string ⟨c.head.2.toArray⟩, .string ⟨c.who.toArray⟩, .string ⟨c.b.1.toArray⟩, .string ⟨c.b.2.toArray⟩, .string ⟨c.c.1.toArray⟩, .string ⟨c.c.2.toArray⟩, .string ⟨c.w2.toArray⟩, .slice ta tag.length tcap] 38)) := (Chg.refl _ w).alloc _
  have hrt := pcright c (w.alloc (.cells #[.int .i64 c.kind, .string ⟨c.head.1.toArray⟩, .string ⟨c.head.2.toArray⟩, .string ⟨c.who.toArray⟩, .string ⟨c.b.1.toArray⟩, .string ⟨c.b.2.toArray⟩, .string ⟨c.c.1.toArray⟩, .string ⟨c.c.2.toArray⟩, .string ⟨c.w2.toArray⟩, .slice ta tag.length tcap] 38)) hs
  have HH := hid (And.intro hrt (And.intro hA1 hc1))
  have HP := hid (And.intro hp hb)
  have z : ((tag.length : Int) == 8) = true := beq_iff_eq.2 (by omega)
  have z2 : ((tag.length : Int) != 8) = false := by rw [bne, z]; rfl
  have H8 := hid h8
  have HR0 := hid hrow0
  have HDD := hid hD
  clear hrt hA1 hc1 hn h8 hp hb hrow0 hD
  show Calls Tryz.prog 22 #[.pointer (some ⟨P, 0, none⟩), .agg #[.int .i64 c.kind, .string ⟨c.head.1.toArray⟩, .string ⟨c.head.2.toArray⟩, .string ⟨c.who.toArray⟩, .string ⟨c.b.1.toArray⟩, .string ⟨c.b.2.toArray⟩, .string ⟨c.c.1.toArray⟩, .string ⟨c.c.2.toArray⟩, .string ⟨c.w2.toArray⟩, .slice ta tag.length tcap]] w _
  go_enter Tryz.func22, Tryz.ntmps22
  go_wp2_with fail
  obtain ⟨hrt, hA1, hc1⟩ := HH.out
  clear HH
  generalize (w.alloc (.cells #[.int .i64 c.kind, .string ⟨c.head.1.toArray⟩, .string ⟨c.head.2.toArray⟩, .string ⟨c.who.toArray⟩, .string ⟨c.b.1.toArray⟩, .string ⟨c.b.2.toArray⟩, .string ⟨c.c.1.toArray⟩, .string ⟨c.c.2.toArray⟩, .string ⟨c.w2.toArray⟩, .slice ta tag.length tcap] 38)) = w1 at *
  refine hrt.mono ?_
  rintro e w2 ⟨rfl, hc12⟩
  have hA2 := blk_keep hA1 hc12 id
  have HC := hid (hc1.trans hc12 (fun _ _ h => h))
  clear hrt hA1 hc1 hc12
  generalize hAe : w.heap.size = A at *
  have HAe := hid hAe
  clear hAe
  obtain ⟨⟨b0, b1, b2, b3, b4, b5, b6, b7, b8⟩, b9⟩ := cred_at_sign hA2
  simp only [Nat.zero_add] at b0 b1 b2 b3 b4 b5 b6 b7 b8 b9
  have HX := hid hA2
  rw [hi]
  have HI := hid hi
  clear hi hA2
  go_wp2_with fail
  refine (pcbytes c w2 hs).mono ?_
  rintro e w3 ⟨ba, bc, rfl, hbt, hc3⟩
  have hcw := HC.out.trans hc3 (fun _ _ h => h)
  have hp3 := HP.out.1.keep hcw id (fun _ _ => id)
  have HB3 := hid (HP.out.2.keep hcw (fun _ _ => id))
  have HX3 := hid (blk_keep HX.out hc3 id)
  have hsz := hcw.size
  have heb : (credBytes c).length ≤ 1048576 := by rw [credBytes, if_pos HI.out]; exact hce
  have HAe2 := HAe.out
  have hraw := raw_any B P cap ao zs (credBytes c) _ w3 hp3 (by omega) hPB (by omega) hbt
  have HC3 := hid hcw
  clear hc3 b0 b1 b2 b3 b4 b5 b6 b7 b8 b9 HC hbt hp3 hcw HX HP
  go_wp2_with fail
  refine hraw.mono ?_
  rintro e w4 ⟨rfl, ao2, cap2, hp4, hch⟩
  have b9 := (cred_at_sign (blk_keep HX3.out hch.chg (fun h => h.elim (fun h => by omega) (fun h => by have := (HR0.out _ h).2; omega)))).2
  have hs4 := hch.chg.size
  have hb4 := HB3.out.keep hch.chg (fun i hi h => h.elim (fun h => (HDD.out i hi).1 h) (fun h => (HDD.out i hi).2.1 h))
  have htx := text_any B P cap2 ao2 (zs ++ credBytes c) tag _ w4 hp4 (by omega) hPB (by rw [List.length_append]; have := H8.out; omega) (by have := H8.out; omega) hb4 (fun i hi => ⟨(HDD.out i hi).1, fun e => by
    have h1 := HDD.out i hi
    rcases hch.row with hr | ⟨gg, hr, hg⟩
    · exact h1.2.1 (hr.symm.trans e)
    · rw [hr] at e; cases e; omega⟩)
  have HQ := hid (And.intro hch HC3.out)
  clear hraw HB3 HX3 hch hb4 hp4 hs4 HC3
  go_wp2_with fail
  refine htx.mono ?_
  rintro e w5 ⟨rfl, ao3, cap3, hp5, hch2⟩
  have HY := hid (And.intro hp5 hch2)
  clear htx hp5 hch2 b9
  go_wp2
  go_ret
  obtain ⟨h6, h7⟩ := HQ.out
  obtain ⟨h4, h5⟩ := HY.out
  have hbe : credBytes c = credEnc c := by rw [credBytes, if_pos HI.out]
  refine ⟨rfl, ao3, cap3, by rw [List.append_assoc, hbe] at h4; exact h4, ?_⟩
  have h8 := h6.trans h5
  refine ⟨(h7.mono (fun _ _ h => h.elim)).trans h8.chg (fun i _ h => h), ?_⟩
  rcases h8.row with h | ⟨g, k1, k2⟩
  · exact .inl h
  · have := h7.size
    exact .inr ⟨g, k1, by omega⟩
end Go.Proofs.YtjflmhncgkbdmaaGreat

/- The contracts of the document's Right, Bytes and Same, of layer 6. -/
namespace Go.Proofs.YtjflmhncgkbdmaaGreat
open Go.RowKit

set_option maxRecDepth 100000 in
theorem rsright_any (c : CredB) (tag : List UInt8) (ta : Option Addr) (cap : Nat) (w : World) (hs : credShort c 9223372036854775807) (ht : tag.length ≤ 9223372036854775807) :
    Calls Tryz.prog 20 #[signV c (.slice ta tag.length cap)] w fun e w' => e = .returned (.bool (isSign ⟨c, tag⟩)) ∧ Chg (fun _ => False) w w' := by
  have hA1 : (w.alloc (.cells #[.int .i64 c.kind, .string ⟨c.head.1.toArray⟩, .string ⟨c.head.2.toArray⟩, .string ⟨c.who.toArray⟩, .string ⟨c.b.1.toArray⟩, .string ⟨c.b.2.toArray⟩, .string ⟨c.c.1.toArray⟩, .string ⟨c.c.2.toArray⟩, .string ⟨c.w2.toArray⟩, .slice ta tag.length cap] 38)).heap[w.heap.size]? = some (.cells (signBox c (.slice ta tag.length cap)) 38 (0, 0)) := heap_alloc_new w _
  have hc1 : Chg (fun _ => False) w (w.alloc (.cells #[.int .i64 c.kind, .string ⟨c.head.1.toArray⟩, .string ⟨c.head.2.toArray⟩, .string ⟨c.who.toArray⟩, .string ⟨c.b.1.toArray⟩, .string ⟨c.b.2.toArray⟩, .string ⟨c.c.1.toArray⟩, .string ⟨c.c.2.toArray⟩, .string ⟨c.w2.toArray⟩, .slice ta tag.length cap] 38)) := (Chg.refl _ w).alloc _
  have hrt := cright_ref c (w.alloc (.cells #[.int .i64 c.kind, .string ⟨c.head.1.toArray⟩, .string ⟨c.head.2.toArray⟩, .string ⟨c.who.toArray⟩, .string ⟨c.b.1.toArray⟩, .string ⟨c.b.2.toArray⟩, .string ⟨c.c.1.toArray⟩, .string ⟨c.c.2.toArray⟩, .string ⟨c.w2.toArray⟩, .slice ta tag.length cap] 38)) hs
  have HH := hid (And.intro hrt (And.intro hA1 hc1))
  clear hrt hA1 hc1
  show Calls Tryz.prog 20 #[.agg #[.int .i64 c.kind, .string ⟨c.head.1.toArray⟩, .string ⟨c.head.2.toArray⟩, .string ⟨c.who.toArray⟩, .string ⟨c.b.1.toArray⟩, .string ⟨c.b.2.toArray⟩, .string ⟨c.c.1.toArray⟩, .string ⟨c.c.2.toArray⟩, .string ⟨c.w2.toArray⟩, .slice ta tag.length cap]] w _
  go_enter Tryz.func20, Tryz.ntmps20
  go_wp2_with fail
  obtain ⟨hrt, hA1, hc1⟩ := HH.out
  clear HH
  refine hrt.mono ?_
  rintro e w2 ⟨rfl, hc12⟩
  have hA2 := blk_keep hA1 hc12 id
  have hc2 := hc1.trans hc12 (fun _ _ h => h)
  have z9 := (cred_at_sign hA2).2
  clear hrt hA1 hc1 hc12
  generalize w.heap.size = A at *
  cases hi : isCred c with
  | false =>
    have HF : Hid (isSign ⟨c, tag⟩ = false) := hid (by simp [isSign, hi])
    have HC := hid hc2
    clear hA2 hc2 hi
    go_wp2
    go_ret
    exact ⟨by rw [HF.out]; rfl, HC.out⟩
  | true =>
    by_cases h8 : tag.length = 8
    · have HF : Hid (isSign ⟨c, tag⟩ = true) := hid (by simp [isSign, hi, h8])
      have HC := hid hc2
      have z : ((tag.length : Int) == 8) = true := beq_iff_eq.2 (by omega)
      clear hA2 hc2 hi h8
      go_wp2
      go_ret
      exact ⟨by rw [HF.out]; rfl, HC.out⟩
    · have HF : Hid (isSign ⟨c, tag⟩ = false) := hid (by simp [isSign, hi, h8])
      have HC := hid hc2
      have z : ((tag.length : Int) == 8) = false := beq_eq_false_iff_ne.2 (by omega)
      clear hA2 hc2 hi h8
      go_wp2
      go_ret
      exact ⟨by rw [HF.out]; rfl, HC.out⟩

def rsbSpecs (A : Nat) (c : CredB) (tag : List UInt8) (ta : Option Addr) (cap : Nat) : List Spec := [.any, .eq (.pointer (some ⟨A, 0, none⟩)), .eq (.string ⟨(signBytes ⟨c, tag⟩).toArray⟩), .eq (.pointer (some ⟨A, 0, none⟩)), .eq (credV c), .eq (.string ⟨(credEnc c).toArray⟩), .eq (.pointer (some ⟨A, 9, none⟩)), .eq (.slice ta tag.length cap), .eq (.string ⟨tag.toArray⟩), .eq (.string ⟨(enc tag.length ++ tag).toArray⟩), .eq (.string ⟨(signBytes ⟨c, tag⟩).toArray⟩)]

set_option maxRecDepth 100000 in
theorem rsbytes_any {D : Nat → Prop} (c : CredB) (tag : List UInt8) (ta : Option Addr) (cap : Nat) (w : World) (n : Nat) (hk : c.kind = n) (hn2 : n < 9223372036854775808) (hs : credShort c 1048576) (hce : (credEnc c).length ≤ 1048576) (h8 : tag.length = 8) (hb : BytesAt D w (.slice ta tag.length cap) tag) :
    Calls Tryz.prog 21 #[signV c (.slice ta tag.length cap)] w fun e w' => e = .returned (.string ⟨(signBytes ⟨c, tag⟩).toArray⟩) ∧ Chg (fun _ => False) w w' := by
  have hn1 := hid hk
  have ht : tag.length ≤ 1048576 := by omega
  have hlt : Hid (¬ 9223372036854775807 < (credEnc c).length + ((enc tag.length).length + tag.length)) := hid (by rw [h8, enc_small (by decide)]; simp only [List.length_cons, List.length_nil]; omega)
  clear hk h8 hce
  have hA1 : (w.alloc (.cells #[.int .i64 c.kind, .string ⟨c.head.1.toArray⟩, .string ⟨c.head.2.toArray⟩, .string ⟨c.who.toArray⟩, .string ⟨c.b.1.toArray⟩, .string ⟨c.b.2.toArray⟩, .string ⟨c.c.1.toArray⟩, .string ⟨c.c.2.toArray⟩, .string ⟨c.w2.toArray⟩, .slice ta tag.length cap] 38)).heap[w.heap.size]? = some (.cells (signBox c (.slice ta tag.length cap)) 38 (0, 0)) := heap_alloc_new w _
  have hc1 : Chg (fun _ => False) w (w.alloc (.cells #[.int .i64 c.kind, .string ⟨c.head.1.toArray⟩, .string ⟨c.head.2.toArray⟩, .string ⟨c.who.toArray⟩, .string ⟨c.b.1.toArray⟩, .string ⟨c.b.2.toArray⟩, .string ⟨c.c.1.toArray⟩, .string ⟨c.c.2.toArray⟩, .string ⟨c.w2.toArray⟩, .slice ta tag.length cap] 38)) := (Chg.refl _ w).alloc _
  have HX := hid (And.intro hA1 (hb.keep hc1 (fun _ _ => id)))
  have HC := hid hc1
  have HB : Hid ((⟨(credEnc c).toArray⟩ : ByteArray) ++ ⟨(enc tag.length ++ tag).toArray⟩ = ⟨(signBytes ⟨c, tag⟩).toArray⟩) := hid (by rw [ByteArray.mk_append_mk]; simp [signBytes, encS])
  clear hA1 hc1 hb
  show Calls Tryz.prog 21 #[.agg #[.int .i64 c.kind, .string ⟨c.head.1.toArray⟩, .string ⟨c.head.2.toArray⟩, .string ⟨c.who.toArray⟩, .string ⟨c.b.1.toArray⟩, .string ⟨c.b.2.toArray⟩, .string ⟨c.c.1.toArray⟩, .string ⟨c.c.2.toArray⟩, .string ⟨c.w2.toArray⟩, .slice ta tag.length cap]] w _
  go_enter Tryz.func21, Tryz.ntmps21
  go_wp2_with fail
  generalize (w.alloc (.cells #[.int .i64 c.kind, .string ⟨c.head.1.toArray⟩, .string ⟨c.head.2.toArray⟩, .string ⟨c.who.toArray⟩, .string ⟨c.b.1.toArray⟩, .string ⟨c.b.2.toArray⟩, .string ⟨c.c.1.toArray⟩, .string ⟨c.c.2.toArray⟩, .string ⟨c.w2.toArray⟩, .slice ta tag.length cap] 38)) = w1 at *
  generalize w.heap.size = A at *
  refine wp_region_specs (rsbSpecs A c tag ta cap) [3, 4, 5, 6, 7, 8, 9, 10, 2] [1] (by kernel_rfl) (by kernel_rfl) (by rfl) (by kernel_rfl) ?start ?obs ?fin
  case start =>
    simp only [List.forall_mem_cons]
    exact ⟨⟨_, rfl, rfl⟩, fun _ h => by cases h⟩
  case obs =>
    clear HC
    refine Obs.cons none (by kernel_rfl) ?_ ?_
    · refine Ob.plain fun a w hR hk K k => ?_
      obtain ⟨_, e1, rfl⟩ := hk 1 (by decide)
      clear hk
      go_simp
      exact k _ _ (Chg.refl _ _) rfl
    refine Obs.cons none (by kernel_rfl) ?_ ?_
    · refine Ob.plain fun a w hR hk K k => ?_
      obtain ⟨_, e3, rfl⟩ := hk 3 (by decide)
      clear hk
      obtain ⟨⟨z0, z1, z2, z3, z4, z5, z6, z7, z8⟩, z9⟩ := cred_at_sign HX.out.1
      have hcr := (⟨z0, z1, z2, z3, z4, z5, z6, z7, z8⟩ : CredAt w1 A 0 c).keep hR id
      obtain ⟨y0, y1, y2, y3, y4, y5, y6, y7, y8⟩ := hcr
      simp only [Nat.zero_add] at y0 y1 y2 y3 y4 y5 y6 y7 y8
      clear z0 z1 z2 z3 z4 z5 z6 z7 z8 z9
      go_simp
      exact k _ _ (Chg.refl _ _) rfl
    refine Obs.cons none (by kernel_rfl) ?_ ?_
    · refine Ob.plain fun a w hR hk K k => ?_
      obtain ⟨_, e4, rfl⟩ := hk 4 (by decide)
      clear hk
      go_simp
      refine (cbytes_ref c _ n hn1.out hn2 hs).mono ?_
      rintro e w2 ⟨rfl, hc⟩
      exact k _ _ hc rfl
    refine Obs.cons none (by kernel_rfl) ?_ ?_
    · refine Ob.plain fun a w hR hk K k => ?_
      obtain ⟨_, e1, rfl⟩ := hk 1 (by decide)
      clear hk
      go_simp
      exact k _ _ (Chg.refl _ _) rfl
    refine Obs.cons none (by kernel_rfl) ?_ ?_
    · refine Ob.plain fun a w hR hk K k => ?_
      obtain ⟨_, e6, rfl⟩ := hk 6 (by decide)
      clear hk
      have z9 := hR.cell (cred_at_sign HX.out.1).2 id
      go_simp
      exact k _ _ (Chg.refl _ _) rfl
    refine Obs.cons none (by kernel_rfl) ?_ ?_
    · refine Ob.plain fun a w hR hk K k => ?_
      obtain ⟨_, e7, rfl⟩ := hk 7 (by decide)
      clear hk
      have hcv := conv_bytes (HX.out.2.keep hR (fun _ _ => id))
      go_simp
      exact k _ _ (Chg.refl _ _) rfl
    refine Obs.cons none (by kernel_rfl) ?_ ?_
    · refine Ob.plain fun a w hR hk K k => ?_
      obtain ⟨_, e8, rfl⟩ := hk 8 (by decide)
      clear hk
      go_simp
      refine (reftext_any tag _ (by omega)).mono ?_
      rintro e w2 ⟨rfl, hc⟩
      exact k _ _ hc rfl
    refine Obs.cons none (by kernel_rfl) ?_ ?_
    · refine Ob.plain fun a w hR hk K k => ?_
      obtain ⟨_, e5, rfl⟩ := hk 5 (by decide)
      obtain ⟨_, e9, rfl⟩ := hk 9 (by decide)
      clear hk
      have hb := HB.out
      have hlt2 := hlt.out
      go_simp
      exact k _ _ (Chg.refl _ _) rfl
    refine Obs.cons none (by kernel_rfl) ?_ ?_
    · refine Ob.plain fun a w hR hk K k => ?_
      obtain ⟨_, e10, f10⟩ := hk 10 (by decide)
      clear hk
      go_simp
      exact k _ _ (Chg.refl _ _) f10
    exact Obs.nil
  case fin =>
    intro vals w9 hc9 hv
    have h2 : vals 2 = .string ⟨(signBytes ⟨c, tag⟩).toArray⟩ := hv 2 (by decide)
    simp only [putAll, List.setIfInBounds_toArray, List.set_cons_zero, List.set_cons_succ, h2]
    have HC9 := hid (HC.out.trans hc9 (fun _ _ h => h))
    clear hc9 hv h2 HC HX
    go_wp2
    go_ret
    exact ⟨rfl, HC9.out⟩

set_option maxRecDepth 100000 in
set_option maxHeartbeats 2000000 in
/-- Of two that are the same. -/
theorem rssame_yes {D E : Nat → Prop} (c : CredB) (tag : List UInt8) (ta tb : Option Addr) (cap cbp : Nat) (w : World) (h1 : BytesAt D w (.slice ta tag.length cap) tag) (h2 : BytesAt E w (.slice tb tag.length cbp) tag) :
    Calls Tryz.prog 14 #[signV c (.slice ta tag.length cap), signV c (.slice tb tag.length cbp)] w fun e w' => e = .returned (.bool true) ∧ Chg (fun _ => False) w w' := by
  have hc : Chg (fun _ => False) w ((w.alloc (.cells #[.int .i64 c.kind, .string ⟨c.head.1.toArray⟩, .string ⟨c.head.2.toArray⟩, .string ⟨c.who.toArray⟩, .string ⟨c.b.1.toArray⟩, .string ⟨c.b.2.toArray⟩, .string ⟨c.c.1.toArray⟩, .string ⟨c.c.2.toArray⟩, .string ⟨c.w2.toArray⟩, .slice ta tag.length cap] 38)).alloc (.cells #[.int .i64 c.kind, .string ⟨c.head.1.toArray⟩, .string ⟨c.head.2.toArray⟩, .string ⟨c.who.toArray⟩, .string ⟨c.b.1.toArray⟩, .string ⟨c.b.2.toArray⟩, .string ⟨c.c.1.toArray⟩, .string ⟨c.c.2.toArray⟩, .string ⟨c.w2.toArray⟩, .slice tb tag.length cbp] 38)) := ((Chg.refl _ w).alloc _).alloc _
  have hcv1 := conv_bytes (h1.keep hc (fun _ _ => id))
  have hcv2 := conv_bytes (h2.keep hc (fun _ _ => id))
  have HC := hid hc
  clear hc h1 h2
  show Calls Tryz.prog 14 #[.agg #[.int .i64 c.kind, .string ⟨c.head.1.toArray⟩, .string ⟨c.head.2.toArray⟩, .string ⟨c.who.toArray⟩, .string ⟨c.b.1.toArray⟩, .string ⟨c.b.2.toArray⟩, .string ⟨c.c.1.toArray⟩, .string ⟨c.c.2.toArray⟩, .string ⟨c.w2.toArray⟩, .slice ta tag.length cap], .agg #[.int .i64 c.kind, .string ⟨c.head.1.toArray⟩, .string ⟨c.head.2.toArray⟩, .string ⟨c.who.toArray⟩, .string ⟨c.b.1.toArray⟩, .string ⟨c.b.2.toArray⟩, .string ⟨c.c.1.toArray⟩, .string ⟨c.c.2.toArray⟩, .string ⟨c.w2.toArray⟩, .slice tb tag.length cbp]] w _
  go_enter Tryz.func14, Tryz.ntmps14
  go_wp2
  go_ret
  exact ⟨rfl, HC.out⟩
end Go.Proofs.YtjflmhncgkbdmaaGreat
