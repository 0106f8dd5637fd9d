/- The contracts of a reader's Left and Number. -/
import Derived.Test.YtjflmhncgkbdmaaKm3
namespace Go.Proofs.Ytjflmhncgkbdmaa
open Go.RowKit

theorem rnum_nil (most : Int) (w : World) :
    Calls Try.prog 48 #[.pointer none, .int .i64 most] w fun e w' => e = .returned (.int .i64 0) ∧ w = w' := by
  go_enter Try.func48, Try.ntmps48
  go_wp2_with (go_at_call 51; refine (ended_nil _).mono ?_; rintro e w' ⟨rfl, rfl⟩)
  go_ret
  exact ⟨rfl, rfl⟩

theorem rnum_closed (R : Nat) (most : Int) (w : World) (h0 : w.cell? ⟨R, 0, none⟩ = some (.bool false)) :
    Calls Try.prog 48 #[.pointer (some ⟨R, 0, none⟩), .int .i64 most] w fun e w' => e = .returned (.int .i64 0) ∧ w = w' := by
  go_enter Try.func48, Try.ntmps48
  go_wp2_with (go_at_call 51; refine (ended_false _ _ h0).mono ?_; rintro e w' ⟨rfl, rfl⟩)
  go_ret
  exact ⟨rfl, rfl⟩

def RNumOk (D : Nat → Prop) (R : Nat) (l : List UInt8) (w : World) (e : Ending) (w' : World) : Prop :=
  e = .returned (.int .i64 (numN 9 l 0 0).1) ∧ ∃ v', BytesAt D w' v' (l.drop (numN 9 l 0 0).2.1) ∧ ReaderAt w' R true v' 0 ∧ Chg (· = R) w w'

set_option maxRecDepth 100000 in
theorem rnum_ok {D : Nat → Prop} (R b off cap : Nat) (l : List UInt8) (most : Int) (w : World) (hl : l.length ≤ 9223372036854775807) (hb : D b) (hDR : ¬ D R) (hlc : l.length ≤ cap) (hcm : cap ≤ maxLen)
    (hc : ∀ i (h : i < l.length), w.cell? ⟨b, off + i, none⟩ = some (.int .u8 (l[i].toNat : Int)))
    (hR : ReaderAt w R true (.slice (some ⟨b, off, none⟩) l.length cap) 0) (n k : Nat) (hN : Hid (numN 9 l 0 0 = (n, k, 0))) (hk : k ≤ l.length) (hn : (n : Int) ≤ most) (hn1 : (n : Int) ≤ 9223372036854775807) :
    Calls Try.prog 48 #[.pointer (some ⟨R, 0, none⟩), .int .i64 most] w (RNumOk D R l w) := by
  have h0 := cell_blk hR 0
  have h1 := cell_blk hR 1
  have f1 := froz_blk hR 1
  simp only [List.getElem?_toArray, List.getElem?_cons_zero, List.getElem?_cons_succ] at h0 h1
  have hnum := number_some b off cap l w hl hc
  go_enter Try.func48, Try.ntmps48
  go_wp2_with (first | (go_at_call 51; refine (ended_true _ _ h0).mono ?_; rintro e w' ⟨rfl, rfl⟩) | (go_at_call 52; refine hnum.mono ?_; rintro e w' ⟨rfl, rfl⟩; rw [hN.out]) | (go_at_call 32; refine (fail_ok _ _ h0).mono ?_; rintro e w' ⟨rfl, rfl⟩))
  · go_ret
    refine ⟨by simp [hN.out], ?_⟩
    rw [hN.out]
    exact reader_cut hb hDR hlc hcm hc hR hk (.inl ⟨by assumption, rfl⟩)
  · go_ret
    refine ⟨by simp [hN.out], ?_⟩
    rw [hN.out]
    exact reader_cut hb hDR hlc hcm hc hR hk (.inr ⟨rfl, rfl⟩)

set_option maxRecDepth 100000 in
theorem rnum_long {D : Nat → Prop} (R : Nat) (v : Value) (l : List UInt8) (most : Int) (w : World) (hl : l.length ≤ 9223372036854775807) (hv : BytesAt D w v l)
    (hR : ReaderAt w R true v 0) (n k : Nat) (hN : Hid (numN 9 l 0 0 = (n, k, 0))) (hn : most < (n : Int)) (hn1 : (n : Int) ≤ 9223372036854775807) :
    Calls Try.prog 48 #[.pointer (some ⟨R, 0, none⟩), .int .i64 most] w (Stops R 12 w) := by
  have h0 := cell_blk hR 0
  have h1 := cell_blk hR 1
  have h2 := cell_blk hR 2
  have f2 := froz_blk hR 2
  simp only [List.getElem?_toArray, List.getElem?_cons_zero, List.getElem?_cons_succ] at h0 h1 h2
  have hnum := number_any hl hv
  obtain ⟨ao, cp, rfl⟩ := hv.shape
  go_enter Try.func48, Try.ntmps48
  go_wp2_with (first | (go_at_call 51; refine (ended_true _ _ h0).mono ?_; rintro e w' ⟨rfl, rfl⟩) | (go_at_call 52; refine hnum.mono ?_; rintro e w' ⟨rfl, rfl⟩; rw [hN.out]) | (go_at_call 32; refine (fail_stops _ _ undef _ (by decide) h0 h2 f2).mono ?_; rintro e w' ⟨rfl, rfl⟩))
  exact ⟨rfl, reader_stop hR 12⟩

set_option maxRecDepth 100000 in
theorem rnum_bad {D : Nat → Prop} (R : Nat) (v : Value) (l : List UInt8) (most : Int) (w : World) (hl : l.length ≤ 9223372036854775807) (hv : BytesAt D w v l)
    (hR : ReaderAt w R true v 0) (n k err : Nat) (hN : Hid (numN 9 l 0 0 = (n, k, err))) (he : ((err : Int) == 0) = false) :
    Calls Try.prog 48 #[.pointer (some ⟨R, 0, none⟩), .int .i64 most] w (Stops R err w) := by
  have h0 := cell_blk hR 0
  have h1 := cell_blk hR 1
  have h2 := cell_blk hR 2
  have f2 := froz_blk hR 2
  simp only [List.getElem?_toArray, List.getElem?_cons_zero, List.getElem?_cons_succ] at h0 h1 h2
  have hnum := number_any hl hv
  obtain ⟨ao, cp, rfl⟩ := hv.shape
  go_enter Try.func48, Try.ntmps48
  go_wp2_with (first | (go_at_call 51; refine (ended_true _ _ h0).mono ?_; rintro e w' ⟨rfl, rfl⟩) | (go_at_call 52; refine hnum.mono ?_; rintro e w' ⟨rfl, rfl⟩; rw [hN.out]) | (go_at_call 32; refine (fail_stops _ _ undef _ he h0 h2 f2).mono ?_; rintro e w' ⟨rfl, rfl⟩))
  exact ⟨rfl, reader_stop hR err⟩

/-- Reader.Number, of an open reader: the number. -/
theorem rnum_reads {D : Nat → Prop} {R : Nat} {v : Value} {l : List UInt8} {most : Int} {w : World} (hl : l.length ≤ 9223372036854775807) (hv : BytesAt D w v l) (hDR : ¬ D R) (hR : ReaderAt w R true v 0) (he : errNum l most = 0) :
    Calls Try.prog 48 #[.pointer (some ⟨R, 0, none⟩), .int .i64 most] w (RNumOk D R l w) := by
  have hz : (numN 9 l 0 0).2.2 = 0 := by
    unfold errNum at he
    by_cases h : (numN 9 l 0 0).2.2 = 0
    · exact h
    · rw [if_neg h] at he
      exact he
  have hm : ((numN 9 l 0 0).1 : Int) ≤ most := by
    unfold errNum at he
    rw [if_pos hz] at he
    by_cases h : most < ((numN 9 l 0 0).1 : Int)
    · rw [if_pos h] at he
      omega
    · omega
  obtain ⟨k1, k2, k3⟩ := numN_ok hz
  rcases hv with ⟨ao, cp, rfl, rfl, _⟩ | ⟨b, off, cap, rfl, h1, h2, h3, h4⟩
  · simp at k2
    omega
  · exact rnum_ok R b off cap l most w hl h3 hDR h1 h2 h4 hR _ _ (pair3 _ hz) k2 hm (by omega)

/-- Reader.Number, of an open reader: the error. -/
theorem rnum_stops {D : Nat → Prop} {R : Nat} {v : Value} {l : List UInt8} {most : Int} {w : World} (hl : l.length ≤ 9223372036854775807) (hv : BytesAt D w v l) (hR : ReaderAt w R true v 0) (he : errNum l most ≠ 0) :
    Calls Try.prog 48 #[.pointer (some ⟨R, 0, none⟩), .int .i64 most] w (Stops R (errNum l most) w) := by
  by_cases hz : (numN 9 l 0 0).2.2 = 0
  · have e : errNum l most = 12 := by
      unfold errNum at he ⊢
      rw [if_pos hz] at he ⊢
      by_cases h : most < ((numN 9 l 0 0).1 : Int)
      · rw [if_pos h]
      · rw [if_neg h] at he
        exact absurd rfl he
    have hm : most < ((numN 9 l 0 0).1 : Int) := by
      unfold errNum at e
      rw [if_pos hz] at e
      by_cases h : most < ((numN 9 l 0 0).1 : Int)
      · exact h
      · rw [if_neg h] at e
        omega
    obtain ⟨k1, k2, k3⟩ := numN_ok hz
    rw [e]
    exact rnum_long R v l most w hl hv hR _ _ (pair3 _ hz) hm (by omega)
  · have e : errNum l most = (numN 9 l 0 0).2.2 := by
      unfold errNum
      rw [if_neg hz]
    rw [e]
    exact rnum_bad R v l most w hl hv hR _ _ _ (pair3 _ rfl) (by simpa using hz)

end Go.Proofs.Ytjflmhncgkbdmaa
