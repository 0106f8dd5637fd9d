/- The contract of a reader's Text. -/
import Derived.Test.YtaejhkjigppelaaClone
import Derived.Test.YtaejhkjigppelaaRCut
namespace Go.Proofs.Ytaejhkjigppelaa
open Go.RowKit

theorem rtext_nil (most : Int) (w : World) :
    Calls Try.prog 25 #[.pointer none, .int .i64 most] w fun e w' => e = .returned (.slice none 0 0) ∧ w = w' := by
  go_enter Try.func25, Try.ntmps25
  go_wp2_with (go_at_call 66; refine (ended_nil _).mono ?_; rintro e w' ⟨rfl, rfl⟩)
  go_ret
  exact ⟨rfl, rfl⟩

theorem rtext_closed (R : Nat) (most : Int) (w : World) (h0 : w.cell? ⟨R, 0, none⟩ = some (.bool false)) :
    Calls Try.prog 25 #[.pointer (some ⟨R, 0, none⟩), .int .i64 most] w fun e w' => e = .returned (.slice none 0 0) ∧ w = w' := by
  go_enter Try.func25, Try.ntmps25
  go_wp2_with (go_at_call 66; refine (ended_false _ _ h0).mono ?_; rintro e w' ⟨rfl, rfl⟩)
  go_ret
  exact ⟨rfl, rfl⟩

/-- A text that is read: its bytes in new memory, the reader behind it. -/
def RTextOk (D : Nat → Prop) (R : Nat) (l : List UInt8) (n k : Nat) (w : World) (e : Ending) (w' : World) : Prop :=
  ∃ ao cap, e = .returned (.slice ao n cap) ∧ BytesAt (fun k => w.heap.size ≤ k ∧ k < w'.heap.size) w' (.slice ao n cap) ((l.drop k).take n) ∧ ∃ v', BytesAt D w' v' (l.drop (k + n)) ∧ ReaderAt w' R true v' 0 ∧ Chg (· = R) w w'

theorem cut_clone {R b off cap n k : Nat} {l : List UInt8} {w : World} (hl : l.length ≤ 140737488355328) (hbR : b ≠ R) (hlc : l.length ≤ cap) (hcm : cap ≤ maxLen)
    (hc : ∀ i (h : i < l.length), w.cell? ⟨b, off + i, none⟩ = some (.int .u8 (l[i].toNat : Int))) (hk : k ≤ l.length) (hnl : n ≤ l.length - k) {o c : Nat} (ho : n = 0 ∨ o = off + k) (hcc : n ≤ c ∧ c ≤ cap) (u : Value) :
    Calls Try.prog 63 #[.slice (some ⟨b, o, none⟩) n c] (w.setCell ⟨R, 1, none⟩ u) (Cloned ((l.drop k).take n) (w.setCell ⟨R, 1, none⟩ u)) := by
  have hlen : ((l.drop k).take n).length = n := by simp; omega
  have hch : Chg (· = R) w (w.setCell ⟨R, 1, none⟩ u) := (Chg.refl (· = R) w).setCell (p := ⟨R, _, none⟩) (fun _ => rfl) _
  refine clone_any (D := fun _ => True) (by omega) (.inr ⟨b, o, c, by rw [hlen], by omega, by omega, trivial, fun i hi => ?_⟩)
  rw [hlen] at hi
  refine hch.cell ?_ (by show ¬ b = R; exact hbR)
  rcases ho with h | rfl
  · omega
  · rw [Nat.add_assoc, hc (k + i) (by omega)]
    simp

theorem text_close {D : Nat → Prop} {R b off cap n k : Nat} {l : List UInt8} {w w1 : World} {v0 : Value} {ao : Option Addr} {cap' : Nat} (hb : D b) (hDR : ¬ D R) (hlc : l.length ≤ cap) (hcm : cap ≤ maxLen)
    (hc : ∀ i (h : i < l.length), w.cell? ⟨b, off + i, none⟩ = some (.int .u8 (l[i].toNat : Int))) (hR : ReaderAt w R true v0 0) (hk : k ≤ l.length) (hnl : n ≤ l.length - k) {o c m : Nat} (hm : m = l.length - (k + n)) (h : (cap = k + n ∧ c = 0) ∨ (o = off + (k + n) ∧ c = cap - (k + n)))
    (hcl : BytesAt (fun k => (w.setCell ⟨R, 1, none⟩ (.slice (some ⟨b, o, none⟩) m c)).heap.size ≤ k ∧ k < w1.heap.size) w1 (.slice ao n cap') ((l.drop k).take n)) (hch : Chg (fun _ => False) (w.setCell ⟨R, 1, none⟩ (.slice (some ⟨b, o, none⟩) m c)) w1) :
    RTextOk D R l n k w (.returned (.slice ao n cap')) w1 := by
  subst hm
  obtain ⟨v', h1, h2, h3⟩ := reader_cut (k := k + n) hb hDR hlc hcm hc hR (by omega) h
  exact ⟨ao, cap', rfl, hcl.mono (fun i hi => ⟨by have h := hi.1; simpa [World.setCell] using h, hi.2⟩), v', h1.keep hch (fun _ _ => id), (hch.block R (lt_blk h2) id).trans h2, h3.trans hch (fun _ _ h => h.elim)⟩

set_option maxRecDepth 100000 in
set_option maxHeartbeats 400000 in
theorem rtext_ok {D : Nat → Prop} (R b off cap : Nat) (l : List UInt8) (most : Int) (w : World) (hl : l.length ≤ 140737488355328) (hb : D b) (hDR : ¬ D R) (hlc : l.length ≤ cap) (hcm : cap ≤ maxLen)
    (hc : ∀ i (h : i < l.length), w.cell? ⟨b, off + i, none⟩ = some (.int .u8 (l[i].toNat : Int)))
    (hR : ReaderAt w R true (.slice (some ⟨b, off, none⟩) l.length cap) 0) (n k : Nat) (hN : Hid (numN 9 l 0 0 = (n, k, 0))) (hk : k ≤ l.length) (hn : (n : Int) ≤ most) (hnl : n ≤ l.length - k) :
    Calls Try.prog 25 #[.pointer (some ⟨R, 0, none⟩), .int .i64 most] w (RTextOk D R l n k w) := by
  have h0 := cell_blk hR 0
  have h1 := cell_blk hR 1
  have f1 := froz_blk hR 1
  simp only [List.getElem?_toArray, List.getElem?_cons_zero, List.getElem?_cons_succ] at h0 h1
  have hnum := number_some b off cap l w (by omega) hc
  have hlen : ((l.drop k).take n).length = n := by simp; omega
  have HL := hid hlen
  clear hlen
  by_cases hck : cap = k
  · obtain rfl : n = 0 := by omega
    obtain rfl : cap = k := hck
    have hcl := fun (o : Nat) u => cut_clone (R := R) (n := 0) (k := cap) (o := o) (c := 0) hl (fun e => hDR (e ▸ hb)) hlc hcm hc hk hnl (.inl rfl) (by omega) u
    go_enter Try.func25, Try.ntmps25
    go_wp2_with (first | (go_at_call 66; refine (ended_true _ _ h0).mono ?_; rintro e w' ⟨rfl, rfl⟩) | (go_at_call 67; refine hnum.mono ?_; rintro e w' ⟨rfl, rfl⟩; rw [hN.out]) | (go_at_call 26; refine (fail_ok _ _ h0).mono ?_; rintro e w' ⟨rfl, rfl⟩) | (go_at_call 63; refine (hcl _ _).mono ?_; rintro e w' ⟨ao, cap', rfl, hby, hch⟩))
    have hx := HL.out
    rw [hx] at hby
    go_ret
    exact text_close hb hDR hlc hcm hc hR hk hnl (by omega) (.inl ⟨rfl, rfl⟩) hby hch
  · have hcl := fun (c : Nat) (hcc : n ≤ c ∧ c ≤ cap) u => cut_clone (R := R) (n := n) (k := k) (o := off + k) (c := c) hl (fun e => hDR (e ▸ hb)) hlc hcm hc hk hnl (.inr rfl) hcc u
    by_cases hcn : cap - k = n
    · have hcd : cap - k - n = 0 := by omega
      go_enter Try.func25, Try.ntmps25
      go_wp2_with (first | (go_at_call 66; refine (ended_true _ _ h0).mono ?_; rintro e w' ⟨rfl, rfl⟩) | (go_at_call 67; refine hnum.mono ?_; rintro e w' ⟨rfl, rfl⟩; rw [hN.out]) | (go_at_call 26; refine (fail_ok _ _ h0).mono ?_; rintro e w' ⟨rfl, rfl⟩) | (go_at_call 63; refine (hcl _ (by omega) _).mono ?_; rintro e w' ⟨ao, cap', rfl, hby, hch⟩))
      have hx := HL.out
      rw [hx] at hby
      go_ret
      exact text_close hb hDR hlc hcm hc hR hk hnl (by omega) (.inl ⟨by omega, by omega⟩) hby hch
    · go_enter Try.func25, Try.ntmps25
      go_wp2_with (first | (go_at_call 66; refine (ended_true _ _ h0).mono ?_; rintro e w' ⟨rfl, rfl⟩) | (go_at_call 67; refine hnum.mono ?_; rintro e w' ⟨rfl, rfl⟩; rw [hN.out]) | (go_at_call 26; refine (fail_ok _ _ h0).mono ?_; rintro e w' ⟨rfl, rfl⟩) | (go_at_call 63; refine (hcl _ (by omega) _).mono ?_; rintro e w' ⟨ao, cap', rfl, hby, hch⟩))
      have hx := HL.out
      rw [hx] at hby
      go_ret
      exact text_close hb hDR hlc hcm hc hR hk hnl (by omega) (.inr ⟨by omega, by omega⟩) hby hch

set_option maxRecDepth 100000 in
set_option maxHeartbeats 400000 in
theorem rtext_long (R b off cap : Nat) (l : List UInt8) (most : Int) (w : World) (hl : l.length ≤ 140737488355328) (hlc : l.length ≤ cap)
    (hc : ∀ i (h : i < l.length), w.cell? ⟨b, off + i, none⟩ = some (.int .u8 (l[i].toNat : Int)))
    (hR : ReaderAt w R true (.slice (some ⟨b, off, none⟩) l.length cap) 0) (n k : Nat) (hN : Hid (numN 9 l 0 0 = (n, k, 0))) (hk : k ≤ l.length) (hn : most < (n : Int)) :
    Calls Try.prog 25 #[.pointer (some ⟨R, 0, none⟩), .int .i64 most] w (Stops R 12 w) := by
  have h0 := cell_blk hR 0
  have h1 := cell_blk hR 1
  have h2 := cell_blk hR 2
  have f2 := froz_blk hR 2
  simp only [List.getElem?_toArray, List.getElem?_cons_zero, List.getElem?_cons_succ] at h0 h1 h2
  have hnum := number_some b off cap l w (by omega) hc
  go_enter Try.func25, Try.ntmps25
  go_wp2_with (first | (go_at_call 66; refine (ended_true _ _ h0).mono ?_; rintro e w' ⟨rfl, rfl⟩) | (go_at_call 67; refine hnum.mono ?_; rintro e w' ⟨rfl, rfl⟩; rw [hN.out]) | (go_at_call 26; refine (fail_stops _ _ undef _ (by decide) h0 h2 f2).mono ?_; rintro e w' ⟨rfl, rfl⟩))
  all_goals exact ⟨rfl, reader_stop hR 12⟩

set_option maxRecDepth 100000 in
set_option maxHeartbeats 400000 in
theorem rtext_short (R b off cap : Nat) (l : List UInt8) (most : Int) (w : World) (hl : l.length ≤ 140737488355328) (hlc : l.length ≤ cap)
    (hc : ∀ i (h : i < l.length), w.cell? ⟨b, off + i, none⟩ = some (.int .u8 (l[i].toNat : Int)))
    (hR : ReaderAt w R true (.slice (some ⟨b, off, none⟩) l.length cap) 0) (n k : Nat) (hN : Hid (numN 9 l 0 0 = (n, k, 0))) (hk : k ≤ l.length) (hn : (n : Int) ≤ most) (hnl : l.length - k < n) :
    Calls Try.prog 25 #[.pointer (some ⟨R, 0, none⟩), .int .i64 most] w (Stops R 10 w) := by
  have h0 := cell_blk hR 0
  have h1 := cell_blk hR 1
  have h2 := cell_blk hR 2
  have f2 := froz_blk hR 2
  simp only [List.getElem?_toArray, List.getElem?_cons_zero, List.getElem?_cons_succ] at h0 h1 h2
  have hnum := number_some b off cap l w (by omega) hc
  go_enter Try.func25, Try.ntmps25
  go_wp2_with (first | (go_at_call 66; refine (ended_true _ _ h0).mono ?_; rintro e w' ⟨rfl, rfl⟩) | (go_at_call 67; refine hnum.mono ?_; rintro e w' ⟨rfl, rfl⟩; rw [hN.out]) | (go_at_call 26; refine (fail_stops _ _ undef _ (by decide) h0 h2 f2).mono ?_; rintro e w' ⟨rfl, rfl⟩))
  all_goals exact ⟨rfl, reader_stop hR 10⟩

set_option maxRecDepth 100000 in
set_option maxHeartbeats 400000 in
theorem rtext_bad {D : Nat → Prop} (R : Nat) (v : Value) (l : List UInt8) (most : Int) (w : World) (hl : l.length ≤ 140737488355328) (hv : BytesAt D w v l)
    (hR : ReaderAt w R true v 0) (err : Nat) (hN : Hid (numN 9 l 0 0 = (0, 0, err))) (he : ((err : Int) == 0) = false) (he2 : ((err : Int) != 0) = true) :
    Calls Try.prog 25 #[.pointer (some ⟨R, 0, none⟩), .int .i64 most] w (Stops R err w) := by
  have h0 := cell_blk hR 0
  have h1 := cell_blk hR 1
  have h2 := cell_blk hR 2
  have f2 := froz_blk hR 2
  simp only [List.getElem?_toArray, List.getElem?_cons_zero, List.getElem?_cons_succ] at h0 h1 h2
  have hnum := number_any (by omega) hv
  rcases hv with ⟨ao, cp, rfl, rfl, h00⟩ | ⟨b, off, cap, rfl, g1, g2, g3, g4⟩
  · cases ao with
    | none =>
      obtain rfl := h00 rfl
      go_enter Try.func25, Try.ntmps25
      go_wp2_with (first | (go_at_call 66; refine (ended_true _ _ h0).mono ?_; rintro e w' ⟨rfl, rfl⟩) | (go_at_call 67; refine hnum.mono ?_; rintro e w' ⟨rfl, rfl⟩; rw [hN.out]) | (go_at_call 26; refine (fail_stops _ _ undef _ he h0 h2 f2).mono ?_; rintro e w' ⟨rfl, rfl⟩))
      all_goals exact ⟨rfl, reader_stop hR err⟩
    | some x =>
      go_enter Try.func25, Try.ntmps25
      go_wp2_with (first | (go_at_call 66; refine (ended_true _ _ h0).mono ?_; rintro e w' ⟨rfl, rfl⟩) | (go_at_call 67; refine hnum.mono ?_; rintro e w' ⟨rfl, rfl⟩; rw [hN.out]) | (go_at_call 26; refine (fail_stops _ _ undef _ he h0 h2 f2).mono ?_; rintro e w' ⟨rfl, rfl⟩))
      all_goals exact ⟨rfl, reader_stop hR err⟩
  · go_enter Try.func25, Try.ntmps25
    go_wp2_with (first | (go_at_call 66; refine (ended_true _ _ h0).mono ?_; rintro e w' ⟨rfl, rfl⟩) | (go_at_call 67; refine hnum.mono ?_; rintro e w' ⟨rfl, rfl⟩; rw [hN.out]) | (go_at_call 26; refine (fail_stops _ _ undef _ he h0 h2 f2).mono ?_; rintro e w' ⟨rfl, rfl⟩))
    all_goals exact ⟨rfl, reader_stop hR err⟩

/-- Reader.Text, of an open reader: the text. -/
theorem rtext_reads {D : Nat → Prop} {R : Nat} {v : Value} {l : List UInt8} {most : Int} {w : World} (hl : l.length ≤ 140737488355328) (hv : BytesAt D w v l) (hDR : ¬ D R) (hR : ReaderAt w R true v 0) (he : errText l most = 0) :
    Calls Try.prog 25 #[.pointer (some ⟨R, 0, none⟩), .int .i64 most] w (RTextOk D R l (numN 9 l 0 0).1 (numN 9 l 0 0).2.1 w) := by
  have hz : (numN 9 l 0 0).2.2 = 0 := by
    unfold errText at he
    by_cases h : (numN 9 l 0 0).2.2 = 0
    · exact h
    · rw [if_neg h] at he
      exact he
  have hm : ((numN 9 l 0 0).1 : Int) ≤ most ∧ (numN 9 l 0 0).1 ≤ l.length - (numN 9 l 0 0).2.1 := by
    unfold errText at he
    rw [if_pos hz] at he
    by_cases h : most < ((numN 9 l 0 0).1 : Int)
    · rw [if_pos h] at he
      omega
    · rw [if_neg h] at he
      by_cases h' : l.length - (numN 9 l 0 0).2.1 < (numN 9 l 0 0).1
      · rw [if_pos h'] at he
        omega
      · omega
  obtain ⟨k1, k2, k3⟩ := numN_ok hz
  rcases hv with ⟨ao, cp, rfl, rfl, h0⟩ | ⟨b, off, cap, rfl, h1, h2, h3, h4⟩
  · simp at k2
    omega
  · exact rtext_ok R b off cap l most w hl h3 hDR h1 h2 h4 hR _ _ (pair3 _ hz) k2 hm.1 hm.2

/-- Reader.Text, of an open reader: the error. -/
theorem rtext_stops {D : Nat → Prop} {R : Nat} {v : Value} {l : List UInt8} {most : Int} {w : World} (hl : l.length ≤ 140737488355328) (hv : BytesAt D w v l) (hR : ReaderAt w R true v 0) (he : errText l most ≠ 0) :
    Calls Try.prog 25 #[.pointer (some ⟨R, 0, none⟩), .int .i64 most] w (Stops R (errText l most) w) := by
  by_cases hz : (numN 9 l 0 0).2.2 = 0
  · obtain ⟨k1, k2, k3⟩ := numN_ok hz
    rcases hv with ⟨ao, cp, rfl, rfl, h0⟩ | ⟨b, off, cap, rfl, h1, h2, h3, h4⟩
    · simp at k2
      omega
    · by_cases h : most < ((numN 9 l 0 0).1 : Int)
      · have e : errText l most = 12 := by
          unfold errText
          rw [if_pos hz, if_pos h]
        rw [e]
        exact rtext_long R b off cap l most w hl h1 h4 hR _ _ (pair3 _ hz) k2 h
      · by_cases h' : l.length - (numN 9 l 0 0).2.1 < (numN 9 l 0 0).1
        · have e : errText l most = 10 := by
            unfold errText
            rw [if_pos hz, if_neg h, if_pos h']
          rw [e]
          exact rtext_short R b off cap l most w hl h1 h4 hR _ _ (pair3 _ hz) k2 (by omega) h'
        · exfalso
          apply he
          unfold errText
          rw [if_pos hz, if_neg h, if_neg h']
  · have e : errText l most = (numN 9 l 0 0).2.2 := by
      unfold errText
      rw [if_neg hz]
    obtain ⟨b1, b2, b3⟩ := numN_bad hz
    rw [e]
    refine rtext_bad R v l most w hl hv hR _ ?_ (by simpa using hz) (by simpa using hz)
    have := pair3 (numN 9 l 0 0) rfl
    rw [b2, b3] at this
    exact this

end Go.Proofs.Ytaejhkjigppelaa
