/- Texts that the proof leans on, in one: RText, NmPut, NmGet, RefGet, RoleBytes, CredText. -/
import Derived.Test.YtmmkopdcbiiedaaKb7
import Derived.Test.YtmmkopdcbiiedaaKb6
import Derived.Test.YtmmkopdcbiiedaaKb5
import Derived.Test.YtmmkopdcbiiedaaKb4
import Derived.Test.YtmmkopdcbiiedaaKb2
/- The contract of a reader's Text. -/
namespace Go.Proofs.Ytmmkopdcbiiedaa
open Go.RowKit

/-- A text that is read: its bytes in new memory, the reader behind it. -/
def RTextOk (D : Nat → Prop) (R : Nat) (l : List UInt8) (n k : Nat) (w : World) (e : Ending) (w' : World) : Prop :=
  ∃ ao cap, e = .returned (.slice ao n cap) ∧ BytesAt (fun k => w.heap.size ≤ k ∧ k < w'.heap.size) w' (.slice ao n cap) ((l.drop k).take n) ∧ ∃ v', BytesAt D w' v' (l.drop (k + n)) ∧ ReaderAt w' R true v' 0 ∧ Chg (· = R) w w'

theorem cut_clone {R b off cap n k : Nat} {l : List UInt8} {w : World} (hl : l.length ≤ 140737488355328) (hbR : b ≠ R) (_ : l.length ≤ cap) (hcm : cap ≤ maxLen)
    (hc : ∀ i (h : i < l.length), w.cell? ⟨b, off + i, none⟩ = some (.int .u8 (l[i].toNat : Int))) (hk : k ≤ l.length) (hnl : n ≤ l.length - k) {o c : Nat} (ho : n = 0 ∨ o = off + k) (hcc : n ≤ c ∧ c ≤ cap) (u : Value) :
    Calls Try.prog 50 #[.slice (some ⟨b, o, none⟩) n c] (w.setCell ⟨R, 1, none⟩ u) (Cloned ((l.drop k).take n) (w.setCell ⟨R, 1, none⟩ u)) := by
  have hlen : ((l.drop k).take n).length = n := by simp; omega
  have hch : Chg (· = R) w (w.setCell ⟨R, 1, none⟩ u) := (Chg.refl (· = R) w).setCell (p := ⟨R, _, none⟩) (fun _ => rfl) _
  refine clone_any (D := fun _ => True) (by omega) (.inr ⟨b, o, c, by rw [hlen], by omega, by omega, trivial, fun i hi => ?_⟩)
  rw [hlen] at hi
  refine hch.cell ?_ (by show ¬ b = R; exact hbR)
  rcases ho with h | rfl
  · omega
  · rw [Nat.add_assoc, hc (k + i) (by omega)]
    simp

theorem text_close {D : Nat → Prop} {R b off cap n k : Nat} {l : List UInt8} {w w1 : World} {v0 : Value} {ao : Option Addr} {cap' : Nat} (hb : D b) (hDR : ¬ D R) (hlc : l.length ≤ cap) (hcm : cap ≤ maxLen)
    (hc : ∀ i (h : i < l.length), w.cell? ⟨b, off + i, none⟩ = some (.int .u8 (l[i].toNat : Int))) (hR : ReaderAt w R true v0 0) (hk : k ≤ l.length) (hnl : n ≤ l.length - k) {o c m : Nat} (hm : m = l.length - (k + n)) (h : (cap = k + n ∧ c = 0) ∨ (o = off + (k + n) ∧ c = cap - (k + n)))
    (hcl : BytesAt (fun k => (w.setCell ⟨R, 1, none⟩ (.slice (some ⟨b, o, none⟩) m c)).heap.size ≤ k ∧ k < w1.heap.size) w1 (.slice ao n cap') ((l.drop k).take n)) (hch : Chg (fun _ => False) (w.setCell ⟨R, 1, none⟩ (.slice (some ⟨b, o, none⟩) m c)) w1) :
    RTextOk D R l n k w (.returned (.slice ao n cap')) w1 := by
  subst hm
  obtain ⟨v', h1, h2, h3⟩ := reader_cut (k := k + n) hb hDR hlc hcm hc hR (by omega) h
  exact ⟨ao, cap', rfl, hcl.mono (fun i hi => ⟨by have h := hi.1; simpa [World.setCell] using h, hi.2⟩), v', h1.keep hch (fun _ _ => id), (hch.block R (lt_blk h2) id).trans h2, h3.trans hch (fun _ _ h => h.elim)⟩

set_option maxRecDepth 100000 in
set_option maxHeartbeats 400000 in
theorem rtext_ok {D : Nat → Prop} (R b off cap : Nat) (l : List UInt8) (most : Int) (w : World) (hl : l.length ≤ 140737488355328) (hb : D b) (hDR : ¬ D R) (hlc : l.length ≤ cap) (hcm : cap ≤ maxLen)
    (hc : ∀ i (h : i < l.length), w.cell? ⟨b, off + i, none⟩ = some (.int .u8 (l[i].toNat : Int)))
    (hR : ReaderAt w R true (.slice (some ⟨b, off, none⟩) l.length cap) 0) (n k : Nat) (hN : Hid (numN 9 l 0 0 = (n, k, 0))) (hk : k ≤ l.length) (hn : (n : Int) ≤ most) (hnl : n ≤ l.length - k) :
    Calls Try.prog 75 #[.pointer (some ⟨R, 0, none⟩), .int .i64 most] w (RTextOk D R l n k w) := by
  have h0 := cell_blk hR 0
  have h1 := cell_blk hR 1
  have f1 := froz_blk hR 1
  simp only [List.getElem?_toArray, List.getElem?_cons_zero, List.getElem?_cons_succ] at h0 h1
  have hnum := number_some b off cap l w (by omega) hc
  have hlen : ((l.drop k).take n).length = n := by simp; omega
  have HL := hid hlen
  clear hlen
  by_cases hck : cap = k
  · obtain rfl : n = 0 := by omega
    obtain rfl : cap = k := hck
    have hcl := fun (o : Nat) u => cut_clone (R := R) (n := 0) (k := cap) (o := o) (c := 0) hl (fun e => hDR (e ▸ hb)) hlc hcm hc hk hnl (.inl rfl) (by omega) u
    go_enter Try.func75, Try.ntmps75
    go_wp2_with (first | (go_at_call 71; refine (ended_true _ _ h0).mono ?_; rintro e w' ⟨rfl, rfl⟩) | (go_at_call 72; refine hnum.mono ?_; rintro e w' ⟨rfl, rfl⟩; rw [hN.out]) | (go_at_call 73; refine (fail_ok _ _ h0).mono ?_; rintro e w' ⟨rfl, rfl⟩) | (go_at_call 50; refine (hcl _ _).mono ?_; rintro e w' ⟨ao, cap', rfl, hby, hch⟩))
    have hx := HL.out
    rw [hx] at hby
    go_ret
    exact text_close hb hDR hlc hcm hc hR hk hnl (by omega) (.inl ⟨rfl, rfl⟩) hby hch
  · have hcl := fun (c : Nat) (hcc : n ≤ c ∧ c ≤ cap) u => cut_clone (R := R) (n := n) (k := k) (o := off + k) (c := c) hl (fun e => hDR (e ▸ hb)) hlc hcm hc hk hnl (.inr rfl) hcc u
    by_cases hcn : cap - k = n
    · have hcd : cap - k - n = 0 := by omega
      go_enter Try.func75, Try.ntmps75
      go_wp2_with (first | (go_at_call 71; refine (ended_true _ _ h0).mono ?_; rintro e w' ⟨rfl, rfl⟩) | (go_at_call 72; refine hnum.mono ?_; rintro e w' ⟨rfl, rfl⟩; rw [hN.out]) | (go_at_call 73; refine (fail_ok _ _ h0).mono ?_; rintro e w' ⟨rfl, rfl⟩) | (go_at_call 50; refine (hcl _ (by omega) _).mono ?_; rintro e w' ⟨ao, cap', rfl, hby, hch⟩))
      have hx := HL.out
      rw [hx] at hby
      go_ret
      exact text_close hb hDR hlc hcm hc hR hk hnl (by omega) (.inl ⟨by omega, by omega⟩) hby hch
    · go_enter Try.func75, Try.ntmps75
      go_wp2_with (first | (go_at_call 71; refine (ended_true _ _ h0).mono ?_; rintro e w' ⟨rfl, rfl⟩) | (go_at_call 72; refine hnum.mono ?_; rintro e w' ⟨rfl, rfl⟩; rw [hN.out]) | (go_at_call 73; refine (fail_ok _ _ h0).mono ?_; rintro e w' ⟨rfl, rfl⟩) | (go_at_call 50; refine (hcl _ (by omega) _).mono ?_; rintro e w' ⟨ao, cap', rfl, hby, hch⟩))
      have hx := HL.out
      rw [hx] at hby
      go_ret
      exact text_close hb hDR hlc hcm hc hR hk hnl (by omega) (.inr ⟨by omega, by omega⟩) hby hch

set_option maxRecDepth 100000 in
set_option maxHeartbeats 400000 in
theorem rtext_long (R b off cap : Nat) (l : List UInt8) (most : Int) (w : World) (hl : l.length ≤ 140737488355328) (_ : l.length ≤ cap)
    (hc : ∀ i (h : i < l.length), w.cell? ⟨b, off + i, none⟩ = some (.int .u8 (l[i].toNat : Int)))
    (hR : ReaderAt w R true (.slice (some ⟨b, off, none⟩) l.length cap) 0) (n k : Nat) (hN : Hid (numN 9 l 0 0 = (n, k, 0))) (hk : k ≤ l.length) (hn : most < (n : Int)) :
    Calls Try.prog 75 #[.pointer (some ⟨R, 0, none⟩), .int .i64 most] w (Stops R 12 w) := by
  have h0 := cell_blk hR 0
  have h1 := cell_blk hR 1
  have h2 := cell_blk hR 2
  have f2 := froz_blk hR 2
  simp only [List.getElem?_toArray, List.getElem?_cons_zero, List.getElem?_cons_succ] at h0 h1 h2
  have hnum := number_some b off cap l w (by omega) hc
  go_enter Try.func75, Try.ntmps75
  go_wp2_with (first | (go_at_call 71; refine (ended_true _ _ h0).mono ?_; rintro e w' ⟨rfl, rfl⟩) | (go_at_call 72; refine hnum.mono ?_; rintro e w' ⟨rfl, rfl⟩; rw [hN.out]) | (go_at_call 73; refine (fail_stops _ _ undef _ (by decide) h0 h2 f2).mono ?_; rintro e w' ⟨rfl, rfl⟩))
  all_goals exact ⟨rfl, reader_stop hR 12⟩

set_option maxRecDepth 100000 in
set_option maxHeartbeats 400000 in
theorem rtext_short (R b off cap : Nat) (l : List UInt8) (most : Int) (w : World) (hl : l.length ≤ 140737488355328) (_ : l.length ≤ cap)
    (hc : ∀ i (h : i < l.length), w.cell? ⟨b, off + i, none⟩ = some (.int .u8 (l[i].toNat : Int)))
    (hR : ReaderAt w R true (.slice (some ⟨b, off, none⟩) l.length cap) 0) (n k : Nat) (hN : Hid (numN 9 l 0 0 = (n, k, 0))) (hk : k ≤ l.length) (hn : (n : Int) ≤ most) (hnl : l.length - k < n) :
    Calls Try.prog 75 #[.pointer (some ⟨R, 0, none⟩), .int .i64 most] w (Stops R 10 w) := by
  have h0 := cell_blk hR 0
  have h1 := cell_blk hR 1
  have h2 := cell_blk hR 2
  have f2 := froz_blk hR 2
  simp only [List.getElem?_toArray, List.getElem?_cons_zero, List.getElem?_cons_succ] at h0 h1 h2
  have hnum := number_some b off cap l w (by omega) hc
  go_enter Try.func75, Try.ntmps75
  go_wp2_with (first | (go_at_call 71; refine (ended_true _ _ h0).mono ?_; rintro e w' ⟨rfl, rfl⟩) | (go_at_call 72; refine hnum.mono ?_; rintro e w' ⟨rfl, rfl⟩; rw [hN.out]) | (go_at_call 73; refine (fail_stops _ _ undef _ (by decide) h0 h2 f2).mono ?_; rintro e w' ⟨rfl, rfl⟩))
  all_goals exact ⟨rfl, reader_stop hR 10⟩

set_option maxRecDepth 100000 in
set_option maxHeartbeats 400000 in
theorem rtext_bad {D : Nat → Prop} (R : Nat) (v : Value) (l : List UInt8) (most : Int) (w : World) (hl : l.length ≤ 140737488355328) (hv : BytesAt D w v l)
    (hR : ReaderAt w R true v 0) (err : Nat) (hN : Hid (numN 9 l 0 0 = (0, 0, err))) (he : ((err : Int) == 0) = false) (he2 : ((err : Int) != 0) = true) :
    Calls Try.prog 75 #[.pointer (some ⟨R, 0, none⟩), .int .i64 most] w (Stops R err w) := by
  have h0 := cell_blk hR 0
  have h1 := cell_blk hR 1
  have h2 := cell_blk hR 2
  have f2 := froz_blk hR 2
  simp only [List.getElem?_toArray, List.getElem?_cons_zero, List.getElem?_cons_succ] at h0 h1 h2
  have hnum := number_any (by omega) hv
  rcases hv with ⟨ao, cp, rfl, rfl, h00⟩ | ⟨b, off, cap, rfl, g1, g2, g3, g4⟩
  · cases ao with
    | none =>
      obtain rfl := h00 rfl
      go_enter Try.func75, Try.ntmps75
      go_wp2_with (first | (go_at_call 71; refine (ended_true _ _ h0).mono ?_; rintro e w' ⟨rfl, rfl⟩) | (go_at_call 72; refine hnum.mono ?_; rintro e w' ⟨rfl, rfl⟩; rw [hN.out]) | (go_at_call 73; refine (fail_stops _ _ undef _ he h0 h2 f2).mono ?_; rintro e w' ⟨rfl, rfl⟩))
      all_goals exact ⟨rfl, reader_stop hR err⟩
    | some x =>
      go_enter Try.func75, Try.ntmps75
      go_wp2_with (first | (go_at_call 71; refine (ended_true _ _ h0).mono ?_; rintro e w' ⟨rfl, rfl⟩) | (go_at_call 72; refine hnum.mono ?_; rintro e w' ⟨rfl, rfl⟩; rw [hN.out]) | (go_at_call 73; refine (fail_stops _ _ undef _ he h0 h2 f2).mono ?_; rintro e w' ⟨rfl, rfl⟩))
      all_goals exact ⟨rfl, reader_stop hR err⟩
  · go_enter Try.func75, Try.ntmps75
    go_wp2_with (first | (go_at_call 71; refine (ended_true _ _ h0).mono ?_; rintro e w' ⟨rfl, rfl⟩) | (go_at_call 72; refine hnum.mono ?_; rintro e w' ⟨rfl, rfl⟩; rw [hN.out]) | (go_at_call 73; refine (fail_stops _ _ undef _ he h0 h2 f2).mono ?_; rintro e w' ⟨rfl, rfl⟩))
    all_goals exact ⟨rfl, reader_stop hR err⟩

/-- Reader.Text, of an open reader: the text. -/
theorem rtext_reads {D : Nat → Prop} {R : Nat} {v : Value} {l : List UInt8} {most : Int} {w : World} (hl : l.length ≤ 140737488355328) (hv : BytesAt D w v l) (hDR : ¬ D R) (hR : ReaderAt w R true v 0) (he : errText l most = 0) :
    Calls Try.prog 75 #[.pointer (some ⟨R, 0, none⟩), .int .i64 most] w (RTextOk D R l (numN 9 l 0 0).1 (numN 9 l 0 0).2.1 w) := by
  have hz : (numN 9 l 0 0).2.2 = 0 := by
    unfold errText at he
    by_cases h : (numN 9 l 0 0).2.2 = 0
    · exact h
    · rw [if_neg h] at he
      exact he
  have hm : ((numN 9 l 0 0).1 : Int) ≤ most ∧ (numN 9 l 0 0).1 ≤ l.length - (numN 9 l 0 0).2.1 := by
    unfold errText at he
    rw [if_pos hz] at he
    by_cases h : most < ((numN 9 l 0 0).1 : Int)
    · rw [if_pos h] at he
      omega
    · rw [if_neg h] at he
      by_cases h' : l.length - (numN 9 l 0 0).2.1 < (numN 9 l 0 0).1
      · rw [if_pos h'] at he
        omega
      · omega
  obtain ⟨k1, k2, k3⟩ := numN_ok hz
  rcases hv with ⟨ao, cp, rfl, rfl, h0⟩ | ⟨b, off, cap, rfl, h1, h2, h3, h4⟩
  · simp at k2
    omega
  · exact rtext_ok R b off cap l most w hl h3 hDR h1 h2 h4 hR _ _ (pair3 _ hz) k2 hm.1 hm.2

/-- Reader.Text, of an open reader: the error. -/
theorem rtext_stops {D : Nat → Prop} {R : Nat} {v : Value} {l : List UInt8} {most : Int} {w : World} (hl : l.length ≤ 140737488355328) (hv : BytesAt D w v l) (hR : ReaderAt w R true v 0) (he : errText l most ≠ 0) :
    Calls Try.prog 75 #[.pointer (some ⟨R, 0, none⟩), .int .i64 most] w (Stops R (errText l most) w) := by
  by_cases hz : (numN 9 l 0 0).2.2 = 0
  · obtain ⟨k1, k2, k3⟩ := numN_ok hz
    rcases hv with ⟨ao, cp, rfl, rfl, h0⟩ | ⟨b, off, cap, rfl, h1, h2, h3, h4⟩
    · simp at k2
      omega
    · by_cases h : most < ((numN 9 l 0 0).1 : Int)
      · have e : errText l most = 12 := by
          unfold errText
          rw [if_pos hz, if_pos h]
        rw [e]
        exact rtext_long R b off cap l most w hl h1 h4 hR _ _ (pair3 _ hz) k2 h
      · by_cases h' : l.length - (numN 9 l 0 0).2.1 < (numN 9 l 0 0).1
        · have e : errText l most = 10 := by
            unfold errText
            rw [if_pos hz, if_neg h, if_pos h']
          rw [e]
          exact rtext_short R b off cap l most w hl h1 h4 hR _ _ (pair3 _ hz) k2 (by omega) h'
        · exfalso
          apply he
          unfold errText
          rw [if_pos hz, if_neg h, if_neg h']
  · have e : errText l most = (numN 9 l 0 0).2.2 := by
      unfold errText
      rw [if_neg hz]
    obtain ⟨b1, b2, b3⟩ := numN_bad hz
    rw [e]
    refine rtext_bad R v l most w hl hv hR _ ?_ (by simpa using hz) (by simpa using hz)
    have := pair3 (numN 9 l 0 0) rfl
    rw [b2, b3] at this
    exact this

end Go.Proofs.Ytmmkopdcbiiedaa

/- The contracts of the program's Put and Get. -/
namespace Go.Proofs.Ytmmkopdcbiiedaa
open Go.RowKit

theorem name_len {s : List UInt8} (hn : isName s = true) : 0 < s.length ∧ s.length ≤ 16 := by
  cases s with
  | nil => cases hn
  | cons c l =>
    simp only [isName, Bool.and_eq_true, decide_eq_true_eq] at hn
    simp
    omega

set_option maxRecDepth 100000 in
theorem put_yes (B P cap : Nat) (ao : Option Addr) (zs s : List UInt8) (w : World) (hp : PenAt B w P ao cap zs) (hB : B ≤ w.heap.size) (hPB : P < B) (hx : zs.length ≤ 1000000) (hn : isName s = true) :
    Calls Try.prog 49 #[.pointer (some ⟨P, 0, none⟩), .string ⟨s.toArray⟩] w fun e w' => e = .returned (.bool true) ∧ PenPost B P ao (zs ++ (enc s.length ++ s)) w w' := by
  have hl := name_len hn
  have hcv := conv_str s w
  have hg1 := grownCap_ge w s.length 0 5
  have hg2 := grownCap_le_maxLen w s.length 0 5 (by unfold maxLen; omega)
  have hba := bytes_of s w.drew (grownCap w s.length 0 5) hg1 hg2 ((bytesRow ⟨s.toArray⟩ (grownCap w s.length 0 5)).size, (bytesRow ⟨s.toArray⟩ (grownCap w s.length 0 5)).size + 1)
  have hPw := lt_blk hp.cell
  have hrow : ∀ k, rowOf ao = some k → k < w.heap.size := fun k hk => (hp.row.lt k ((rowOf_block _ _ _).trans hk)).2
  have hc3 : Chg (fun _ => False) w (w.drew.alloc (.cells (bytesRow ⟨s.toArray⟩ (grownCap w s.length 0 5)) 5 ((bytesRow ⟨s.toArray⟩ (grownCap w s.length 0 5)).size, (bytesRow ⟨s.toArray⟩ (grownCap w s.length 0 5)).size + 1))) := ((Chg.refl _ w).drew).alloc _
  have hp3 := hp.keep hc3 id (fun _ _ => id)
  have hs3 := hc3.size
  have htx := text_any B P cap ao zs s _ _ hp3 (by omega) hPB (by omega) (by omega) hba (fun i hi => by subst hi; exact ⟨by show w.heap.size ≠ P; omega, fun e => by have := hrow _ e; exact absurd this (Nat.lt_irrefl _)⟩)
  have HC := hid hc3
  clear hc3 hp3 hba hg1 hg2 hs3 hrow hp
  go_enter Try.func49, Try.ntmps49
  go_wp2_with (first
    | (go_at_call 68; refine (right_any s _ (by omega)).mono ?_; rintro e w' ⟨rfl, rfl⟩; rw [hn])
    | (go_at_call 70; refine htx.mono ?_; rintro e w' ⟨rfl, ao', cap', hp', hch⟩))
  go_ret
  refine ⟨rfl, ao', cap', hp', ⟨(HC.out.mono (fun _ _ h => h.elim)).trans hch.chg (fun i _ h => h), ?_⟩⟩
  rcases hch.row with h | ⟨g, h1, h2⟩
  · exact .inl h
  · have := HC.out.size
    exact .inr ⟨g, h1, by omega⟩
end Go.Proofs.Ytmmkopdcbiiedaa

/- The contract of the program's Get, of an open reader and of none. -/
namespace Go.Proofs.Ytmmkopdcbiiedaa
open Go.RowKit

/-- The text that comes next, what is left behind it; the error there. -/
def nameOf (l : List UInt8) : List UInt8 := (l.drop (numN 9 l 0 0).2.1).take (numN 9 l 0 0).1
def nameRest (l : List UInt8) : List UInt8 := l.drop ((numN 9 l 0 0).2.1 + (numN 9 l 0 0).1)
def nameBad (l : List UInt8) : Nat := if errText l 16 = 0 then 30 else errText l 16
def nameOk (l : List UInt8) : Bool := decide (errText l 16 = 0) && isName (nameOf l)

theorem nameBad_ne (l : List UInt8) : ¬ ((nameBad l : Int) = 0) := by
  unfold nameBad
  split <;> omega

def GetOk (D : Nat → Prop) (R : Nat) (l : List UInt8) (w : World) (e : Ending) (w' : World) : Prop :=
  e = .returned (.string ⟨(nameOf l).toArray⟩) ∧ ∃ v', BytesAt D w' v' (nameRest l) ∧ ReaderAt w' R true v' 0 ∧ Chg (· = R) w w'

set_option maxRecDepth 100000 in
theorem get_reads {D : Nat → Prop} {R : Nat} {v : Value} {l : List UInt8} {w : World} (hl : l.length ≤ 140737488355328) (hv : BytesAt D w v l) (hDR : ¬ D R) (hR : ReaderAt w R true v 0) (hok : nameOk l = true) :
    Calls Try.prog 55 #[.pointer (some ⟨R, 0, none⟩)] w (GetOk D R l w) := by
  have hok' : errText l 16 = 0 ∧ isName (nameOf l) = true := by simpa [nameOk] using hok
  have h1 := rtext_reads (most := 16) hl hv hDR hR hok'.1
  have hnl : (nameOf l).length ≤ 9223372036854775807 := by have := name_len hok'.2; omega
  go_enter Try.func55, Try.ntmps55
  go_wp2_with fail
  refine h1.mono ?_
  rintro e w1 ⟨ao, cap, rfl, hby, v5, hv5, hR5, hch5⟩
  have hconv := conv_bytes hby
  change (convert 45 9 _).run Try.prog w1 = .ok (.string ⟨(nameOf l).toArray⟩) w1 at hconv
  change BytesAt D w1 v5 (nameRest l) at hv5
  have HN := hok'.2
  clear hok hok' hby h1
  have HG : Hid (GetOk D R l w (.returned (.string ⟨(nameOf l).toArray⟩)) w1) := hid ⟨rfl, v5, hv5, hR5, hch5⟩
  clear hv5 hR5 hch5 hv hR
  generalize nameOf l = s at *
  go_wp2_with (go_at_call 68; refine (right_any s _ hnl).mono ?_; rintro e w' ⟨rfl, rfl⟩; rw [HN])
  go_ret
  exact HG.out

set_option maxRecDepth 100000 in
theorem get_stops {D : Nat → Prop} {R : Nat} {v : Value} {l : List UInt8} {w : World} (hl : l.length ≤ 140737488355328) (hv : BytesAt D w v l) (hDR : ¬ D R) (hR : ReaderAt w R true v 0) (hok : nameOk l = false) :
    Calls Try.prog 55 #[.pointer (some ⟨R, 0, none⟩)] w (Stops R (nameBad l) w) := by
  by_cases he : errText l 16 = 0
  · have hn : isName (nameOf l) = false := by simpa [nameOk, he] using hok
    have hb : nameBad l = 30 := by rw [nameBad, if_pos he]
    rw [hb]
    have h1 := rtext_reads (most := 16) hl hv hDR hR he
    have hnl : (nameOf l).length ≤ 9223372036854775807 := by simp only [nameOf, List.length_take, List.length_drop]; omega
    go_enter Try.func55, Try.ntmps55
    go_wp2_with fail
    refine h1.mono ?_
    rintro e w1 ⟨ao, cap, rfl, hby, v5, hv5, hR5, hch5⟩
    have hconv := conv_bytes hby
    change (convert 45 9 _).run Try.prog w1 = .ok (.string ⟨(nameOf l).toArray⟩) w1 at hconv
    obtain ⟨ao5, cap5, rfl⟩ := hv5.shape
    have HE := hid he
    have HK := hid hok
    have r0 := cell_blk hR5 0
    have r2 := cell_blk hR5 2
    have f2 := froz_blk hR5 2
    simp only [List.getElem?_toArray, List.getElem?_cons_zero, List.getElem?_cons_succ] at r0 r2
    have HR5 := hid (And.intro hR5 hch5)
    clear hok hby h1 he hv5 hR5 hch5 hv hR
    generalize nameOf l = s at *
    go_wp2_with (first
      | (go_at_call 68; refine (right_any s _ hnl).mono ?_; rintro e w' ⟨rfl, rfl⟩; rw [hn])
      | (go_at_call 73; refine (fail_stops R 30 (.bool true) _ rfl r0 r2 f2).mono ?_; rintro e w' ⟨rfl, rfl⟩))
    exact ⟨rfl, rfl, _, _, _, set_blk HR5.out.1 2 (.int .i64 30), HR5.out.2.trans (setCell_chg w1 R 2 _) (fun _ _ h => h)⟩
  · have hb : nameBad l = errText l 16 := by rw [nameBad, if_neg he]
    have h1 := rtext_stops (most := 16) hl hv hR he
    have HE := hid he
    clear he hok
    rw [hb]
    go_enter Try.func55, Try.ntmps55
    go_wp2_with (go_at_call 75; refine h1.mono ?_; rintro e w1 ⟨rfl, hs⟩)
    exact ⟨rfl, rfl, hs⟩
end Go.Proofs.Ytmmkopdcbiiedaa

/- The contract of the document's Get (layer 3), and what End says then. -/
namespace Go.Proofs.Ytmmkopdcbiiedaa
open Go.RowKit

/-- What the document's Get comes to: the name, what is left, the error. -/
def GetPost (X : Nat) (l : List UInt8) (w : World) (e : Ending) (w' : World) : Prop :=
  (errText l 16 = 0 ∧ isName ((l.drop (numN 9 l 0 0).2.1).take (numN 9 l 0 0).1) = true ∧ e = .returned (.string ⟨((l.drop (numN 9 l 0 0).2.1).take (numN 9 l 0 0).1).toArray⟩) ∧ TapeAt w' X (l.drop ((numN 9 l 0 0).2.1 + (numN 9 l 0 0).1)) 0 ∧ Chg (· = X) w w') ∨
  (errText l 16 = 0 ∧ isName ((l.drop (numN 9 l 0 0).2.1).take (numN 9 l 0 0).1) = false ∧ e = .returned (.string ⟨#[]⟩) ∧ TapeBad X 30 w w') ∨
  (errText l 16 ≠ 0 ∧ e = .returned (.string ⟨#[]⟩) ∧ TapeBad X (errText l 16) w w')

set_option maxRecDepth 100000 in
theorem refget_any (X : Nat) (l : List UInt8) (w : World) (hl : l.length ≤ 9223372036854775807) (hX : TapeAt w X l 0) :
    Calls Try.prog 58 #[.pointer (some ⟨X, 0, none⟩)] w (GetPost X l w) := by
  go_enter Try.func58, Try.ntmps58
  go_wp2_with fail
  refine (ttext_any X l 16 w hl hX).mono ?_
  rintro e w1 (⟨he, rfl, hX1, hc1⟩ | ⟨he, rfl, hbad⟩)
  · have hlen : ((l.drop (numN 9 l 0 0).2.1).take (numN 9 l 0 0).1).length ≤ 9223372036854775807 := by
      simp only [List.length_take, List.length_drop]
      omega
    have q1 := cell_blk hX1 1
    have q2 := froz_blk hX1 1
    simp only [List.getElem?_toArray, List.getElem?_cons_zero, List.getElem?_cons_succ] at q1
    cases hn : isName ((l.drop (numN 9 l 0 0).2.1).take (numN 9 l 0 0).1) with
    | true =>
      have HE := hid (And.intro he hn)
      clear he
      generalize hs : (l.drop (numN 9 l 0 0).2.1).take (numN 9 l 0 0).1 = s at *
      have HS := hid hs
      clear hs
      go_wp2_with (go_at_call 42; refine (refright_any s _ hlen).mono ?_; rintro e w' ⟨rfl, rfl⟩; rw [hn])
      go_ret
      exact .inl ⟨HE.out.1, by rw [HS.out]; exact hn, by rw [HS.out]; rfl, hX1, hc1⟩
    | false =>
      have HE := hid (And.intro he hn)
      clear he
      generalize hs : (l.drop (numN 9 l 0 0).2.1).take (numN 9 l 0 0).1 = s at *
      have HS := hid hs
      clear hs
      have hX2 := set_blk hX1 1 (.int .i64 30)
      have hcs := hc1.trans (setCell_chg w1 X 1 (.int .i64 30)) (fun _ _ h => h)
      have HB := hid (And.intro hX2 hcs)
      clear hX2 hcs hc1
      go_wp2_with (go_at_call 42; refine (refright_any s _ hlen).mono ?_; rintro e w' ⟨rfl, rfl⟩; rw [hn])
      go_ret
      exact .inr (.inl ⟨HE.out.1, by rw [HS.out]; exact hn, rfl, ⟨_, HB.out.1⟩, HB.out.2⟩)
  · obtain ⟨⟨l1, hX1⟩, hc1⟩ := id hbad
    have q1 := cell_blk hX1 1
    simp only [List.getElem?_toArray, List.getElem?_cons_zero, List.getElem?_cons_succ] at q1
    have z1 : ((errText l 16 : Int) == 0) = false := beq_eq_false_iff_ne.2 (by omega)
    have z2 : ((errText l 16 : Int) != 0) = true := by rw [bne_iff_ne]; omega
    have HE := hid he
    clear he
    go_wp2
    go_ret
    exact .inr (.inr ⟨HE.out, rfl, hbad⟩)
end Go.Proofs.Ytmmkopdcbiiedaa

/- The contracts of the document's Bytes and Get of layer 4. -/
namespace Go.Proofs.Ytmmkopdcbiiedaa
open Go.RowKit

/-- A role's bytes. -/
def roleEnc (r : RoleB) : List UInt8 := (enc r.1.length ++ r.1) ++ (enc r.2.length ++ r.2)

def bytesSpecs (A : Nat) (o x : List UInt8) : List Spec := [.any, .eq (.pointer (some ⟨A, 0, none⟩)), .eq (.string ⟨(roleEnc (o, x)).toArray⟩), .eq (.pointer (some ⟨A, 0, none⟩)), .eq (.string ⟨o.toArray⟩), .eq (.string ⟨(enc o.length ++ o).toArray⟩), .eq (.pointer (some ⟨A, 1, none⟩)), .eq (.string ⟨x.toArray⟩), .eq (.string ⟨(enc x.length ++ x).toArray⟩), .eq (.string ⟨(roleEnc (o, x)).toArray⟩)]

set_option maxRecDepth 100000 in
theorem rbytes_ref (r : RoleB) (w : World) (h1 : r.1.length ≤ 1048576) (h2 : r.2.length ≤ 1048576) :
    Calls Try.prog 66 #[roleV r] w fun e w' => e = .returned (.string ⟨(roleEnc r).toArray⟩) ∧ Chg (fun _ => False) w w' := by
  obtain ⟨o, x⟩ := r
  dsimp only at h1 h2
  have hc : Chg (fun _ => False) w (w.alloc (.cells #[.string ⟨o.toArray⟩, .string ⟨x.toArray⟩] 25)) := (Chg.refl _ w).alloc _
  have hA := heap_alloc_new w (.cells #[.string ⟨o.toArray⟩, .string ⟨x.toArray⟩] 25)
  have a0 := cell_blk hA 0
  have a1 := cell_blk hA 1
  simp only [List.getElem?_toArray, List.getElem?_cons_zero, List.getElem?_cons_succ] at a0 a1
  have l1 := enc_length9 (n := o.length) (by omega)
  have l2 := enc_length9 (n := x.length) (by omega)
  show Calls Try.prog 66 #[.agg #[.string ⟨o.toArray⟩, .string ⟨x.toArray⟩]] w _
  go_enter Try.func66, Try.ntmps66
  go_wp2_with fail
  clear hA
  generalize w.alloc (.cells #[.string ⟨o.toArray⟩, .string ⟨x.toArray⟩] 25) = w1 at *
  generalize w.heap.size = A at *
  refine wp_region_specs (bytesSpecs A o x) [3, 4, 5, 6, 7, 8, 9, 2] [1] (by kernel_rfl) (by kernel_rfl) (by rfl) (by kernel_rfl) ?start ?obs ?fin
  case start =>
    simp only [List.forall_mem_cons]
    exact ⟨⟨_, rfl, rfl⟩, fun _ h => by cases h⟩
  case obs =>
    clear hc
    refine Obs.cons none (by kernel_rfl) ?_ ?_
    · refine Ob.plain fun a w hR hk K k => ?_
      obtain ⟨_, e1, rfl⟩ := hk 1 (by decide)
      clear hk
      go_simp
      exact k _ _ (Chg.refl _ _) rfl
    refine Obs.cons none (by kernel_rfl) ?_ ?_
    · refine Ob.plain fun a w hR hk K k => ?_
      obtain ⟨_, e3, rfl⟩ := hk 3 (by decide)
      clear hk
      have q0 := hR.cell a0 id
      go_simp
      exact k _ _ (Chg.refl _ _) rfl
    refine Obs.cons none (by kernel_rfl) ?_ ?_
    · refine Ob.plain fun a w hR hk K k => ?_
      obtain ⟨_, e4, rfl⟩ := hk 4 (by decide)
      clear hk
      go_simp
      refine (reftext_any o _ (by omega)).mono ?_
      rintro e w2 ⟨rfl, hc⟩
      exact k _ _ hc rfl
    refine Obs.cons none (by kernel_rfl) ?_ ?_
    · refine Ob.plain fun a w hR hk K k => ?_
      obtain ⟨_, e1, rfl⟩ := hk 1 (by decide)
      clear hk
      go_simp
      exact k _ _ (Chg.refl _ _) rfl
    refine Obs.cons none (by kernel_rfl) ?_ ?_
    · refine Ob.plain fun a w hR hk K k => ?_
      obtain ⟨_, e6, rfl⟩ := hk 6 (by decide)
      clear hk
      have q0 := hR.cell a1 id
      go_simp
      exact k _ _ (Chg.refl _ _) rfl
    refine Obs.cons none (by kernel_rfl) ?_ ?_
    · refine Ob.plain fun a w hR hk K k => ?_
      obtain ⟨_, e7, rfl⟩ := hk 7 (by decide)
      clear hk
      go_simp
      refine (reftext_any x _ (by omega)).mono ?_
      rintro e w2 ⟨rfl, hc⟩
      exact k _ _ hc rfl
    refine Obs.cons none (by kernel_rfl) ?_ ?_
    · refine Ob.plain fun a w hR hk K k => ?_
      obtain ⟨_, e5, rfl⟩ := hk 5 (by decide)
      obtain ⟨_, e8, rfl⟩ := hk 8 (by decide)
      clear hk
      obtain ⟨u, hu⟩ : ∃ u, u = enc o.length ++ o := ⟨_, rfl⟩
      obtain ⟨v, hv⟩ : ∃ v, v = enc x.length ++ x := ⟨_, rfl⟩
      have hul : ¬ 9223372036854775807 < u.length + v.length := by rw [hu, hv, List.length_append, List.length_append]; omega
      rw [← hu] at e5
      rw [← hv] at e8
      have HU := hid (And.intro hu hv)
      clear hu hv
      go_simp
      exact k _ _ (Chg.refl _ _) (congrArg Value.string ((ByteArray.mk_append_mk u v).trans (by rw [HU.out.1, HU.out.2]; rfl)))
    refine Obs.cons none (by kernel_rfl) ?_ ?_
    · refine Ob.plain fun a w hR hk K k => ?_
      obtain ⟨_, e9, f9⟩ := hk 9 (by decide)
      clear hk
      go_simp
      exact k _ _ (Chg.refl _ _) f9
    exact Obs.nil
  case fin =>
    intro vals w9 hc9 hv
    have h6 : vals 2 = .string ⟨(roleEnc (o, x)).toArray⟩ := hv 2 (by decide)
    simp only [putAll, List.setIfInBounds_toArray, List.set_cons_zero, List.set_cons_succ, h6]
    go_wp2
    go_ret
    exact ⟨rfl, hc.trans hc9 (fun _ _ h => h)⟩
end Go.Proofs.Ytmmkopdcbiiedaa

/- A credential's text, and its bytes; a text cut at each place where another one stands: plain words. -/
namespace Go.Proofs.Ytmmkopdcbiiedaa
open Go.RowKit

/-- A text's bytes. -/
def encS (s : List UInt8) : List UInt8 := enc s.length ++ s
def credTail (c : CredB) : List UInt8 :=
  if c.kind = 1 then encS c.who else if c.kind = 3 then roleEnc c.b ++ encS c.w2 else if c.kind = 4 then roleEnc c.b ++ roleEnc c.c else roleEnc c.b
def credEnc (c : CredB) : List UInt8 := enc c.kind.toNat ++ (roleEnc c.head ++ credTail c)

/-- The bytes of a right one; none of others. -/
def credBytes (c : CredB) : List UInt8 := if isCred c then credEnc c else []

end Go.Proofs.Ytmmkopdcbiiedaa
