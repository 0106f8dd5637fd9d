/- Texts that the proof leans on, in one: Num, Fail, RCut, RText, NmPut, NmGet, RefGet, RoleBytes, TapeBad, RoleGet, RoleProg, RoleEqL. -/
import Derived.Test.YtjaplnainlbldaaFr7
import Derived.Test.YtjaplnainlbldaaFr2
import Derived.Test.YtjaplnainlbldaaFr6
import Derived.Test.YtjaplnainlbldaaFr1
import Derived.Test.YtjaplnainlbldaaFr3
/- The contract of tape.number. -/
namespace Go.Proofs.Ytjaplnainlbldaa
open Go.RowKit

def NumPost (l : List UInt8) (w : World) (e : Ending) (w' : World) : Prop :=
  e = .returned (.tuple #[.int .i64 (numN 9 l 0 0).1, .int .i64 (numN 9 l 0 0).2.1, .int .i64 (numN 9 l 0 0).2.2]) ∧ w = w'

theorem numPost_of {l : List UInt8} {w : World} {a b c : Int} {r : Nat × Nat × Nat} (h : Hid (numN 9 l 0 0 = r)) (h1 : a = r.1) (h2 : b = r.2.1) (h3 : c = r.2.2) :
    NumPost l w (.returned (.tuple #[.int .i64 a, .int .i64 b, .int .i64 c])) w := by
  subst h1; subst h2; subst h3
  unfold NumPost
  rw [h.out]
  exact ⟨rfl, rfl⟩

set_option maxRecDepth 100000 in
set_option maxHeartbeats 400000 in
theorem number_some (b off cap : Nat) (l : List UInt8) (w : World) (hl : l.length ≤ 9223372036854775807)
    (hc : ∀ i (h : i < l.length), w.cell? ⟨b, off + i, none⟩ = some (.int .u8 (l[i].toNat : Int))) :
    Calls Try.prog 121 #[.slice (some ⟨b, off, none⟩) l.length cap] w (NumPost l w) := by
  go_enter Try.func121, Try.ntmps121
  go_wp2
  go_loop [2, 3] (fun n i => ∃ k m : Nat, k ≤ 9 ∧ k ≤ l.length ∧ i = .int .i64 k ∧ n = .int .i64 m ∧ m < 128 ^ k ∧ Hid (numN 9 l 0 0 = numN (9 - k) (l.drop k) k m)) (fun _ i => 9 - (intOf i).toNat)
  case atStart => exact ⟨0, 0, by omega, by omega, rfl, rfl, by decide, rfl⟩
  case round =>
    obtain ⟨k, m, hk, hkl, rfl, rfl, hm, HS⟩ := hrel
    by_cases h9 : k < 9
    · by_cases hkk : k < l.length
      · have hcell := hc k hkk
        have hst := numN_step l k m h9 hkk
        have HT := HS.out.trans hst
        have HU : Hid (numN 9 l 0 0 = _) := HT
        clear HT hst HS
        go_wp2
        · have h0 : l[k].toNat = 0 := by assumption
          have h1 : (1 : Int) < (k : Int) + 1 := by assumption
          have hU := HU.out
          rw [if_pos ⟨h0, by omega⟩] at hU
          go_ret3
          exact numPost_of hU rfl rfl rfl
        · have h0 : l[k].toNat = 0 := by assumption
          have h1 : (k : Int) + 1 ≤ 1 := by assumption
          have hU := HU.out
          have hd := digit_or k m 0 h9 hm (by omega)
          rw [if_neg (by omega), if_pos (by omega)] at hU
          go_ret3
          refine numPost_of hU ?_ (by simp) rfl
          rw [h0]
          simpa using hd
        · have h0 : ¬ l[k].toNat = 0 := by assumption
          have h1 : (l[k].toNat : Int) < 128 := by assumption
          have hU := HU.out
          have hd := digit_or k m l[k].toNat h9 hm (UInt8.toNat_lt _)
          rw [if_neg (by omega), if_pos (by omega)] at hU
          go_ret3
          refine numPost_of hU ?_ (by simp) rfl
          rw [Nat.mod_eq_of_lt (by omega)] at hd
          exact hd
        · have h0 : ¬ l[k].toNat = 0 := by assumption
          have h1 : 128 ≤ (l[k].toNat : Int) := by assumption
          have hlt := UInt8.toNat_lt l[k]
          have hd := digit_or k m l[k].toNat h9 hm hlt
          have hU := HU.out
          rw [if_neg (by omega), if_neg (by omega)] at hU
          have e : l[k].toNat % 128 = l[k].toNat - 128 := by omega
          rw [e] at hd
          go_round
          case rel => exact ⟨k + 1, _, by omega, by omega, by go_num, congrArg _ hd, num_lt k m _ hm (by omega), hU⟩
          case measure => simp [intOf]; omega
      · have hkl2 : k = l.length := by omega
        subst hkl2
        have hU : Hid (numN 9 l 0 0 = (0, 0, 10)) := HS.out.trans (numN_end l _ m h9 (Nat.le_refl _))
        clear HS
        go_wp2
        go_ret3
        exact numPost_of hU rfl rfl rfl
    · have hk9 : k = 9 := by omega
      subst hk9
      have hU : Hid (numN 9 l 0 0 = (0, 0, 11)) := HS.out
      clear HS
      go_wp2
      go_ret3
      exact numPost_of hU rfl rfl rfl

end Go.Proofs.Ytjaplnainlbldaa

/- The contracts of a reader's ended and Fail. -/
namespace Go.Proofs.Ytjaplnainlbldaa
open Go.RowKit

theorem ended_true (R : Nat) (w : World) (h0 : w.cell? ⟨R, 0, none⟩ = some (.bool true)) :
    Calls Try.prog 99 #[.pointer (some ⟨R, 0, none⟩)] w fun e w' => e = .returned (.bool false) ∧ w = w' := by
  go_enter Try.func99, Try.ntmps99
  go_wp2
  go_ret
  exact ⟨rfl, rfl⟩

theorem fail_ok (R : Nat) (w : World) (h0 : w.cell? ⟨R, 0, none⟩ = some (.bool true)) :
    Calls Try.prog 67 #[.pointer (some ⟨R, 0, none⟩), .int .i64 0] w fun e w' => e = .returned (.tuple #[]) ∧ w = w' := by
  go_enter Try.func67, Try.ntmps67
  go_wp2_with (go_at_call 99; refine (ended_true _ _ h0).mono ?_; rintro e w' ⟨rfl, rfl⟩)
  refine bodyPost_ret (results_none rfl _ _ _) rfl ?_
  exact ⟨rfl, rfl⟩

end Go.Proofs.Ytjaplnainlbldaa

/- A reader, cut; what an error leaves. -/
namespace Go.Proofs.Ytjaplnainlbldaa
open Go.RowKit

/-- What a reader holds behind a slice of its bytes. -/
theorem reader_cut {D : Nat → Prop} {R b off cap k : Nat} {l : List UInt8} {w : World} {v0 : Value} (hb : D b) (hDR : ¬ D R) (hlc : l.length ≤ cap) (hcm : cap ≤ maxLen)
    (hc : ∀ i (h : i < l.length), w.cell? ⟨b, off + i, none⟩ = some (.int .u8 (l[i].toNat : Int))) (hR : ReaderAt w R true v0 0) (hk : k ≤ l.length) {o c : Nat} (h : (cap = k ∧ c = 0) ∨ (o = off + k ∧ c = cap - k)) :
    ∃ v', BytesAt D (w.setCell ⟨R, 1, none⟩ (.slice (some ⟨b, o, none⟩) (l.length - k) c)) v' (l.drop k) ∧
      ReaderAt (w.setCell ⟨R, 1, none⟩ (.slice (some ⟨b, o, none⟩) (l.length - k) c)) R true v' 0 ∧ Chg (· = R) w (w.setCell ⟨R, 1, none⟩ (.slice (some ⟨b, o, none⟩) (l.length - k) c)) := by
  have hch : Chg (· = R) w (w.setCell ⟨R, 1, none⟩ (.slice (some ⟨b, o, none⟩) (l.length - k) c)) := (Chg.refl (· = R) w).setCell (p := ⟨R, _, none⟩) (fun _ => rfl) _
  refine ⟨_, .inr ⟨b, o, c, by rw [List.length_drop], ?_, ?_, hb, ?_⟩, ?_, hch⟩
  · rw [List.length_drop]
    rcases h with ⟨h1, h3⟩ | ⟨h1, h2⟩ <;> omega
  · rcases h with ⟨h1, h3⟩ | ⟨h1, h2⟩ <;> omega
  · intro i hi
    rw [List.length_drop] at hi
    refine hch.cell ?_ (fun e => hDR (e ▸ hb))
    rcases h with ⟨h1, h3⟩ | ⟨h1, h2⟩
    · omega
    · have := hc (k + i) (by omega)
      rw [h1, Nat.add_assoc, this, List.getElem_drop]
  · have := set_blk hR 1 (.slice (some ⟨b, o, none⟩) (l.length - k) c)
    exact this

theorem pair3 (r : Nat × Nat × Nat) {e : Nat} (h : r.2.2 = e) : r = (r.1, r.2.1, e) := by
  obtain ⟨a, b, c⟩ := r
  subst h
  rfl

end Go.Proofs.Ytjaplnainlbldaa

/- The contract of a reader's Text. -/
namespace Go.Proofs.Ytjaplnainlbldaa
open Go.RowKit

/-- A text that is read: its bytes in new memory, the reader behind it. -/
def RTextOk (D : Nat → Prop) (R : Nat) (l : List UInt8) (n k : Nat) (w : World) (e : Ending) (w' : World) : Prop :=
  ∃ ao cap, e = .returned (.slice ao n cap) ∧ BytesAt (fun k => w.heap.size ≤ k ∧ k < w'.heap.size) w' (.slice ao n cap) ((l.drop k).take n) ∧ ∃ v', BytesAt D w' v' (l.drop (k + n)) ∧ ReaderAt w' R true v' 0 ∧ Chg (· = R) w w'

theorem cut_clone {R b off cap n k : Nat} {l : List UInt8} {w : World} (hl : l.length ≤ 140737488355328) (hbR : b ≠ R) (_ : l.length ≤ cap) (hcm : cap ≤ maxLen)
    (hc : ∀ i (h : i < l.length), w.cell? ⟨b, off + i, none⟩ = some (.int .u8 (l[i].toNat : Int))) (hk : k ≤ l.length) (hnl : n ≤ l.length - k) {o c : Nat} (ho : n = 0 ∨ o = off + k) (hcc : n ≤ c ∧ c ≤ cap) (u : Value) :
    Calls Try.prog 63 #[.slice (some ⟨b, o, none⟩) n c] (w.setCell ⟨R, 1, none⟩ u) (Cloned ((l.drop k).take n) (w.setCell ⟨R, 1, none⟩ u)) := by
  have hlen : ((l.drop k).take n).length = n := by simp; omega
  have hch : Chg (· = R) w (w.setCell ⟨R, 1, none⟩ u) := (Chg.refl (· = R) w).setCell (p := ⟨R, _, none⟩) (fun _ => rfl) _
  refine clone_any (D := fun _ => True) (by omega) (.inr ⟨b, o, c, by rw [hlen], by omega, by omega, trivial, fun i hi => ?_⟩)
  rw [hlen] at hi
  refine hch.cell ?_ (by show ¬ b = R; exact hbR)
  rcases ho with h | rfl
  · omega
  · rw [Nat.add_assoc, hc (k + i) (by omega)]
    simp

theorem text_close {D : Nat → Prop} {R b off cap n k : Nat} {l : List UInt8} {w w1 : World} {v0 : Value} {ao : Option Addr} {cap' : Nat} (hb : D b) (hDR : ¬ D R) (hlc : l.length ≤ cap) (hcm : cap ≤ maxLen)
    (hc : ∀ i (h : i < l.length), w.cell? ⟨b, off + i, none⟩ = some (.int .u8 (l[i].toNat : Int))) (hR : ReaderAt w R true v0 0) (hk : k ≤ l.length) (hnl : n ≤ l.length - k) {o c m : Nat} (hm : m = l.length - (k + n)) (h : (cap = k + n ∧ c = 0) ∨ (o = off + (k + n) ∧ c = cap - (k + n)))
    (hcl : BytesAt (fun k => (w.setCell ⟨R, 1, none⟩ (.slice (some ⟨b, o, none⟩) m c)).heap.size ≤ k ∧ k < w1.heap.size) w1 (.slice ao n cap') ((l.drop k).take n)) (hch : Chg (fun _ => False) (w.setCell ⟨R, 1, none⟩ (.slice (some ⟨b, o, none⟩) m c)) w1) :
    RTextOk D R l n k w (.returned (.slice ao n cap')) w1 := by
  subst hm
  obtain ⟨v', h1, h2, h3⟩ := reader_cut (k := k + n) hb hDR hlc hcm hc hR (by omega) h
  exact ⟨ao, cap', rfl, hcl.mono (fun i hi => ⟨by have h := hi.1; simpa [World.setCell] using h, hi.2⟩), v', h1.keep hch (fun _ _ => id), (hch.block R (lt_blk h2) id).trans h2, h3.trans hch (fun _ _ h => h.elim)⟩

set_option maxRecDepth 100000 in
set_option maxHeartbeats 400000 in
theorem rtext_ok {D : Nat → Prop} (R b off cap : Nat) (l : List UInt8) (most : Int) (w : World) (hl : l.length ≤ 140737488355328) (hb : D b) (hDR : ¬ D R) (hlc : l.length ≤ cap) (hcm : cap ≤ maxLen)
    (hc : ∀ i (h : i < l.length), w.cell? ⟨b, off + i, none⟩ = some (.int .u8 (l[i].toNat : Int)))
    (hR : ReaderAt w R true (.slice (some ⟨b, off, none⟩) l.length cap) 0) (n k : Nat) (hN : Hid (numN 9 l 0 0 = (n, k, 0))) (hk : k ≤ l.length) (hn : (n : Int) ≤ most) (hnl : n ≤ l.length - k) :
    Calls Try.prog 142 #[.pointer (some ⟨R, 0, none⟩), .int .i64 most] w (RTextOk D R l n k w) := by
  have h0 := cell_blk hR 0
  have h1 := cell_blk hR 1
  have f1 := froz_blk hR 1
  simp only [List.getElem?_toArray, List.getElem?_cons_zero, List.getElem?_cons_succ] at h0 h1
  have hnum := number_some b off cap l w (by omega) hc
  have hlen : ((l.drop k).take n).length = n := by simp; omega
  have HL := hid hlen
  clear hlen
  by_cases hck : cap = k
  · obtain rfl : n = 0 := by omega
    obtain rfl : cap = k := hck
    have hcl := fun (o : Nat) u => cut_clone (R := R) (n := 0) (k := cap) (o := o) (c := 0) hl (fun e => hDR (e ▸ hb)) hlc hcm hc hk hnl (.inl rfl) (by omega) u
    go_enter Try.func142, Try.ntmps142
    go_wp2_with (first | (go_at_call 99; refine (ended_true _ _ h0).mono ?_; rintro e w' ⟨rfl, rfl⟩) | (go_at_call 121; refine hnum.mono ?_; rintro e w' ⟨rfl, rfl⟩; rw [hN.out]) | (go_at_call 67; refine (fail_ok _ _ h0).mono ?_; rintro e w' ⟨rfl, rfl⟩) | (go_at_call 63; refine (hcl _ _).mono ?_; rintro e w' ⟨ao, cap', rfl, hby, hch⟩))
    have hx := HL.out
    rw [hx] at hby
    go_ret
    exact text_close hb hDR hlc hcm hc hR hk hnl (by omega) (.inl ⟨rfl, rfl⟩) hby hch
  · have hcl := fun (c : Nat) (hcc : n ≤ c ∧ c ≤ cap) u => cut_clone (R := R) (n := n) (k := k) (o := off + k) (c := c) hl (fun e => hDR (e ▸ hb)) hlc hcm hc hk hnl (.inr rfl) hcc u
    by_cases hcn : cap - k = n
    · have hcd : cap - k - n = 0 := by omega
      go_enter Try.func142, Try.ntmps142
      go_wp2_with (first | (go_at_call 99; refine (ended_true _ _ h0).mono ?_; rintro e w' ⟨rfl, rfl⟩) | (go_at_call 121; refine hnum.mono ?_; rintro e w' ⟨rfl, rfl⟩; rw [hN.out]) | (go_at_call 67; refine (fail_ok _ _ h0).mono ?_; rintro e w' ⟨rfl, rfl⟩) | (go_at_call 63; refine (hcl _ (by omega) _).mono ?_; rintro e w' ⟨ao, cap', rfl, hby, hch⟩))
      have hx := HL.out
      rw [hx] at hby
      go_ret
      exact text_close hb hDR hlc hcm hc hR hk hnl (by omega) (.inl ⟨by omega, by omega⟩) hby hch
    · go_enter Try.func142, Try.ntmps142
      go_wp2_with (first | (go_at_call 99; refine (ended_true _ _ h0).mono ?_; rintro e w' ⟨rfl, rfl⟩) | (go_at_call 121; refine hnum.mono ?_; rintro e w' ⟨rfl, rfl⟩; rw [hN.out]) | (go_at_call 67; refine (fail_ok _ _ h0).mono ?_; rintro e w' ⟨rfl, rfl⟩) | (go_at_call 63; refine (hcl _ (by omega) _).mono ?_; rintro e w' ⟨ao, cap', rfl, hby, hch⟩))
      have hx := HL.out
      rw [hx] at hby
      go_ret
      exact text_close hb hDR hlc hcm hc hR hk hnl (by omega) (.inr ⟨by omega, by omega⟩) hby hch

/-- Reader.Text, of an open reader: the text. -/
theorem rtext_reads {D : Nat → Prop} {R : Nat} {v : Value} {l : List UInt8} {most : Int} {w : World} (hl : l.length ≤ 140737488355328) (hv : BytesAt D w v l) (hDR : ¬ D R) (hR : ReaderAt w R true v 0) (he : errText l most = 0) :
    Calls Try.prog 142 #[.pointer (some ⟨R, 0, none⟩), .int .i64 most] w (RTextOk D R l (numN 9 l 0 0).1 (numN 9 l 0 0).2.1 w) := by
  have hz : (numN 9 l 0 0).2.2 = 0 := by
    unfold errText at he
    by_cases h : (numN 9 l 0 0).2.2 = 0
    · exact h
    · rw [if_neg h] at he
      exact he
  have hm : ((numN 9 l 0 0).1 : Int) ≤ most ∧ (numN 9 l 0 0).1 ≤ l.length - (numN 9 l 0 0).2.1 := by
    unfold errText at he
    rw [if_pos hz] at he
    by_cases h : most < ((numN 9 l 0 0).1 : Int)
    · rw [if_pos h] at he
      omega
    · rw [if_neg h] at he
      by_cases h' : l.length - (numN 9 l 0 0).2.1 < (numN 9 l 0 0).1
      · rw [if_pos h'] at he
        omega
      · omega
  obtain ⟨k1, k2, k3⟩ := numN_ok hz
  rcases hv with ⟨ao, cp, rfl, rfl, h0⟩ | ⟨b, off, cap, rfl, h1, h2, h3, h4⟩
  · simp at k2
    omega
  · exact rtext_ok R b off cap l most w hl h3 hDR h1 h2 h4 hR _ _ (pair3 _ hz) k2 hm.1 hm.2

end Go.Proofs.Ytjaplnainlbldaa

/- The contracts of the program's Put and Get. -/
namespace Go.Proofs.Ytjaplnainlbldaa
open Go.RowKit

theorem name_len {s : List UInt8} (hn : isName s = true) : 0 < s.length ∧ s.length ≤ 16 := by
  cases s with
  | nil => cases hn
  | cons c l =>
    simp only [isName, Bool.and_eq_true, decide_eq_true_eq] at hn
    simp
    omega

set_option maxRecDepth 100000 in
theorem put_yes (B P cap : Nat) (ao : Option Addr) (zs s : List UInt8) (w : World) (hp : PenAt B w P ao cap zs) (hB : B ≤ w.heap.size) (hPB : P < B) (hx : zs.length ≤ 1000000) (hn : isName s = true) :
    Calls Try.prog 105 #[.pointer (some ⟨P, 0, none⟩), .string ⟨s.toArray⟩] w fun e w' => e = .returned (.bool true) ∧ PenPost B P ao (zs ++ (enc s.length ++ s)) w w' := by
  have hl := name_len hn
  have hcv := conv_str s w
  have hg1 := grownCap_ge w s.length 0 5
  have hg2 := grownCap_le_maxLen w s.length 0 5 (by unfold maxLen; omega)
  have hba := bytes_of s w.drew (grownCap w s.length 0 5) hg1 hg2 ((bytesRow ⟨s.toArray⟩ (grownCap w s.length 0 5)).size, (bytesRow ⟨s.toArray⟩ (grownCap w s.length 0 5)).size + 1)
  have hPw := lt_blk hp.cell
  have hrow : ∀ k, rowOf ao = some k → k < w.heap.size := fun k hk => (hp.row.lt k ((rowOf_block _ _ _).trans hk)).2
  have hc3 : Chg (fun _ => False) w (w.drew.alloc (.cells (bytesRow ⟨s.toArray⟩ (grownCap w s.length 0 5)) 5 ((bytesRow ⟨s.toArray⟩ (grownCap w s.length 0 5)).size, (bytesRow ⟨s.toArray⟩ (grownCap w s.length 0 5)).size + 1))) := ((Chg.refl _ w).drew).alloc _
  have hp3 := hp.keep hc3 id (fun _ _ => id)
  have hs3 := hc3.size
  have htx := text_any B P cap ao zs s _ _ hp3 (by omega) hPB (by omega) (by omega) hba (fun i hi => by subst hi; exact ⟨by show w.heap.size ≠ P; omega, fun e => by have := hrow _ e; exact absurd this (Nat.lt_irrefl _)⟩)
  have HC := hid hc3
  clear hc3 hp3 hba hg1 hg2 hs3 hrow hp
  go_enter Try.func105, Try.ntmps105
  go_wp2_with (first
    | (go_at_call 123; refine (right_any s _ (by omega)).mono ?_; rintro e w' ⟨rfl, rfl⟩; rw [hn])
    | (go_at_call 124; refine htx.mono ?_; rintro e w' ⟨rfl, ao', cap', hp', hch⟩))
  go_ret
  refine ⟨rfl, ao', cap', hp', ⟨(HC.out.mono (fun _ _ h => h.elim)).trans hch.chg (fun i _ h => h), ?_⟩⟩
  rcases hch.row with h | ⟨g, h1, h2⟩
  · exact .inl h
  · have := HC.out.size
    exact .inr ⟨g, h1, by omega⟩
end Go.Proofs.Ytjaplnainlbldaa

/- The contract of the program's Get, of an open reader and of none. -/
namespace Go.Proofs.Ytjaplnainlbldaa
open Go.RowKit

/-- The text that comes next, what is left behind it; the error there. -/
def nameOf (l : List UInt8) : List UInt8 := (l.drop (numN 9 l 0 0).2.1).take (numN 9 l 0 0).1
def nameRest (l : List UInt8) : List UInt8 := l.drop ((numN 9 l 0 0).2.1 + (numN 9 l 0 0).1)
def nameOk (l : List UInt8) : Bool := decide (errText l 16 = 0) && isName (nameOf l)

def GetOk (D : Nat → Prop) (R : Nat) (l : List UInt8) (w : World) (e : Ending) (w' : World) : Prop :=
  e = .returned (.string ⟨(nameOf l).toArray⟩) ∧ ∃ v', BytesAt D w' v' (nameRest l) ∧ ReaderAt w' R true v' 0 ∧ Chg (· = R) w w'

set_option maxRecDepth 100000 in
theorem get_reads {D : Nat → Prop} {R : Nat} {v : Value} {l : List UInt8} {w : World} (hl : l.length ≤ 140737488355328) (hv : BytesAt D w v l) (hDR : ¬ D R) (hR : ReaderAt w R true v 0) (hok : nameOk l = true) :
    Calls Try.prog 122 #[.pointer (some ⟨R, 0, none⟩)] w (GetOk D R l w) := by
  have hok' : errText l 16 = 0 ∧ isName (nameOf l) = true := by simpa [nameOk] using hok
  have h1 := rtext_reads (most := 16) hl hv hDR hR hok'.1
  have hnl : (nameOf l).length ≤ 9223372036854775807 := by have := name_len hok'.2; omega
  go_enter Try.func122, Try.ntmps122
  go_wp2_with fail
  refine h1.mono ?_
  rintro e w1 ⟨ao, cap, rfl, hby, v5, hv5, hR5, hch5⟩
  have hconv := conv_bytes hby
  change (convert 65 9 _).run Try.prog w1 = .ok (.string ⟨(nameOf l).toArray⟩) w1 at hconv
  change BytesAt D w1 v5 (nameRest l) at hv5
  have HN := hok'.2
  clear hok hok' hby h1
  have HG : Hid (GetOk D R l w (.returned (.string ⟨(nameOf l).toArray⟩)) w1) := hid ⟨rfl, v5, hv5, hR5, hch5⟩
  clear hv5 hR5 hch5 hv hR
  generalize nameOf l = s at *
  go_wp2_with (go_at_call 123; refine (right_any s _ hnl).mono ?_; rintro e w' ⟨rfl, rfl⟩; rw [HN])
  go_ret
  exact HG.out

end Go.Proofs.Ytjaplnainlbldaa

/- The contract of the document's Get (layer 3), and what End says then. -/
namespace Go.Proofs.Ytjaplnainlbldaa
open Go.RowKit

end Go.Proofs.Ytjaplnainlbldaa

/- The contracts of the document's Bytes and Get of layer 4. -/
namespace Go.Proofs.Ytjaplnainlbldaa
open Go.RowKit

/-- A role's bytes. -/
def roleEnc (r : RoleB) : List UInt8 := (enc r.1.length ++ r.1) ++ (enc r.2.length ++ r.2)

end Go.Proofs.Ytjaplnainlbldaa

/- The document's tape behind an error: nothing more comes; its Get of a name, told by nameOk. -/
namespace Go.Proofs.Ytjaplnainlbldaa
open Go.RowKit

end Go.Proofs.Ytjaplnainlbldaa

/- The contract of the document's Get of layer 4. -/
namespace Go.Proofs.Ytjaplnainlbldaa
open Go.RowKit

/-- The role that comes next, what is left behind it, the error there. -/
def roleOk (l : List UInt8) : Bool := nameOk l && nameOk (nameRest l)
def roleOf (l : List UInt8) : RoleB := (nameOf l, nameOf (nameRest l))
def roleRest (l : List UInt8) : List UInt8 := nameRest (nameRest l)
theorem nameRest_len (l : List UInt8) : (nameRest l).length ≤ l.length := by
  unfold nameRest
  simp

end Go.Proofs.Ytjaplnainlbldaa

/- The contracts of the program's Right, Text, Put, Get of layer 4. -/
namespace Go.Proofs.Ytjaplnainlbldaa
open Go.RowKit

theorem role_len {r : RoleB} (h : isRole r = true) : r.1.length ≤ 16 ∧ r.2.length ≤ 16 := by
  simp only [isRole, Bool.and_eq_true] at h
  exact ⟨(isName_len h.1).2, (isName_len h.2).2⟩

theorem pright (r : RoleB) (w : World) (h1 : r.1.length ≤ 9223372036854775807) (h2 : r.2.length ≤ 9223372036854775807) :
    Calls Try.prog 117 #[roleV r] w fun e w' => e = .returned (.bool (isRole r)) ∧ Chg (fun _ => False) w w' := by
  obtain ⟨o, x⟩ := r
  have hc : Chg (fun _ => False) w (w.alloc (.cells #[.string ⟨o.toArray⟩, .string ⟨x.toArray⟩] 24)) := (Chg.refl _ w).alloc _
  have HC := hid hc
  clear hc
  show Calls Try.prog 117 #[.agg #[.string ⟨o.toArray⟩, .string ⟨x.toArray⟩]] w _
  cases ho : isName o with
  | false =>
    have hh : Hid (isRole (o, x) = false) := hid (by simp [isRole, ho])
    go_enter Try.func117, Try.ntmps117
    go_wp2_with fail
    refine (right_any o _ h1).mono ?_
    rintro e w' ⟨rfl, rfl⟩
    rw [ho]
    go_wp2
    go_ret
    exact ⟨by rw [hh.out]; rfl, HC.out⟩
  | true =>
    have hh : Hid (isRole (o, x) = isName x) := hid (by simp [isRole, ho])
    go_enter Try.func117, Try.ntmps117
    go_wp2_with fail
    refine (right_any o _ h1).mono ?_
    rintro e w' ⟨rfl, rfl⟩
    rw [ho]
    go_wp2_with fail
    refine (right_any x _ h2).mono ?_
    rintro e w' ⟨rfl, rfl⟩
    go_wp2
    go_ret
    exact ⟨by rw [hh.out]; rfl, HC.out⟩

set_option maxRecDepth 100000 in
theorem pput_yes (B P cap : Nat) (ao : Option Addr) (zs : List UInt8) (r : RoleB) (w : World) (hp : PenAt B w P ao cap zs) (hB : B ≤ w.heap.size) (hPB : P < B) (hx : zs.length ≤ 999000) (hn : isRole r = true) :
    Calls Try.prog 95 #[.pointer (some ⟨P, 0, none⟩), roleV r] w fun e w' => e = .returned (.bool true) ∧ PenPost B P ao (zs ++ roleEnc r) w w' := by
  obtain ⟨o, x⟩ := r
  have hl := role_len hn
  have hn2 : isName o = true ∧ isName x = true := by simpa [isRole] using hn
  dsimp only at hl
  have hc : Chg (fun _ => False) w (w.alloc (.cells #[.string ⟨o.toArray⟩, .string ⟨x.toArray⟩] 24)) := (Chg.refl _ w).alloc _
  have hA := heap_alloc_new w (.cells #[.string ⟨o.toArray⟩, .string ⟨x.toArray⟩] 24)
  have hPl := lt_blk hp.cell
  have hrow0 : ∀ k, rowOf ao = some k → B ≤ k ∧ k < w.heap.size := fun k hk => hp.row.lt k ((rowOf_block _ _ _).trans hk)
  have hp1 := hp.keep hc id (fun _ _ => id)
  show Calls Try.prog 95 #[.pointer (some ⟨P, 0, none⟩), .agg #[.string ⟨o.toArray⟩, .string ⟨x.toArray⟩]] w _
  go_enter Try.func95, Try.ntmps95
  go_wp2_with fail
  refine (pright (o, x) _ (by show o.length ≤ _; omega) (by show x.length ≤ _; omega)).mono ?_
  rintro e w1 ⟨rfl, hc1⟩
  rw [hn]
  have hA1 := blk_keep hA hc1 id
  have hp2 := hp1.keep hc1 id (fun _ _ => id)
  have hcw := hc.trans hc1 (fun _ _ h => h)
  have a0 := cell_blk hA1 0
  simp only [List.getElem?_toArray, List.getElem?_cons_zero] at a0
  clear hc hc1 hA hp1
  have hs1 := hcw.size
  go_wp2_with fail
  refine (put_yes B P cap ao zs o w1 hp2 (by omega) hPB (by omega) hn2.1).mono ?_
  rintro e w2 ⟨rfl, ao2, cap2, hp3, hch⟩
  have hA2 := blk_keep hA1 hch.chg (fun h => h.elim (fun h => by omega) (fun h => by have := (hrow0 _ h).2; omega))
  have hs2 := hch.chg.size
  have a1 := cell_blk hA2 1
  simp only [List.getElem?_toArray, List.getElem?_cons_zero, List.getElem?_cons_succ] at a1
  have hel : (enc o.length ++ o).length ≤ 32 := by rw [enc_small (by omega)]; simp; omega
  clear a0 hA1 hp2 hA2
  go_wp2_with fail
  refine (put_yes B P cap2 ao2 (zs ++ (enc o.length ++ o)) x w2 hp3 (by omega) hPB (by rw [List.length_append]; omega) hn2.2).mono ?_
  rintro e w3 ⟨rfl, ao3, cap3, hp4, hch2⟩
  have HH := hid (And.intro hp4 (And.intro hch2 (And.intro hch hcw)))
  clear hp3 hp4 hch hch2 hcw a1
  go_wp2
  go_ret
  obtain ⟨h4, h5, h6, h7⟩ := HH.out
  refine ⟨rfl, ao3, cap3, by rw [List.append_assoc] at h4; exact h4, ?_⟩
  have h8 := h6.trans h5
  refine ⟨(h7.mono (fun _ _ h => h.elim)).trans h8.chg (fun i _ h => h), ?_⟩
  rcases h8.row with h | ⟨g, k1, k2⟩
  · exact .inl h
  · have := h7.size
    exact .inr ⟨g, k1, by omega⟩
/-- Get of a role, of an open reader. -/
def GetOkR (D : Nat → Prop) (R : Nat) (l : List UInt8) (w : World) (e : Ending) (w' : World) : Prop :=
  e = .returned (roleV (roleOf l)) ∧ ∃ v', BytesAt D w' v' (roleRest l) ∧ ReaderAt w' R true v' 0 ∧ Chg (· = R) w w'

set_option maxRecDepth 100000 in
theorem pget_reads {D : Nat → Prop} {R : Nat} {v : Value} {l : List UInt8} {w : World} (hl : l.length ≤ 140737488355328) (hv : BytesAt D w v l) (hDR : ¬ D R) (hDl : ∀ i, D i → i < w.heap.size) (hR : ReaderAt w R true v 0) (hok : roleOk l = true) :
    Calls Try.prog 98 #[.pointer (some ⟨R, 0, none⟩)] w (GetOkR D R l w) := by
  have hok' : nameOk l = true ∧ nameOk (nameRest l) = true := by simpa [roleOk] using hok
  have hl1 := nameRest_len l
  clear hok
  have hc0 : Chg (fun _ => False) w (w.alloc (.cells #[.string ⟨#[]⟩, .string ⟨#[]⟩] 24)) := (Chg.refl _ w).alloc _
  have hC := heap_alloc_new w (.cells #[.string ⟨#[]⟩, .string ⟨#[]⟩] 24)
  have hR0 : ReaderAt _ R true v 0 := blk_keep hR hc0 id
  have hRC : R < w.heap.size := lt_blk hR
  have hv0 := hv.keep hc0 (fun _ _ => id)
  go_enter Try.func98, Try.ntmps98
  go_wp2_with fail
  generalize w.alloc (.cells #[.string ⟨#[]⟩, .string ⟨#[]⟩] 24) = w1 at *
  generalize hCC : w.heap.size = C at *
  refine (get_reads hl hv0 hDR hR0 hok'.1).mono ?_
  rintro e w2 ⟨rfl, v2, hv2, hR2, hc2⟩
  have hC2 := blk_keep hC hc2 (by omega)
  go_wp2_with fail
  refine (get_reads (by omega) hv2 hDR hR2 hok'.2).mono ?_
  rintro e w3 ⟨rfl, v3, hv3, hR3, hc3⟩
  have hC3 := blk_keep hC2 hc3 (by omega)
  have q0 := cell_blk hC3 0
  have q1 := cell_blk hC3 1
  have f0 := froz_blk hC3 0
  have f1 := froz_blk hC3 1
  simp only [List.getElem?_toArray, List.getElem?_cons_zero, List.getElem?_cons_succ] at q0 q1
  have hcw : Chg (· = R) w w3 := ((hc0.mono (fun _ _ h => h.elim)).trans hc2 (fun _ _ h => h)).trans hc3 (fun _ _ h => h)
  have HR : Hid (roleOf l = (nameOf l, nameOf (nameRest l))) := rfl
  have HRR : Hid (roleRest l = nameRest (nameRest l)) := rfl
  clear hv hR hR0 hv0 hc0 hC hv2 hR2 hc2 hC2 hc3 hok'
  generalize nameOf l = o at *
  generalize nameOf (nameRest l) = x at *
  generalize nameRest (nameRest l) = rest at *
  have hs1 := setCell_chg w3 C 0 (.string ⟨o.toArray⟩)
  have hs2 := setCell_chg (w3.setCell ⟨C, 0, none⟩ (.string ⟨o.toArray⟩)) C 1 (.string ⟨x.toArray⟩)
  have hsR : ReaderAt ((w3.setCell ⟨C, 0, none⟩ (.string ⟨o.toArray⟩)).setCell ⟨C, 1, none⟩ (.string ⟨x.toArray⟩)) R true v3 0 := blk_keep (blk_keep hR3 hs1 (by omega)) hs2 (by omega)
  have hsv := (hv3.keep hs1 (fun i hi h => by have := hDl i hi; omega)).keep hs2 (fun i hi h => by have := hDl i hi; omega)
  have hch : Chg (· = R) w ((w3.setCell ⟨C, 0, none⟩ (.string ⟨o.toArray⟩)).setCell ⟨C, 1, none⟩ (.string ⟨x.toArray⟩)) := (hcw.trans hs1 (fun i hi h => by omega)).trans hs2 (fun i hi h => by omega)
  have hD : ((w3.setCell ⟨C, 0, none⟩ (.string ⟨o.toArray⟩)).setCell ⟨C, 1, none⟩ (.string ⟨x.toArray⟩)).heap[C]? = some (.cells #[.string ⟨o.toArray⟩, .string ⟨x.toArray⟩] 24 (0, 0)) := set_blk (set_blk hC3 0 (.string ⟨o.toArray⟩)) 1 (.string ⟨x.toArray⟩)
  have HH := hid (And.intro hD (And.intro hsv (And.intro hsR hch)))
  clear hs1 hs2 hsR hch hcw hR3 hv3 hC3 hD hsv
  go_wp2
  refine bodyPost_ret (results_cell_row (P := Try.prog) rfl _ _ C 24 _ (0, 0) _ rfl HH.out.1 Try.underlying24 rfl (by kernel_rfl)) rfl ?_
  exact ⟨by rw [HR.out]; rfl, v3, by rw [HRR.out]; exact HH.out.2.1, HH.out.2.2⟩

end Go.Proofs.Ytjaplnainlbldaa

/- Go's == at roles whose cells are told. -/
namespace Go.Proofs.Ytjaplnainlbldaa
open Go.RowKit

theorem run_eqg_role (x y : Operand) (a b : RoleB) (w : World) : Sem.run Try.prog (eqGuard BinOp.eql 24 x y (.agg #[.string ⟨a.1.toArray⟩, .string ⟨a.2.toArray⟩]) (.agg #[.string ⟨b.1.toArray⟩, .string ⟨b.2.toArray⟩])) w = .ok () w := by
  go_simp

theorem run_eql_role (a b : RoleB) (w : World) : Sem.run Try.prog (binOp BinOp.eql 24 (.agg #[.string ⟨a.1.toArray⟩, .string ⟨a.2.toArray⟩]) (.agg #[.string ⟨b.1.toArray⟩, .string ⟨b.2.toArray⟩])) w = .ok (.bool (decide (a = b))) w := by
  have : decide (a = b) = decide (a.1 = b.1 ∧ a.2 = b.2) := by simp only [Prod.ext_iff]
  rw [this]
  go_simp
  repeat' split
  all_goals simp_all
end Go.Proofs.Ytjaplnainlbldaa
