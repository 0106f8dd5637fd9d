/- Texts that the proof leans on, in one: PenMore, Num, Fail, RCut, RText, NmPut, NmGet, RefGet. -/
import Derived.Test.YtjaplnainlbldaaFc2
import Derived.Laws.AppendOwnNone
/- The contracts of a pen's Raw, Text and Bytes. -/
namespace Go.Proofs.Ytjaplnainlbldaa
open Go.RowKit

theorem pen_same {B P cap : Nat} {ao : Option Addr} {zs : List UInt8} {w : World} (hp : PenAt B w P ao cap zs) (hPB : P < B) : PenPost B P ao (zs ++ []) w (w.setCell ⟨P, 0, none⟩ (.slice ao zs.length cap)) := by
 rw [List.append_nil]
 exact ⟨ao, cap, ⟨set_blk hp.cell 0 _, ownsRow_setCell_below hp.row (by show P < B; exact hPB) _⟩, (Chg.refl _ w).setCell (p := ⟨P, 0, none⟩) (fun _ => .inl rfl) _, .inl rfl⟩

set_option maxRecDepth 100000 in
theorem raw_any {D : Nat → Prop} (B P cap : Nat) (ao : Option Addr) (zs l : List UInt8) (v : Value) (w : World) (hp : PenAt B w P ao cap zs) (hB : B ≤ w.heap.size) (hPB : P < B) (hx : zs.length + l.length ≤ 140737488355328) (hv : BytesAt D w v l) :
  Calls Try.prog 145 #[.pointer (some ⟨P, 0, none⟩), v] w fun e w' => e = .returned (.bool true) ∧ PenPost B P ao (zs ++ l) w w' := by
 obtain ⟨i0, hi, hz0, hz1, hz2⟩ := info_parts Try.info5
 have hc0 := cell_blk hp.cell 0
 have hf0 := froz_blk hp.cell 0
 simp only [List.getElem?_toArray, List.getElem?_cons_zero] at hc0
 rcases hv with ⟨ao1, cp, rfl, rfl, h00⟩ | ⟨b, off, c, rfl, h1, h2, h3, h4⟩
 ·cases ao1 with
  | none =>
   obtain rfl := h00 rfl
   go_enter Try.func145, Try.ntmps145
   go_wp2_with (at_builtin; refine wpList_append_own_none rfl (.tmp 11) (.tmp 12) 65 rfl B 5 i0 1 Try.underlying65 hi _ _ _ rfl hp.row rfl ?_)
   go_wp2
   go_ret
   exact ⟨rfl, by simpa using pen_same hp hPB⟩
  | some x =>
   go_enter Try.func145, Try.ntmps145
   go_wp2_with (at_builtin; refine wpList_append_own_at _ rfl (.tmp 11) (.tmp 12) 65 rfl B 5 i0 (.int .u8 0) 1 1 Try.underlying65 hi hz0 hz1 hz2 rfl (by decide) _ _ _ rfl hp.row x 0 cp [] rfl ?c0 ?c1 ?c2 ?c3 ?c4 ?c5 ?_)
   case c0 => simp
   case c1 =>
    intro j u hj
    simp at hj
   case c2 => simp
   case c3 => unfold maxLen; omega
   case c4 => omega
   case c5 => omega
   intro v' w1 hown hgrow _ hat
   obtain ⟨ao', cap', rfl, g0, g1, hp1, hch1⟩ := pen_grown (news := []) hp hPB (Chg.refl _ w) (by simpa using hown) hgrow hat (Nat.le_refl _)
   clear hown hgrow hat hc0 hf0
   go_wp2
   go_ret
   exact ⟨rfl, ao', cap', hp1, hch1⟩
 ·go_enter Try.func145, Try.ntmps145
  go_wp2_with (at_builtin; refine wpList_append_own_at _ rfl (.tmp 11) (.tmp 12) 65 rfl B 5 i0 (.int .u8 0) 1 1 Try.underlying65 hi hz0 hz1 hz2 rfl (by decide) _ _ _ rfl hp.row ⟨b, off, none⟩ l.length c (l.map cb) rfl ?c0 ?c1 ?c2 ?c3 ?c4 ?c5 ?_)
  case c0 => simp
  case c1 =>
   intro j u hj
   obtain ⟨hj1, rfl⟩ := cb_getElem? l j u hj
   rw [add_off]
   exact h4 j hj1
  case c2 => exact cb_one l
  case c3 => unfold maxLen; omega
  case c4 => omega
  case c5 => omega
  intro v' w1 hown hgrow _ hat
  obtain ⟨ao', cap', rfl, g0, g1, hp1, hch1⟩ := pen_grown (news := l) hp hPB (Chg.refl _ w) hown hgrow hat (Nat.le_refl _)
  clear hown hgrow hat hc0 hf0
  go_wp2
  go_ret
  exact ⟨rfl, ao', cap', hp1, hch1⟩

set_option maxRecDepth 100000 in
theorem text_any {D : Nat → Prop} (B P cap : Nat) (ao : Option Addr) (zs l : List UInt8) (v : Value) (w : World) (hp : PenAt B w P ao cap zs) (hB : B ≤ w.heap.size) (hPB : P < B) (hx : zs.length + l.length ≤ 140737488300000) (hl : l.length ≤ 2048) (hv : BytesAt D w v l)
  (hB' : ∀ i, D i → i ≠ P ∧ rowOf ao ≠ some i) :
  Calls Try.prog 124 #[.pointer (some ⟨P, 0, none⟩), v] w fun e w' => e = .returned (.bool true) ∧ PenPost B P ao (zs ++ (enc l.length ++ l)) w w' := by
 have he := enc_length9 (n := l.length) (by omega)
 have hlen : ∃ a c, v = .slice a l.length c := by
  exact hv.shape
 obtain ⟨a, c, rfl⟩ := hlen
 have h1 := pnum_any B P cap l.length ao zs w (by omega) hp hB hPB (by omega)
 have HL := hid (Int.le_of_lt_add_one (show (l.length : Int) < 2048 + 1 by omega))
 have hle : ¬ 2048 < (l.length : Int) := by omega
 go_enter Try.func124, Try.ntmps124
 go_wp2_with (first | (go_at_call 94; refine h1.mono ?_; rintro e w1 ⟨rfl, ao1, cap1, hp1, hch1⟩) | (go_at_call 145; refine (raw_any (D := D) B P _ _ _ l _ _ hp1 (Nat.le_trans hB hch1.chg.size) hPB (by simp only [List.length_append]; omega) (hv.keep hch1.chg (fun i hi h => h.elim (hB' i hi).1 (hB' i hi).2))).mono ?_; rintro e w2 ⟨rfl, ao2, cap2, hp2, hch2⟩))
 go_ret
 exact ⟨rfl, ao2, cap2, by rw [List.append_assoc] at hp2; exact hp2, hch1.trans hch2⟩

theorem bytes_any (B P cap : Nat) (ao : Option Addr) (zs : List UInt8) (w : World) (hp : PenAt B w P ao cap zs) (hx : zs.length ≤ 140737488355328) :
  Calls Try.prog 31 #[.pointer (some ⟨P, 0, none⟩)] w (Cloned zs w) := by
 have hc0 := cell_blk hp.cell 0
 simp only [List.getElem?_toArray, List.getElem?_cons_zero] at hc0
 have hcl := clone_any hx hp.bytes
 go_enter Try.func31, Try.ntmps31
 go_wp2_with (go_at_call 63; refine hcl.mono ?_; rintro e w1 ⟨ao1, cap1, rfl, hb1, hch1⟩)
 go_ret
 exact ⟨ao1, cap1, rfl, hb1, hch1⟩

/-- A new pen. -/
theorem pen_new (w : World) (B : Nat) : PenAt B (w.alloc (.cells #[.slice none 0 0] 67)) w.heap.size none 0 [] :=
 ⟨heap_alloc_new w _, World.ownsRow_nil _ _ _ _⟩

/-- A pen's call turns nothing that was there ahead of the pen. -/
theorem pchg_new {B P : Nat} {w wk w' : World} {ao ao' : Option Addr} {cap : Nat} {xs : List UInt8} (hc : Chg (fun _ => False) w wk) (hp : PenAt B wk P ao cap xs) (hPB : P < B) (hP : w.heap.size ≤ P) (h : PChg P ao wk ao' w') : Chg (fun _ => False) w w' := by
 refine hc.trans h.chg ?_
 rintro i hi (e | e)
 ·omega
 ·have := (hp.row.lt i ((rowOf_block _ _ _).trans e)).1
  omega

end Go.Proofs.Ytjaplnainlbldaa

/- The contract of tape.number. -/
namespace Go.Proofs.Ytjaplnainlbldaa
open Go.RowKit

end Go.Proofs.Ytjaplnainlbldaa

/- The contracts of a reader's ended and Fail. -/
namespace Go.Proofs.Ytjaplnainlbldaa
open Go.RowKit

end Go.Proofs.Ytjaplnainlbldaa

/- A reader, cut; what an error leaves. -/
namespace Go.Proofs.Ytjaplnainlbldaa
open Go.RowKit

end Go.Proofs.Ytjaplnainlbldaa

/- The contract of a reader's Text. -/
namespace Go.Proofs.Ytjaplnainlbldaa
open Go.RowKit

end Go.Proofs.Ytjaplnainlbldaa

/- The contracts of the program's Put and Get. -/
namespace Go.Proofs.Ytjaplnainlbldaa
open Go.RowKit

theorem name_len {s : List UInt8} (hn : isName s = true) : 0 < s.length ∧ s.length ≤ 16 := by
 cases s with
 | nil => cases hn
 | cons c l =>
  simp only [isName, Bool.and_eq_true, decide_eq_true_eq] at hn
  simp
  omega

set_option maxRecDepth 100000 in
theorem put_yes (B P cap : Nat) (ao : Option Addr) (zs s : List UInt8) (w : World) (hp : PenAt B w P ao cap zs) (hB : B ≤ w.heap.size) (hPB : P < B) (hx : zs.length ≤ 1000000) (hn : isName s = true) :
  Calls Try.prog 105 #[.pointer (some ⟨P, 0, none⟩), .string ⟨s.toArray⟩] w fun e w' => e = .returned (.bool true) ∧ PenPost B P ao (zs ++ (enc s.length ++ s)) w w' := by
 have hl := name_len hn
 have hcv := conv_str s w
 have hg1 := grownCap_ge w s.length 0 5
 have hg2 := grownCap_le_maxLen w s.length 0 5 (by unfold maxLen; omega)
 have hba := bytes_of s w.drew (grownCap w s.length 0 5) hg1 hg2 ((bytesRow ⟨s.toArray⟩ (grownCap w s.length 0 5)).size, (bytesRow ⟨s.toArray⟩ (grownCap w s.length 0 5)).size + 1)
 have hPw := lt_blk hp.cell
 have hrow : ∀ k, rowOf ao = some k → k < w.heap.size := fun k hk => (hp.row.lt k ((rowOf_block _ _ _).trans hk)).2
 have hc3 : Chg (fun _ => False) w (w.drew.alloc (.cells (bytesRow ⟨s.toArray⟩ (grownCap w s.length 0 5)) 5 ((bytesRow ⟨s.toArray⟩ (grownCap w s.length 0 5)).size, (bytesRow ⟨s.toArray⟩ (grownCap w s.length 0 5)).size + 1))) := ((Chg.refl _ w).drew).alloc _
 have hp3 := hp.keep hc3 id (fun _ _ => id)
 have hs3 := hc3.size
 have htx := text_any B P cap ao zs s _ _ hp3 (by omega) hPB (by omega) (by omega) hba (fun i hi => by subst hi; exact ⟨by show w.heap.size ≠ P; omega, fun e => by have := hrow _ e; exact absurd this (Nat.lt_irrefl _)⟩)
 have HC := hid hc3
 clear hc3 hp3 hba hg1 hg2 hs3 hrow hp
 go_enter Try.func105, Try.ntmps105
 go_wp2_with (first
  | (go_at_call 123; refine (right_any s _ (by omega)).mono ?_; rintro e w' ⟨rfl, rfl⟩; rw [hn])
  | (go_at_call 124; refine htx.mono ?_; rintro e w' ⟨rfl, ao', cap', hp', hch⟩))
 go_ret
 refine ⟨rfl, ao', cap', hp', ⟨(HC.out.mono (fun _ _ h => h.elim)).trans hch.chg (fun i _ h => h), ?_⟩⟩
 rcases hch.row with h | ⟨g, h1, h2⟩
 ·exact .inl h
 ·have := HC.out.size
  exact .inr ⟨g, h1, by omega⟩
end Go.Proofs.Ytjaplnainlbldaa

/- The contract of the program's Get, of an open reader and of none. -/
namespace Go.Proofs.Ytjaplnainlbldaa
open Go.RowKit

/-- The text that comes next, what is left behind it; the error there. -/
def nameOf (l : List UInt8) : List UInt8 := (l.drop (numN 9 l 0 0).2.1).take (numN 9 l 0 0).1
def nameRest (l : List UInt8) : List UInt8 := l.drop ((numN 9 l 0 0).2.1 + (numN 9 l 0 0).1)
def nameBad (l : List UInt8) : Nat := if errText l 16 = 0 then 30 else errText l 16
def nameOk (l : List UInt8) : Bool := decide (errText l 16 = 0) && isName (nameOf l)

end Go.Proofs.Ytjaplnainlbldaa

/- The contract of the document's Get (layer 3), and what End says then. -/
namespace Go.Proofs.Ytjaplnainlbldaa
open Go.RowKit

end Go.Proofs.Ytjaplnainlbldaa
