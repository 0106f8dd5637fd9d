/- Texts that the proof leans on, in one: PenMore, Num, Fail, RCut, RText. -/
import Derived.Test.YtcdjjengkdbngaaKc5
import Derived.Laws.AppendOwnNone
/- The contracts of a pen's Raw, Text and Bytes. -/
namespace Go.Proofs.Ytcdjjengkdbngaa
open Go.RowKit

theorem pen_same {B P cap : Nat} {ao : Option Addr} {zs : List UInt8} {w : World} (hp : PenAt B w P ao cap zs) (hPB : P < B) : PenPost B P ao (zs ++ []) w (w.setCell ⟨P, 0, none⟩ (.slice ao zs.length cap)) := by
  rw [List.append_nil]
  exact ⟨ao, cap, ⟨set_blk hp.cell 0 _, ownsRow_setCell_below hp.row (by show P < B; exact hPB) _⟩, (Chg.refl _ w).setCell (p := ⟨P, 0, none⟩) (fun _ => .inl rfl) _, .inl rfl⟩

set_option maxRecDepth 100000 in
theorem raw_any {D : Nat → Prop} (B P cap : Nat) (ao : Option Addr) (zs l : List UInt8) (v : Value) (w : World) (hp : PenAt B w P ao cap zs) (hB : B ≤ w.heap.size) (hPB : P < B) (hx : zs.length + l.length ≤ 140737488355328) (hv : BytesAt D w v l) :
    Calls Try.prog 53 #[.pointer (some ⟨P, 0, none⟩), v] w fun e w' => e = .returned (.bool true) ∧ PenPost B P ao (zs ++ l) w w' := by
  obtain ⟨i0, hi, hz0, hz1, hz2⟩ := info_parts Try.info5
  have hc0 := cell_blk hp.cell 0
  have hf0 := froz_blk hp.cell 0
  simp only [List.getElem?_toArray, List.getElem?_cons_zero] at hc0
  rcases hv with ⟨ao1, cp, rfl, rfl, h00⟩ | ⟨b, off, c, rfl, h1, h2, h3, h4⟩
  · cases ao1 with
    | none =>
      obtain rfl := h00 rfl
      go_enter Try.func53, Try.ntmps53
      go_wp2_with (at_builtin; refine wpList_append_own_none rfl (.tmp 11) (.tmp 12) 61 rfl B 5 i0 1 Try.underlying61 hi _ _ _ rfl hp.row rfl ?_)
      go_wp2
      go_ret
      exact ⟨rfl, by simpa using pen_same hp hPB⟩
    | some x =>
      go_enter Try.func53, Try.ntmps53
      go_wp2_with (at_builtin; refine wpList_append_own_at _ rfl (.tmp 11) (.tmp 12) 61 rfl B 5 i0 (.int .u8 0) 1 1 Try.underlying61 hi hz0 hz1 hz2 rfl (by decide) _ _ _ rfl hp.row x 0 cp [] rfl ?c0 ?c1 ?c2 ?c3 ?c4 ?c5 ?_)
      case c0 => simp
      case c1 =>
        intro j u hj
        simp at hj
      case c2 => simp
      case c3 => unfold maxLen; omega
      case c4 => omega
      case c5 => omega
      intro v' w1 hown hgrow _ hat
      obtain ⟨ao', cap', rfl, g0, g1, hp1, hch1⟩ := pen_grown (news := []) hp hPB (Chg.refl _ w) (by simpa using hown) hgrow hat (Nat.le_refl _)
      clear hown hgrow hat hc0 hf0
      go_wp2
      go_ret
      exact ⟨rfl, ao', cap', hp1, hch1⟩
  · go_enter Try.func53, Try.ntmps53
    go_wp2_with (at_builtin; refine wpList_append_own_at _ rfl (.tmp 11) (.tmp 12) 61 rfl B 5 i0 (.int .u8 0) 1 1 Try.underlying61 hi hz0 hz1 hz2 rfl (by decide) _ _ _ rfl hp.row ⟨b, off, none⟩ l.length c (l.map cb) rfl ?c0 ?c1 ?c2 ?c3 ?c4 ?c5 ?_)
    case c0 => simp
    case c1 =>
      intro j u hj
      obtain ⟨hj1, rfl⟩ := cb_getElem? l j u hj
      rw [add_off]
      exact h4 j hj1
    case c2 => exact cb_one l
    case c3 => unfold maxLen; omega
    case c4 => omega
    case c5 => omega
    intro v' w1 hown hgrow _ hat
    obtain ⟨ao', cap', rfl, g0, g1, hp1, hch1⟩ := pen_grown (news := l) hp hPB (Chg.refl _ w) hown hgrow hat (Nat.le_refl _)
    clear hown hgrow hat hc0 hf0
    go_wp2
    go_ret
    exact ⟨rfl, ao', cap', hp1, hch1⟩

set_option maxRecDepth 100000 in
theorem text_any {D : Nat → Prop} (B P cap : Nat) (ao : Option Addr) (zs l : List UInt8) (v : Value) (w : World) (hp : PenAt B w P ao cap zs) (hB : B ≤ w.heap.size) (hPB : P < B) (hx : zs.length + l.length ≤ 140737488300000) (hl : l.length ≤ 2048) (hv : BytesAt D w v l)
    (hB' : ∀ i, D i → i ≠ P ∧ rowOf ao ≠ some i) :
    Calls Try.prog 88 #[.pointer (some ⟨P, 0, none⟩), v] w fun e w' => e = .returned (.bool true) ∧ PenPost B P ao (zs ++ (enc l.length ++ l)) w w' := by
  have he := enc_length9 (n := l.length) (by omega)
  have hlen : ∃ a c, v = .slice a l.length c := by
    exact hv.shape
  obtain ⟨a, c, rfl⟩ := hlen
  have h1 := pnum_any B P cap l.length ao zs w (by omega) hp hB hPB (by omega)
  have HL := hid (Int.le_of_lt_add_one (show (l.length : Int) < 2048 + 1 by omega))
  have hle : ¬ 2048 < (l.length : Int) := by omega
  go_enter Try.func88, Try.ntmps88
  go_wp2_with (first | (go_at_call 52; refine h1.mono ?_; rintro e w1 ⟨rfl, ao1, cap1, hp1, hch1⟩) | (go_at_call 53; refine (raw_any (D := D) B P _ _ _ l _ _ hp1 (Nat.le_trans hB hch1.chg.size) hPB (by simp only [List.length_append]; omega) (hv.keep hch1.chg (fun i hi h => h.elim (hB' i hi).1 (hB' i hi).2))).mono ?_; rintro e w2 ⟨rfl, ao2, cap2, hp2, hch2⟩))
  go_ret
  exact ⟨rfl, ao2, cap2, by rw [List.append_assoc] at hp2; exact hp2, hch1.trans hch2⟩

theorem bytes_any (B P cap : Nat) (ao : Option Addr) (zs : List UInt8) (w : World) (hp : PenAt B w P ao cap zs) (hx : zs.length ≤ 140737488355328) :
    Calls Try.prog 28 #[.pointer (some ⟨P, 0, none⟩)] w (Cloned zs w) := by
  have hc0 := cell_blk hp.cell 0
  simp only [List.getElem?_toArray, List.getElem?_cons_zero] at hc0
  have hcl := clone_any hx hp.bytes
  go_enter Try.func28, Try.ntmps28
  go_wp2_with (go_at_call 58; refine hcl.mono ?_; rintro e w1 ⟨ao1, cap1, rfl, hb1, hch1⟩)
  go_ret
  exact ⟨ao1, cap1, rfl, hb1, hch1⟩

/-- A new pen. -/
theorem pen_new (w : World) (B : Nat) : PenAt B (w.alloc (.cells #[.slice none 0 0] 63)) w.heap.size none 0 [] :=
  ⟨heap_alloc_new w _, World.ownsRow_nil _ _ _ _⟩

/-- A pen's call turns nothing that was there ahead of the pen. -/
theorem pchg_new {B P : Nat} {w wk w' : World} {ao ao' : Option Addr} {cap : Nat} {xs : List UInt8} (hc : Chg (fun _ => False) w wk) (hp : PenAt B wk P ao cap xs) (hPB : P < B) (hP : w.heap.size ≤ P) (h : PChg P ao wk ao' w') : Chg (fun _ => False) w w' := by
  refine hc.trans h.chg ?_
  rintro i hi (e | e)
  · omega
  · have := (hp.row.lt i ((rowOf_block _ _ _).trans e)).1
    omega

end Go.Proofs.Ytcdjjengkdbngaa

/- The contract of tape.number. -/
namespace Go.Proofs.Ytcdjjengkdbngaa
open Go.RowKit

def NumPost (l : List UInt8) (w : World) (e : Ending) (w' : World) : Prop :=
  e = .returned (.tuple #[.int .i64 (numN 9 l 0 0).1, .int .i64 (numN 9 l 0 0).2.1, .int .i64 (numN 9 l 0 0).2.2]) ∧ w = w'

theorem numPost_of {l : List UInt8} {w : World} {a b c : Int} {r : Nat × Nat × Nat} (h : Hid (numN 9 l 0 0 = r)) (h1 : a = r.1) (h2 : b = r.2.1) (h3 : c = r.2.2) :
    NumPost l w (.returned (.tuple #[.int .i64 a, .int .i64 b, .int .i64 c])) w := by
  subst h1; subst h2; subst h3
  unfold NumPost
  rw [h.out]
  exact ⟨rfl, rfl⟩

set_option maxRecDepth 100000 in
set_option maxHeartbeats 400000 in
theorem number_some (b off cap : Nat) (l : List UInt8) (w : World) (hl : l.length ≤ 9223372036854775807)
    (hc : ∀ i (h : i < l.length), w.cell? ⟨b, off + i, none⟩ = some (.int .u8 (l[i].toNat : Int))) :
    Calls Try.prog 90 #[.slice (some ⟨b, off, none⟩) l.length cap] w (NumPost l w) := by
  go_enter Try.func90, Try.ntmps90
  go_wp2
  go_loop [2, 3] (fun n i => ∃ k m : Nat, k ≤ 9 ∧ k ≤ l.length ∧ i = .int .i64 k ∧ n = .int .i64 m ∧ m < 128 ^ k ∧ Hid (numN 9 l 0 0 = numN (9 - k) (l.drop k) k m)) (fun _ i => 9 - (intOf i).toNat)
  case atStart => exact ⟨0, 0, by omega, by omega, rfl, rfl, by decide, rfl⟩
  case round =>
    obtain ⟨k, m, hk, hkl, rfl, rfl, hm, HS⟩ := hrel
    by_cases h9 : k < 9
    · by_cases hkk : k < l.length
      · have hcell := hc k hkk
        have hst := numN_step l k m h9 hkk
        have HT := HS.out.trans hst
        have HU : Hid (numN 9 l 0 0 = _) := HT
        clear HT hst HS
        go_wp2
        · have h0 : l[k].toNat = 0 := by assumption
          have h1 : (1 : Int) < (k : Int) + 1 := by assumption
          have hU := HU.out
          rw [if_pos ⟨h0, by omega⟩] at hU
          go_ret3
          exact numPost_of hU rfl rfl rfl
        · have h0 : l[k].toNat = 0 := by assumption
          have h1 : (k : Int) + 1 ≤ 1 := by assumption
          have hU := HU.out
          have hd := digit_or k m 0 h9 hm (by omega)
          rw [if_neg (by omega), if_pos (by omega)] at hU
          go_ret3
          refine numPost_of hU ?_ (by simp) rfl
          rw [h0]
          simpa using hd
        · have h0 : ¬ l[k].toNat = 0 := by assumption
          have h1 : (l[k].toNat : Int) < 128 := by assumption
          have hU := HU.out
          have hd := digit_or k m l[k].toNat h9 hm (UInt8.toNat_lt _)
          rw [if_neg (by omega), if_pos (by omega)] at hU
          go_ret3
          refine numPost_of hU ?_ (by simp) rfl
          rw [Nat.mod_eq_of_lt (by omega)] at hd
          exact hd
        · have h0 : ¬ l[k].toNat = 0 := by assumption
          have h1 : 128 ≤ (l[k].toNat : Int) := by assumption
          have hlt := UInt8.toNat_lt l[k]
          have hd := digit_or k m l[k].toNat h9 hm hlt
          have hU := HU.out
          rw [if_neg (by omega), if_neg (by omega)] at hU
          have e : l[k].toNat % 128 = l[k].toNat - 128 := by omega
          rw [e] at hd
          go_round
          case rel => exact ⟨k + 1, _, by omega, by omega, by go_num, congrArg _ hd, num_lt k m _ hm (by omega), hU⟩
          case measure => simp [intOf]; omega
      · have hkl2 : k = l.length := by omega
        subst hkl2
        have hU : Hid (numN 9 l 0 0 = (0, 0, 10)) := HS.out.trans (numN_end l _ m h9 (Nat.le_refl _))
        clear HS
        go_wp2
        go_ret3
        exact numPost_of hU rfl rfl rfl
    · have hk9 : k = 9 := by omega
      subst hk9
      have hU : Hid (numN 9 l 0 0 = (0, 0, 11)) := HS.out
      clear HS
      go_wp2
      go_ret3
      exact numPost_of hU rfl rfl rfl

set_option maxRecDepth 100000 in
theorem number_nil (ao : Option Addr) (cp : Nat) (w : World) : Calls Try.prog 90 #[.slice ao 0 cp] w (NumPost [] w) := by
  go_enter Try.func90, Try.ntmps90
  go_wp2
  go_loop [2, 3] (fun n i => i = .int .i64 0 ∧ n = .int .i64 0) (fun _ i => 9 - (intOf i).toNat)
  case atStart => exact ⟨rfl, rfl⟩
  case round =>
    obtain ⟨rfl, rfl⟩ := hrel
    go_wp2
    go_ret3
    exact ⟨rfl, rfl⟩

theorem number_any {D : Nat → Prop} {v : Value} {l : List UInt8} {w : World} (hl : l.length ≤ 9223372036854775807) (h : BytesAt D w v l) : Calls Try.prog 90 #[v] w (NumPost l w) := by
  rcases h with ⟨ao, cp, rfl, rfl, _⟩ | ⟨b, off, cap, rfl, h1, h2, h3, h4⟩
  · exact number_nil ao cp w
  · exact number_some b off cap l w hl h4

end Go.Proofs.Ytcdjjengkdbngaa

/- The contracts of a reader's ended and Fail. -/
namespace Go.Proofs.Ytcdjjengkdbngaa
open Go.RowKit

theorem ended_true (R : Nat) (w : World) (h0 : w.cell? ⟨R, 0, none⟩ = some (.bool true)) :
    Calls Try.prog 89 #[.pointer (some ⟨R, 0, none⟩)] w fun e w' => e = .returned (.bool false) ∧ w = w' := by
  go_enter Try.func89, Try.ntmps89
  go_wp2
  go_ret
  exact ⟨rfl, rfl⟩

theorem fail_ok (R : Nat) (w : World) (h0 : w.cell? ⟨R, 0, none⟩ = some (.bool true)) :
    Calls Try.prog 91 #[.pointer (some ⟨R, 0, none⟩), .int .i64 0] w fun e w' => e = .returned (.tuple #[]) ∧ w = w' := by
  go_enter Try.func91, Try.ntmps91
  go_wp2_with (go_at_call 89; refine (ended_true _ _ h0).mono ?_; rintro e w' ⟨rfl, rfl⟩)
  refine bodyPost_ret (results_none rfl _ _ _) rfl ?_
  exact ⟨rfl, rfl⟩

/-- The panic that ends an f. -/
def stopOf (R : Nat) : Value := .iface 114 (.agg #[.pointer (some ⟨R, 0, none⟩)])

theorem fail_stops (R : Nat) (e0 : Int) (_ : Value) (w : World) (he : (e0 == 0) = false) (h0 : w.cell? ⟨R, 0, none⟩ = some (.bool true)) (h2 : w.cell? ⟨R, 2, none⟩ = some (.int .i64 0)) (f2 : w.frozen? ⟨R, 2, none⟩ = false) :
    Calls Try.prog 91 #[.pointer (some ⟨R, 0, none⟩), .int .i64 e0] w fun e w' => e = .panicked [{ v := stopOf R, recovered := false }] ∧ w' = w.setCell ⟨R, 2, none⟩ (.int .i64 e0) := by
  go_enter Try.func91, Try.ntmps91
  go_wp2_with (go_at_call 89; refine (ended_true _ _ h0).mono ?_; rintro e w' ⟨rfl, rfl⟩)

  exact ⟨rfl, rfl, rfl⟩

end Go.Proofs.Ytcdjjengkdbngaa

/- A reader, cut; what an error leaves. -/
namespace Go.Proofs.Ytcdjjengkdbngaa
open Go.RowKit

/-- What a reader holds behind a slice of its bytes. -/
theorem reader_cut {D : Nat → Prop} {R b off cap k : Nat} {l : List UInt8} {w : World} {v0 : Value} (hb : D b) (hDR : ¬ D R) (hlc : l.length ≤ cap) (hcm : cap ≤ maxLen)
    (hc : ∀ i (h : i < l.length), w.cell? ⟨b, off + i, none⟩ = some (.int .u8 (l[i].toNat : Int))) (hR : ReaderAt w R true v0 0) (hk : k ≤ l.length) {o c : Nat} (h : (cap = k ∧ c = 0) ∨ (o = off + k ∧ c = cap - k)) :
    ∃ v', BytesAt D (w.setCell ⟨R, 1, none⟩ (.slice (some ⟨b, o, none⟩) (l.length - k) c)) v' (l.drop k) ∧
      ReaderAt (w.setCell ⟨R, 1, none⟩ (.slice (some ⟨b, o, none⟩) (l.length - k) c)) R true v' 0 ∧ Chg (· = R) w (w.setCell ⟨R, 1, none⟩ (.slice (some ⟨b, o, none⟩) (l.length - k) c)) := by
  have hch : Chg (· = R) w (w.setCell ⟨R, 1, none⟩ (.slice (some ⟨b, o, none⟩) (l.length - k) c)) := (Chg.refl (· = R) w).setCell (p := ⟨R, _, none⟩) (fun _ => rfl) _
  refine ⟨_, .inr ⟨b, o, c, by rw [List.length_drop], ?_, ?_, hb, ?_⟩, ?_, hch⟩
  · rw [List.length_drop]
    rcases h with ⟨h1, h3⟩ | ⟨h1, h2⟩ <;> omega
  · rcases h with ⟨h1, h3⟩ | ⟨h1, h2⟩ <;> omega
  · intro i hi
    rw [List.length_drop] at hi
    refine hch.cell ?_ (fun e => hDR (e ▸ hb))
    rcases h with ⟨h1, h3⟩ | ⟨h1, h2⟩
    · omega
    · have := hc (k + i) (by omega)
      rw [h1, Nat.add_assoc, this, List.getElem_drop]
  · have := set_blk hR 1 (.slice (some ⟨b, o, none⟩) (l.length - k) c)
    exact this

def Stops (R : Nat) (err : Int) (w : World) (e : Ending) (w' : World) : Prop :=
  e = .panicked [{ v := stopOf R, recovered := false }] ∧ ∃ ao m cp, ReaderAt w' R true (.slice ao m cp) err ∧ Chg (· = R) w w'

theorem reader_stop {R : Nat} {w : World} {ao : Option Addr} {m cp : Nat} (hR : ReaderAt w R true (.slice ao m cp) 0) (err : Int) :
    Stops R err w (.panicked [{ v := stopOf R, recovered := false }]) (w.setCell ⟨R, 2, none⟩ (.int .i64 err)) :=
  ⟨rfl, ao, m, cp, set_blk hR 2 (.int .i64 err), (Chg.refl (· = R) w).setCell (p := ⟨R, _, none⟩) (fun _ => rfl) _⟩

theorem pair3 (r : Nat × Nat × Nat) {e : Nat} (h : r.2.2 = e) : r = (r.1, r.2.1, e) := by
  obtain ⟨a, b, c⟩ := r
  subst h
  rfl

end Go.Proofs.Ytcdjjengkdbngaa

/- The contract of a reader's Text. -/
namespace Go.Proofs.Ytcdjjengkdbngaa
open Go.RowKit

/-- A text that is read: its bytes in new memory, the reader behind it. -/
def RTextOk (D : Nat → Prop) (R : Nat) (l : List UInt8) (n k : Nat) (w : World) (e : Ending) (w' : World) : Prop :=
  ∃ ao cap, e = .returned (.slice ao n cap) ∧ BytesAt (fun k => w.heap.size ≤ k ∧ k < w'.heap.size) w' (.slice ao n cap) ((l.drop k).take n) ∧ ∃ v', BytesAt D w' v' (l.drop (k + n)) ∧ ReaderAt w' R true v' 0 ∧ Chg (· = R) w w'

theorem cut_clone {R b off cap n k : Nat} {l : List UInt8} {w : World} (hl : l.length ≤ 140737488355328) (hbR : b ≠ R) (_ : l.length ≤ cap) (hcm : cap ≤ maxLen)
    (hc : ∀ i (h : i < l.length), w.cell? ⟨b, off + i, none⟩ = some (.int .u8 (l[i].toNat : Int))) (hk : k ≤ l.length) (hnl : n ≤ l.length - k) {o c : Nat} (ho : n = 0 ∨ o = off + k) (hcc : n ≤ c ∧ c ≤ cap) (u : Value) :
    Calls Try.prog 58 #[.slice (some ⟨b, o, none⟩) n c] (w.setCell ⟨R, 1, none⟩ u) (Cloned ((l.drop k).take n) (w.setCell ⟨R, 1, none⟩ u)) := by
  have hlen : ((l.drop k).take n).length = n := by simp; omega
  have hch : Chg (· = R) w (w.setCell ⟨R, 1, none⟩ u) := (Chg.refl (· = R) w).setCell (p := ⟨R, _, none⟩) (fun _ => rfl) _
  refine clone_any (D := fun _ => True) (by omega) (.inr ⟨b, o, c, by rw [hlen], by omega, by omega, trivial, fun i hi => ?_⟩)
  rw [hlen] at hi
  refine hch.cell ?_ (by show ¬ b = R; exact hbR)
  rcases ho with h | rfl
  · omega
  · rw [Nat.add_assoc, hc (k + i) (by omega)]
    simp

theorem text_close {D : Nat → Prop} {R b off cap n k : Nat} {l : List UInt8} {w w1 : World} {v0 : Value} {ao : Option Addr} {cap' : Nat} (hb : D b) (hDR : ¬ D R) (hlc : l.length ≤ cap) (hcm : cap ≤ maxLen)
    (hc : ∀ i (h : i < l.length), w.cell? ⟨b, off + i, none⟩ = some (.int .u8 (l[i].toNat : Int))) (hR : ReaderAt w R true v0 0) (hk : k ≤ l.length) (hnl : n ≤ l.length - k) {o c m : Nat} (hm : m = l.length - (k + n)) (h : (cap = k + n ∧ c = 0) ∨ (o = off + (k + n) ∧ c = cap - (k + n)))
    (hcl : BytesAt (fun k => (w.setCell ⟨R, 1, none⟩ (.slice (some ⟨b, o, none⟩) m c)).heap.size ≤ k ∧ k < w1.heap.size) w1 (.slice ao n cap') ((l.drop k).take n)) (hch : Chg (fun _ => False) (w.setCell ⟨R, 1, none⟩ (.slice (some ⟨b, o, none⟩) m c)) w1) :
    RTextOk D R l n k w (.returned (.slice ao n cap')) w1 := by
  subst hm
  obtain ⟨v', h1, h2, h3⟩ := reader_cut (k := k + n) hb hDR hlc hcm hc hR (by omega) h
  exact ⟨ao, cap', rfl, hcl.mono (fun i hi => ⟨by have h := hi.1; simpa [World.setCell] using h, hi.2⟩), v', h1.keep hch (fun _ _ => id), (hch.block R (lt_blk h2) id).trans h2, h3.trans hch (fun _ _ h => h.elim)⟩

set_option maxRecDepth 100000 in
set_option maxHeartbeats 400000 in
theorem rtext_ok {D : Nat → Prop} (R b off cap : Nat) (l : List UInt8) (most : Int) (w : World) (hl : l.length ≤ 140737488355328) (hb : D b) (hDR : ¬ D R) (hlc : l.length ≤ cap) (hcm : cap ≤ maxLen)
    (hc : ∀ i (h : i < l.length), w.cell? ⟨b, off + i, none⟩ = some (.int .u8 (l[i].toNat : Int)))
    (hR : ReaderAt w R true (.slice (some ⟨b, off, none⟩) l.length cap) 0) (n k : Nat) (hN : Hid (numN 9 l 0 0 = (n, k, 0))) (hk : k ≤ l.length) (hn : (n : Int) ≤ most) (hnl : n ≤ l.length - k) :
    Calls Try.prog 93 #[.pointer (some ⟨R, 0, none⟩), .int .i64 most] w (RTextOk D R l n k w) := by
  have h0 := cell_blk hR 0
  have h1 := cell_blk hR 1
  have f1 := froz_blk hR 1
  simp only [List.getElem?_toArray, List.getElem?_cons_zero, List.getElem?_cons_succ] at h0 h1
  have hnum := number_some b off cap l w (by omega) hc
  have hlen : ((l.drop k).take n).length = n := by simp; omega
  have HL := hid hlen
  clear hlen
  by_cases hck : cap = k
  · obtain rfl : n = 0 := by omega
    obtain rfl : cap = k := hck
    have hcl := fun (o : Nat) u => cut_clone (R := R) (n := 0) (k := cap) (o := o) (c := 0) hl (fun e => hDR (e ▸ hb)) hlc hcm hc hk hnl (.inl rfl) (by omega) u
    go_enter Try.func93, Try.ntmps93
    go_wp2_with (first | (go_at_call 89; refine (ended_true _ _ h0).mono ?_; rintro e w' ⟨rfl, rfl⟩) | (go_at_call 90; refine hnum.mono ?_; rintro e w' ⟨rfl, rfl⟩; rw [hN.out]) | (go_at_call 91; refine (fail_ok _ _ h0).mono ?_; rintro e w' ⟨rfl, rfl⟩) | (go_at_call 58; refine (hcl _ _).mono ?_; rintro e w' ⟨ao, cap', rfl, hby, hch⟩))
    have hx := HL.out
    rw [hx] at hby
    go_ret
    exact text_close hb hDR hlc hcm hc hR hk hnl (by omega) (.inl ⟨rfl, rfl⟩) hby hch
  · have hcl := fun (c : Nat) (hcc : n ≤ c ∧ c ≤ cap) u => cut_clone (R := R) (n := n) (k := k) (o := off + k) (c := c) hl (fun e => hDR (e ▸ hb)) hlc hcm hc hk hnl (.inr rfl) hcc u
    by_cases hcn : cap - k = n
    · have hcd : cap - k - n = 0 := by omega
      go_enter Try.func93, Try.ntmps93
      go_wp2_with (first | (go_at_call 89; refine (ended_true _ _ h0).mono ?_; rintro e w' ⟨rfl, rfl⟩) | (go_at_call 90; refine hnum.mono ?_; rintro e w' ⟨rfl, rfl⟩; rw [hN.out]) | (go_at_call 91; refine (fail_ok _ _ h0).mono ?_; rintro e w' ⟨rfl, rfl⟩) | (go_at_call 58; refine (hcl _ (by omega) _).mono ?_; rintro e w' ⟨ao, cap', rfl, hby, hch⟩))
      have hx := HL.out
      rw [hx] at hby
      go_ret
      exact text_close hb hDR hlc hcm hc hR hk hnl (by omega) (.inl ⟨by omega, by omega⟩) hby hch
    · go_enter Try.func93, Try.ntmps93
      go_wp2_with (first | (go_at_call 89; refine (ended_true _ _ h0).mono ?_; rintro e w' ⟨rfl, rfl⟩) | (go_at_call 90; refine hnum.mono ?_; rintro e w' ⟨rfl, rfl⟩; rw [hN.out]) | (go_at_call 91; refine (fail_ok _ _ h0).mono ?_; rintro e w' ⟨rfl, rfl⟩) | (go_at_call 58; refine (hcl _ (by omega) _).mono ?_; rintro e w' ⟨ao, cap', rfl, hby, hch⟩))
      have hx := HL.out
      rw [hx] at hby
      go_ret
      exact text_close hb hDR hlc hcm hc hR hk hnl (by omega) (.inr ⟨by omega, by omega⟩) hby hch

set_option maxRecDepth 100000 in
set_option maxHeartbeats 400000 in
theorem rtext_long (R b off cap : Nat) (l : List UInt8) (most : Int) (w : World) (hl : l.length ≤ 140737488355328) (_ : l.length ≤ cap)
    (hc : ∀ i (h : i < l.length), w.cell? ⟨b, off + i, none⟩ = some (.int .u8 (l[i].toNat : Int)))
    (hR : ReaderAt w R true (.slice (some ⟨b, off, none⟩) l.length cap) 0) (n k : Nat) (hN : Hid (numN 9 l 0 0 = (n, k, 0))) (hk : k ≤ l.length) (hn : most < (n : Int)) :
    Calls Try.prog 93 #[.pointer (some ⟨R, 0, none⟩), .int .i64 most] w (Stops R 12 w) := by
  have h0 := cell_blk hR 0
  have h1 := cell_blk hR 1
  have h2 := cell_blk hR 2
  have f2 := froz_blk hR 2
  simp only [List.getElem?_toArray, List.getElem?_cons_zero, List.getElem?_cons_succ] at h0 h1 h2
  have hnum := number_some b off cap l w (by omega) hc
  go_enter Try.func93, Try.ntmps93
  go_wp2_with (first | (go_at_call 89; refine (ended_true _ _ h0).mono ?_; rintro e w' ⟨rfl, rfl⟩) | (go_at_call 90; refine hnum.mono ?_; rintro e w' ⟨rfl, rfl⟩; rw [hN.out]) | (go_at_call 91; refine (fail_stops _ _ undef _ (by decide) h0 h2 f2).mono ?_; rintro e w' ⟨rfl, rfl⟩))
  all_goals exact ⟨rfl, reader_stop hR 12⟩

set_option maxRecDepth 100000 in
set_option maxHeartbeats 400000 in
theorem rtext_short (R b off cap : Nat) (l : List UInt8) (most : Int) (w : World) (hl : l.length ≤ 140737488355328) (_ : l.length ≤ cap)
    (hc : ∀ i (h : i < l.length), w.cell? ⟨b, off + i, none⟩ = some (.int .u8 (l[i].toNat : Int)))
    (hR : ReaderAt w R true (.slice (some ⟨b, off, none⟩) l.length cap) 0) (n k : Nat) (hN : Hid (numN 9 l 0 0 = (n, k, 0))) (hk : k ≤ l.length) (hn : (n : Int) ≤ most) (hnl : l.length - k < n) :
    Calls Try.prog 93 #[.pointer (some ⟨R, 0, none⟩), .int .i64 most] w (Stops R 10 w) := by
  have h0 := cell_blk hR 0
  have h1 := cell_blk hR 1
  have h2 := cell_blk hR 2
  have f2 := froz_blk hR 2
  simp only [List.getElem?_toArray, List.getElem?_cons_zero, List.getElem?_cons_succ] at h0 h1 h2
  have hnum := number_some b off cap l w (by omega) hc
  go_enter Try.func93, Try.ntmps93
  go_wp2_with (first | (go_at_call 89; refine (ended_true _ _ h0).mono ?_; rintro e w' ⟨rfl, rfl⟩) | (go_at_call 90; refine hnum.mono ?_; rintro e w' ⟨rfl, rfl⟩; rw [hN.out]) | (go_at_call 91; refine (fail_stops _ _ undef _ (by decide) h0 h2 f2).mono ?_; rintro e w' ⟨rfl, rfl⟩))
  all_goals exact ⟨rfl, reader_stop hR 10⟩

set_option maxRecDepth 100000 in
set_option maxHeartbeats 400000 in
theorem rtext_bad {D : Nat → Prop} (R : Nat) (v : Value) (l : List UInt8) (most : Int) (w : World) (hl : l.length ≤ 140737488355328) (hv : BytesAt D w v l)
    (hR : ReaderAt w R true v 0) (err : Nat) (hN : Hid (numN 9 l 0 0 = (0, 0, err))) (he : ((err : Int) == 0) = false) (he2 : ((err : Int) != 0) = true) :
    Calls Try.prog 93 #[.pointer (some ⟨R, 0, none⟩), .int .i64 most] w (Stops R err w) := by
  have h0 := cell_blk hR 0
  have h1 := cell_blk hR 1
  have h2 := cell_blk hR 2
  have f2 := froz_blk hR 2
  simp only [List.getElem?_toArray, List.getElem?_cons_zero, List.getElem?_cons_succ] at h0 h1 h2
  have hnum := number_any (by omega) hv
  rcases hv with ⟨ao, cp, rfl, rfl, h00⟩ | ⟨b, off, cap, rfl, g1, g2, g3, g4⟩
  · cases ao with
    | none =>
      obtain rfl := h00 rfl
      go_enter Try.func93, Try.ntmps93
      go_wp2_with (first | (go_at_call 89; refine (ended_true _ _ h0).mono ?_; rintro e w' ⟨rfl, rfl⟩) | (go_at_call 90; refine hnum.mono ?_; rintro e w' ⟨rfl, rfl⟩; rw [hN.out]) | (go_at_call 91; refine (fail_stops _ _ undef _ he h0 h2 f2).mono ?_; rintro e w' ⟨rfl, rfl⟩))
      all_goals exact ⟨rfl, reader_stop hR err⟩
    | some x =>
      go_enter Try.func93, Try.ntmps93
      go_wp2_with (first | (go_at_call 89; refine (ended_true _ _ h0).mono ?_; rintro e w' ⟨rfl, rfl⟩) | (go_at_call 90; refine hnum.mono ?_; rintro e w' ⟨rfl, rfl⟩; rw [hN.out]) | (go_at_call 91; refine (fail_stops _ _ undef _ he h0 h2 f2).mono ?_; rintro e w' ⟨rfl, rfl⟩))
      all_goals exact ⟨rfl, reader_stop hR err⟩
  · go_enter Try.func93, Try.ntmps93
    go_wp2_with (first | (go_at_call 89; refine (ended_true _ _ h0).mono ?_; rintro e w' ⟨rfl, rfl⟩) | (go_at_call 90; refine hnum.mono ?_; rintro e w' ⟨rfl, rfl⟩; rw [hN.out]) | (go_at_call 91; refine (fail_stops _ _ undef _ he h0 h2 f2).mono ?_; rintro e w' ⟨rfl, rfl⟩))
    all_goals exact ⟨rfl, reader_stop hR err⟩

/-- Reader.Text, of an open reader: the text. -/
theorem rtext_reads {D : Nat → Prop} {R : Nat} {v : Value} {l : List UInt8} {most : Int} {w : World} (hl : l.length ≤ 140737488355328) (hv : BytesAt D w v l) (hDR : ¬ D R) (hR : ReaderAt w R true v 0) (he : errText l most = 0) :
    Calls Try.prog 93 #[.pointer (some ⟨R, 0, none⟩), .int .i64 most] w (RTextOk D R l (numN 9 l 0 0).1 (numN 9 l 0 0).2.1 w) := by
  have hz : (numN 9 l 0 0).2.2 = 0 := by
    unfold errText at he
    by_cases h : (numN 9 l 0 0).2.2 = 0
    · exact h
    · rw [if_neg h] at he
      exact he
  have hm : ((numN 9 l 0 0).1 : Int) ≤ most ∧ (numN 9 l 0 0).1 ≤ l.length - (numN 9 l 0 0).2.1 := by
    unfold errText at he
    rw [if_pos hz] at he
    by_cases h : most < ((numN 9 l 0 0).1 : Int)
    · rw [if_pos h] at he
      omega
    · rw [if_neg h] at he
      by_cases h' : l.length - (numN 9 l 0 0).2.1 < (numN 9 l 0 0).1
      · rw [if_pos h'] at he
        omega
      · omega
  obtain ⟨k1, k2, k3⟩ := numN_ok hz
  rcases hv with ⟨ao, cp, rfl, rfl, h0⟩ | ⟨b, off, cap, rfl, h1, h2, h3, h4⟩
  · simp at k2
    omega
  · exact rtext_ok R b off cap l most w hl h3 hDR h1 h2 h4 hR _ _ (pair3 _ hz) k2 hm.1 hm.2

/-- Reader.Text, of an open reader: the error. -/
theorem rtext_stops {D : Nat → Prop} {R : Nat} {v : Value} {l : List UInt8} {most : Int} {w : World} (hl : l.length ≤ 140737488355328) (hv : BytesAt D w v l) (hR : ReaderAt w R true v 0) (he : errText l most ≠ 0) :
    Calls Try.prog 93 #[.pointer (some ⟨R, 0, none⟩), .int .i64 most] w (Stops R (errText l most) w) := by
  by_cases hz : (numN 9 l 0 0).2.2 = 0
  · obtain ⟨k1, k2, k3⟩ := numN_ok hz
    rcases hv with ⟨ao, cp, rfl, rfl, h0⟩ | ⟨b, off, cap, rfl, h1, h2, h3, h4⟩
    · simp at k2
      omega
    · by_cases h : most < ((numN 9 l 0 0).1 : Int)
      · have e : errText l most = 12 := by
          unfold errText
          rw [if_pos hz, if_pos h]
        rw [e]
        exact rtext_long R b off cap l most w hl h1 h4 hR _ _ (pair3 _ hz) k2 h
      · by_cases h' : l.length - (numN 9 l 0 0).2.1 < (numN 9 l 0 0).1
        · have e : errText l most = 10 := by
            unfold errText
            rw [if_pos hz, if_neg h, if_pos h']
          rw [e]
          exact rtext_short R b off cap l most w hl h1 h4 hR _ _ (pair3 _ hz) k2 (by omega) h'
        · exfalso
          apply he
          unfold errText
          rw [if_pos hz, if_neg h, if_neg h']
  · have e : errText l most = (numN 9 l 0 0).2.2 := by
      unfold errText
      rw [if_neg hz]
    obtain ⟨b1, b2, b3⟩ := numN_bad hz
    rw [e]
    refine rtext_bad R v l most w hl hv hR _ ?_ (by simpa using hz) (by simpa using hz)
    have := pair3 (numN 9 l 0 0) rfl
    rw [b2, b3] at this
    exact this

end Go.Proofs.Ytcdjjengkdbngaa
