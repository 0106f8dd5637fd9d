/- Texts that the proof leans on, in one: Clone, Pen, PenMore, Num, Fail, RCut. -/
import Derived.Test.YtmmkopdcbiiedaaKb6
import Derived.Test.YtmmkopdcbiiedaaKb5
import Derived.Maps.AppendAt
import Derived.Laws.AppendOwnNone
/- The contract of bytes.Clone. -/
namespace Go.Proofs.Ytmmkopdcbiiedaa
open Go.RowKit

theorem eql25 : ∀ (w : World) (a : Option Addr) (n c n' c' : Nat), (binOp .eql 45 (.slice a n c) (.slice none n' c')).run Try.prog w = .ok (.bool a.isNone) w :=
  fun w a n c n' c' => Lib.run_eql_slice_nil w _ _ a n c n' c' Try.underlying45

theorem clone_nil (w : World) : Calls Try.prog 50 #[.slice none 0 0] w fun e w' => e = .returned (.slice none 0 0) ∧ w = w' := by
  have q := eql25
  go_enter Try.func50, Try.ntmps50
  go_wp2
  go_ret
  exact ⟨rfl, rfl⟩

def Cloned (l : List UInt8) (w : World) (e : Ending) (w' : World) : Prop :=
  ∃ ao cap, e = .returned (.slice ao l.length cap) ∧ BytesAt (fun k => w.heap.size ≤ k ∧ k < w'.heap.size) w' (.slice ao l.length cap) l ∧ Chg (fun _ => False) w w'

/-- A slice of bytes that the call owns can be read. -/
theorem owns_bytes {B : Nat} {w : World} {v : Value} {l : List UInt8} (h : w.ownsRow B 5 1 v l.length (l.map cb)) : ∃ ao cap, v = .slice ao l.length cap ∧ BytesAt (fun k => B ≤ k ∧ k < w.heap.size) w (.slice ao l.length cap) l := by
  rcases h.2 with ⟨rfl, h0⟩ | ⟨g, cap, cur, rfl, hg, hh, h1, h2, h3, h4⟩
  · have : l = [] := List.eq_nil_of_length_eq_zero h0
    subst this
    exact ⟨none, 0, rfl, BytesAt.nil _ _⟩
  · refine ⟨_, _, rfl, .inr ⟨g, 0, cap, rfl, h1, h2, ⟨hg, lt_blk hh⟩, fun i hi => ?_⟩⟩
    have hcell := h.cells (g := g) rfl i (cb l[i]) (by simp [hi])
    rw [add_off] at hcell
    exact hcell

set_option maxRecDepth 100000 in
theorem clone_some (b off cap : Nat) (l : List UInt8) (w : World) (hl : l.length ≤ 140737488355328)
    (hc : ∀ i (h : i < l.length), w.cell? ⟨b, off + i, none⟩ = some (.int .u8 (l[i].toNat : Int))) :
    Calls Try.prog 50 #[.slice (some ⟨b, off, none⟩) l.length cap] w (Cloned l w) := by
  obtain ⟨i0, hi, hz0, hz1, hz2⟩ := info_parts Try.info5
  have q := eql25
  go_enter Try.func50, Try.ntmps50
  go_wp2_with (at_builtin; refine wpList_append_own _ rfl (.tmp 5) (.tmp 6) 45 rfl w.heap.size 5 i0 (.int .u8 0) 1 1 Try.underlying45 hi hz0 hz1 hz2 rfl (by decide) _ 0 [] rfl (World.ownsRow_made w #[] 0 (Nat.le_refl _) (by decide) rfl) ⟨b, off, none⟩ l.length cap (l.map cb) rfl (by simp) ?c1 ?c2 ?c3 ?c4 ?c5 ?_)
  case c1 =>
    intro j u hj
    obtain ⟨hj1, rfl⟩ := cb_getElem? l j u hj
    have hcj := hc j hj1
    have hb := World.block_lt_of_cell? w _ hcj
    rw [add_off, World.cell?_alloc_past _ _ _ hb]
    exact hcj
  case c2 => exact cb_one l
  case c3 => unfold maxLen; omega
  case c4 => omega
  case c5 => simp
  intro v' w1 hown hgrow _
  have hown2 : w1.ownsRow w.heap.size 5 1 v' l.length (l.map cb) := by simpa using hown
  clear hown
  obtain ⟨ao, cap', rfl, hby⟩ := owns_bytes hown2
  have hch : Chg (fun _ => False) w w1 := ((Chg.refl _ w).alloc _).grown hgrow (fun k e hk => by simp [Value.ownBlock] at e; omega)
  go_wp2
  go_ret
  exact ⟨ao, cap', rfl, hby, hch⟩

set_option maxRecDepth 100000 in
theorem clone_empty (x : Addr) (cap : Nat) (w : World) : Calls Try.prog 50 #[.slice (some x) 0 cap] w (Cloned [] w) := by
  obtain ⟨i0, hi, hz0, hz1, hz2⟩ := info_parts Try.info5
  have q := eql25
  go_enter Try.func50, Try.ntmps50
  go_wp2_with (at_builtin; refine wpList_append_own _ rfl (.tmp 5) (.tmp 6) 45 rfl w.heap.size 5 i0 (.int .u8 0) 1 1 Try.underlying45 hi hz0 hz1 hz2 rfl (by decide) _ 0 [] rfl (World.ownsRow_made w #[] 0 (Nat.le_refl _) (by decide) rfl) x 0 cap [] rfl rfl ?c1 ?c2 ?c3 ?c4 ?c5 ?_)
  case c1 =>
    intro j u hj
    simp at hj
  case c2 => simp
  case c3 => unfold maxLen; omega
  case c4 => omega
  case c5 => simp
  intro v' w1 hown hgrow _
  have hown2 : w1.ownsRow w.heap.size 5 1 v' ([] : List UInt8).length (([] : List UInt8).map cb) := by simpa using hown
  clear hown
  obtain ⟨ao, cap', rfl, hby⟩ := owns_bytes hown2
  have hch : Chg (fun _ => False) w w1 := ((Chg.refl _ w).alloc _).grown hgrow (fun k e hk => by simp [Value.ownBlock] at e; omega)
  go_wp2
  go_ret
  exact ⟨ao, cap', rfl, hby, hch⟩

theorem clone_any {D : Nat → Prop} {v : Value} {l : List UInt8} {w : World} (hl : l.length ≤ 140737488355328) (h : BytesAt D w v l) : Calls Try.prog 50 #[v] w (Cloned l w) := by
  rcases h with ⟨ao, cp, rfl, rfl, h0⟩ | ⟨b, off, cap, rfl, h1, h2, h3, h4⟩
  · cases ao with
    | none =>
      obtain rfl := h0 rfl
      refine (clone_nil w).mono ?_
      rintro e w' ⟨rfl, rfl⟩
      exact ⟨none, 0, rfl, BytesAt.nil _ _, Chg.refl _ _⟩
    | some x => exact clone_empty x cp w
  · exact clone_some b off cap l w hl h4

end Go.Proofs.Ytmmkopdcbiiedaa

/- The contracts of a pen's calls. -/
namespace Go.Proofs.Ytmmkopdcbiiedaa
open Go.RowKit

theorem pnum_nil (n : Int) (w : World) : Calls Try.prog 46 #[.pointer none, .int .i64 n] w fun e w' => e = .returned (.bool false) ∧ w = w' := by
  go_enter Try.func46, Try.ntmps46
  go_wp2
  go_ret
  exact ⟨rfl, rfl⟩

def PenPost (B P : Nat) (ao : Option Addr) (ys : List UInt8) (w w' : World) : Prop :=
  ∃ ao' cap', PenAt B w' P ao' cap' ys ∧ PChg P ao w ao' w'

theorem rowOf_block (ao : Option Addr) (n c : Nat) : Value.ownBlock (.slice ao n c) = rowOf ao := by cases ao <;> rfl

/-- What an append, stored into the pen, leaves. -/
theorem pen_grown {B P cap : Nat} {ao : Option Addr} {zs news : List UInt8} {w wa w1 : World} {v' : Value} {sz : Nat} (hp : PenAt B w P ao cap zs) (hPB : P < B) (hwa : Chg (fun _ => False) w wa)
    (hown : w1.ownsRow B 5 1 v' (zs.length + news.length) (zs.map cb ++ news.map cb)) (hgrow : wa.grownBy w1 (Value.ownBlock (.slice ao zs.length cap)))
    (hat : v'.ownBlock = Value.ownBlock (.slice ao zs.length cap) ∨ v'.ownBlock = some sz) (hsz : w.heap.size ≤ sz) :
    ∃ ao' cap', v' = .slice ao' (zs.length + news.length) cap' ∧ w1.cell? ⟨P, 0, none⟩ = some (.slice ao zs.length cap) ∧ w1.frozen? ⟨P, 0, none⟩ = false ∧
      PenAt B (w1.setCell ⟨P, 0, none⟩ (.slice ao' (zs.length + news.length) cap')) P ao' cap' (zs ++ news) ∧ PChg P ao w ao' (w1.setCell ⟨P, 0, none⟩ (.slice ao' (zs.length + news.length) cap')) := by
  have hrow : ∀ k, rowOf ao = some k → B ≤ k ∧ k < w.heap.size := fun k hk => hp.row.lt k ((rowOf_block _ _ _).trans hk)
  have hch : Chg (fun k => k = P ∨ rowOf ao = some k) w w1 := (hwa.mono (fun _ _ h => h.elim)).grown hgrow (fun k e _ => .inr ((rowOf_block _ _ _).symm.trans e))
  have hPr : some P ≠ Value.ownBlock (.slice ao zs.length cap) := fun e => by
    have := hrow P ((rowOf_block _ _ _).symm.trans e.symm)
    omega
  have hblk : w1.heap[P]? = some (.cells #[.slice ao zs.length cap] 48 (0, 0)) := by
    have h1 : wa.heap[P]? = some (.cells #[.slice ao zs.length cap] 48 (0, 0)) := (hwa.block P (lt_blk hp.cell) id).trans hp.cell
    exact (hgrow.block P (lt_blk h1) hPr).trans h1
  have hc0 := cell_blk hblk 0
  simp only [List.getElem?_toArray, List.getElem?_cons_zero] at hc0
  have hlen : (zs ++ news).length = zs.length + news.length := List.length_append
  obtain ⟨ao', cap', rfl⟩ : ∃ ao' cap', v' = .slice ao' (zs.length + news.length) cap' := by
    rcases hown.2 with ⟨rfl, h0⟩ | ⟨g, cap', cur, rfl, _⟩
    · exact ⟨none, 0, by rw [h0]⟩
    · exact ⟨_, _, rfl⟩
  refine ⟨ao', cap', rfl, hc0, froz_blk hblk 0, ⟨?_, ?_⟩, hch.setCell (p := ⟨P, 0, none⟩) (fun _ => .inl rfl) _, ?_⟩
  · rw [hlen]
    exact set_blk hblk 0 _
  · rw [hlen, List.map_append]
    exact ownsRow_setCell_below hown (by show P < B; exact hPB) _
  · rw [rowOf_block, rowOf_block] at hat
    rcases hat with h | h
    · exact .inl h
    · exact .inr ⟨_, h, hsz⟩

set_option maxRecDepth 100000 in
set_option maxHeartbeats 400000 in
theorem pnum_any (B P cap n : Nat) (ao : Option Addr) (xs : List UInt8) (w : World) (hn : n < 9223372036854775808) (hp : PenAt B w P ao cap xs) (hB : B ≤ w.heap.size) (hPB : P < B) (hx : xs.length + (enc n).length ≤ 140737488355328) :
    Calls Try.prog 46 #[.pointer (some ⟨P, 0, none⟩), .int .i64 n] w fun e w' => e = .returned (.bool true) ∧ PenPost B P ao (xs ++ enc n) w w' := by
  obtain ⟨i0, hi, hz0, hz1, hz2⟩ := info_parts Try.info5
  go_enter Try.func46, Try.ntmps46
  go_wp2
  go_loopw [1] (fun i wr => ∃ (m : Nat) (a : Option Addr) (c : Nat) (zs : List UInt8), i = .int .i64 m ∧ m < 9223372036854775808 ∧ PenAt B wr P a c zs ∧ PChg P ao w a wr ∧ Hid (zs ++ enc m = xs ++ enc n)) (fun i _ => (intOf i).toNat)
  case atStart => exact ⟨n, ao, cap, xs, rfl, hn, hp, PChg.refl _ _ _, rfl⟩
  case round =>
    obtain ⟨m, a, c, zs, rfl, hm, hpr, hch, HS⟩ := hrel
    have hc0 := cell_blk hpr.cell 0
    have hf0 := froz_blk hpr.cell 0
    simp only [List.getElem?_toArray, List.getElem?_cons_zero] at hc0
    have hPw := lt_blk hpr.cell
    have hlz : zs.length + (enc m).length ≤ 140737488355328 := by
      have := congrArg List.length HS.out
      simp only [List.length_append] at this
      omega
    have hep := enc_pos m
    have hBw : B ≤ wr.heap.size := Nat.le_trans hB hch.chg.size
    by_cases h128 : 128 ≤ m
    · have hd := digit_of m hm
      go_wp2_with (at_builtin; refine wpList_append_own_at _ rfl (.tmp 19) (.tmp 24) 45 rfl B 5 i0 (.int .u8 0) 1 1 Try.underlying45 hi hz0 hz1 hz2 rfl (by decide) _ _ _ rfl (hpr.row.alloc _) ⟨wr.heap.size, 0, none⟩ 1 1 [cb (dg m)] rfl rfl ?c1 ?c2 ?c3 ?c4 ?c5 ?_)
      case c1 => exact (cell_one_new _ _ _)
      case c2 => exact cb_one [dg m]
      case c3 => unfold maxLen; omega
      case c4 => omega
      case c5 => simp; omega
      intro v' w1 hown hgrow _ hat
      obtain ⟨ao', cap', rfl, g0, g1, hp1, hch1⟩ := pen_grown (news := [dg m]) hpr hPB ((Chg.refl _ wr).alloc _) hown hgrow hat (by omega)
      clear hown hgrow hat hd
      simp only [List.length_cons, List.length_nil, Nat.zero_add] at hp1 hch1
      go_wp2
      go_roundw
      case rel => exact ⟨m / 128, ao', cap', zs ++ [dg m], congrArg (Value.int .i64) (by omega), by omega, hp1, hch.trans hch1, hid (by rw [← HS.out, enc_big h128]; simp)⟩
      case measure => simp [intOf]; omega
    · have h128' : m < 128 := by omega
      go_wp2_with (at_builtin; refine wpList_append_own_at _ rfl (.tmp 32) (.tmp 35) 45 rfl B 5 i0 (.int .u8 0) 1 1 Try.underlying45 hi hz0 hz1 hz2 rfl (by decide) _ _ _ rfl (hpr.row.alloc _) ⟨wr.heap.size, 0, none⟩ 1 1 [cb (ds m)] rfl rfl ?d1 ?d2 ?d3 ?d4 ?d5 ?_)
      case d1 =>
        have e : cb (ds m) = .int .u8 (m : Int) := by unfold cb; rw [ds_toNat h128']
        rw [e]
        exact (cell_one_new _ _ _)
      case d2 => exact cb_one [ds m]
      case d3 => unfold maxLen; omega
      case d4 => omega
      case d5 => simp; omega
      intro v' w1 hown hgrow _ hat
      obtain ⟨ao', cap', rfl, g0, g1, hp1, hch1⟩ := pen_grown (news := [ds m]) hpr hPB ((Chg.refl _ wr).alloc _) hown hgrow hat (by omega)
      clear hown hgrow hat
      simp only [List.length_cons, List.length_nil, Nat.zero_add] at hp1 hch1
      have HF : Hid (zs ++ [ds m] = xs ++ enc n) := hid (by rw [← HS.out, enc_small h128'])
      clear HS
      go_wp2
      go_ret
      exact ⟨rfl, ao', cap', HF.out ▸ hp1, hch.trans hch1⟩

end Go.Proofs.Ytmmkopdcbiiedaa

/- The contracts of a pen's Raw, Text and Bytes. -/
namespace Go.Proofs.Ytmmkopdcbiiedaa
open Go.RowKit

theorem pen_same {B P cap : Nat} {ao : Option Addr} {zs : List UInt8} {w : World} (hp : PenAt B w P ao cap zs) (hPB : P < B) : PenPost B P ao (zs ++ []) w (w.setCell ⟨P, 0, none⟩ (.slice ao zs.length cap)) := by
  rw [List.append_nil]
  exact ⟨ao, cap, ⟨set_blk hp.cell 0 _, ownsRow_setCell_below hp.row (by show P < B; exact hPB) _⟩, (Chg.refl _ w).setCell (p := ⟨P, 0, none⟩) (fun _ => .inl rfl) _, .inl rfl⟩

set_option maxRecDepth 100000 in
theorem raw_any {D : Nat → Prop} (B P cap : Nat) (ao : Option Addr) (zs l : List UInt8) (v : Value) (w : World) (hp : PenAt B w P ao cap zs) (hB : B ≤ w.heap.size) (hPB : P < B) (hx : zs.length + l.length ≤ 140737488355328) (hv : BytesAt D w v l) :
    Calls Try.prog 47 #[.pointer (some ⟨P, 0, none⟩), v] w fun e w' => e = .returned (.bool true) ∧ PenPost B P ao (zs ++ l) w w' := by
  obtain ⟨i0, hi, hz0, hz1, hz2⟩ := info_parts Try.info5
  have hc0 := cell_blk hp.cell 0
  have hf0 := froz_blk hp.cell 0
  simp only [List.getElem?_toArray, List.getElem?_cons_zero] at hc0
  rcases hv with ⟨ao1, cp, rfl, rfl, h00⟩ | ⟨b, off, c, rfl, h1, h2, h3, h4⟩
  · cases ao1 with
    | none =>
      obtain rfl := h00 rfl
      go_enter Try.func47, Try.ntmps47
      go_wp2_with (at_builtin; refine wpList_append_own_none rfl (.tmp 11) (.tmp 12) 45 rfl B 5 i0 1 Try.underlying45 hi _ _ _ rfl hp.row rfl ?_)
      go_wp2
      go_ret
      exact ⟨rfl, by simpa using pen_same hp hPB⟩
    | some x =>
      go_enter Try.func47, Try.ntmps47
      go_wp2_with (at_builtin; refine wpList_append_own_at _ rfl (.tmp 11) (.tmp 12) 45 rfl B 5 i0 (.int .u8 0) 1 1 Try.underlying45 hi hz0 hz1 hz2 rfl (by decide) _ _ _ rfl hp.row x 0 cp [] rfl ?c0 ?c1 ?c2 ?c3 ?c4 ?c5 ?_)
      case c0 => simp
      case c1 =>
        intro j u hj
        simp at hj
      case c2 => simp
      case c3 => unfold maxLen; omega
      case c4 => omega
      case c5 => omega
      intro v' w1 hown hgrow _ hat
      obtain ⟨ao', cap', rfl, g0, g1, hp1, hch1⟩ := pen_grown (news := []) hp hPB (Chg.refl _ w) (by simpa using hown) hgrow hat (Nat.le_refl _)
      clear hown hgrow hat hc0 hf0
      go_wp2
      go_ret
      exact ⟨rfl, ao', cap', hp1, hch1⟩
  · go_enter Try.func47, Try.ntmps47
    go_wp2_with (at_builtin; refine wpList_append_own_at _ rfl (.tmp 11) (.tmp 12) 45 rfl B 5 i0 (.int .u8 0) 1 1 Try.underlying45 hi hz0 hz1 hz2 rfl (by decide) _ _ _ rfl hp.row ⟨b, off, none⟩ l.length c (l.map cb) rfl ?c0 ?c1 ?c2 ?c3 ?c4 ?c5 ?_)
    case c0 => simp
    case c1 =>
      intro j u hj
      obtain ⟨hj1, rfl⟩ := cb_getElem? l j u hj
      rw [add_off]
      exact h4 j hj1
    case c2 => exact cb_one l
    case c3 => unfold maxLen; omega
    case c4 => omega
    case c5 => omega
    intro v' w1 hown hgrow _ hat
    obtain ⟨ao', cap', rfl, g0, g1, hp1, hch1⟩ := pen_grown (news := l) hp hPB (Chg.refl _ w) hown hgrow hat (Nat.le_refl _)
    clear hown hgrow hat hc0 hf0
    go_wp2
    go_ret
    exact ⟨rfl, ao', cap', hp1, hch1⟩

set_option maxRecDepth 100000 in
theorem text_any {D : Nat → Prop} (B P cap : Nat) (ao : Option Addr) (zs l : List UInt8) (v : Value) (w : World) (hp : PenAt B w P ao cap zs) (hB : B ≤ w.heap.size) (hPB : P < B) (hx : zs.length + l.length ≤ 140737488300000) (hl : l.length ≤ 2048) (hv : BytesAt D w v l)
    (hB' : ∀ i, D i → i ≠ P ∧ rowOf ao ≠ some i) :
    Calls Try.prog 70 #[.pointer (some ⟨P, 0, none⟩), v] w fun e w' => e = .returned (.bool true) ∧ PenPost B P ao (zs ++ (enc l.length ++ l)) w w' := by
  have he := enc_length9 (n := l.length) (by omega)
  have hlen : ∃ a c, v = .slice a l.length c := by
    exact hv.shape
  obtain ⟨a, c, rfl⟩ := hlen
  have h1 := pnum_any B P cap l.length ao zs w (by omega) hp hB hPB (by omega)
  have HL := hid (Int.le_of_lt_add_one (show (l.length : Int) < 2048 + 1 by omega))
  have hle : ¬ 2048 < (l.length : Int) := by omega
  go_enter Try.func70, Try.ntmps70
  go_wp2_with (first | (go_at_call 46; refine h1.mono ?_; rintro e w1 ⟨rfl, ao1, cap1, hp1, hch1⟩) | (go_at_call 47; refine (raw_any (D := D) B P _ _ _ l _ _ hp1 (Nat.le_trans hB hch1.chg.size) hPB (by simp only [List.length_append]; omega) (hv.keep hch1.chg (fun i hi h => h.elim (hB' i hi).1 (hB' i hi).2))).mono ?_; rintro e w2 ⟨rfl, ao2, cap2, hp2, hch2⟩))
  go_ret
  exact ⟨rfl, ao2, cap2, by rw [List.append_assoc] at hp2; exact hp2, hch1.trans hch2⟩

theorem bytes_any (B P cap : Nat) (ao : Option Addr) (zs : List UInt8) (w : World) (hp : PenAt B w P ao cap zs) (hx : zs.length ≤ 140737488355328) :
    Calls Try.prog 19 #[.pointer (some ⟨P, 0, none⟩)] w (Cloned zs w) := by
  have hc0 := cell_blk hp.cell 0
  simp only [List.getElem?_toArray, List.getElem?_cons_zero] at hc0
  have hcl := clone_any hx hp.bytes
  go_enter Try.func19, Try.ntmps19
  go_wp2_with (go_at_call 50; refine hcl.mono ?_; rintro e w1 ⟨ao1, cap1, rfl, hb1, hch1⟩)
  go_ret
  exact ⟨ao1, cap1, rfl, hb1, hch1⟩

/-- A new pen. -/
theorem pen_new (w : World) (B : Nat) : PenAt B (w.alloc (.cells #[.slice none 0 0] 48)) w.heap.size none 0 [] :=
  ⟨heap_alloc_new w _, World.ownsRow_nil _ _ _ _⟩

/-- A pen's call turns nothing that was there ahead of the pen. -/
theorem pchg_new {B P : Nat} {w wk w' : World} {ao ao' : Option Addr} {cap : Nat} {xs : List UInt8} (hc : Chg (fun _ => False) w wk) (hp : PenAt B wk P ao cap xs) (hPB : P < B) (hP : w.heap.size ≤ P) (h : PChg P ao wk ao' w') : Chg (fun _ => False) w w' := by
  refine hc.trans h.chg ?_
  rintro i hi (e | e)
  · omega
  · have := (hp.row.lt i ((rowOf_block _ _ _).trans e)).1
    omega

end Go.Proofs.Ytmmkopdcbiiedaa

/- The contract of tape.number. -/
namespace Go.Proofs.Ytmmkopdcbiiedaa
open Go.RowKit

def NumPost (l : List UInt8) (w : World) (e : Ending) (w' : World) : Prop :=
  e = .returned (.tuple #[.int .i64 (numN 9 l 0 0).1, .int .i64 (numN 9 l 0 0).2.1, .int .i64 (numN 9 l 0 0).2.2]) ∧ w = w'

theorem numPost_of {l : List UInt8} {w : World} {a b c : Int} {r : Nat × Nat × Nat} (h : Hid (numN 9 l 0 0 = r)) (h1 : a = r.1) (h2 : b = r.2.1) (h3 : c = r.2.2) :
    NumPost l w (.returned (.tuple #[.int .i64 a, .int .i64 b, .int .i64 c])) w := by
  subst h1; subst h2; subst h3
  unfold NumPost
  rw [h.out]
  exact ⟨rfl, rfl⟩

set_option maxRecDepth 100000 in
set_option maxHeartbeats 400000 in
theorem number_some (b off cap : Nat) (l : List UInt8) (w : World) (hl : l.length ≤ 9223372036854775807)
    (hc : ∀ i (h : i < l.length), w.cell? ⟨b, off + i, none⟩ = some (.int .u8 (l[i].toNat : Int))) :
    Calls Try.prog 72 #[.slice (some ⟨b, off, none⟩) l.length cap] w (NumPost l w) := by
  go_enter Try.func72, Try.ntmps72
  go_wp2
  go_loop [2, 3] (fun n i => ∃ k m : Nat, k ≤ 9 ∧ k ≤ l.length ∧ i = .int .i64 k ∧ n = .int .i64 m ∧ m < 128 ^ k ∧ Hid (numN 9 l 0 0 = numN (9 - k) (l.drop k) k m)) (fun _ i => 9 - (intOf i).toNat)
  case atStart => exact ⟨0, 0, by omega, by omega, rfl, rfl, by decide, rfl⟩
  case round =>
    obtain ⟨k, m, hk, hkl, rfl, rfl, hm, HS⟩ := hrel
    by_cases h9 : k < 9
    · by_cases hkk : k < l.length
      · have hcell := hc k hkk
        have hst := numN_step l k m h9 hkk
        have HT := HS.out.trans hst
        have HU : Hid (numN 9 l 0 0 = _) := HT
        clear HT hst HS
        go_wp2
        · have h0 : l[k].toNat = 0 := by assumption
          have h1 : (1 : Int) < (k : Int) + 1 := by assumption
          have hU := HU.out
          rw [if_pos ⟨h0, by omega⟩] at hU
          go_ret3
          exact numPost_of hU rfl rfl rfl
        · have h0 : l[k].toNat = 0 := by assumption
          have h1 : (k : Int) + 1 ≤ 1 := by assumption
          have hU := HU.out
          have hd := digit_or k m 0 h9 hm (by omega)
          rw [if_neg (by omega), if_pos (by omega)] at hU
          go_ret3
          refine numPost_of hU ?_ (by simp) rfl
          rw [h0]
          simpa using hd
        · have h0 : ¬ l[k].toNat = 0 := by assumption
          have h1 : (l[k].toNat : Int) < 128 := by assumption
          have hU := HU.out
          have hd := digit_or k m l[k].toNat h9 hm (UInt8.toNat_lt _)
          rw [if_neg (by omega), if_pos (by omega)] at hU
          go_ret3
          refine numPost_of hU ?_ (by simp) rfl
          rw [Nat.mod_eq_of_lt (by omega)] at hd
          exact hd
        · have h0 : ¬ l[k].toNat = 0 := by assumption
          have h1 : 128 ≤ (l[k].toNat : Int) := by assumption
          have hlt := UInt8.toNat_lt l[k]
          have hd := digit_or k m l[k].toNat h9 hm hlt
          have hU := HU.out
          rw [if_neg (by omega), if_neg (by omega)] at hU
          have e : l[k].toNat % 128 = l[k].toNat - 128 := by omega
          rw [e] at hd
          go_round
          case rel => exact ⟨k + 1, _, by omega, by omega, by go_num, congrArg _ hd, num_lt k m _ hm (by omega), hU⟩
          case measure => simp [intOf]; omega
      · have hkl2 : k = l.length := by omega
        subst hkl2
        have hU : Hid (numN 9 l 0 0 = (0, 0, 10)) := HS.out.trans (numN_end l _ m h9 (Nat.le_refl _))
        clear HS
        go_wp2
        go_ret3
        exact numPost_of hU rfl rfl rfl
    · have hk9 : k = 9 := by omega
      subst hk9
      have hU : Hid (numN 9 l 0 0 = (0, 0, 11)) := HS.out
      clear HS
      go_wp2
      go_ret3
      exact numPost_of hU rfl rfl rfl

set_option maxRecDepth 100000 in
theorem number_nil (ao : Option Addr) (cp : Nat) (w : World) : Calls Try.prog 72 #[.slice ao 0 cp] w (NumPost [] w) := by
  go_enter Try.func72, Try.ntmps72
  go_wp2
  go_loop [2, 3] (fun n i => i = .int .i64 0 ∧ n = .int .i64 0) (fun _ i => 9 - (intOf i).toNat)
  case atStart => exact ⟨rfl, rfl⟩
  case round =>
    obtain ⟨rfl, rfl⟩ := hrel
    go_wp2
    go_ret3
    exact ⟨rfl, rfl⟩

theorem number_any {D : Nat → Prop} {v : Value} {l : List UInt8} {w : World} (hl : l.length ≤ 9223372036854775807) (h : BytesAt D w v l) : Calls Try.prog 72 #[v] w (NumPost l w) := by
  rcases h with ⟨ao, cp, rfl, rfl, _⟩ | ⟨b, off, cap, rfl, h1, h2, h3, h4⟩
  · exact number_nil ao cp w
  · exact number_some b off cap l w hl h4

end Go.Proofs.Ytmmkopdcbiiedaa

/- The contracts of a reader's ended and Fail. -/
namespace Go.Proofs.Ytmmkopdcbiiedaa
open Go.RowKit

theorem ended_true (R : Nat) (w : World) (h0 : w.cell? ⟨R, 0, none⟩ = some (.bool true)) :
    Calls Try.prog 71 #[.pointer (some ⟨R, 0, none⟩)] w fun e w' => e = .returned (.bool false) ∧ w = w' := by
  go_enter Try.func71, Try.ntmps71
  go_wp2
  go_ret
  exact ⟨rfl, rfl⟩

theorem fail_ok (R : Nat) (w : World) (h0 : w.cell? ⟨R, 0, none⟩ = some (.bool true)) :
    Calls Try.prog 73 #[.pointer (some ⟨R, 0, none⟩), .int .i64 0] w fun e w' => e = .returned (.tuple #[]) ∧ w = w' := by
  go_enter Try.func73, Try.ntmps73
  go_wp2_with (go_at_call 71; refine (ended_true _ _ h0).mono ?_; rintro e w' ⟨rfl, rfl⟩)
  refine bodyPost_ret (results_none rfl _ _ _) rfl ?_
  exact ⟨rfl, rfl⟩

/-- The panic that ends an f. -/
def stopOf (R : Nat) : Value := .iface 98 (.agg #[.pointer (some ⟨R, 0, none⟩)])

theorem fail_stops (R : Nat) (e0 : Int) (_ : Value) (w : World) (he : (e0 == 0) = false) (h0 : w.cell? ⟨R, 0, none⟩ = some (.bool true)) (h2 : w.cell? ⟨R, 2, none⟩ = some (.int .i64 0)) (f2 : w.frozen? ⟨R, 2, none⟩ = false) :
    Calls Try.prog 73 #[.pointer (some ⟨R, 0, none⟩), .int .i64 e0] w fun e w' => e = .panicked [{ v := stopOf R, recovered := false }] ∧ w' = w.setCell ⟨R, 2, none⟩ (.int .i64 e0) := by
  go_enter Try.func73, Try.ntmps73
  go_wp2_with (go_at_call 71; refine (ended_true _ _ h0).mono ?_; rintro e w' ⟨rfl, rfl⟩)

  exact ⟨rfl, rfl, rfl⟩

end Go.Proofs.Ytmmkopdcbiiedaa

/- A reader, cut; what an error leaves. -/
namespace Go.Proofs.Ytmmkopdcbiiedaa
open Go.RowKit

/-- What a reader holds behind a slice of its bytes. -/
theorem reader_cut {D : Nat → Prop} {R b off cap k : Nat} {l : List UInt8} {w : World} {v0 : Value} (hb : D b) (hDR : ¬ D R) (hlc : l.length ≤ cap) (hcm : cap ≤ maxLen)
    (hc : ∀ i (h : i < l.length), w.cell? ⟨b, off + i, none⟩ = some (.int .u8 (l[i].toNat : Int))) (hR : ReaderAt w R true v0 0) (hk : k ≤ l.length) {o c : Nat} (h : (cap = k ∧ c = 0) ∨ (o = off + k ∧ c = cap - k)) :
    ∃ v', BytesAt D (w.setCell ⟨R, 1, none⟩ (.slice (some ⟨b, o, none⟩) (l.length - k) c)) v' (l.drop k) ∧
      ReaderAt (w.setCell ⟨R, 1, none⟩ (.slice (some ⟨b, o, none⟩) (l.length - k) c)) R true v' 0 ∧ Chg (· = R) w (w.setCell ⟨R, 1, none⟩ (.slice (some ⟨b, o, none⟩) (l.length - k) c)) := by
  have hch : Chg (· = R) w (w.setCell ⟨R, 1, none⟩ (.slice (some ⟨b, o, none⟩) (l.length - k) c)) := (Chg.refl (· = R) w).setCell (p := ⟨R, _, none⟩) (fun _ => rfl) _
  refine ⟨_, .inr ⟨b, o, c, by rw [List.length_drop], ?_, ?_, hb, ?_⟩, ?_, hch⟩
  · rw [List.length_drop]
    rcases h with ⟨h1, h3⟩ | ⟨h1, h2⟩ <;> omega
  · rcases h with ⟨h1, h3⟩ | ⟨h1, h2⟩ <;> omega
  · intro i hi
    rw [List.length_drop] at hi
    refine hch.cell ?_ (fun e => hDR (e ▸ hb))
    rcases h with ⟨h1, h3⟩ | ⟨h1, h2⟩
    · omega
    · have := hc (k + i) (by omega)
      rw [h1, Nat.add_assoc, this, List.getElem_drop]
  · have := set_blk hR 1 (.slice (some ⟨b, o, none⟩) (l.length - k) c)
    exact this

def Stops (R : Nat) (err : Int) (w : World) (e : Ending) (w' : World) : Prop :=
  e = .panicked [{ v := stopOf R, recovered := false }] ∧ ∃ ao m cp, ReaderAt w' R true (.slice ao m cp) err ∧ Chg (· = R) w w'

theorem reader_stop {R : Nat} {w : World} {ao : Option Addr} {m cp : Nat} (hR : ReaderAt w R true (.slice ao m cp) 0) (err : Int) :
    Stops R err w (.panicked [{ v := stopOf R, recovered := false }]) (w.setCell ⟨R, 2, none⟩ (.int .i64 err)) :=
  ⟨rfl, ao, m, cp, set_blk hR 2 (.int .i64 err), (Chg.refl (· = R) w).setCell (p := ⟨R, _, none⟩) (fun _ => rfl) _⟩

theorem pair3 (r : Nat × Nat × Nat) {e : Nat} (h : r.2.2 = e) : r = (r.1, r.2.1, e) := by
  obtain ⟨a, b, c⟩ := r
  subst h
  rfl

end Go.Proofs.Ytmmkopdcbiiedaa
