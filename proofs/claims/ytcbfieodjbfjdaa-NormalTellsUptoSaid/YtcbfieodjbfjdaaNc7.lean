/- Texts that the proof leans on, in one: NmRight, Base, Clone, Pen, PenMore, Num, Fail, RCut, RText. -/
import Derived.Test.YtcbfieodjbfjdaaNc2
import Derived.Test.YtcbfieodjbfjdaaRows
import Derived.Test.YtcbfieodjbfjdaaNc6
import Derived.Test.YtcbfieodjbfjdaaNc1
import Derived.Maps.AppendAt
import Derived.Laws.AppendOwnNone
/- The contracts of the program's letter, sign and Right. -/
namespace Go.Proofs.Ytcbfieodjbfjdaa
open Go.RowKit

theorem letter_any (c : UInt8) (w : World) :
    Calls Try.prog 124 #[.int .u8 (c.toNat : Int)] w fun e w' => e = .returned (.bool (okFirst c)) ∧ w = w' := by
  by_cases h1 : 97 ≤ c.toNat
  · have d1 : decide ((97 : Int) ≤ (c.toNat : Int)) = true := by simp; omega
    by_cases h2 : c.toNat ≤ 122
    · have d2 : decide ((c.toNat : Int) ≤ 122) = true := by simp; omega
      have hx : Hid (okFirst c = true) := hid (by simp [okFirst, h1, h2])
      clear h1 h2
      go_enter Try.func124, Try.ntmps124
      go_wp2
      go_ret
      exact ⟨by rw [hx.out]; rfl, rfl⟩
    · have d2 : decide ((c.toNat : Int) ≤ 122) = false := by simp; omega
      have hx : Hid (okFirst c = false) := hid (by simp [okFirst, h1, h2])
      clear h1 h2
      go_enter Try.func124, Try.ntmps124
      go_wp2
      go_ret
      exact ⟨by rw [hx.out]; rfl, rfl⟩
  · have d1 : decide ((97 : Int) ≤ (c.toNat : Int)) = false := by simp; omega
    have hx : Hid (okFirst c = false) := hid (by simp [okFirst, h1])
    clear h1
    go_enter Try.func124, Try.ntmps124
    go_wp2
    go_ret
    exact ⟨by rw [hx.out]; rfl, rfl⟩

theorem sign_any (c : UInt8) (w : World) :
    Calls Try.prog 125 #[.int .u8 (c.toNat : Int)] w fun e w' => e = .returned (.bool (okByte c)) ∧ w = w' := by
  by_cases h0 : okFirst c = true
  · have hx : Hid (okByte c = true) := hid (by simp only [okFirst] at h0; simp [okByte, h0])
    go_enter Try.func125, Try.ntmps125
    go_wp2_with (go_at_call 124; refine (letter_any c _).mono ?_; rintro e w' ⟨rfl, rfl⟩; rw [h0])
    go_ret
    exact ⟨by rw [hx.out]; rfl, rfl⟩
  · have h0' : okFirst c = false := by simpa using h0
    have hb : okByte c = ((decide (48 ≤ c.toNat) && decide (c.toNat ≤ 57)) || decide (c.toNat = 45)) := by
      simp only [okFirst] at h0'
      simp only [okByte, h0', Bool.false_or]
    clear h0
    by_cases h1 : 48 ≤ c.toNat
    · have d1 : decide ((48 : Int) ≤ (c.toNat : Int)) = true := by simp; omega
      by_cases h2 : c.toNat ≤ 57
      · have d2 : decide ((c.toNat : Int) ≤ 57) = true := by simp; omega
        have hx : Hid (okByte c = true) := hid (by rw [hb]; simp [h1, h2])
        clear h1 h2 hb
        go_enter Try.func125, Try.ntmps125
        go_wp2_with (go_at_call 124; refine (letter_any c _).mono ?_; rintro e w' ⟨rfl, rfl⟩; rw [h0'])
        go_ret
        exact ⟨by rw [hx.out]; rfl, rfl⟩
      · have d2 : decide ((c.toNat : Int) ≤ 57) = false := by simp; omega
        have d3 : ((c.toNat : Int) == 45) = false := by simp; omega
        have hx : Hid (okByte c = false) := hid (by rw [hb]; simp; omega)
        clear h1 h2 hb
        go_enter Try.func125, Try.ntmps125
        go_wp2_with (go_at_call 124; refine (letter_any c _).mono ?_; rintro e w' ⟨rfl, rfl⟩; rw [h0'])
        go_ret
        exact ⟨by rw [hx.out]; rfl, rfl⟩
    · have d1 : decide ((48 : Int) ≤ (c.toNat : Int)) = false := by simp; omega
      by_cases h3 : c.toNat = 45
      · have d3 : ((c.toNat : Int) == 45) = true := by simp; omega
        have hx : Hid (okByte c = true) := hid (by rw [hb]; simp [h3])
        clear h1 h3 hb
        go_enter Try.func125, Try.ntmps125
        go_wp2_with (go_at_call 124; refine (letter_any c _).mono ?_; rintro e w' ⟨rfl, rfl⟩; rw [h0'])
        go_ret
        exact ⟨by rw [hx.out]; rfl, rfl⟩
      · have d3 : ((c.toNat : Int) == 45) = false := by simp; omega
        have hx : Hid (okByte c = false) := hid (by rw [hb]; simp; omega)
        clear h1 h3 hb
        go_enter Try.func125, Try.ntmps125
        go_wp2_with (go_at_call 124; refine (letter_any c _).mono ?_; rintro e w' ⟨rfl, rfl⟩; rw [h0'])
        go_ret
        exact ⟨by rw [hx.out]; rfl, rfl⟩

theorem right_any (l : List UInt8) (w : World) (hs : l.length ≤ 9223372036854775807) :
    Calls Try.prog 103 #[.string ⟨l.toArray⟩] w fun e w' => e = .returned (.bool (isName l)) ∧ w = w' := by
  have gx := ba_get l
  by_cases h0 : l.length < 1
  · have he : l = [] := List.eq_nil_of_length_eq_zero (by omega)
    subst he
    go_enter Try.func103, Try.ntmps103
    go_wp2
    go_ret
    exact ⟨rfl, rfl⟩
  · have hpos : 0 < l.length := by omega
    have d0 : decide ((l.length : Int) < 1) = false := by simp; omega
    have d00 : decide ((0 : Int) < (l.length : Int)) = true := by simp; omega
    clear h0
    by_cases h16 : 16 < l.length
    · have hx : Hid (isName l = false) := hid (isName_long h16)
      have d1 : decide (16 < (l.length : Int)) = true := by simp; omega
      go_enter Try.func103, Try.ntmps103
      go_wp2
      go_ret
      exact ⟨by rw [hx.out]; rfl, rfl⟩
    · have d1 : decide (16 < (l.length : Int)) = false := by simp; omega
      by_cases h1 : okFirst l[0] = true
      · have hx : Hid (isName l = l.all okByte) := hid (isName_all hpos h1 (by omega))
        go_enter Try.func103, Try.ntmps103
        go_wp2_with (go_at_call 124; refine (letter_any l[0] _).mono ?_; rintro e w' ⟨rfl, rfl⟩; rw [h1])
        clear d0 d1 d00
        go_loop [20] (fun i => ∃ k : Nat, k ≤ l.length ∧ i = .int .i64 k ∧ Hid ((l.take k).all okByte = true)) (fun i => l.length - (intOf i).toNat)
        case atStart => exact ⟨0, Nat.zero_le _, rfl, rfl⟩
        case round =>
          obtain ⟨k, hk, rfl, ha⟩ := hrel
          by_cases hlt : k < l.length
          · cases hok : okByte l[k] with
            | true =>
              have hn : Hid ((l.take (k + 1)).all okByte = true) := hid (by rw [all_take_succ _ k hlt ha.out, hok])
              clear ha
              go_wp2_with (go_at_call 125; refine (sign_any l[k] _).mono ?_; rintro e w' ⟨rfl, rfl⟩; rw [hok])
              go_round
              case rel => exact ⟨k + 1, by omega, by go_num, hn⟩
              case measure => simp [intOf]; omega
            | false =>
              have hn : Hid (l.all okByte = false) := hid (all_of_bad l k hlt hok)
              clear ha
              go_wp2_with (go_at_call 125; refine (sign_any l[k] _).mono ?_; rintro e w' ⟨rfl, rfl⟩; rw [hok])
              go_ret
              exact ⟨by rw [hx.out, hn.out]; rfl, rfl⟩
          · have hk2 : k = l.length := by omega
            subst hk2
            have hn : Hid (l.all okByte = true) := hid (by have := ha.out; rwa [List.take_of_length_le (Nat.le_refl _)] at this)
            go_wp2
            go_ret
            exact ⟨by rw [hx.out, hn.out]; rfl, rfl⟩
      · have h1' : okFirst l[0] = false := by simpa using h1
        have hx : Hid (isName l = false) := hid (isName_first hpos h1')
        go_enter Try.func103, Try.ntmps103
        go_wp2_with (go_at_call 124; refine (letter_any l[0] _).mono ?_; rintro e w' ⟨rfl, rfl⟩; rw [h1'])
        go_ret
        exact ⟨by rw [hx.out]; rfl, rfl⟩
end Go.Proofs.Ytcbfieodjbfjdaa

/- What the walks of layer 1 say of memory: a pen, a reader, bytes that can be read; which blocks a call may have turned. -/
namespace Go.Proofs.Ytcbfieodjbfjdaa
open Go.RowKit

/-- A pen, in the block P: what it holds is the slice (ao, xs.length, cap), which owns the bytes xs in a row of a block from B on. -/
structure PenAt (B : Nat) (w : World) (P : Nat) (ao : Option Addr) (cap : Nat) (xs : List UInt8) : Prop where
  cell : w.heap[P]? = some (.cells #[.slice ao xs.length cap] 137 (0, 0))
  row : w.ownsRow B 5 1 (.slice ao xs.length cap) xs.length (xs.map cb)

def rowOf (ao : Option Addr) : Option Nat := ao.map (·.block)

/-- What a pen's call leaves of all else. -/
structure PChg (P : Nat) (ao : Option Addr) (w : World) (ao' : Option Addr) (w' : World) : Prop where
  chg : Chg (fun k => k = P ∨ rowOf ao = some k) w w'
  row : rowOf ao' = rowOf ao ∨ ∃ g, rowOf ao' = some g ∧ w.heap.size ≤ g

theorem PChg.refl (P : Nat) (ao : Option Addr) (w : World) : PChg P ao w ao w := ⟨Chg.refl _ _, .inl rfl⟩

theorem PChg.trans {P : Nat} {a b c : Option Addr} {u v w : World} (h : PChg P a u b v) (k : PChg P b v c w) : PChg P a u c w := by
  refine ⟨h.chg.trans k.chg ?_, ?_⟩
  · rintro i hi (e | e)
    · exact .inl e
    · rcases h.row with hr | ⟨g, hr, hg⟩
      · exact .inr (hr.symm.trans e)
      · rw [hr] at e
        cases e
        omega
  · rcases k.row with kr | ⟨g, kr, kg⟩
    · rcases h.row with hr | ⟨g, hr, hg⟩
      · exact .inl (kr.trans hr)
      · exact .inr ⟨g, kr.trans hr, hg⟩
    · exact .inr ⟨g, kr, Nat.le_trans h.chg.size kg⟩

theorem PenAt.keep {S : Nat → Prop} {B : Nat} {w w' : World} {P : Nat} {ao : Option Addr} {cap : Nat} {xs : List UInt8} (h : PenAt B w P ao cap xs) (hc : Chg S w w') (hP : ¬ S P) (hr : ∀ k, rowOf ao = some k → ¬ S k) : PenAt B w' P ao cap xs := by
  refine ⟨(hc.block P (lt_blk h.cell) hP).trans h.cell, h.row.1, ?_⟩
  rcases h.row.2 with hn | ⟨g, cap', cur, hv, hg, hh, r⟩
  · exact .inl hn
  · refine .inr ⟨g, cap', cur, hv, hg, ?_, r⟩
    have e : rowOf ao = some g := by
      cases hv
      rfl
    exact (hc.block g (lt_blk hh) (hr g e)).trans hh

/-- What the pen holds can be read. -/
theorem PenAt.bytes {B : Nat} {w : World} {P : Nat} {ao : Option Addr} {cap : Nat} {xs : List UInt8} (h : PenAt B w P ao cap xs) : BytesAt (fun k => rowOf ao = some k) w (.slice ao xs.length cap) xs := by
  rcases h.row.2 with ⟨hn, h0⟩ | ⟨g, cap', cur, hv, hg, hh, h1, h2, h3, h4⟩
  · have h1 := List.eq_nil_of_length_eq_zero h0
    subst h1
    exact .inl ⟨none, 0, hn, rfl, fun _ => rfl⟩
  · cases hv
    refine .inr ⟨g, 0, cap, rfl, h1, h2, rfl, fun i hi => ?_⟩
    have hcell := h.row.cells (g := g) rfl i (cb xs[i]) (by simp [hi])
    have e : ((⟨g, 0, none⟩ : Addr).add i) = ⟨g, 0 + i, none⟩ := by
      unfold Addr.add
      split <;> simp_all
    rw [e] at hcell
    exact hcell

end Go.Proofs.Ytcbfieodjbfjdaa

/- The contract of bytes.Clone. -/
namespace Go.Proofs.Ytcbfieodjbfjdaa
open Go.RowKit

theorem eql25 : ∀ (w : World) (a : Option Addr) (n c n' c' : Nat), (binOp .eql 120 (.slice a n c) (.slice none n' c')).run Try.prog w = .ok (.bool a.isNone) w :=
  fun w a n c n' c' => Lib.run_eql_slice_nil w _ _ a n c n' c' Try.underlying120

theorem clone_nil (w : World) : Calls Try.prog 140 #[.slice none 0 0] w fun e w' => e = .returned (.slice none 0 0) ∧ w = w' := by
  have q := eql25
  go_enter Try.func140, Try.ntmps140
  go_wp2
  go_ret
  exact ⟨rfl, rfl⟩

def Cloned (l : List UInt8) (w : World) (e : Ending) (w' : World) : Prop :=
  ∃ ao cap, e = .returned (.slice ao l.length cap) ∧ BytesAt (fun k => w.heap.size ≤ k ∧ k < w'.heap.size) w' (.slice ao l.length cap) l ∧ Chg (fun _ => False) w w'

/-- A slice of bytes that the call owns can be read. -/
theorem owns_bytes {B : Nat} {w : World} {v : Value} {l : List UInt8} (h : w.ownsRow B 5 1 v l.length (l.map cb)) : ∃ ao cap, v = .slice ao l.length cap ∧ BytesAt (fun k => B ≤ k ∧ k < w.heap.size) w (.slice ao l.length cap) l := by
  rcases h.2 with ⟨rfl, h0⟩ | ⟨g, cap, cur, rfl, hg, hh, h1, h2, h3, h4⟩
  · have : l = [] := List.eq_nil_of_length_eq_zero h0
    subst this
    exact ⟨none, 0, rfl, BytesAt.nil _ _⟩
  · refine ⟨_, _, rfl, .inr ⟨g, 0, cap, rfl, h1, h2, ⟨hg, lt_blk hh⟩, fun i hi => ?_⟩⟩
    have hcell := h.cells (g := g) rfl i (cb l[i]) (by simp [hi])
    rw [add_off] at hcell
    exact hcell

set_option maxRecDepth 100000 in
theorem clone_some (b off cap : Nat) (l : List UInt8) (w : World) (hl : l.length ≤ 140737488355328)
    (hc : ∀ i (h : i < l.length), w.cell? ⟨b, off + i, none⟩ = some (.int .u8 (l[i].toNat : Int))) :
    Calls Try.prog 140 #[.slice (some ⟨b, off, none⟩) l.length cap] w (Cloned l w) := by
  obtain ⟨i0, hi, hz0, hz1, hz2⟩ := info_parts Try.info5
  have q := eql25
  go_enter Try.func140, Try.ntmps140
  go_wp2_with (at_builtin; refine wpList_append_own_atD _ rfl (.tmp 5) (.tmp 6) 120 rfl w.heap.size 5 i0 (.int .u8 0) 1 1 Try.underlying120 hi hz0 hz1 hz2 rfl (by decide) _ 0 [] rfl (World.ownsRow_made w #[] 0 (Nat.le_refl _) (by decide) rfl) ⟨b, off, none⟩ l.length cap (l.map cb) rfl (by simp) ?c1 ?c2 ?c3 ?c4 ?c5 ?_)
  case c1 =>
    intro j u hj
    obtain ⟨hj1, rfl⟩ := cb_getElem? l j u hj
    have hcj := hc j hj1
    have hb := World.block_lt_of_cell? w _ hcj
    rw [add_off, World.cell?_alloc_past _ _ _ hb]
    exact hcj
  case c2 => exact cb_one l
  case c3 => unfold maxLen; omega
  case c4 => omega
  case c5 => simp
  intro v' w1 hown hgrow _ _
  have hown2 : w1.ownsRow w.heap.size 5 1 v' l.length (l.map cb) := by simpa using hown
  clear hown
  obtain ⟨ao, cap', rfl, hby⟩ := owns_bytes hown2
  have hch : Chg (fun _ => False) w w1 := ((Chg.refl _ w).alloc _).grown hgrow (fun k e hk => by simp [Value.ownBlock] at e; omega)
  go_wp2
  go_ret
  exact ⟨ao, cap', rfl, hby, hch⟩

set_option maxRecDepth 100000 in
theorem clone_empty (x : Addr) (cap : Nat) (w : World) : Calls Try.prog 140 #[.slice (some x) 0 cap] w (Cloned [] w) := by
  obtain ⟨i0, hi, hz0, hz1, hz2⟩ := info_parts Try.info5
  have q := eql25
  go_enter Try.func140, Try.ntmps140
  go_wp2_with (at_builtin; refine wpList_append_own_atD _ rfl (.tmp 5) (.tmp 6) 120 rfl w.heap.size 5 i0 (.int .u8 0) 1 1 Try.underlying120 hi hz0 hz1 hz2 rfl (by decide) _ 0 [] rfl (World.ownsRow_made w #[] 0 (Nat.le_refl _) (by decide) rfl) x 0 cap [] rfl rfl ?c1 ?c2 ?c3 ?c4 ?c5 ?_)
  case c1 =>
    intro j u hj
    simp at hj
  case c2 => simp
  case c3 => unfold maxLen; omega
  case c4 => omega
  case c5 => simp
  intro v' w1 hown hgrow _ _
  have hown2 : w1.ownsRow w.heap.size 5 1 v' ([] : List UInt8).length (([] : List UInt8).map cb) := by simpa using hown
  clear hown
  obtain ⟨ao, cap', rfl, hby⟩ := owns_bytes hown2
  have hch : Chg (fun _ => False) w w1 := ((Chg.refl _ w).alloc _).grown hgrow (fun k e hk => by simp [Value.ownBlock] at e; omega)
  go_wp2
  go_ret
  exact ⟨ao, cap', rfl, hby, hch⟩

theorem clone_any {D : Nat → Prop} {v : Value} {l : List UInt8} {w : World} (hl : l.length ≤ 140737488355328) (h : BytesAt D w v l) : Calls Try.prog 140 #[v] w (Cloned l w) := by
  rcases h with ⟨ao, cp, rfl, rfl, h0⟩ | ⟨b, off, cap, rfl, h1, h2, h3, h4⟩
  · cases ao with
    | none =>
      obtain rfl := h0 rfl
      refine (clone_nil w).mono ?_
      rintro e w' ⟨rfl, rfl⟩
      exact ⟨none, 0, rfl, BytesAt.nil _ _, Chg.refl _ _⟩
    | some x => exact clone_empty x cp w
  · exact clone_some b off cap l w hl h4

end Go.Proofs.Ytcbfieodjbfjdaa

/- The contracts of a pen's calls. -/
namespace Go.Proofs.Ytcbfieodjbfjdaa
open Go.RowKit

def PenPost (B P : Nat) (ao : Option Addr) (ys : List UInt8) (w w' : World) : Prop :=
  ∃ ao' cap', PenAt B w' P ao' cap' ys ∧ PChg P ao w ao' w'

theorem rowOf_block (ao : Option Addr) (n c : Nat) : Value.ownBlock (.slice ao n c) = rowOf ao := by cases ao <;> rfl

/-- What an append, stored into the pen, leaves. -/
theorem pen_grown {B P cap : Nat} {ao : Option Addr} {zs news : List UInt8} {w wa w1 : World} {v' : Value} {sz : Nat} (hp : PenAt B w P ao cap zs) (hPB : P < B) (hwa : Chg (fun _ => False) w wa)
    (hown : w1.ownsRow B 5 1 v' (zs.length + news.length) (zs.map cb ++ news.map cb)) (hgrow : GrownD wa w1 (Value.ownBlock (.slice ao zs.length cap)))
    (hat : v'.ownBlock = Value.ownBlock (.slice ao zs.length cap) ∨ v'.ownBlock = some sz) (hsz : w.heap.size ≤ sz) :
    ∃ ao' cap', v' = .slice ao' (zs.length + news.length) cap' ∧ w1.cell? ⟨P, 0, none⟩ = some (.slice ao zs.length cap) ∧ w1.frozen? ⟨P, 0, none⟩ = false ∧
      PenAt B (w1.setCell ⟨P, 0, none⟩ (.slice ao' (zs.length + news.length) cap')) P ao' cap' (zs ++ news) ∧ PChg P ao w ao' (w1.setCell ⟨P, 0, none⟩ (.slice ao' (zs.length + news.length) cap')) := by
  have hrow : ∀ k, rowOf ao = some k → B ≤ k ∧ k < w.heap.size := fun k hk => hp.row.lt k ((rowOf_block _ _ _).trans hk)
  have hch : Chg (fun k => k = P ∨ rowOf ao = some k) w w1 := (hwa.mono (fun _ _ h => h.elim)).grown hgrow (fun k e _ => .inr ((rowOf_block _ _ _).symm.trans e))
  have hPr : some P ≠ Value.ownBlock (.slice ao zs.length cap) := fun e => by
    have := hrow P ((rowOf_block _ _ _).symm.trans e.symm)
    omega
  have hblk : w1.heap[P]? = some (.cells #[.slice ao zs.length cap] 137 (0, 0)) := by
    have h1 : wa.heap[P]? = some (.cells #[.slice ao zs.length cap] 137 (0, 0)) := (hwa.block P (lt_blk hp.cell) id).trans hp.cell
    exact (hgrow.g.block P (lt_blk h1) hPr).trans h1
  have hc0 := cell_blk hblk 0
  simp only [List.getElem?_toArray, List.getElem?_cons_zero] at hc0
  have hlen : (zs ++ news).length = zs.length + news.length := List.length_append
  obtain ⟨ao', cap', rfl⟩ : ∃ ao' cap', v' = .slice ao' (zs.length + news.length) cap' := by
    rcases hown.2 with ⟨rfl, h0⟩ | ⟨g, cap', cur, rfl, _⟩
    · exact ⟨none, 0, by rw [h0]⟩
    · exact ⟨_, _, rfl⟩
  refine ⟨ao', cap', rfl, hc0, froz_blk hblk 0, ⟨?_, ?_⟩, hch.setCell (p := ⟨P, 0, none⟩) (fun _ => .inl rfl) _, ?_⟩
  · rw [hlen]
    exact set_blk hblk 0 _
  · rw [hlen, List.map_append]
    exact ownsRow_setCell_below hown (by show P < B; exact hPB) _
  · rw [rowOf_block, rowOf_block] at hat
    rcases hat with h | h
    · exact .inl h
    · exact .inr ⟨_, h, hsz⟩

set_option maxRecDepth 100000 in
set_option maxHeartbeats 400000 in
theorem pnum_any (B P cap n : Nat) (ao : Option Addr) (xs : List UInt8) (w : World) (hn : n < 9223372036854775808) (hp : PenAt B w P ao cap xs) (hB : B ≤ w.heap.size) (hPB : P < B) (hx : xs.length + (enc n).length ≤ 140737488355328) :
    Calls Try.prog 146 #[.pointer (some ⟨P, 0, none⟩), .int .i64 n] w fun e w' => e = .returned (.bool true) ∧ PenPost B P ao (xs ++ enc n) w w' := by
  obtain ⟨i0, hi, hz0, hz1, hz2⟩ := info_parts Try.info5
  go_enter Try.func146, Try.ntmps146
  go_wp2
  go_loopw [1] (fun i wr => ∃ (m : Nat) (a : Option Addr) (c : Nat) (zs : List UInt8), i = .int .i64 m ∧ m < 9223372036854775808 ∧ PenAt B wr P a c zs ∧ PChg P ao w a wr ∧ Hid (zs ++ enc m = xs ++ enc n)) (fun i _ => (intOf i).toNat)
  case atStart => exact ⟨n, ao, cap, xs, rfl, hn, hp, PChg.refl _ _ _, rfl⟩
  case round =>
    obtain ⟨m, a, c, zs, rfl, hm, hpr, hch, HS⟩ := hrel
    have hc0 := cell_blk hpr.cell 0
    have hf0 := froz_blk hpr.cell 0
    simp only [List.getElem?_toArray, List.getElem?_cons_zero] at hc0
    have hPw := lt_blk hpr.cell
    have hlz : zs.length + (enc m).length ≤ 140737488355328 := by
      have := congrArg List.length HS.out
      simp only [List.length_append] at this
      omega
    have hep := enc_pos m
    have hBw : B ≤ wr.heap.size := Nat.le_trans hB hch.chg.size
    by_cases h128 : 128 ≤ m
    · have hd := digit_of m hm
      go_wp2_with (at_builtin; refine wpList_append_own_atD _ rfl (.tmp 19) (.tmp 24) 120 rfl B 5 i0 (.int .u8 0) 1 1 Try.underlying120 hi hz0 hz1 hz2 rfl (by decide) _ _ _ rfl (hpr.row.alloc _) ⟨wr.heap.size, 0, none⟩ 1 1 [cb (dg m)] rfl rfl ?c1 ?c2 ?c3 ?c4 ?c5 ?_)
      case c1 => exact (cell_one_new _ _ _)
      case c2 => exact cb_one [dg m]
      case c3 => unfold maxLen; omega
      case c4 => omega
      case c5 => simp; omega
      intro v' w1 hown hgrow _ hat
      obtain ⟨ao', cap', rfl, g0, g1, hp1, hch1⟩ := pen_grown (news := [dg m]) hpr hPB ((Chg.refl _ wr).alloc _) hown hgrow hat (by omega)
      clear hown hgrow hat hd
      simp only [List.length_cons, List.length_nil, Nat.zero_add] at hp1 hch1
      go_wp2
      go_roundw
      case rel => exact ⟨m / 128, ao', cap', zs ++ [dg m], congrArg (Value.int .i64) (by omega), by omega, hp1, hch.trans hch1, hid (by rw [← HS.out, enc_big h128]; simp)⟩
      case measure => simp [intOf]; omega
    · have h128' : m < 128 := by omega
      go_wp2_with (at_builtin; refine wpList_append_own_atD _ rfl (.tmp 32) (.tmp 35) 120 rfl B 5 i0 (.int .u8 0) 1 1 Try.underlying120 hi hz0 hz1 hz2 rfl (by decide) _ _ _ rfl (hpr.row.alloc _) ⟨wr.heap.size, 0, none⟩ 1 1 [cb (ds m)] rfl rfl ?d1 ?d2 ?d3 ?d4 ?d5 ?_)
      case d1 =>
        have e : cb (ds m) = .int .u8 (m : Int) := by unfold cb; rw [ds_toNat h128']
        rw [e]
        exact (cell_one_new _ _ _)
      case d2 => exact cb_one [ds m]
      case d3 => unfold maxLen; omega
      case d4 => omega
      case d5 => simp; omega
      intro v' w1 hown hgrow _ hat
      obtain ⟨ao', cap', rfl, g0, g1, hp1, hch1⟩ := pen_grown (news := [ds m]) hpr hPB ((Chg.refl _ wr).alloc _) hown hgrow hat (by omega)
      clear hown hgrow hat
      simp only [List.length_cons, List.length_nil, Nat.zero_add] at hp1 hch1
      have HF : Hid (zs ++ [ds m] = xs ++ enc n) := hid (by rw [← HS.out, enc_small h128'])
      clear HS
      go_wp2
      go_ret
      exact ⟨rfl, ao', cap', HF.out ▸ hp1, hch.trans hch1⟩

end Go.Proofs.Ytcbfieodjbfjdaa

/- The contracts of a pen's Raw, Text and Bytes. -/
namespace Go.Proofs.Ytcbfieodjbfjdaa
open Go.RowKit

theorem pen_same {B P cap : Nat} {ao : Option Addr} {zs : List UInt8} {w : World} (hp : PenAt B w P ao cap zs) (hPB : P < B) : PenPost B P ao (zs ++ []) w (w.setCell ⟨P, 0, none⟩ (.slice ao zs.length cap)) := by
  rw [List.append_nil]
  exact ⟨ao, cap, ⟨set_blk hp.cell 0 _, ownsRow_setCell_below hp.row (by show P < B; exact hPB) _⟩, (Chg.refl _ w).setCell (p := ⟨P, 0, none⟩) (fun _ => .inl rfl) _, .inl rfl⟩

set_option maxRecDepth 100000 in
theorem raw_any {D : Nat → Prop} (B P cap : Nat) (ao : Option Addr) (zs l : List UInt8) (v : Value) (w : World) (hp : PenAt B w P ao cap zs) (hB : B ≤ w.heap.size) (hPB : P < B) (hx : zs.length + l.length ≤ 140737488355328) (hv : BytesAt D w v l) :
    Calls Try.prog 151 #[.pointer (some ⟨P, 0, none⟩), v] w fun e w' => e = .returned (.bool true) ∧ PenPost B P ao (zs ++ l) w w' := by
  obtain ⟨i0, hi, hz0, hz1, hz2⟩ := info_parts Try.info5
  have hc0 := cell_blk hp.cell 0
  have hf0 := froz_blk hp.cell 0
  simp only [List.getElem?_toArray, List.getElem?_cons_zero] at hc0
  rcases hv with ⟨ao1, cp, rfl, rfl, h00⟩ | ⟨b, off, c, rfl, h1, h2, h3, h4⟩
  · cases ao1 with
    | none =>
      obtain rfl := h00 rfl
      go_enter Try.func151, Try.ntmps151
      go_wp2_with (at_builtin; refine wpList_append_own_none rfl (.tmp 11) (.tmp 12) 120 rfl B 5 i0 1 Try.underlying120 hi _ _ _ rfl hp.row rfl ?_)
      go_wp2
      go_ret
      exact ⟨rfl, by simpa using pen_same hp hPB⟩
    | some x =>
      go_enter Try.func151, Try.ntmps151
      go_wp2_with (at_builtin; refine wpList_append_own_atD _ rfl (.tmp 11) (.tmp 12) 120 rfl B 5 i0 (.int .u8 0) 1 1 Try.underlying120 hi hz0 hz1 hz2 rfl (by decide) _ _ _ rfl hp.row x 0 cp [] rfl ?c0 ?c1 ?c2 ?c3 ?c4 ?c5 ?_)
      case c0 => simp
      case c1 =>
        intro j u hj
        simp at hj
      case c2 => simp
      case c3 => unfold maxLen; omega
      case c4 => omega
      case c5 => omega
      intro v' w1 hown hgrow _ hat
      obtain ⟨ao', cap', rfl, g0, g1, hp1, hch1⟩ := pen_grown (news := []) hp hPB (Chg.refl _ w) (by simpa using hown) hgrow hat (Nat.le_refl _)
      clear hown hgrow hat hc0 hf0
      go_wp2
      go_ret
      exact ⟨rfl, ao', cap', hp1, hch1⟩
  · go_enter Try.func151, Try.ntmps151
    go_wp2_with (at_builtin; refine wpList_append_own_atD _ rfl (.tmp 11) (.tmp 12) 120 rfl B 5 i0 (.int .u8 0) 1 1 Try.underlying120 hi hz0 hz1 hz2 rfl (by decide) _ _ _ rfl hp.row ⟨b, off, none⟩ l.length c (l.map cb) rfl ?c0 ?c1 ?c2 ?c3 ?c4 ?c5 ?_)
    case c0 => simp
    case c1 =>
      intro j u hj
      obtain ⟨hj1, rfl⟩ := cb_getElem? l j u hj
      rw [add_off]
      exact h4 j hj1
    case c2 => exact cb_one l
    case c3 => unfold maxLen; omega
    case c4 => omega
    case c5 => omega
    intro v' w1 hown hgrow _ hat
    obtain ⟨ao', cap', rfl, g0, g1, hp1, hch1⟩ := pen_grown (news := l) hp hPB (Chg.refl _ w) hown hgrow hat (Nat.le_refl _)
    clear hown hgrow hat hc0 hf0
    go_wp2
    go_ret
    exact ⟨rfl, ao', cap', hp1, hch1⟩

set_option maxRecDepth 100000 in
theorem text_any {D : Nat → Prop} (B P cap : Nat) (ao : Option Addr) (zs l : List UInt8) (v : Value) (w : World) (hp : PenAt B w P ao cap zs) (hB : B ≤ w.heap.size) (hPB : P < B) (hx : zs.length + l.length ≤ 140737488300000) (hl : l.length ≤ 2048) (hv : BytesAt D w v l)
    (hB' : ∀ i, D i → i ≠ P ∧ rowOf ao ≠ some i) :
    Calls Try.prog 150 #[.pointer (some ⟨P, 0, none⟩), v] w fun e w' => e = .returned (.bool true) ∧ PenPost B P ao (zs ++ (enc l.length ++ l)) w w' := by
  have he := enc_length9 (n := l.length) (by omega)
  have hlen : ∃ a c, v = .slice a l.length c := by
    exact hv.shape
  obtain ⟨a, c, rfl⟩ := hlen
  have h1 := pnum_any B P cap l.length ao zs w (by omega) hp hB hPB (by omega)
  have HL := hid (Int.le_of_lt_add_one (show (l.length : Int) < 2048 + 1 by omega))
  have hle : ¬ 2048 < (l.length : Int) := by omega
  go_enter Try.func150, Try.ntmps150
  go_wp2_with (first | (go_at_call 146; refine h1.mono ?_; rintro e w1 ⟨rfl, ao1, cap1, hp1, hch1⟩) | (go_at_call 151; refine (raw_any (D := D) B P _ _ _ l _ _ hp1 (Nat.le_trans hB hch1.chg.size) hPB (by simp only [List.length_append]; omega) (hv.keep hch1.chg (fun i hi h => h.elim (hB' i hi).1 (hB' i hi).2))).mono ?_; rintro e w2 ⟨rfl, ao2, cap2, hp2, hch2⟩))
  go_ret
  exact ⟨rfl, ao2, cap2, by rw [List.append_assoc] at hp2; exact hp2, hch1.trans hch2⟩

theorem bytes_any (B P cap : Nat) (ao : Option Addr) (zs : List UInt8) (w : World) (hp : PenAt B w P ao cap zs) (hx : zs.length ≤ 140737488355328) :
    Calls Try.prog 121 #[.pointer (some ⟨P, 0, none⟩)] w (Cloned zs w) := by
  have hc0 := cell_blk hp.cell 0
  simp only [List.getElem?_toArray, List.getElem?_cons_zero] at hc0
  have hcl := clone_any hx hp.bytes
  go_enter Try.func121, Try.ntmps121
  go_wp2_with (go_at_call 140; refine hcl.mono ?_; rintro e w1 ⟨ao1, cap1, rfl, hb1, hch1⟩)
  go_ret
  exact ⟨ao1, cap1, rfl, hb1, hch1⟩

/-- A new pen. -/
theorem pen_new (w : World) (B : Nat) : PenAt B (w.alloc (.cells #[.slice none 0 0] 137)) w.heap.size none 0 [] :=
  ⟨heap_alloc_new w _, World.ownsRow_nil _ _ _ _⟩

/-- A pen's call turns nothing that was there ahead of the pen. -/
theorem pchg_new {B P : Nat} {w wk w' : World} {ao ao' : Option Addr} {cap : Nat} {xs : List UInt8} (hc : Chg (fun _ => False) w wk) (hp : PenAt B wk P ao cap xs) (hPB : P < B) (hP : w.heap.size ≤ P) (h : PChg P ao wk ao' w') : Chg (fun _ => False) w w' := by
  refine hc.trans h.chg ?_
  rintro i hi (e | e)
  · omega
  · have := (hp.row.lt i ((rowOf_block _ _ _).trans e)).1
    omega

end Go.Proofs.Ytcbfieodjbfjdaa

/- The contract of tape.number. -/
namespace Go.Proofs.Ytcbfieodjbfjdaa
open Go.RowKit

end Go.Proofs.Ytcbfieodjbfjdaa

/- The contracts of a reader's ended and Fail. -/
namespace Go.Proofs.Ytcbfieodjbfjdaa
open Go.RowKit

end Go.Proofs.Ytcbfieodjbfjdaa

/- A reader, cut; what an error leaves. -/
namespace Go.Proofs.Ytcbfieodjbfjdaa
open Go.RowKit

end Go.Proofs.Ytcbfieodjbfjdaa

/- The contract of a reader's Text. -/
namespace Go.Proofs.Ytcbfieodjbfjdaa
open Go.RowKit

end Go.Proofs.Ytcbfieodjbfjdaa
