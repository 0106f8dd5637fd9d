/- The contracts of a pen's calls. -/
import Derived.Test.YtaejhkjigppelaaClone
import Derived.Maps.AppendAt
namespace Go.Proofs.Ytaejhkjigppelaa
open Go.RowKit

theorem pnum_nil (n : Int) (w : World) : Calls Try.prog 13 #[.pointer none, .int .i64 n] w fun e w' => e = .returned (.bool false) ∧ w = w' := by
  go_enter Try.func13, Try.ntmps13
  go_wp2
  go_ret
  exact ⟨rfl, rfl⟩

theorem pnum_neg (P : Nat) (n : Int) (hn : n < 0) (w : World) : Calls Try.prog 13 #[.pointer (some ⟨P, 0, none⟩), .int .i64 n] w fun e w' => e = .returned (.bool false) ∧ w = w' := by
  go_enter Try.func13, Try.ntmps13
  go_wp2
  go_ret
  exact ⟨rfl, rfl⟩

def PenPost (B P : Nat) (ao : Option Addr) (ys : List UInt8) (w w' : World) : Prop :=
  ∃ ao' cap', PenAt B w' P ao' cap' ys ∧ PChg P ao w ao' w'

theorem rowOf_block (ao : Option Addr) (n c : Nat) : Value.ownBlock (.slice ao n c) = rowOf ao := by cases ao <;> rfl

/-- What an append, stored into the pen, leaves. -/
theorem pen_grown {B P cap : Nat} {ao : Option Addr} {zs news : List UInt8} {w wa w1 : World} {v' : Value} {sz : Nat} (hp : PenAt B w P ao cap zs) (hPB : P < B) (hwa : Chg (fun _ => False) w wa)
    (hown : w1.ownsRow B 5 1 v' (zs.length + news.length) (zs.map cb ++ news.map cb)) (hgrow : wa.grownBy w1 (Value.ownBlock (.slice ao zs.length cap)))
    (hat : v'.ownBlock = Value.ownBlock (.slice ao zs.length cap) ∨ v'.ownBlock = some sz) (hsz : w.heap.size ≤ sz) :
    ∃ ao' cap', v' = .slice ao' (zs.length + news.length) cap' ∧ w1.cell? ⟨P, 0, none⟩ = some (.slice ao zs.length cap) ∧ w1.frozen? ⟨P, 0, none⟩ = false ∧
      PenAt B (w1.setCell ⟨P, 0, none⟩ (.slice ao' (zs.length + news.length) cap')) P ao' cap' (zs ++ news) ∧ PChg P ao w ao' (w1.setCell ⟨P, 0, none⟩ (.slice ao' (zs.length + news.length) cap')) := by
  have hrow : ∀ k, rowOf ao = some k → B ≤ k ∧ k < w.heap.size := fun k hk => hp.row.lt k ((rowOf_block _ _ _).trans hk)
  have hch : Chg (fun k => k = P ∨ rowOf ao = some k) w w1 := (hwa.mono (fun _ _ h => h.elim)).grown hgrow (fun k e _ => .inr ((rowOf_block _ _ _).symm.trans e))
  have hPr : some P ≠ Value.ownBlock (.slice ao zs.length cap) := fun e => by
    have := hrow P ((rowOf_block _ _ _).symm.trans e.symm)
    omega
  have hblk : w1.heap[P]? = some (.cells #[.slice ao zs.length cap] 27 (0, 0)) := by
    have h1 : wa.heap[P]? = some (.cells #[.slice ao zs.length cap] 27 (0, 0)) := (hwa.block P (lt_blk hp.cell) id).trans hp.cell
    exact (hgrow.block P (lt_blk h1) hPr).trans h1
  have hc0 := cell_blk hblk 0
  simp only [List.getElem?_toArray, List.getElem?_cons_zero] at hc0
  have hlen : (zs ++ news).length = zs.length + news.length := List.length_append
  obtain ⟨ao', cap', rfl⟩ : ∃ ao' cap', v' = .slice ao' (zs.length + news.length) cap' := by
    rcases hown.2 with ⟨rfl, h0⟩ | ⟨g, cap', cur, rfl, _⟩
    · exact ⟨none, 0, by rw [h0]⟩
    · exact ⟨_, _, rfl⟩
  refine ⟨ao', cap', rfl, hc0, froz_blk hblk 0, ⟨?_, ?_⟩, hch.setCell (p := ⟨P, 0, none⟩) (fun _ => .inl rfl) _, ?_⟩
  · rw [hlen]
    exact set_blk hblk 0 _
  · rw [hlen, List.map_append]
    exact ownsRow_setCell_below hown (by show P < B; exact hPB) _
  · rw [rowOf_block, rowOf_block] at hat
    rcases hat with h | h
    · exact .inl h
    · exact .inr ⟨_, h, hsz⟩

set_option maxRecDepth 100000 in
set_option maxHeartbeats 400000 in
theorem pnum_any (B P cap n : Nat) (ao : Option Addr) (xs : List UInt8) (w : World) (hn : n < 9223372036854775808) (hp : PenAt B w P ao cap xs) (hB : B ≤ w.heap.size) (hPB : P < B) (hx : xs.length + (enc n).length ≤ 140737488355328) :
    Calls Try.prog 13 #[.pointer (some ⟨P, 0, none⟩), .int .i64 n] w fun e w' => e = .returned (.bool true) ∧ PenPost B P ao (xs ++ enc n) w w' := by
  obtain ⟨i0, hi, hz0, hz1, hz2⟩ := info_parts Try.info5
  go_enter Try.func13, Try.ntmps13
  go_wp2
  go_loopw [1] (fun i wr => ∃ (m : Nat) (a : Option Addr) (c : Nat) (zs : List UInt8), i = .int .i64 m ∧ m < 9223372036854775808 ∧ PenAt B wr P a c zs ∧ PChg P ao w a wr ∧ Hid (zs ++ enc m = xs ++ enc n)) (fun i _ => (intOf i).toNat)
  case atStart => exact ⟨n, ao, cap, xs, rfl, hn, hp, PChg.refl _ _ _, rfl⟩
  case round =>
    obtain ⟨m, a, c, zs, rfl, hm, hpr, hch, HS⟩ := hrel
    have hc0 := cell_blk hpr.cell 0
    have hf0 := froz_blk hpr.cell 0
    simp only [List.getElem?_toArray, List.getElem?_cons_zero] at hc0
    have hPw := lt_blk hpr.cell
    have hlz : zs.length + (enc m).length ≤ 140737488355328 := by
      have := congrArg List.length HS.out
      simp only [List.length_append] at this
      omega
    have hep := enc_pos m
    have hBw : B ≤ wr.heap.size := Nat.le_trans hB hch.chg.size
    by_cases h128 : 128 ≤ m
    · have hd := digit_of m hm
      go_wp2_with (at_builtin; refine wpList_append_own_at _ rfl (.tmp 19) (.tmp 24) 25 rfl B 5 i0 (.int .u8 0) 1 1 Try.underlying25 hi hz0 hz1 hz2 rfl (by decide) _ _ _ rfl (hpr.row.alloc _) ⟨wr.heap.size, 0, none⟩ 1 1 [cb (dg m)] rfl rfl ?c1 ?c2 ?c3 ?c4 ?c5 ?_)
      case c1 => exact (cell_one_new _ _ _)
      case c2 => exact cb_one [dg m]
      case c3 => unfold maxLen; omega
      case c4 => omega
      case c5 => simp; omega
      intro v' w1 hown hgrow _ hat
      obtain ⟨ao', cap', rfl, g0, g1, hp1, hch1⟩ := pen_grown (news := [dg m]) hpr hPB ((Chg.refl _ wr).alloc _) hown hgrow hat (by omega)
      clear hown hgrow hat hd
      simp only [List.length_cons, List.length_nil, Nat.zero_add] at hp1 hch1
      go_wp2
      go_roundw
      case rel => exact ⟨m / 128, ao', cap', zs ++ [dg m], congrArg (Value.int .i64) (by omega), by omega, hp1, hch.trans hch1, hid (by rw [← HS.out, enc_big h128]; simp)⟩
      case measure => simp [intOf]; omega
    · have h128' : m < 128 := by omega
      go_wp2_with (at_builtin; refine wpList_append_own_at _ rfl (.tmp 32) (.tmp 35) 25 rfl B 5 i0 (.int .u8 0) 1 1 Try.underlying25 hi hz0 hz1 hz2 rfl (by decide) _ _ _ rfl (hpr.row.alloc _) ⟨wr.heap.size, 0, none⟩ 1 1 [cb (ds m)] rfl rfl ?d1 ?d2 ?d3 ?d4 ?d5 ?_)
      case d1 =>
        have e : cb (ds m) = .int .u8 (m : Int) := by unfold cb; rw [ds_toNat h128']
        rw [e]
        exact (cell_one_new _ _ _)
      case d2 => exact cb_one [ds m]
      case d3 => unfold maxLen; omega
      case d4 => omega
      case d5 => simp; omega
      intro v' w1 hown hgrow _ hat
      obtain ⟨ao', cap', rfl, g0, g1, hp1, hch1⟩ := pen_grown (news := [ds m]) hpr hPB ((Chg.refl _ wr).alloc _) hown hgrow hat (by omega)
      clear hown hgrow hat
      simp only [List.length_cons, List.length_nil, Nat.zero_add] at hp1 hch1
      have HF : Hid (zs ++ [ds m] = xs ++ enc n) := hid (by rw [← HS.out, enc_small h128'])
      clear HS
      go_wp2
      go_ret
      exact ⟨rfl, ao', cap', HF.out ▸ hp1, hch.trans hch1⟩

end Go.Proofs.Ytaejhkjigppelaa
