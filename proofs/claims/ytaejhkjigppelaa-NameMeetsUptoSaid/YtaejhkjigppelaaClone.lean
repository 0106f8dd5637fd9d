/- The contract of bytes.Clone. -/
import Derived.Test.YtaejhkjigppelaaBase
import Derived.Test.YtaejhkjigppelaaConv
namespace Go.Proofs.Ytaejhkjigppelaa
open Go.RowKit

theorem eql25 : ∀ (w : World) (a : Option Addr) (n c n' c' : Nat), (binOp .eql 25 (.slice a n c) (.slice none n' c')).run Try.prog w = .ok (.bool a.isNone) w :=
  fun w a n c n' c' => Lib.run_eql_slice_nil w _ _ a n c n' c' Try.underlying25

theorem clone_nil (w : World) : Calls Try.prog 63 #[.slice none 0 0] w fun e w' => e = .returned (.slice none 0 0) ∧ w = w' := by
  have q := eql25
  go_enter Try.func63, Try.ntmps63
  go_wp2
  go_ret
  exact ⟨rfl, rfl⟩

def Cloned (l : List UInt8) (w : World) (e : Ending) (w' : World) : Prop :=
  ∃ ao cap, e = .returned (.slice ao l.length cap) ∧ BytesAt (fun k => w.heap.size ≤ k ∧ k < w'.heap.size) w' (.slice ao l.length cap) l ∧ Chg (fun _ => False) w w'

/-- A slice of bytes that the call owns can be read. -/
theorem owns_bytes {B : Nat} {w : World} {v : Value} {l : List UInt8} (h : w.ownsRow B 5 1 v l.length (l.map cb)) : ∃ ao cap, v = .slice ao l.length cap ∧ BytesAt (fun k => B ≤ k ∧ k < w.heap.size) w (.slice ao l.length cap) l := by
  rcases h.2 with ⟨rfl, h0⟩ | ⟨g, cap, cur, rfl, hg, hh, h1, h2, h3, h4⟩
  · have : l = [] := List.eq_nil_of_length_eq_zero h0
    subst this
    exact ⟨none, 0, rfl, BytesAt.nil _ _⟩
  · refine ⟨_, _, rfl, .inr ⟨g, 0, cap, rfl, h1, h2, ⟨hg, lt_blk hh⟩, fun i hi => ?_⟩⟩
    have hcell := h.cells (g := g) rfl i (cb l[i]) (by simp [hi])
    rw [add_off] at hcell
    exact hcell

set_option maxRecDepth 100000 in
theorem clone_some (b off cap : Nat) (l : List UInt8) (w : World) (hl : l.length ≤ 140737488355328)
    (hc : ∀ i (h : i < l.length), w.cell? ⟨b, off + i, none⟩ = some (.int .u8 (l[i].toNat : Int))) :
    Calls Try.prog 63 #[.slice (some ⟨b, off, none⟩) l.length cap] w (Cloned l w) := by
  obtain ⟨i0, hi, hz0, hz1, hz2⟩ := info_parts Try.info5
  have q := eql25
  go_enter Try.func63, Try.ntmps63
  go_wp2_with (at_builtin; refine wpList_append_own _ rfl (.tmp 5) (.tmp 6) 25 rfl w.heap.size 5 i0 (.int .u8 0) 1 1 Try.underlying25 hi hz0 hz1 hz2 rfl (by decide) _ 0 [] rfl (World.ownsRow_made w #[] 0 (Nat.le_refl _) (by decide) rfl) ⟨b, off, none⟩ l.length cap (l.map cb) rfl (by simp) ?c1 ?c2 ?c3 ?c4 ?c5 ?_)
  case c1 =>
    intro j u hj
    obtain ⟨hj1, rfl⟩ := cb_getElem? l j u hj
    have hcj := hc j hj1
    have hb := World.block_lt_of_cell? w _ hcj
    rw [add_off, World.cell?_alloc_past _ _ _ hb]
    exact hcj
  case c2 => exact cb_one l
  case c3 => unfold maxLen; omega
  case c4 => omega
  case c5 => simp
  intro v' w1 hown hgrow _
  have hown2 : w1.ownsRow w.heap.size 5 1 v' l.length (l.map cb) := by simpa using hown
  clear hown
  obtain ⟨ao, cap', rfl, hby⟩ := owns_bytes hown2
  have hch : Chg (fun _ => False) w w1 := ((Chg.refl _ w).alloc _).grown hgrow (fun k e hk => by simp [Value.ownBlock] at e; omega)
  go_wp2
  go_ret
  exact ⟨ao, cap', rfl, hby, hch⟩

set_option maxRecDepth 100000 in
theorem clone_empty (x : Addr) (cap : Nat) (w : World) : Calls Try.prog 63 #[.slice (some x) 0 cap] w (Cloned [] w) := by
  obtain ⟨i0, hi, hz0, hz1, hz2⟩ := info_parts Try.info5
  have q := eql25
  go_enter Try.func63, Try.ntmps63
  go_wp2_with (at_builtin; refine wpList_append_own _ rfl (.tmp 5) (.tmp 6) 25 rfl w.heap.size 5 i0 (.int .u8 0) 1 1 Try.underlying25 hi hz0 hz1 hz2 rfl (by decide) _ 0 [] rfl (World.ownsRow_made w #[] 0 (Nat.le_refl _) (by decide) rfl) x 0 cap [] rfl rfl ?c1 ?c2 ?c3 ?c4 ?c5 ?_)
  case c1 =>
    intro j u hj
    simp at hj
  case c2 => simp
  case c3 => unfold maxLen; omega
  case c4 => omega
  case c5 => simp
  intro v' w1 hown hgrow _
  have hown2 : w1.ownsRow w.heap.size 5 1 v' ([] : List UInt8).length (([] : List UInt8).map cb) := by simpa using hown
  clear hown
  obtain ⟨ao, cap', rfl, hby⟩ := owns_bytes hown2
  have hch : Chg (fun _ => False) w w1 := ((Chg.refl _ w).alloc _).grown hgrow (fun k e hk => by simp [Value.ownBlock] at e; omega)
  go_wp2
  go_ret
  exact ⟨ao, cap', rfl, hby, hch⟩

theorem clone_any {D : Nat → Prop} {v : Value} {l : List UInt8} {w : World} (hl : l.length ≤ 140737488355328) (h : BytesAt D w v l) : Calls Try.prog 63 #[v] w (Cloned l w) := by
  rcases h with ⟨ao, cp, rfl, rfl, h0⟩ | ⟨b, off, cap, rfl, h1, h2, h3, h4⟩
  · cases ao with
    | none =>
      obtain rfl := h0 rfl
      refine (clone_nil w).mono ?_
      rintro e w' ⟨rfl, rfl⟩
      exact ⟨none, 0, rfl, BytesAt.nil _ _, Chg.refl _ _⟩
    | some x => exact clone_empty x cp w
  · exact clone_some b off cap l w hl h4

end Go.Proofs.Ytaejhkjigppelaa
