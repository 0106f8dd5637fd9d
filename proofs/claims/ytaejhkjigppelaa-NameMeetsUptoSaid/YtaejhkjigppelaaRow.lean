/- A row of bytes of the call's own, that is written in place. -/
import Derived.Test.YtaejhkjigppelaaMem
import Derived.Maps.AppendAt
namespace Go.Proofs.Ytaejhkjigppelaa
open Go.RowKit

/-- The block g holds the bytes l at its head, T being a byte's type. -/
def RowAt (T : TypeId) (w : World) (g cap : Nat) (l : List UInt8) : Prop :=
  l.length ≤ cap ∧ cap ≤ maxLen ∧ ∃ cs : Array Value, w.heap[g]? = some (.cells cs T (0, 0)) ∧ ∀ j (h : j < l.length), cs[j]? = some (cb l[j])

theorem row_of_owns {T : TypeId} {B : Nat} {w : World} {v : Value} {l : List UInt8} (h : w.ownsRow B T 1 v l.length (l.map cb)) (hl : 0 < l.length) :
    ∃ g cap, v = .slice (some ⟨g, 0, none⟩) l.length cap ∧ B ≤ g ∧ RowAt T w g cap l := by
  rcases h.2 with ⟨rfl, h0⟩ | ⟨g, cap, cur, rfl, hg, hh, h1, h2, h3, h4⟩
  · omega
  · refine ⟨g, cap, rfl, hg, h1, h2, cur, hh, fun j hj => ?_⟩
    have := congrArg (fun l : List Value => l[j]?) h4
    simp only [Nat.mul_one, List.getElem?_take, List.getElem?_map] at this
    rw [if_pos hj, List.getElem?_eq_getElem hj] at this
    simpa using this

theorem RowAt.bytes {T : TypeId} {w : World} {g cap : Nat} {l : List UInt8} (h : RowAt T w g cap l) : BytesAt (fun k => k = g) w (.slice (some ⟨g, 0, none⟩) l.length cap) l := by
  obtain ⟨h1, h2, cs, h3, h4⟩ := h
  refine .inr ⟨g, 0, cap, rfl, h1, h2, rfl, fun i hi => ?_⟩
  rw [cell_blk h3, Nat.zero_add]
  exact h4 i hi

theorem RowAt.cell {T : TypeId} {w : World} {g cap : Nat} {l : List UInt8} (h : RowAt T w g cap l) (i : Nat) (hi : i < l.length) : w.cell? ⟨g, i, none⟩ = some (.int .u8 (l[i].toNat : Int)) := by
  obtain ⟨h1, h2, cs, h3, h4⟩ := h
  rw [cell_blk h3]
  exact h4 i hi

theorem RowAt.frozen {T : TypeId} {w : World} {g cap : Nat} {l : List UInt8} (h : RowAt T w g cap l) (i : Nat) : w.frozen? ⟨g, i, none⟩ = false := by
  obtain ⟨h1, h2, cs, h3, h4⟩ := h
  exact froz_blk h3 i

theorem RowAt.set {T : TypeId} {w : World} {g cap : Nat} {l : List UInt8} (h : RowAt T w g cap l) (i : Nat) (y : UInt8) : RowAt T (w.setCell ⟨g, i, none⟩ (cb y)) g cap (l.set i y) := by
  obtain ⟨h1, h2, cs, h3, h4⟩ := h
  refine ⟨by simpa using h1, h2, _, set_blk h3 i (cb y), fun j hj => ?_⟩
  have hj' : j < l.length := by simpa using hj
  have hjc : j < cs.size := (Array.getElem?_eq_some_iff.1 (h4 j hj')).1
  rw [List.getElem_set]
  by_cases hij : i = j
  · subst hij
    rw [if_pos rfl]
    simp [hjc]
  · rw [if_neg hij, Array.getElem?_setIfInBounds_ne hij]
    exact h4 j hj'

theorem RowAt.keep {T : TypeId} {S : Nat → Prop} {w w' : World} {g cap : Nat} {l : List UInt8} (h : RowAt T w g cap l) (hc : Chg S w w') (hs : ¬ S g) : RowAt T w' g cap l := by
  obtain ⟨h1, h2, cs, h3, h4⟩ := h
  exact ⟨h1, h2, cs, blk_keep h3 hc hs, h4⟩

theorem cb_getElem? (l : List UInt8) (i : Nat) (u : Value) (h : (l.map cb)[i]? = some u) : ∃ hi : i < l.length, u = .int .u8 (l[i].toNat : Int) := by
  have hi : i < l.length := by
    have := (List.getElem?_eq_some_iff.1 h).1
    simpa using this
  refine ⟨hi, ?_⟩
  simp [hi] at h
  exact h.symm

theorem cb_one (l : List UInt8) : ∀ u ∈ l.map cb, u.oneCell' = true := by
  intro u hu
  simp at hu
  obtain ⟨x, _, rfl⟩ := hu
  rfl

/-- Bytes that can be read, as the cells from an address on (where there are some). -/
theorem BytesAt.addr {D : Nat → Prop} {w : World} {ao : Option Addr} {cp n : Nat} {l : List UInt8} (h : BytesAt D w (.slice ao n cp) l) (hl : 0 < l.length) :
    ∃ b off, ao = some ⟨b, off, none⟩ ∧ b < w.heap.size ∧ D b ∧ ∀ i (h : i < l.length), w.cell? ⟨b, off + i, none⟩ = some (.int .u8 (l[i].toNat : Int)) := by
  rcases h with ⟨_, _, _, h2, _⟩ | ⟨b, off, cap, h1, _, _, h4, h5⟩
  · subst h2
    simp at hl
  · cases h1
    exact ⟨b, off, rfl, World.block_lt_of_cell? w _ (h5 0 hl), h4, h5⟩

theorem add_off (b off i : Nat) : (⟨b, off, none⟩ : Addr).add i = ⟨b, off + i, none⟩ := by
  unfold Addr.add
  split <;> simp_all

end Go.Proofs.Ytaejhkjigppelaa
