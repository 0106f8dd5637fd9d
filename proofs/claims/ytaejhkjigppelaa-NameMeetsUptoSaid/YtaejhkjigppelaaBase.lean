/- What the walks of layer 1 say of memory: a pen, a reader, bytes that can be read; which blocks a call may have turned. -/
import Derived.Test.YtaejhkjigppelaaRows
import Derived.Test.YtaejhkjigppelaaMath
import Derived.Test.YtaejhkjigppelaaMem
namespace Go.Proofs.Ytaejhkjigppelaa
open Go.RowKit

/-- A reader, in the block R: is it open, the bytes that are left, the error. -/
def ReaderAt (w : World) (R : Nat) (op : Bool) (v : Value) (e : Int) : Prop :=
  w.heap[R]? = some (.cells #[.bool op, v, .int .i64 e] 75 (0, 0))

/-- A pen, in the block P: what it holds is the slice (ao, xs.length, cap), which owns the bytes xs in a row of a block from B on. -/
structure PenAt (B : Nat) (w : World) (P : Nat) (ao : Option Addr) (cap : Nat) (xs : List UInt8) : Prop where
  cell : w.heap[P]? = some (.cells #[.slice ao xs.length cap] 27 (0, 0))
  row : w.ownsRow B 5 1 (.slice ao xs.length cap) xs.length (xs.map cb)

def rowOf (ao : Option Addr) : Option Nat := ao.map (·.block)

/-- What a pen's call leaves of all else. -/
structure PChg (P : Nat) (ao : Option Addr) (w : World) (ao' : Option Addr) (w' : World) : Prop where
  chg : Chg (fun k => k = P ∨ rowOf ao = some k) w w'
  row : rowOf ao' = rowOf ao ∨ ∃ g, rowOf ao' = some g ∧ w.heap.size ≤ g

theorem PChg.refl (P : Nat) (ao : Option Addr) (w : World) : PChg P ao w ao w := ⟨Chg.refl _ _, .inl rfl⟩

theorem PChg.trans {P : Nat} {a b c : Option Addr} {u v w : World} (h : PChg P a u b v) (k : PChg P b v c w) : PChg P a u c w := by
  refine ⟨h.chg.trans k.chg ?_, ?_⟩
  · rintro i hi (e | e)
    · exact .inl e
    · rcases h.row with hr | ⟨g, hr, hg⟩
      · exact .inr (hr.symm.trans e)
      · rw [hr] at e
        cases e
        omega
  · rcases k.row with kr | ⟨g, kr, kg⟩
    · rcases h.row with hr | ⟨g, hr, hg⟩
      · exact .inl (kr.trans hr)
      · exact .inr ⟨g, kr.trans hr, hg⟩
    · exact .inr ⟨g, kr, Nat.le_trans h.chg.size kg⟩

theorem PenAt.keep {S : Nat → Prop} {B : Nat} {w w' : World} {P : Nat} {ao : Option Addr} {cap : Nat} {xs : List UInt8} (h : PenAt B w P ao cap xs) (hc : Chg S w w') (hP : ¬ S P) (hr : ∀ k, rowOf ao = some k → ¬ S k) : PenAt B w' P ao cap xs := by
  refine ⟨(hc.block P (lt_blk h.cell) hP).trans h.cell, h.row.1, ?_⟩
  rcases h.row.2 with hn | ⟨g, cap', cur, hv, hg, hh, r⟩
  · exact .inl hn
  · refine .inr ⟨g, cap', cur, hv, hg, ?_, r⟩
    have e : rowOf ao = some g := by
      cases hv
      rfl
    exact (hc.block g (lt_blk hh) (hr g e)).trans hh

/-- What the pen holds can be read. -/
theorem PenAt.bytes {B : Nat} {w : World} {P : Nat} {ao : Option Addr} {cap : Nat} {xs : List UInt8} (h : PenAt B w P ao cap xs) : BytesAt (fun k => rowOf ao = some k) w (.slice ao xs.length cap) xs := by
  rcases h.row.2 with ⟨hn, h0⟩ | ⟨g, cap', cur, hv, hg, hh, h1, h2, h3, h4⟩
  · have h1 := List.eq_nil_of_length_eq_zero h0
    subst h1
    exact .inl ⟨none, 0, hn, rfl, fun _ => rfl⟩
  · cases hv
    refine .inr ⟨g, 0, cap, rfl, h1, h2, rfl, fun i hi => ?_⟩
    have hcell := h.row.cells (g := g) rfl i (cb xs[i]) (by simp [hi])
    have e : ((⟨g, 0, none⟩ : Addr).add i) = ⟨g, 0 + i, none⟩ := by
      unfold Addr.add
      split <;> simp_all
    rw [e] at hcell
    exact hcell

end Go.Proofs.Ytaejhkjigppelaa
