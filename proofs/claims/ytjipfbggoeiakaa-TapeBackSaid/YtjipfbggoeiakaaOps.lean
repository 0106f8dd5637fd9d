/- A list of operations that came in, as the laws of layer 1 read it. -/
import Derived.Test.YtjipfbggoeiakaaRefNum
namespace Go.Proofs.Ytjipfbggoeiakaa
open Go.RowKit

/-- Its kind, its number, its bytes. -/
structure OpR where
  kind : Int
  n : Int
  b : List UInt8

/-- One operation, at its three cells. -/
def OpAt (D : Nat → Prop) (w : World) (b o : Nat) (x : OpR) : Prop :=
  (w.cell? ⟨b, o, none⟩ = some (.int .i64 x.kind) ∧ -9223372036854775808 ≤ x.kind ∧ x.kind ≤ 9223372036854775807) ∧
  (w.cell? ⟨b, o + 1, none⟩ = some (.int .i64 x.n) ∧ -9223372036854775808 ≤ x.n ∧ x.n ≤ 9223372036854775807) ∧
  ∃ v, w.cell? ⟨b, o + 2, none⟩ = some v ∧ BytesAt D w v x.b

/-- The operations xs can be read from the address ao on. -/
def OpsAt (D : Nat → Prop) (w : World) (ao : Option Addr) (xs : List OpR) : Prop :=
  ∀ i (h : i < xs.length), ∃ b off, ao = some ⟨b, off, none⟩ ∧ D b ∧ OpAt D w b (off + i * 3) xs[i]

theorem OpAt.keep {S D : Nat → Prop} {w w' : World} {b o : Nat} {x : OpR} (h : OpAt D w b o x) (hb : D b) (hc : Chg S w w') (hS : ∀ i, D i → ¬ S i) : OpAt D w' b o x := by
  obtain ⟨⟨a1, a2, a3⟩, ⟨b1, b2, b3⟩, v, c1, c2⟩ := h
  exact ⟨⟨hc.cell a1 (hS b hb), a2, a3⟩, ⟨hc.cell b1 (hS b hb), b2, b3⟩, v, hc.cell c1 (hS b hb), c2.keep hc hS⟩

end Go.Proofs.Ytjipfbggoeiakaa
