/- Lists of texts that can be read. Nothing of the program's text. -/
import Derived.Test.YtaejhkjigppelaaMem
namespace Go.Proofs.Ytaejhkjigppelaa
open Go.RowKit

theorem ba_get (l : List UInt8) (k : Nat) (h : k < (⟨l.toArray⟩ : ByteArray).size) : (⟨l.toArray⟩ : ByteArray)[k] = l[k]'h := rfl

/-- The texts ls can be read from the address ao on. -/
def StrsAt (D : Nat → Prop) (w : World) (ao : Option Addr) (ls : List (List UInt8)) : Prop :=
  ∀ i (h : i < ls.length), ∃ b off, ao = some ⟨b, off, none⟩ ∧ D b ∧ w.cell? ⟨b, off + i, none⟩ = some (.string ⟨ls[i].toArray⟩) ∧ ls[i].length ≤ 9223372036854775807

theorem StrsAt.keep {S D : Nat → Prop} {w w' : World} {ao : Option Addr} {ls : List (List UInt8)} (h : StrsAt D w ao ls) (hc : Chg S w w') (hS : ∀ i, D i → ¬ S i) : StrsAt D w' ao ls := fun i hi =>
  let ⟨b, off, h1, h2, h3, h4⟩ := h i hi
  ⟨b, off, h1, h2, hc.cell h3 (hS b h2), h4⟩

theorem StrsAt.mono {D D' : Nat → Prop} {w : World} {ao : Option Addr} {ls : List (List UInt8)} (h : StrsAt D w ao ls) (hD : ∀ i, D i → D' i) : StrsAt D' w ao ls := fun i hi =>
  let ⟨b, off, h1, h2, h3, h4⟩ := h i hi
  ⟨b, off, h1, hD b h2, h3, h4⟩

theorem StrsAt.nil (D : Nat → Prop) (w : World) (ao : Option Addr) : StrsAt D w ao [] := fun i hi => by simp at hi

/-- Is s in the list? Are two lists the same? (Behind names: the walk's simp leaves them.) -/
def hasS (ls : List (List UInt8)) (s : List UInt8) : Bool := ls.contains s
def sameS (a b : List (List UInt8)) : Bool := a == b

theorem contains_take (ls : List (List UInt8)) (s : List UInt8) (k : Nat) (h : k < ls.length) (hc : hasS (ls.take k) s = false) (hn : ls[k] ≠ s) : hasS (ls.take (k + 1)) s = false := by
  unfold hasS at hc ⊢
  rw [List.take_succ_eq_append_getElem h]
  simp only [List.contains_eq_mem, List.mem_append, List.mem_singleton, decide_eq_false_iff_not, not_or] at hc ⊢
  exact ⟨hc, fun e => hn e.symm⟩

end Go.Proofs.Ytaejhkjigppelaa
