/- A reader, cut; what an error leaves. -/
import Derived.Test.YtaejhkjigppelaaFail
namespace Go.Proofs.Ytaejhkjigppelaa
open Go.RowKit

/-- What a reader holds behind a slice of its bytes. -/
theorem reader_cut {D : Nat → Prop} {R b off cap k : Nat} {l : List UInt8} {w : World} {v0 : Value} (hb : D b) (hDR : ¬ D R) (hlc : l.length ≤ cap) (hcm : cap ≤ maxLen)
    (hc : ∀ i (h : i < l.length), w.cell? ⟨b, off + i, none⟩ = some (.int .u8 (l[i].toNat : Int))) (hR : ReaderAt w R true v0 0) (hk : k ≤ l.length) {o c : Nat} (h : (cap = k ∧ c = 0) ∨ (o = off + k ∧ c = cap - k)) :
    ∃ v', BytesAt D (w.setCell ⟨R, 1, none⟩ (.slice (some ⟨b, o, none⟩) (l.length - k) c)) v' (l.drop k) ∧
      ReaderAt (w.setCell ⟨R, 1, none⟩ (.slice (some ⟨b, o, none⟩) (l.length - k) c)) R true v' 0 ∧ Chg (· = R) w (w.setCell ⟨R, 1, none⟩ (.slice (some ⟨b, o, none⟩) (l.length - k) c)) := by
  have hch : Chg (· = R) w (w.setCell ⟨R, 1, none⟩ (.slice (some ⟨b, o, none⟩) (l.length - k) c)) := (Chg.refl (· = R) w).setCell (p := ⟨R, _, none⟩) (fun _ => rfl) _
  refine ⟨_, .inr ⟨b, o, c, by rw [List.length_drop], ?_, ?_, hb, ?_⟩, ?_, hch⟩
  · rw [List.length_drop]
    rcases h with ⟨h1, h3⟩ | ⟨h1, h2⟩ <;> omega
  · rcases h with ⟨h1, h3⟩ | ⟨h1, h2⟩ <;> omega
  · intro i hi
    rw [List.length_drop] at hi
    refine hch.cell ?_ (fun e => hDR (e ▸ hb))
    rcases h with ⟨h1, h3⟩ | ⟨h1, h2⟩
    · omega
    · have := hc (k + i) (by omega)
      rw [h1, Nat.add_assoc, this, List.getElem_drop]
  · have := set_blk hR 1 (.slice (some ⟨b, o, none⟩) (l.length - k) c)
    exact this

def Stops (R : Nat) (err : Int) (w : World) (e : Ending) (w' : World) : Prop :=
  e = .panicked [{ v := stopOf R, recovered := false }] ∧ ∃ ao m cp, ReaderAt w' R true (.slice ao m cp) err ∧ Chg (· = R) w w'

theorem reader_stop {R : Nat} {w : World} {ao : Option Addr} {m cp : Nat} (hR : ReaderAt w R true (.slice ao m cp) 0) (err : Int) :
    Stops R err w (.panicked [{ v := stopOf R, recovered := false }]) (w.setCell ⟨R, 2, none⟩ (.int .i64 err)) :=
  ⟨rfl, ao, m, cp, set_blk hR 2 (.int .i64 err), (Chg.refl (· = R) w).setCell (p := ⟨R, _, none⟩) (fun _ => rfl) _⟩

theorem pair3 (r : Nat × Nat × Nat) {e : Nat} (h : r.2.2 = e) : r = (r.1, r.2.1, e) := by
  obtain ⟨a, b, c⟩ := r
  subst h
  rfl

end Go.Proofs.Ytaejhkjigppelaa
