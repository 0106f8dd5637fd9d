/- Conversions between strings and bytes; blocks of bytes. -/
import Derived.Test.YtaejhkjigppelaaRows
import Derived.Test.YtaejhkjigppelaaRow
import Derived.Lib.SlBytesConst
namespace Go.Proofs.Ytaejhkjigppelaa
open Go.RowKit

theorem Try.info5 : (Try.prog.info? 5).map (fun i => (i.zero, i.size, i.bytes)) = some (some (.int .u8 0), 1, 1) := by kernel_rfl

theorem conv_bytes {D : Nat → Prop} {v : Value} {l : List UInt8} {w : World} (h : BytesAt D w v l) : (convert 25 9 v).run Try.prog w = .ok (.string ⟨l.toArray⟩) w := by
  rcases h with ⟨ao, cp, rfl, rfl, h0⟩ | ⟨b, off, cap, rfl, h1, h2, h3, h4⟩
  · cases ao with
    | none => exact run_convert_bytes_nil w 25 5 Try.underlying25 Try.underlying5 0 cp 9 Try.underlying9
    | some x => exact run_convert_bytes_back w 25 9 5 x cp [] Try.underlying25 Try.underlying5 Try.underlying9 (fun j hj => by simp at hj)
  · refine run_convert_bytes_back w 25 9 5 ⟨b, off, none⟩ cap l Try.underlying25 Try.underlying5 Try.underlying9 (fun j hj => ?_)
    rw [add_off]
    exact h4 j hj

theorem conv_one (d : UInt8) (x : Int) (w : World) (hx : x = (d.toNat : Int)) : (convert 25 9 (.slice (some ⟨w.heap.size, 0, none⟩) 1 1)).run Try.prog (w.alloc (.cells #[.int .u8 x] 5)) = .ok (.string ⟨#[d]⟩) (w.alloc (.cells #[.int .u8 x] 5)) := by
  subst hx
  refine conv_bytes (D := fun _ => True) (l := [d]) (.inr ⟨_, 0, 1, rfl, Nat.le_refl 1, by decide, trivial, fun i hi => ?_⟩)
  rw [cell_blk (heap_alloc_new w _)]
  match i, hi with
  | 0, _ => rfl

/-- A block of one byte. -/
theorem bytes_one {w : World} {B : Nat} {T : TypeId} {f : Nat × Nat} (n : Nat) (hn : n < 256) (h : w.heap[B]? = some (.cells #[.int .u8 (n : Int)] T f)) : BytesAt (fun k => k = B) w (.slice (some ⟨B, 0, none⟩) 1 1) [UInt8.ofNat n] := by
  refine .inr ⟨B, 0, 1, rfl, by simp, by decide, rfl, fun i hi => ?_⟩
  have : i = 0 := by simp at hi; omega
  subst this
  rw [cell_blk h]
  simp only [List.getElem_cons_zero, ofNat_u8 n hn]
  rfl

/-- A block of bytes. -/
theorem bytes_blk {w : World} {B : Nat} {T : TypeId} {f : Nat × Nat} (l : List UInt8) (hl : l.length ≤ maxLen) (h : w.heap[B]? = some (.cells (l.map cb).toArray T f)) : BytesAt (fun k => k = B) w (.slice (some ⟨B, 0, none⟩) l.length l.length) l := by
  refine .inr ⟨B, 0, l.length, rfl, Nat.le_refl _, hl, rfl, fun i hi => ?_⟩
  rw [cell_blk h, Nat.zero_add]
  simp [hi, cb]

theorem one_le_maxLen : 1 ≤ maxLen := by decide

theorem two_le_maxLen : 2 ≤ maxLen := by decide

theorem bytes_lit1 (x : Int) (y : UInt8) (f : Nat × Nat) (h : x = (y.toNat : Int)) (w : World) : BytesAt (fun _ => True) (w.alloc (.cells #[.int .u8 x] 5 f)) (.slice (some ⟨w.heap.size, 0, none⟩) 1 1) [y] := by
  subst h
  exact (bytes_blk [y] one_le_maxLen (heap_alloc_new w _)).mono (fun _ _ => trivial)

theorem bytes_lit2 (x x' : Int) (y y' : UInt8) (f : Nat × Nat) (h : x = (y.toNat : Int)) (h' : x' = (y'.toNat : Int)) (w : World) : BytesAt (fun _ => True) (w.alloc (.cells #[.int .u8 x, .int .u8 x'] 5 f)) (.slice (some ⟨w.heap.size, 0, none⟩) 2 2) [y, y'] := by
  subst h
  subst h'
  exact (bytes_blk [y, y'] two_le_maxLen (heap_alloc_new w _)).mono (fun _ _ => trivial)

theorem kconv_at (w : World) (g : Nat) (C : Array Value) (n c : Nat) (hg : g = w.heap.size) : (convert 25 25 (.slice (some ⟨g, 0, none⟩) n c)).run Try.prog (w.alloc (.cells C 5)) = .ok (.slice (some ⟨g, 0, none⟩) n c) (w.alloc (.cells C 5 (C.size, C.size + 1))) := by
  subst hg
  exact Lib.run_convert_bytes_const (P := Try.prog) w 25 5 C n c Try.underlying25 Try.underlying5

theorem bytesRow_list (acc : List UInt8) (cap : Nat) (i : Nat) (h : i < acc.length) : (bytesRow ⟨acc.toArray⟩ cap)[i]? = some (.int .u8 (acc[i].toNat : Int)) := by
  have := bytesRow_at ⟨acc.toArray⟩ cap i (by simpa using h)
  simpa using this

/-- '[]byte(s)'. -/
theorem bytes_of (acc : List UInt8) (w : World) (c : Nat) (hc : acc.length ≤ c) (hm : c ≤ maxLen) (f : Nat × Nat) :
    BytesAt (fun k => k = w.heap.size) (w.alloc (.cells (bytesRow ⟨acc.toArray⟩ c) 5 f)) (.slice (some ⟨w.heap.size, 0, none⟩) acc.length c) acc := by
  refine .inr ⟨_, 0, c, rfl, hc, hm, rfl, fun i hi => ?_⟩
  rw [cell_blk (heap_alloc_new w _), Nat.zero_add]
  exact bytesRow_list acc c i hi

theorem conv_str (acc : List UInt8) (w : World) : (convert 9 25 (.string ⟨acc.toArray⟩)).run Try.prog w = .ok (.slice (some ⟨w.heap.size, 0, none⟩) acc.length (grownCap w acc.length 0 5))
      (w.drew.alloc (.cells (bytesRow ⟨acc.toArray⟩ (grownCap w acc.length 0 5)) 5 ((bytesRow ⟨acc.toArray⟩ (grownCap w acc.length 0 5)).size, (bytesRow ⟨acc.toArray⟩ (grownCap w acc.length 0 5)).size + 1))) := by
  have := run_bytes_of_string (P := Try.prog) w 9 25 5 ⟨acc.toArray⟩ Try.underlying9 Try.underlying25 Try.underlying5
  exact this

end Go.Proofs.Ytaejhkjigppelaa
