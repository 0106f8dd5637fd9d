/- The closures of first. -/
import Derived.Test.YtjipfbggoeiakaaRead
import Derived.Test.YtjipfbggoeiakaaPenMore
namespace Go.Proofs.Ytjipfbggoeiakaa
open Go.RowKit

/-- 'string(b)'. -/
theorem conv_bytes {D : Nat → Prop} {v : Value} {l : List UInt8} {w : World} (h : BytesAt D w v l) : (convert 25 9 v).run Try.prog w = .ok (.string ⟨l.toArray⟩) w := by
  rcases h with ⟨ao, cp, rfl, rfl, h0⟩ | ⟨b, off, cap, rfl, h1, h2, h3, h4⟩
  · cases ao with
    | none => exact run_convert_bytes_nil w 25 5 Try.underlying25 Try.underlying5 0 cp 9 Try.underlying9
    | some x => exact run_convert_bytes_back w 25 9 5 x cp [] Try.underlying25 Try.underlying5 Try.underlying9 (fun j hj => by simp at hj)
  · refine run_convert_bytes_back w 25 9 5 ⟨b, off, none⟩ cap l Try.underlying25 Try.underlying5 Try.underlying9 (fun j hj => ?_)
    rw [add_off]
    exact h4 j hj

/-- Reader.Left, of an open reader. -/
theorem left_reads {D : Nat → Prop} {R : Nat} {v : Value} {l : List UInt8} {w : World} (hR : ReaderAt w R true v 0) (hv : BytesAt D w v l) :
    Calls Try.prog 24 #[.pointer (some ⟨R, 0, none⟩)] w fun e w' => e = .returned (.int .i64 l.length) ∧ w = w' := by
  obtain ⟨ao, cap, rfl⟩ := hv.shape
  exact left_open R l.length cap ao w (cell_blk hR 0) (cell_blk hR 1)

def five : List UInt8 := [172, 2, 2, 97, 98]

theorem num_five : numN 9 five 0 0 = (300, 2, 0) := by decide

set_option maxRecDepth 100000 in
theorem first1_any {D : Nat → Prop} (R N L S : Nat) (v : Value) (x y : Int) (z : ByteArray) (w : World) (hR : ReaderAt w R true v 0) (hv : BytesAt D w v five) (dR : ¬ D R) (dN : ¬ D N) (dL : ¬ D L)
    (hN : w.heap[N]? = some (.cells #[.int .i64 x] 3 (0, 0))) (hL : w.heap[L]? = some (.cells #[.int .i64 y] 3 (0, 0))) (hS : w.heap[S]? = some (.cells #[.string z] 9 (0, 0)))
    (hNR : N ≠ R) (hLR : L ≠ R) (hSR : S ≠ R) (hNL : N ≠ L) (hNS : N ≠ S) (hLS : L ≠ S) :
    Calls Try.prog 39 #[.pointer (some ⟨R, 0, none⟩), .pointer (some ⟨N, 0, none⟩), .pointer (some ⟨L, 0, none⟩), .pointer (some ⟨S, 0, none⟩)] w fun e w' => e = .returned (.tuple #[]) ∧
      (∃ ao cp, ReaderAt w' R true (.slice ao 0 cp) 0) ∧ Chg (fun k => k = R ∨ k = N ∨ k = L ∨ k = S) w w' ∧ w'.cell? ⟨N, 0, none⟩ = some (.int .i64 300) ∧ w'.cell? ⟨L, 0, none⟩ = some (.int .i64 3) ∧ w'.cell? ⟨S, 0, none⟩ = some (.string ⟨#[97, 98]⟩) := by
  have h1 := rnum_reads (most := 999) (by decide) hv dR hR (by decide)
  go_enter Try.func39, Try.ntmps39
  go_wp2_with (go_at_call 20; refine h1.mono ?_; rintro e w1 ⟨rfl, v1, hv1, hR1, hch1⟩; have hN1 := (hch1.block N (lt_blk hN) hNR).trans hN; have n0 := cell_blk hN1 0; have n1 := froz_blk hN1 0; simp only [List.getElem?_toArray, List.getElem?_cons_zero] at n0; rw [num_five])
  have c1 := setCell_chg w1 N 0 (.int .i64 300)
  have hR2 : ReaderAt _ R true v1 0 := blk_keep hR1 c1 (fun h => hNR h.symm)
  have hv2 := hv1.keep c1 (fun i hi h => dN (h ▸ hi))
  rw [show five.drop (numN 9 five 0 0).2.1 = [2, 97, 98] from by decide] at hv2
  have hN2 := set_blk hN1 0 (.int .i64 300)
  have hL2 := blk_keep (blk_keep hL hch1 hLR) c1 (fun h => hNL h.symm)
  have hS2 := blk_keep (blk_keep hS hch1 hSR) c1 (fun h => hNS h.symm)
  have hch2 : Chg (fun k => k = R ∨ k = N ∨ k = L ∨ k = S) w _ := (hch1.mono (fun _ _ h => .inl h)).trans c1 (fun _ _ h => .inr (.inl h))
  clear hR1 hv1 hN1 hch1 c1 hR hv hN hL hS h1 n0 n1
  generalize w1.setCell ⟨N, 0, none⟩ (.int .i64 300) = w2 at *
  refine (left_reads hR2 hv2).mono ?_
  rintro e w3 ⟨rfl, rfl⟩
  have l0 := cell_blk hL2 0
  have l1 := froz_blk hL2 0
  simp only [List.getElem?_toArray, List.getElem?_cons_zero] at l0
  go_wp2_with fail
  have c3 := setCell_chg w2 L 0 (.int .i64 3)
  have hR4 : ReaderAt _ R true v1 0 := blk_keep hR2 c3 (fun h => hLR h.symm)
  have hv4 := hv2.keep c3 (fun i hi h => dL (h ▸ hi))
  have hN4 := blk_keep hN2 c3 hNL
  have hL4 := set_blk hL2 0 (.int .i64 3)
  have hS4 := blk_keep hS2 c3 (fun h => hLS h.symm)
  have hch4 : Chg (fun k => k = R ∨ k = N ∨ k = L ∨ k = S) w _ := hch2.trans c3 (fun _ _ h => .inr (.inr (.inl h)))
  clear hR2 hv2 hN2 hL2 hS2 hch2 c3 l0 l1
  generalize w2.setCell ⟨L, 0, none⟩ (.int .i64 3) = w4 at *
  refine (rtext_reads (most := 9) (by decide) hv4 dR hR4 (by decide)).mono ?_
  rintro e w5 ⟨ao, cap, rfl, hby, v5, hv5, hR5, hch5⟩
  rw [show (([2, 97, 98] : List UInt8).drop (numN 9 [2, 97, 98] 0 0).2.1).take (numN 9 [2, 97, 98] 0 0).1 = [97, 98] from by decide] at hby
  rw [show ([2, 97, 98] : List UInt8).drop ((numN 9 [2, 97, 98] 0 0).2.1 + (numN 9 [2, 97, 98] 0 0).1) = [] from by decide] at hv5
  have hconv := conv_bytes hby
  have hS5 := blk_keep hS4 hch5 hSR
  have s0 := cell_blk hS5 0
  have s1 := froz_blk hS5 0
  simp only [List.getElem?_toArray, List.getElem?_cons_zero] at s0
  go_wp2
  go_end0
  have c5 := setCell_chg w5 S 0 (.string ⟨#[97, 98]⟩)
  obtain ⟨ao6, cap6, rfl⟩ := hv5.shape
  refine ⟨rfl, ⟨ao6, cap6, blk_keep hR5 c5 (fun h => hSR h.symm)⟩, ?_, ?_, ?_, ?_⟩
  · exact (hch4.trans hch5 (fun _ _ h => .inl h)).trans c5 (fun _ _ h => .inr (.inr (.inr h)))
  · exact cell_blk (blk_keep (blk_keep hN4 hch5 hNR) c5 hNS) 0
  · exact cell_blk (blk_keep (blk_keep hL4 hch5 hLR) c5 hLS) 0
  · exact cell_blk (set_blk hS5 0 (.string ⟨#[97, 98]⟩)) 0

set_option maxRecDepth 100000 in
theorem first2_any {D : Nat → Prop} (R : Nat) (N : Value) (v : Value) (w : World) (hR : ReaderAt w R true v 0) (hv : BytesAt D w v five) :
    Calls Try.prog 40 #[.pointer (some ⟨R, 0, none⟩), N] w (Stops R 12 w) := by
  have h1 := rnum_stops (most := 299) (by decide) hv hR (by decide)
  rw [show errNum five 299 = 12 from by decide] at h1
  go_enter Try.func40, Try.ntmps40
  go_wp2_with (go_at_call 20; refine h1.mono ?_; rintro e w1 ⟨rfl, hs⟩)
  exact ⟨rfl, rfl, hs⟩

/-- A function with a body is entered. -/
theorem enters {K : Nat} {fn : Func} (hf : Try.prog.funcs[K]? = some fn) (hn : (fn.name == "runtime.NumGoroutine") = false) (hb : fn.body.isNone = false) (args : Array Value) (w : World) :
    (callFunc K args).run Try.prog w = .ok (.enter K args) w := by
  have h1 : fn.name ≠ "runtime.NumGoroutine" := by simpa using hn
  have h2 : fn.body ≠ none := by
    intro h
    rw [h] at hb
    simp at hb
  unfold callFunc
  simp [program, Sem.run, hf, h1, h2]

theorem enters31 : ∀ args w, (callFunc 39 args).run Try.prog w = .ok (.enter 39 args) w := enters Try.func39 (by kernel_rfl) (by kernel_rfl)
theorem enters32 : ∀ args w, (callFunc 40 args).run Try.prog w = .ok (.enter 40 args) w := enters Try.func40 (by kernel_rfl) (by kernel_rfl)

end Go.Proofs.Ytjipfbggoeiakaa
