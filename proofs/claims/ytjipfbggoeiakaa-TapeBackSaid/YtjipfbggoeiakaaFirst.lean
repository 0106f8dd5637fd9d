/- The contract of first: it answers true, and turns nothing that was there. -/
import Derived.Test.YtjipfbggoeiakaaFirstClos
import Derived.Lib.SlBytesConst
namespace Go.Proofs.Ytjipfbggoeiakaa
open Go.RowKit

theorem enc_300 : enc 300 = [172, 2] := by
  rw [enc_big (by omega), enc_small (by omega)]
  decide

theorem enc_2 : enc 2 = [2] := by
  rw [enc_small (by omega)]
  decide

/-- A new pen. -/
theorem pen_new (w : World) (B : Nat) : PenAt B (w.alloc (.cells #[.slice none 0 0] 27)) w.heap.size none 0 [] :=
  ⟨heap_alloc_new w _, World.ownsRow_nil _ _ _ _⟩

/-- A pen's call turns nothing that was there ahead of the pen. -/
theorem pchg_new {B P : Nat} {w wk w' : World} {ao ao' : Option Addr} {cap : Nat} {xs : List UInt8} (hc : Chg (fun _ => False) w wk) (hp : PenAt B wk P ao cap xs) (hPB : P < B) (hP : w.heap.size ≤ P) (h : PChg P ao wk ao' w') : Chg (fun _ => False) w w' := by
  refine hc.trans h.chg ?_
  rintro i hi (e | e)
  · omega
  · have := (hp.row.lt i ((rowOf_block _ _ _).trans e)).1
    omega

def CellsOf (N L S : Nat) (n l : Int) (s : ByteArray) (w : World) : Prop :=
  w.cell? ⟨N, 0, none⟩ = some (.int .i64 n) ∧ w.cell? ⟨L, 0, none⟩ = some (.int .i64 l) ∧ w.cell? ⟨S, 0, none⟩ = some (.string s)

theorem first_read1 {D : Nat → Prop} {ao : Option Addr} {cp : Nat} (N L S : Nat) (x y : Int) (z : ByteArray) (w : World) (hv : BytesAt D w (.slice ao 5 cp) five) (dD : ∀ i, D i → i < w.heap.size) (dN : ¬ D N) (dL : ¬ D L)
    (hN : w.heap[N]? = some (.cells #[.int .i64 x] 3 (0, 0))) (hL : w.heap[L]? = some (.cells #[.int .i64 y] 3 (0, 0))) (hS : w.heap[S]? = some (.cells #[.string z] 9 (0, 0)))
    (hNL : N ≠ L) (hNS : N ≠ S) (hLS : L ≠ S) :
    Calls Try.prog 16 #[.slice ao 5 cp, .func (.func 39) #[] #[.pointer (some ⟨N, 0, none⟩), .pointer (some ⟨L, 0, none⟩), .pointer (some ⟨S, 0, none⟩)]] w fun e w' =>
      e = .returned (.int .i64 0) ∧ CellsOf N L S 300 3 ⟨#[97, 98]⟩ w' ∧ Chg (fun k => k = N ∨ k = L ∨ k = S) w w' := by
  have lN := lt_blk hN
  have lL := lt_blk hL
  have lS := lt_blk hS
  have hrw := readWorld_chg w (.slice ao 5 cp) (fun _ => False)
  refine (read_returns (T := fun k => k = N ∨ k = L ∨ k = S) (P := CellsOf N L S 300 3 ⟨#[97, 98]⟩) (n := 0) (by rintro k (h | h | h) <;> omega) enters31 ?_).mono ?_
  · refine (first1_any (w.heap.size + 1) N L S _ x y z (readWorld w (.slice ao 5 cp)) (readWorld_R w _) (hv.keep hrw (fun _ _ h => h)) (fun h => by have := dD _ h; omega) dN dL (blk_keep hN hrw id) (blk_keep hL hrw id) (blk_keep hS hrw id) (by omega) (by omega) (by omega) hNL hNS hLS).mono ?_
    rintro e w1 ⟨rfl, hr, hc, h1, h2, h3⟩
    obtain ⟨ao1, cp1, hr⟩ := hr
    exact ⟨rfl, ⟨⟨ao1, 0, cp1, hr, fun _ => rfl⟩, hc⟩, h1, h2, h3⟩
  · rintro e w' ⟨rfl, w1, ⟨h1, h2, h3⟩, hl⟩
    refine ⟨rfl, ⟨hl.2.1.cell h1 ?_, hl.2.1.cell h2 ?_, hl.2.1.cell h3 ?_⟩, hl.2.2⟩
    · rintro (h | h) <;> (dsimp only at h; omega)
    · rintro (h | h) <;> (dsimp only at h; omega)
    · rintro (h | h) <;> (dsimp only at h; omega)

theorem first_read2 {D : Nat → Prop} {ao : Option Addr} {cp : Nat} (N : Value) (w : World) (hv : BytesAt D w (.slice ao 5 cp) five) :
    Calls Try.prog 16 #[.slice ao 5 cp, .func (.func 40) #[] #[N]] w fun e w' =>
      e = .returned (.int .i64 12) ∧ Chg (fun _ => False) w w' := by
  have hrw := readWorld_chg w (.slice ao 5 cp) (fun _ => False)
  refine (read_stops (T := fun _ => False) (P := fun _ => True) (n := 5) (flt := 12) [] rfl (fun _ h => h.elim) enters32 ?_).mono ?_
  · refine (first2_any (w.heap.size + 1) N _ (readWorld w (.slice ao 5 cp)) (readWorld_R w _) (hv.keep hrw (fun _ _ h => h))).mono ?_
    rintro e w1 ⟨rfl, ao1, m, cp1, hr, hc⟩
    exact ⟨rfl, ⟨⟨ao1, m, cp1, hr, fun h => by cases h⟩, hc.mono (fun _ _ h => .inl h)⟩, trivial⟩
  · rintro e w' ⟨rfl, w1, _, hl⟩
    exact ⟨rfl, hl.2.2⟩

set_option maxRecDepth 100000 in
theorem first_any (w : World) : Calls Try.prog 9 #[] w fun e w' => e = .returned (.bool true) ∧ Chg (fun _ => False) w w' := by
  have kc := fun (w : World) (C : Array Value) (n c : Nat) => Lib.run_convert_bytes_const (P := Try.prog) w 25 5 C n c Try.underlying25 Try.underlying5
  have hp1 := pen_new w (w.heap.size + 1)
  have hc1 : Chg (fun _ => False) w (w.alloc (.cells #[.slice none 0 0] 27)) := (Chg.refl _ w).alloc _
  go_enter Try.func9, Try.ntmps9
  go_wp2_with fail
  obtain ⟨P, hP⟩ : ∃ P, P = w.heap.size := ⟨_, rfl⟩
  rw [← hP] at hp1 ⊢
  have hs1 : (w.alloc (.cells #[.slice none 0 0] 27)).heap.size = P + 1 := by rw [hP]; simp
  have hPw : w.heap.size ≤ P := by omega
  clear hP
  generalize w.alloc (.cells #[.slice none 0 0] 27) = w1 at *
  refine (pnum_any (P + 1) P 0 300 none [] w1 (by decide) hp1 (by omega) (by omega) (by rw [enc_300]; decide)).mono ?_
  rintro e w2 ⟨rfl, ao2, cap2, hp2, hch2⟩
  have hc2 := pchg_new hc1 hp1 (by omega) hPw hch2
  have hs2 : P + 1 ≤ w2.heap.size := by have := hch2.chg.size; omega
  rw [enc_300] at hp2
  clear hp1 hc1 hs1 hch2
  go_wp2_with fail
  refine (pnum_neg P (-1) (by decide) w2).mono ?_
  rintro e w3 ⟨rfl, rfl⟩
  go_wp2_with fail
  have hc4 : Chg (fun _ => False) w2 (w2.alloc (.cells #[.int .u8 97, .int .u8 98] 5 (2, 3))) := (Chg.refl _ w2).alloc _
  have hp4 := hp2.keep hc4 id (fun _ _ => id)
  have hb4 : BytesAt (fun k => k = w2.heap.size) (w2.alloc (.cells #[.int .u8 97, .int .u8 98] 5 (2, 3))) (.slice (some ⟨w2.heap.size, 0, none⟩) 2 2) [97, 98] := by
    refine .inr ⟨_, 0, 2, rfl, by decide, by decide, rfl, fun i hi => ?_⟩
    rw [cell_blk (heap_alloc_new w2 _)]
    match i, hi with
    | 0, _ => rfl
    | 1, _ => rfl
  have hr4 := fun k hk => hp2.row.lt k ((rowOf_block _ _ _).trans hk)
  have hPw4 := lt_blk hp2.cell
  refine (text_any (P + 1) P cap2 ao2 [172, 2] [97, 98] _ _ hp4 (by simp; omega) (by omega) (by decide) (by decide) hb4 ?_).mono ?_
  · rintro i rfl
    refine ⟨by omega, fun e => ?_⟩
    have := hr4 _ e
    omega
  rintro e w5 ⟨rfl, ao5, cap5, hp5, hch5⟩
  rw [show ([172, 2] : List UInt8) ++ (enc ([97, 98] : List UInt8).length ++ [97, 98]) = five from by rw [show ([97, 98] : List UInt8).length = 2 from rfl, enc_2]; decide] at hp5
  have hc5 := pchg_new (hc2.trans hc4 (fun _ _ h => h)) hp4 (by omega) hPw hch5
  have hs5 : P + 1 ≤ w5.heap.size := by have := hch5.chg.size; simp at this; omega
  clear hp2 hc2 hc4 hp4 hb4 hr4 hch5 hPw4 hs2 kc
  go_wp2_with fail
  have hN6 : (((w5.alloc (.cells #[.int .i64 0] 3)).alloc (.cells #[.string ⟨#[]⟩] 9)).alloc (.cells #[.int .i64 0] 3)).heap[w5.heap.size]? = some (.cells #[.int .i64 0] 3 (0, 0)) := by
    rw [Below.heap_alloc _ _ _ (by simp; omega), Below.heap_alloc _ _ _ (by simp)]
    exact heap_alloc_new w5 _
  have hS6 : (((w5.alloc (.cells #[.int .i64 0] 3)).alloc (.cells #[.string ⟨#[]⟩] 9)).alloc (.cells #[.int .i64 0] 3)).heap[w5.heap.size + 1]? = some (.cells #[.string ⟨#[]⟩] 9 (0, 0)) := by
    rw [Below.heap_alloc _ _ _ (by simp)]
    have := heap_alloc_new (w5.alloc (.cells #[.int .i64 0] 3)) (.cells #[.string ⟨#[]⟩] 9)
    simpa using this
  have hL6 : (((w5.alloc (.cells #[.int .i64 0] 3)).alloc (.cells #[.string ⟨#[]⟩] 9)).alloc (.cells #[.int .i64 0] 3)).heap[w5.heap.size + 1 + 1]? = some (.cells #[.int .i64 0] 3 (0, 0)) := by
    have := heap_alloc_new ((w5.alloc (.cells #[.int .i64 0] 3)).alloc (.cells #[.string ⟨#[]⟩] 9)) (.cells #[.int .i64 0] 3)
    simpa using this
  have hc6 : Chg (fun _ => False) w5 (((w5.alloc (.cells #[.int .i64 0] 3)).alloc (.cells #[.string ⟨#[]⟩] 9)).alloc (.cells #[.int .i64 0] 3)) := (((Chg.refl _ w5).alloc _).alloc _).alloc _
  have hp6 := hp5.keep hc6 id (fun _ _ => id)
  have hr6 : ∀ k, rowOf ao5 = some k → P + 1 ≤ k ∧ k < w5.heap.size := fun k hk => hp5.row.lt k ((rowOf_block _ _ _).trans hk)
  have hPN := lt_blk hp5.cell
  have hc6' := hc5.trans hc6 (fun _ _ h => h)
  clear hp5 hc5 hc6 hs5
  generalize ((w5.alloc (.cells #[.int .i64 0] 3)).alloc (.cells #[.string ⟨#[]⟩] 9)).alloc (.cells #[.int .i64 0] 3) = w6 at *
  generalize w5.heap.size = N at *
  refine (bytes_any (P + 1) P cap5 ao5 five w6 hp6 (by decide)).mono ?_
  rintro e w7 ⟨ao7, cap7, rfl, hb7, hc7⟩
  have hp7 := hp6.keep hc7 id (fun _ _ => id)
  have hN7 := blk_keep hN6 hc7 id
  have hS7 := blk_keep hS6 hc7 id
  have hL7 := blk_keep hL6 hc7 id
  have hlt7 := lt_blk hL6
  have hc7' := hc6'.trans hc7 (fun _ _ h => h)
  have hr := first_read1 N (N + 1 + 1) (N + 1) 0 0 ⟨#[]⟩ w7 hb7 (fun i hi => hi.2) (fun h => by have := h.1; omega) (fun h => by have := h.1; omega) hN7 hL7 hS7 (by omega) (by omega) (by omega)
  clear hp6 hN6 hS6 hL6 hc6' hc7 hb7
  go_wp2_with (go_at_call 16; refine hr.mono ?_; rintro e w8 ⟨rfl, ⟨g1, g2, g3⟩, hc8⟩)
  have hp8 : PenAt (P + 1) w8 P ao5 cap5 five := hp7.keep hc8 (by rintro (h | h | h) <;> omega) (by rintro k hk (h | h | h) <;> (have := hr6 k hk; omega))
  have hc8' : Chg (fun _ => False) w w8 := hc7'.trans hc8 (by rintro i hi (h | h | h) <;> omega)
  clear hr hc8 hp7 hc7' hN7 hS7 hL7 hlt7 hr6
  refine (bytes_any (P + 1) P cap5 ao5 five w8 hp8 (by decide)).mono ?_
  rintro e w9 ⟨ao9, cap9, rfl, hb9, hc9⟩
  have hp9 := hp8.keep hc9 id (fun _ _ => id)
  have g1' := hc9.cell g1 id
  have g2' := hc9.cell g2 id
  have g3' := hc9.cell g3 id
  have hc9' := hc8'.trans hc9 (fun _ _ h => h)
  have hr := first_read2 (.pointer (some ⟨N, 0, none⟩)) w9 hb9
  clear hp8 hc8' hc9 hb9 g1 g2 g3
  go_wp2_with (go_at_call 16; refine hr.mono ?_; rintro e w10 ⟨rfl, hc10⟩)
  have hp10 := hp9.keep hc10 id (fun _ _ => id)
  have k1 := hc10.cell g1' id
  have k2 := hc10.cell g2' id
  have k3 := hc10.cell g3' id
  have hc10' := hc9'.trans hc10 (fun _ _ h => h)
  clear hp9 hc9' hc10 g1' g2' g3' hr
  refine (bytes_any (P + 1) P cap5 ao5 five w10 hp10 (by decide)).mono ?_
  rintro e w11 ⟨ao11, cap11, rfl, hb11, hc11⟩
  have hp11 := hp10.keep hc11 id (fun _ _ => id)
  have g1 := hc11.cell k1 id
  have g2 := hc11.cell k2 id
  have g3 := hc11.cell k3 id
  have hc11' := hc10'.trans hc11 (fun _ _ h => h)
  have hconv := conv_bytes hb11
  clear hp10 hc10' hc11 k1 k2 k3 hb11
  go_wp2_with fail
  refine (bytes_any (P + 1) P cap5 ao5 five w11 hp11 (by decide)).mono ?_
  rintro e w12 ⟨ao12, cap12, rfl, hb12, hc12⟩
  have hc12' := hc11'.trans hc12 (fun _ _ h => h)
  have hr := read_none (ao := ao12) (len := 5) (cp := cap12) (w := w12)
  rw [show endOf 0 5 = 13 from rfl] at hr
  clear hp11 hc11' hc12 g1 g2 g3 hb12 hconv
  go_wp2_with (go_at_call 16; refine hr.mono ?_; rintro e w13 ⟨rfl, hc13⟩)
  go_ret
  exact ⟨rfl, hc12'.trans hc13 (fun _ _ h => h)⟩

end Go.Proofs.Ytjipfbggoeiakaa
