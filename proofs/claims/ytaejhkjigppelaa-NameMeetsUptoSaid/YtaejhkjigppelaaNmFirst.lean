/- The contract of law 3's first: it answers true, and turns nothing that was there. -/
import Derived.Test.YtaejhkjigppelaaNmRead
import Derived.Test.YtaejhkjigppelaaNmBoth
import Derived.Test.YtaejhkjigppelaaReg
namespace Go.Proofs.Ytaejhkjigppelaa
open Go.RowKit

theorem strs_lit (ls : List (List UInt8)) (w : World) (f : Nat × Nat) (hb : ∀ x ∈ ls, x.length ≤ 9223372036854775807) :
    StrsAt (fun k => k = w.heap.size) (w.alloc (.cells (ls.map strV).toArray 9 f)) (some ⟨w.heap.size, 0, none⟩) ls := fun i hi =>
  ⟨w.heap.size, 0, rfl, rfl, by rw [cell_blk (heap_alloc_new w _)]; simp [hi, strV], hb _ (List.getElem_mem hi)⟩

theorem set_lit : SetOf [[98], [97], [98], [49]] [[97], [98]] := by
  refine ⟨⟨by decide, by decide, trivial⟩, fun x => ⟨fun h => ?_, fun h => ?_⟩⟩
  · simp only [List.mem_cons, List.not_mem_nil, or_false] at h
    rcases h with rfl | rfl <;> decide
  · obtain ⟨h, hn⟩ := h
    simp only [List.mem_cons, List.not_mem_nil, or_false] at h
    rcases h with rfl | rfl | rfl | rfl
    · simp
    · simp
    · simp
    · exact absurd hn (by decide)

theorem clos_first2 {D : Nat → Prop} {R : Nat} {v : Value} {w : World} (hv : BytesAt D w v [1, 45]) (hDR : ¬ D R) (hR : ReaderAt w R true v 0) :
    Calls Try.prog 73 #[.pointer (some ⟨R, 0, none⟩)] w (Stops R 30 w) := by
  have h1 := get_stops (by decide) hv hDR hR (by decide)
  rw [show nameBad [1, 45] = 30 from by decide] at h1
  go_enter Try.func73, Try.ntmps73
  go_wp2_with (go_at_call 57; refine h1.mono ?_; rintro e w1 ⟨rfl, hs⟩)
  exact ⟨rfl, rfl, hs⟩

theorem enters73 : ∀ args w, (callFunc 73 args).run Try.prog w = .ok (.enter 73 args) w := enters Try.func73 (by kernel_rfl) (by kernel_rfl)

theorem read_first2 {D : Nat → Prop} {ao : Option Addr} {cp : Nat} {w : World} (hv : BytesAt D w (.slice ao 2 cp) [1, 45]) (dD : ∀ i, D i → i < w.heap.size) :
    Calls Try.prog 19 #[.slice ao 2 cp, .func (.func 73) #[] #[]] w fun e w' => e = .returned (.int .i64 30) ∧ Chg (fun _ => False) w w' := by
  have hrw := readWorld_chg w (.slice ao 2 cp) (fun _ => False)
  refine (read_stops (T := fun _ => False) (P := fun _ => True) (n := 2) (flt := 30) [] rfl (fun _ h => h.elim) enters73 ?_).mono ?_
  · refine (clos_first2 (R := w.heap.size + 1) (hv.keep hrw (fun _ _ h => h)) (fun h => by have := dD _ h; omega) (readWorld_R w _)).mono ?_
    rintro e w1 ⟨rfl, ao1, m, cp1, hr, hc⟩
    exact ⟨rfl, ⟨⟨ao1, m, cp1, hr, fun h => by cases h⟩, hc.mono (fun _ _ h => .inl h)⟩, trivial⟩
  · rintro e w' ⟨rfl, w1, _, hl⟩
    exact ⟨rfl, hl.2.2⟩

def bob2 : List UInt8 := [98, 111, 98, 45, 50]

/-- A slice of texts; a pointer to a cell that holds u. -/
def Spec.strs (n : Nat) (ls : List (List UInt8)) : Spec :=
  ⟨fun v w => ∃ ao cap, v = .slice ao n cap ∧ StrsAt (fun _ => True) w ao ls, fun _ _ _ hc ⟨ao, cap, h1, h2⟩ => ⟨ao, cap, h1, h2.keep hc (fun _ _ => id)⟩⟩
def Spec.cellS (u : Value) : Spec :=
  ⟨fun v w => ∃ p, v = .pointer (some p) ∧ w.cell? p = some u, fun _ _ _ hc ⟨p, h1, h2⟩ => ⟨p, h1, hc.cell h2 id⟩⟩

theorem StrsAt.low {D : Nat → Prop} {w : World} {ao : Option Addr} {ls : List (List UInt8)} (h : StrsAt D w ao ls) : StrsAt (fun k => k < w.heap.size) w ao ls := fun i hi =>
  let ⟨b, off, h1, _, h3, h4⟩ := h i hi
  ⟨b, off, h1, World.block_lt_of_cell? w _ h3, h3, h4⟩

theorem some_of {D : Nat → Prop} {w : World} {ao : Option Addr} {c : Nat} {ls : List (List UInt8)} (h : StrsAt D w ao ls) (hl : 0 < ls.length) : ao = none → c = 0 := by
  intro e
  subst e
  obtain ⟨_, _, e, _⟩ := h 0 hl
  cases e

theorem ab_lit : SetOf [[97], [98]] [[97], [98]] := by
  refine ⟨⟨by decide, by decide, trivial⟩, fun x => ⟨fun h => ⟨h, ?_⟩, fun h => h.1⟩⟩
  simp only [List.mem_cons, List.not_mem_nil, or_false] at h
  rcases h with rfl | rfl <;> decide

theorem union_lit : SetOf ([[97], [98]] ++ [[99]]) [[97], [98], [99]] := by
  refine ⟨⟨by decide, by decide, by decide, trivial⟩, fun x => ⟨fun h => ⟨h, ?_⟩, fun h => h.1⟩⟩
  simp only [List.mem_cons, List.not_mem_nil, or_false] at h
  rcases h with rfl | rfl | rfl <;> decide

def bobB : List UInt8 := [5, 98, 111, 98, 45, 50]
theorem bob_ok : nameOk bobB = true := by decide
theorem bob_err : nameErr bobB = 0 := by rw [nameErr, if_pos bob_ok]; decide
theorem bob_got : nameGot bobB [] = bob2 := by rw [nameGot, if_pos bob_ok]; decide

theorem read_first1 {D : Nat → Prop} {ao : Option Addr} {cp X : Nat} {w : World} (hv : BytesAt D w (.slice ao 6 cp) bobB) (dD : ∀ i, D i → i < w.heap.size) (hDX : ¬ D X) (hX : w.heap[X]? = some (.cells #[.string ⟨#[]⟩] 9 (0, 0))) :
    Calls Try.prog 19 #[.slice ao 6 cp, .func (.func 72) #[] #[.pointer (some ⟨X, 0, none⟩)]] w fun e w' => e = .returned (.int .i64 0) ∧ w'.heap[X]? = some (.cells #[.string ⟨bob2.toArray⟩] 9 (0, 0)) ∧ Chg (· = X) w w' := by
  refine (readF_any (z := []) (l := bobB) (by decide) hv dD hDX hX).mono ?_
  rintro e w' ⟨rfl, h1, h2⟩
  rw [bob_got] at h1
  exact ⟨by rw [bob_err], h1, h2⟩

set_option maxRecDepth 100000 in
set_option maxHeartbeats 4000000 in
theorem first_any (w : World) : Calls Try.prog 42 #[] w fun e w' => e = .returned (.bool true) ∧ Chg (fun _ => False) w w' := by
  have hst := strs_lit [[98], [97], [98], [49]] w (0, 0) (by decide)
  have hset := set_any (some ⟨w.heap.size, 0, none⟩) 4 [[98], [97], [98], [49]] (w.alloc (.cells #[.string ⟨#[98]⟩, .string ⟨#[97]⟩, .string ⟨#[98]⟩, .string ⟨#[49]⟩] 9)) (by decide) hst (by rintro i rfl; simp)
  have hc1 : Chg (fun _ => False) w (w.alloc (.cells #[.string ⟨#[98]⟩, .string ⟨#[97]⟩, .string ⟨#[98]⟩, .string ⟨#[49]⟩] 9)) := (Chg.refl _ w).alloc _
  go_enter Try.func42, Try.ntmps42
  go_wp2_with fail
  refine hset.mono ?_
  rintro e w1 ⟨out, ao, cap, rfl, hso, hst1, hch⟩
  obtain rfl : out = [[97], [98]] := hso.one set_lit
  have hc2 := hc1.trans hch (fun _ _ h => h)
  have hlow := hc1.size
  clear hset hst hc1 hch hso
  have hp1 := pen_new w1 (w1.heap.size + 1)
  have hcp : Chg (fun _ => False) w1 (w1.alloc (.cells #[.slice none 0 0] 27)) := (Chg.refl _ w1).alloc _
  go_wp2_with fail
  obtain ⟨P, hP⟩ : ∃ P, P = w1.heap.size := ⟨_, rfl⟩
  have hs2 : (w1.alloc (.cells #[.slice none 0 0] 27)).heap.size = P + 1 := by rw [hP]; simp
  rw [← hP] at hp1 ⊢
  have HP := hid hP
  clear hP hlow
  replace hst1 := hst1.mono (D' := fun k => k < P) (fun i hi => by rw [HP.out]; exact hi.2)
  generalize w1.alloc (.cells #[.slice none 0 0] 27) = w2 at *
  refine (put_yes (P + 1) P 0 none [] bob2 w2 hp1 (by omega) (by omega) (by decide) (by decide)).mono ?_
  rintro e w3 ⟨rfl, ao3, cap3, hp3, hch3⟩
  have hc3 := pchg_new hcp hp1 (by omega) (by have := HP.out; omega) hch3
  have hs3 : P + 1 ≤ w3.heap.size := by have := hch3.chg.size; omega
  clear hcp hp1 hch3 hs2
  rw [show ([] : List UInt8) ++ (enc bob2.length ++ bob2) = bobB from by rw [enc_small (show bob2.length < 128 by decide)]; decide] at hp3
  go_wp2_with (go_at_call 56; refine (put_no _ [66, 111, 98] _ (by decide) (by decide)).mono ?_; rintro e w' ⟨rfl, rfl⟩)
  have hX4 := heap_alloc_new w3 (.cells #[.string ⟨#[]⟩] 9)
  have hc34 : Chg (fun _ => False) w3 (w3.alloc (.cells #[.string ⟨#[]⟩] 9)) := (Chg.refl _ w3).alloc _
  have hp4 := hp3.keep hc34 id (fun _ _ => id)
  have hc4 := hc3.trans hc34 (fun _ _ h => h)
  obtain ⟨X, hX⟩ : ∃ X, X = w3.heap.size := ⟨_, rfl⟩
  have hs4 : (w3.alloc (.cells #[.string ⟨#[]⟩] 9)).heap.size = X + 1 := by rw [hX]; simp
  rw [← hX] at hX4 ⊢
  have hPX : P + 1 ≤ X := by omega
  clear hX hc3 hp3 hc34 hs3
  generalize w3.alloc (.cells #[.string ⟨#[]⟩] 9) = w4 at *
  refine (bytes_any (P + 1) P cap3 ao3 bobB w4 hp4 (by decide)).mono ?_
  rintro e w5 ⟨ao5, cap5, rfl, hb5, hc45⟩
  have hc5 := hc4.trans hc45 (fun _ _ h => h)
  have hX5 := blk_keep hX4 hc45 id
  have hs5 := hc45.size
  clear hp4 hc4 hX4 hc45
  have hrd := read_first1 (w := w5) hb5 (fun i hi => hi.2) (fun h => by have := h.1; omega) hX5
  go_wp2_with fail
  refine hrd.mono ?_
  rintro e w6 ⟨rfl, hX6, hc56⟩
  have hc6 : Chg (fun _ => False) w1 w6 := hc5.trans hc56 (fun i hi h => by have := HP.out; omega)
  have hs6 := hc56.size
  clear hc5 hX5 hc56 hrd hb5
  have hb6 : BytesAt (fun k => k = w6.heap.size) (w6.alloc (.cells #[.int .u8 1, .int .u8 45] 5)) (.slice (some ⟨w6.heap.size, 0, none⟩) 2 2) [1, 45] := bytes_blk [1, 45] (by decide) (heap_alloc_new w6 _)
  have hc67 : Chg (fun _ => False) w6 (w6.alloc (.cells #[.int .u8 1, .int .u8 45] 5)) := (Chg.refl _ w6).alloc _
  have hX7 := blk_keep hX6 hc67 id
  have hc7 := hc6.trans hc67 (fun _ _ h => h)
  have hr2 := read_first2 hb6 (by rintro i rfl; simp)
  clear hX6 hc6 hc67 hs6 hb6
  go_wp2_with fail
  refine hr2.mono ?_
  rintro e w8 ⟨rfl, hc78⟩
  have hX8 := blk_keep hX7 hc78 id
  have hc8 := hc7.trans hc78 (fun _ _ h => h)
  have hst8 := hst1.keep hc8 (fun _ _ => id)
  have hcw := hc2.trans hc8 (fun _ _ h => h)
  clear hX7 hc7 hr2 hc78 hc8 hst1 hc2 hPX hs4 hs5 HP
  obtain ⟨b, off, rfl, _, c0, _⟩ := hst8 0 (by decide)
  rw [Nat.add_zero] at c0
  simp only [List.getElem_cons_zero] at c0
  have x0 := cell_blk hX8 0
  simp only [List.getElem?_toArray, List.getElem?_cons_zero, bob2] at x0
  clear hX8
  go_wp2_with fail
  refine (right_any bob2 w8 (by decide)).mono ?_
  rintro e w' ⟨rfl, rfl⟩
  rw [show isName bob2 = true from by decide]
  go_wp2_with fail
  refine (right_any [] w8 (by decide)).mono ?_
  rintro e w' ⟨rfl, rfl⟩
  rw [show isName [] = false from by decide]
  go_wp2_with fail
  refine (has_any _ cap [[97], [98]] [98] w8 (by decide) (by decide) hst8).mono ?_
  rintro e w' ⟨rfl, rfl⟩
  rw [show hasN [[97], [98]] [98] = true from by decide]
  go_wp2_with fail
  refine (isset_any _ cap [[97], [98]] w8 (by decide) hst8).mono ?_
  rintro e w' ⟨rfl, rfl⟩
  rw [show isSetB [[97], [98]] = true from by decide]
  have hl9 := strs_lit [[99]] w8 (0, 0) (by decide)
  have hc89 : Chg (fun _ => False) w8 (w8.alloc (.cells #[.string ⟨#[99]⟩] 9)) := (Chg.refl _ w8).alloc _
  have hst9 := hst8.keep hc89 (fun _ _ => id)
  have hun := union_any (D := fun _ => True) _ _ cap 1 [[97], [98]] [[99]] _ (by decide) (by decide) (hst9.mono (fun _ _ => trivial)) (hl9.mono (fun _ _ => trivial)) (fun e => by cases e) (fun e => by cases e)
  go_wp2_with fail
  refine hun.mono ?_
  rintro e w10 ⟨out, ao10, cap10, rfl, hso, _, hch⟩
  obtain rfl : out = [[97], [98], [99]] := hso.one union_lit
  have hst10 := hst9.keep hch (fun _ _ => id)
  have hc10 := (hcw.trans hc89 (fun _ _ h => h)).trans hch (fun _ _ h => h)
  clear hst8 hst9 hl9 hc89 hun hso hch c0 x0 hcw
  have hl11 := strs_lit [[97]] w10 (0, 0) (by decide)
  have hc1011 : Chg (fun _ => False) w10 (w10.alloc (.cells #[.string ⟨#[97]⟩] 9)) := (Chg.refl _ w10).alloc _
  have hst11 := hst10.keep hc1011 (fun _ _ => id)
  have hbo := both_any (D := fun k => k < (w10.alloc (.cells #[.string ⟨#[97]⟩] 9)).heap.size) _ _ cap 1 [[97], [98]] [[97]] (w10.alloc (.cells #[.string ⟨#[97]⟩] 9)) (by decide) (by decide) hst11.low (StrsAt.low hl11) (fun _ h => h)
  go_wp2_with fail
  refine hbo.mono ?_
  rintro e w12 ⟨sa, ao12, cap12, hsa, rfl, _, hch⟩
  obtain rfl : sa = [[97], [98]] := hsa.one ab_lit
  have hst12 := hst11.keep hch (fun _ _ => id)
  have hc12 := (hc10.trans hc1011 (fun _ _ h => h)).trans hch (fun _ _ h => h)
  clear hst10 hst11 hl11 hc1011 hbo hsa hch hc10
  rw [show bothS [[97], [98]] [[97]] = [[97]] from by decide]
  have hl13 := strs_lit [[97]] w12 (0, 0) (by decide)
  have hc1213 : Chg (fun _ => False) w12 (w12.alloc (.cells #[.string ⟨#[97]⟩] 9)) := (Chg.refl _ w12).alloc _
  have hst13 := hst12.keep hc1213 (fun _ _ => id)
  have hwi := within_any (D := fun k => k < (w12.alloc (.cells #[.string ⟨#[97]⟩] 9)).heap.size) _ _ cap 1 [[97], [98]] [[97]] (w12.alloc (.cells #[.string ⟨#[97]⟩] 9)) (by decide) (by decide) hst13.low (StrsAt.low hl13) (fun _ h => h)
  go_wp2_with fail
  refine hwi.mono ?_
  rintro e w14 ⟨rfl, hch⟩
  have hc14 := (hc12.trans hc1213 (fun _ _ h => h)).trans hch (fun _ _ h => h)
  rw [show withinB [[97], [98]] [[97]] = false from by decide]
  clear hst12 hst13 hl13 hc1213 hwi hch hc12
  go_wp2
  go_ret
  exact ⟨rfl, hc14⟩
end Go.Proofs.Ytaejhkjigppelaa
