/- The walk of the law TapePanics. -/
import Derived.Test.YtbmhhnkmkalkdaaPanicClos
namespace Go.Proofs.Ytbmhhnkmkalkdaa
open Go.RowKit

/-- The first Read of the law: what it answers. -/
theorem outer24 {D : Nat → Prop} {B E I H ev cp : Nat} {ao : Option Addr} {iv : Int} {hv0 : Bool} {l : List UInt8} {w : World} (hl : l.length ≤ 140737488355328) (hv : BytesAt D w (.slice ao l.length cp) l) (dD : ∀ i, D i → i < w.heap.size) (dI : ¬ D I) (dH : ¬ D H)
    (hB : w.cell? ⟨B, 0, none⟩ = some (.slice ao l.length cp)) (hE : w.cell? ⟨E, 0, none⟩ = some (.int .u8 (ev : Int))) (hev : ev < 256)
    (hI : w.heap[I]? = some (.cells #[.int .i64 iv] 40 (0, 0))) (hH : w.heap[H]? = some (.cells #[.bool hv0] 4 (0, 0))) (hIH : I ≠ H) :
    Calls Try.prog 14 #[.slice ao l.length cp, .func (.func 24) #[] #[.pointer (some ⟨B, 0, none⟩), .pointer (some ⟨E, 0, none⟩), .pointer (some ⟨I, 0, none⟩), .pointer (some ⟨H, 0, none⟩)]] w fun e w' =>
      e = .returned (.int .i64 (endOf (errText l 0) (l.drop ((numN 9 l 0 0).2.1 + (numN 9 l 0 0).1)).length)) ∧ After24 I H ev w' ∧ Chg (fun k => k = I ∨ k = H) w w' := by
  have hrw := readWorld_chg w (.slice ao l.length cp) (fun _ => False)
  have lI := lt_blk hI
  have lH := lt_blk hH
  have hcl := c24_any hl (readWorld_R w (.slice ao l.length cp)) (hv.keep hrw (fun _ _ => id)) (fun h => by have := dD _ h; omega) dI dH (hrw.cell hB id) (hrw.cell hE id) hev (blk_keep hI hrw id) (blk_keep hH hrw id) (by omega) (by omega) hIH
  have fin : ∀ w1 w', After24 I H ev w1 → RLeft w (fun k => k = I ∨ k = H) w1 w' → After24 I H ev w' ∧ Chg (fun k => k = I ∨ k = H) w w' := by
    rintro w1 w' ⟨h1, h2⟩ hr
    exact ⟨⟨blk_keep h1 hr.2.1 (by rintro (h | h) <;> omega), blk_keep h2 hr.2.1 (by rintro (h | h) <;> omega)⟩, hr.2.2⟩
  by_cases he : errText l 0 = 0
  · rw [he]
    refine (read_returns (T := fun k => k = I ∨ k = H) (P := After24 I H ev) (n := (l.drop ((numN 9 l 0 0).2.1 + (numN 9 l 0 0).1)).length) (by rintro k (h | h) <;> omega) enters24 ?_).mono ?_
    · refine hcl.mono ?_
      rintro e w1 ⟨ha, hc, h | h⟩
      · obtain ⟨_, rfl, v, hv1, hR1⟩ := h
        obtain ⟨ao1, cp1, rfl⟩ := hv1.shape
        exact ⟨rfl, ⟨⟨ao1, _, cp1, hR1, fun _ => rfl⟩, hc⟩, ha⟩
      · exact absurd he h.1
    · rintro e w' ⟨rfl, w1, ha, hr⟩
      exact ⟨rfl, fin w1 w' ha hr⟩
  · refine (read_stops (T := fun k => k = I ∨ k = H) (P := After24 I H ev) (n := (l.drop ((numN 9 l 0 0).2.1 + (numN 9 l 0 0).1)).length) (flt := errText l 0) [] rfl (by rintro k (h | h) <;> omega) enters24 ?_).mono ?_
    · refine hcl.mono ?_
      rintro e w1 ⟨ha, hc, h | h⟩
      · exact absurd h.1 he
      · obtain ⟨_, rfl, ao1, m1, cp1, hR1⟩ := h
        exact ⟨rfl, ⟨⟨ao1, m1, cp1, hR1, fun h => absurd h he⟩, hc⟩, ha⟩
    · rintro e w' ⟨rfl, w1, ha, hr⟩
      exact ⟨rfl, fin w1 w' ha hr⟩

/-- The second one: the outer reader's error. -/
theorem outer26 {B E ev len cp : Nat} {ao : Option Addr} {h0 : Value} {w : World} (hB : w.cell? ⟨B, 0, none⟩ = some (.slice ao len cp)) (hE : w.cell? ⟨E, 0, none⟩ = some (.int .u8 (ev : Int))) (hev : ev < 256) :
    Calls Try.prog 14 #[.slice ao len cp, .func (.func 26) #[] #[.pointer (some ⟨B, 0, none⟩), .pointer (some ⟨E, 0, none⟩), h0]] w fun e w' =>
      e = .returned (.int .i64 (1 + (ev : Int))) ∧ Chg (fun _ => False) w w' := by
  have hrw := readWorld_chg w (.slice ao len cp) (fun _ => False)
  refine (read_stops (T := fun _ => False) (P := fun _ => True) (n := len) (flt := 1 + ev) [{ v := stopOf (w.heap.size + 1), recovered := true }] rfl (fun _ h => h.elim) enters26 ?_).mono ?_
  · refine (c26_any (readWorld_R w (.slice ao len cp)) (hrw.cell hB id) (hrw.cell hE id) hev).mono ?_
    rintro e w1 ⟨rfl, ⟨ao1, m1, cp1, hR1⟩, hc⟩
    exact ⟨rfl, ⟨⟨ao1, m1, cp1, hR1, fun h => by omega⟩, hc.mono (fun _ _ h => .inl h)⟩, trivial⟩
  · rintro e w' ⟨rfl, w1, _, hl⟩
    rw [endOf_pos (by omega)]
    exact ⟨by rw [show ((1 + ev : Nat) : Int) = 1 + (ev : Int) by omega], hl.2.2⟩

theorem text_ends {X : Nat} {l : List UInt8} {w w' : World} {e : Ending} (h : TapeText X l 0 w e w') :
    ∃ sv, e = .returned (.string sv) ∧ ∃ l6 e6, TapeAt w' X l6 e6 ∧ Hid (tapeEnd l6 e6 = ((endOf (errText l 0) (l.drop ((numN 9 l 0 0).2.1 + (numN 9 l 0 0).1)).length : Nat) : Int)) ∧ Chg (· = X) w w' := by
  rcases h with ⟨h1, h2, h3, h4⟩ | ⟨h1, h2, ⟨l1, h3⟩, h4⟩
  · refine ⟨_, h2, _, _, h3, ?_, h4⟩
    unfold Hid tapeEnd endOf
    rw [h1, if_pos rfl, if_pos rfl]
    by_cases hz : 0 < (l.drop ((numN 9 l 0 0).2.1 + (numN 9 l 0 0).1)).length
    · rw [if_pos hz, if_pos hz]
      rfl
    · rw [if_neg hz, if_neg hz]
      rfl
  · refine ⟨_, h2, _, _, h3, ?_, h4⟩
    unfold Hid tapeEnd endOf
    rw [if_neg h1, if_neg (by omega)]

set_option maxRecDepth 100000 in
set_option maxHeartbeats 1000000 in
theorem panics_walk (ao : Option Addr) (cp ev : Nat) (l : List UInt8) (s : ByteArray) (w : World) (hl : l.length ≤ 9223372036854775807) (hv : BytesAt (fun k => k < w.heap.size) w (.slice ao l.length cp) l) (hev : ev < 256) (hs : s.size ≤ maxLen) :
    Calls Try.prog 5 #[.slice ao l.length cp, .string s, .int .u8 ev] w fun e w' => e = .returned (.bool true) ∧ Chg (fun _ => False) w w' := by
  have hc1 : Chg (fun _ => False) w ((w.alloc (.cells #[.slice ao l.length cp] 25)).alloc (.cells #[.int .u8 (ev : Int)] 5)) := ((Chg.refl _ w).alloc _).alloc _
  have hB : ((w.alloc (.cells #[.slice ao l.length cp] 25)).alloc (.cells #[.int .u8 (ev : Int)] 5)).heap[w.heap.size]? = some (.cells #[.slice ao l.length cp] 25 (0, 0)) := by
    rw [Below.heap_alloc _ _ _ (by simp)]
    exact heap_alloc_new w _
  have hE : ((w.alloc (.cells #[.slice ao l.length cp] 25)).alloc (.cells #[.int .u8 (ev : Int)] 5)).heap[w.heap.size + 1]? = some (.cells #[.int .u8 (ev : Int)] 5 (0, 0)) := by
    have := heap_alloc_new (w.alloc (.cells #[.slice ao l.length cp] 25)) (.cells #[.int .u8 (ev : Int)] 5)
    simpa using this
  have b0 := fun w1 (hc : Chg (fun _ => False) ((w.alloc (.cells #[.slice ao l.length cp] 25)).alloc (.cells #[.int .u8 (ev : Int)] 5)) w1) => cell_blk (blk_keep hB hc id) 0
  simp only [List.getElem?_toArray, List.getElem?_cons_zero] at b0
  by_cases h500 : 500 < (l.length : Int)
  · go_enter Try.func5, Try.ntmps5
    go_wp2_with (go_at_call 7; refine (first_any _).mono ?_; rintro e w2 ⟨rfl, hc2⟩; have b1 := b0 _ hc2)
    go_ret
    exact ⟨rfl, hc1.trans hc2 (fun _ _ h => h)⟩
  · go_enter Try.func5, Try.ntmps5
    go_wp2_with (go_at_call 7; refine (first_any _).mono ?_; rintro e w2 ⟨rfl, hc2⟩; have b1 := b0 _ hc2; have b2 := World.block_lt_of_cell? _ _ b1; dsimp only at b2)
    have hB2 := blk_keep hB hc2 id
    have hE2 := blk_keep hE hc2 id
    have hc2' := hc1.trans hc2 (fun _ _ h => h)
    clear hc1 hc2 hB hE b0 b1
    have hc3 : Chg (fun _ => False) w2 ((w2.alloc (.cells #[.int .i64 0] 40)).alloc (.cells #[.bool false] 4)) := ((Chg.refl _ w2).alloc _).alloc _
    have hI : ((w2.alloc (.cells #[.int .i64 0] 40)).alloc (.cells #[.bool false] 4)).heap[w2.heap.size]? = some (.cells #[.int .i64 0] 40 (0, 0)) := by
      rw [Below.heap_alloc _ _ _ (by simp)]
      exact heap_alloc_new w2 _
    have hH : ((w2.alloc (.cells #[.int .i64 0] 40)).alloc (.cells #[.bool false] 4)).heap[w2.heap.size + 1]? = some (.cells #[.bool false] 4 (0, 0)) := by
      have := heap_alloc_new (w2.alloc (.cells #[.int .i64 0] 40)) (.cells #[.bool false] 4)
      simpa using this
    have hB3 := blk_keep hB2 hc3 id
    have hE3 := blk_keep hE2 hc3 id
    have hc3' := hc2'.trans hc3 (fun _ _ h => h)
    have hB3c := cell_blk hB3 0
    have hE3c := cell_blk hE3 0
    simp only [List.getElem?_toArray, List.getElem?_cons_zero] at hB3c hE3c
    have hv3 := hv.keep hc3' (fun _ _ => id)
    have hws := hc3'.size
    have hI2 : w.heap.size + 1 < w2.heap.size := lt_blk hE2
    clear hc2' hc3 hB2 hE2
    generalize (w2.alloc (.cells #[.int .i64 0] 40)).alloc (.cells #[.bool false] 4) = w3 at *
    generalize w2.heap.size = I at *
    have ho := outer24 (by omega) hv3 (fun i hi => by omega) (by omega) (by omega) hB3c hE3c hev hI hH (by omega)
    have htx := fun (X : Nat) wx wy en (h : TapeText X l 0 wx en wy) => text_ends h
    generalize endOf (errText l 0) (l.drop ((numN 9 l 0 0).2.1 + (numN 9 l 0 0).1)).length = oe at *
    go_wp2_with (go_at_call 14; ((with_reducible refine ho.mono ?_); rintro e w4 ⟨rfl, ha4, hc4⟩; have b4 := hc4.cell hB3c (by rintro (h | h) <;> (dsimp only at h; omega)); have hconv := conv_bytes (hv3.keep hc4 (by rintro i hi (h | h) <;> omega))))
    have hX : TapeAt (w4.alloc (.cells #[.string ⟨l.toArray⟩, .int .i64 0] 38)) w4.heap.size l 0 := heap_alloc_new w4 _
    have hc5 : Chg (fun _ => False) w4 (w4.alloc (.cells #[.string ⟨l.toArray⟩, .int .i64 0] 38)) := (Chg.refl _ w4).alloc _
    have hI4 := lt_blk ha4.1
    have hH4 := lt_blk ha4.2
    refine (ttext_any w4.heap.size l 0 _ (by omega) hX).mono ?_
    rintro e w6 h6
    obtain ⟨sv, rfl, l6, e6, hX6, HX6, hc6⟩ := htx _ _ _ _ h6
    have hB6 := blk_keep (blk_keep (blk_keep hB3 hc4 (by rintro (h | h) <;> omega)) hc5 id) hc6 (fun h => by have := lt_blk hB3; have := hc4.size; omega)
    have hE6 := blk_keep (blk_keep (blk_keep hE3 hc4 (by rintro (h | h) <;> omega)) hc5 id) hc6 (fun h => by have := lt_blk hE3; have := hc4.size; omega)
    have hI6 := blk_keep (blk_keep ha4.1 hc5 id) hc6 (by omega)
    have hH6 := blk_keep (blk_keep ha4.2 hc5 id) hc6 (by omega)
    have hc6' : Chg (fun _ => False) w w6 := (((hc3'.trans hc4 (by rintro i hi (h | h) <;> omega))).trans hc5 (fun _ _ h => h)).trans hc6 (fun i hi h => by have := hc4.size; omega)
    have c1 := cell_blk hB6 0
    have c2 := cell_blk hE6 0
    have c3 := cell_blk hI6 0
    have c4 := cell_blk hH6 0
    simp only [List.getElem?_toArray, List.getElem?_cons_zero] at c1 c2 c3 c4
    have hen := tend_any _ _ _ w6 hX6
    rw [HX6.out] at hen
    have h26 := outer26 (h0 := .pointer (some ⟨I + 1, 0, none⟩)) c1 c2 hev
    clear ho htx b4 hconv hX hc5 hI4 hH4 h6 hX6 HX6 hc6 hB6 hE6 hI6 hH6 ha4 hc4 hc3' hB3 hE3 hI hH hB3c hE3c hv3
    go_wp2_with (first | (go_at_call 23; ((with_reducible refine hen.mono ?_); rintro e w7 ⟨rfl, rfl⟩)) | (go_at_call 14; ((with_reducible refine h26.mono ?_); rintro e w7 ⟨rfl, hc7⟩; have d1 := hc7.cell c1 id; have d2 := hc7.cell c2 id; have d4 := hc7.cell c4 id)) | (go_at_call 28; ((with_reducible refine thrown_any.mono ?_); rintro e w8 ⟨rfl, hc8⟩)))
    go_ret
    exact ⟨rfl, (hc6'.trans hc7 (fun _ _ h => h)).trans hc8 (fun _ _ h => h)⟩

end Go.Proofs.Ytbmhhnkmkalkdaa
