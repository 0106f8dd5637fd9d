/- Texts that the proof leans on, in one: PkSign, RNum. -/
import Derived.Test.YtjflmhncgkbdmaaGreatKb12
import Derived.Test.YtjflmhncgkbdmaaGreatKb13
import Derived.Test.YtjflmhncgkbdmaaGreatKb15
import Derived.Test.YtjflmhncgkbdmaaGreatKb4
/- The contract of the program's Sign. -/
namespace Go.Proofs.YtjflmhncgkbdmaaGreat
open Go.RowKit Go.Maps

theorem bytes_len63 {D : Nat → Prop} {w : World} {v : Value} {l : List UInt8} (h : BytesAt D w v l) : l.length ≤ 9223372036854775807 := by
  rcases h with ⟨_, _, _, rfl, _⟩ | ⟨_, _, _, _, h1, h2, _⟩
  · simp
  · unfold maxLen at h2; omega

/-- What is so amid the making: B holds the zero one, then the signed one, whose tag is in new memory. -/
def PsgW (B : Nat) (w2 : World) (c : CredB) (tag : List UInt8) (L : Nat → Bool) (w9 : World) : Prop :=
  Chg (· = B) w2 w9 ∧ (L 6 = true → ∃ ta cap, w9.heap[B]? = some (.cells (signBox c (.slice ta tag.length cap)) 38 (0, 0)) ∧ BytesAt (fun k => w2.heap.size ≤ k ∧ k < w9.heap.size) w9 (.slice ta tag.length cap) tag) ∧ (L 6 = false → w9.heap[B]? = some (.cells (signBox noCred (.slice none 0 0)) 38 (0, 0)))

theorem PsgW.keep {B : Nat} {w2 w9 w' : World} {c : CredB} {tag : List UInt8} {L : Nat → Bool} (h : PsgW B w2 c tag L w9) (_ : B < w2.heap.size) (hc : Chg (fun _ => False) w9 w') : PsgW B w2 c tag L w' := by
  obtain ⟨h1, h2, h3⟩ := h
  refine ⟨h1.trans hc (fun _ _ h => h.elim), fun hl => ?_, fun hl => blk_keep (h3 hl) hc id⟩
  obtain ⟨ta, cap, a, b⟩ := h2 hl
  exact ⟨ta, cap, blk_keep a hc id, (b.keep hc (fun _ _ => id)).mono (fun i hi => ⟨hi.1, Nat.lt_of_lt_of_le hi.2 hc.size⟩)⟩

theorem PsgW.step {B : Nat} {w2 w9 : World} {c : CredB} {tag : List UInt8} {L : Nat → Bool} {i : Nat} (h : PsgW B w2 c tag L w9) (hi : ¬ 6 = i) : PsgW B w2 c tag (upd L i) w9 := by
  have e : upd L i 6 = L 6 := if_neg hi
  exact ⟨h.1, fun h7 => h.2.1 (by rw [← e]; exact h7), fun h7 => h.2.2 (by rw [← e]; exact h7)⟩

def psgSpecs (A B lo cap : Nat) (hB : B < lo) (c : CredB) (key eb : List UInt8) (ka : Option Addr) : List (SpecR (Chg (· = B))) := [.any, .any, .any, .eq (.pointer (some ⟨A, 0, none⟩)), .eq (.pointer (some ⟨B, 0, none⟩)), .eq (.int .i64 0), .eq (.slice ka key.length cap), .any, .any, .any, .any, .any, .any, .any, .any, .any, .any, .any, .eq (credV c), .eq (.slice ka key.length cap), .eq (credV c), .bts B lo hB eb, .bts B lo hB (tagOf key eb), .sgn B lo hB c (tagOf key eb)]

theorem key_size {l : List KeyB} (h : newErr l = 0) {o : List UInt8} (ho : hasWho l o = true) : 1 ≤ (keyOf l o).length ∧ (keyOf l o).length ≤ 32 := by
  unfold keyOf keyAt
  cases hf : l.find? (·.who == o) with
  | none =>
    obtain ⟨x, hx, hxo⟩ := List.any_eq_true.1 ho
    exact absurd hxo (by simpa using List.find?_eq_none.1 hf x hx)
  | some k =>
    have hm := List.mem_of_find?_eq_some hf
    exact ⟨(reg_mem h hm).2.1, (reg_mem h hm).2.2⟩

set_option maxRecDepth 100000 in
set_option maxHeartbeats 4000000 in
theorem psign {Bg : Nat} (g : Nat) (l : List KeyB) (c : CredB) (w : World) (h : RegOwn Bg w g l) (hreg : newErr l = 0) (hs : credShort c 9223372036854775807) :
    Calls Tryz.prog 12 #[.pointer (some ⟨g, 0, none⟩), credV c] w (SignPost (signed l c) (signErr l c) w) := by
  have hA1 : ((w.alloc (.cells #[.int .i64 c.kind, .string ⟨c.head.1.toArray⟩, .string ⟨c.head.2.toArray⟩, .string ⟨c.who.toArray⟩, .string ⟨c.b.1.toArray⟩, .string ⟨c.b.2.toArray⟩, .string ⟨c.c.1.toArray⟩, .string ⟨c.c.2.toArray⟩, .string ⟨c.w2.toArray⟩] 35)).alloc (.cells #[.int .i64 0, .string ⟨#[]⟩, .string ⟨#[]⟩, .string ⟨#[]⟩, .string ⟨#[]⟩, .string ⟨#[]⟩, .string ⟨#[]⟩, .string ⟨#[]⟩, .string ⟨#[]⟩, .slice none 0 0] 38)).heap[w.heap.size]? = some (.cells (credBox c) 35 (0, 0)) := by
    have := heap_alloc_new w (.cells #[.int .i64 c.kind, .string ⟨c.head.1.toArray⟩, .string ⟨c.head.2.toArray⟩, .string ⟨c.who.toArray⟩, .string ⟨c.b.1.toArray⟩, .string ⟨c.b.2.toArray⟩, .string ⟨c.c.1.toArray⟩, .string ⟨c.c.2.toArray⟩, .string ⟨c.w2.toArray⟩] 35)
    exact blk_keep this ((Chg.refl (fun _ => False) _).alloc _) id
  have hB1 : ((w.alloc (.cells #[.int .i64 c.kind, .string ⟨c.head.1.toArray⟩, .string ⟨c.head.2.toArray⟩, .string ⟨c.who.toArray⟩, .string ⟨c.b.1.toArray⟩, .string ⟨c.b.2.toArray⟩, .string ⟨c.c.1.toArray⟩, .string ⟨c.c.2.toArray⟩, .string ⟨c.w2.toArray⟩] 35)).alloc (.cells #[.int .i64 0, .string ⟨#[]⟩, .string ⟨#[]⟩, .string ⟨#[]⟩, .string ⟨#[]⟩, .string ⟨#[]⟩, .string ⟨#[]⟩, .string ⟨#[]⟩, .string ⟨#[]⟩, .slice none 0 0] 38)).heap[w.heap.size + 1]? = some (.cells (signBox noCred (.slice none 0 0)) 38 (0, 0)) := by
    have := heap_alloc_new (w.alloc (.cells #[.int .i64 c.kind, .string ⟨c.head.1.toArray⟩, .string ⟨c.head.2.toArray⟩, .string ⟨c.who.toArray⟩, .string ⟨c.b.1.toArray⟩, .string ⟨c.b.2.toArray⟩, .string ⟨c.c.1.toArray⟩, .string ⟨c.c.2.toArray⟩, .string ⟨c.w2.toArray⟩] 35)) (.cells #[.int .i64 0, .string ⟨#[]⟩, .string ⟨#[]⟩, .string ⟨#[]⟩, .string ⟨#[]⟩, .string ⟨#[]⟩, .string ⟨#[]⟩, .string ⟨#[]⟩, .string ⟨#[]⟩, .slice none 0 0] 38)
    rw [show (w.alloc (.cells #[.int .i64 c.kind, .string ⟨c.head.1.toArray⟩, .string ⟨c.head.2.toArray⟩, .string ⟨c.who.toArray⟩, .string ⟨c.b.1.toArray⟩, .string ⟨c.b.2.toArray⟩, .string ⟨c.c.1.toArray⟩, .string ⟨c.c.2.toArray⟩, .string ⟨c.w2.toArray⟩] 35)).heap.size = w.heap.size + 1 by simp] at this
    exact this
  have hc1 : Chg (fun _ => False) w ((w.alloc (.cells #[.int .i64 c.kind, .string ⟨c.head.1.toArray⟩, .string ⟨c.head.2.toArray⟩, .string ⟨c.who.toArray⟩, .string ⟨c.b.1.toArray⟩, .string ⟨c.b.2.toArray⟩, .string ⟨c.c.1.toArray⟩, .string ⟨c.c.2.toArray⟩, .string ⟨c.w2.toArray⟩] 35)).alloc (.cells #[.int .i64 0, .string ⟨#[]⟩, .string ⟨#[]⟩, .string ⟨#[]⟩, .string ⟨#[]⟩, .string ⟨#[]⟩, .string ⟨#[]⟩, .string ⟨#[]⟩, .string ⟨#[]⟩, .slice none 0 0] 38)) := ((Chg.refl _ w).alloc _).alloc _
  have hkc := piss g l c ((w.alloc (.cells #[.int .i64 c.kind, .string ⟨c.head.1.toArray⟩, .string ⟨c.head.2.toArray⟩, .string ⟨c.who.toArray⟩, .string ⟨c.b.1.toArray⟩, .string ⟨c.b.2.toArray⟩, .string ⟨c.c.1.toArray⟩, .string ⟨c.c.2.toArray⟩, .string ⟨c.w2.toArray⟩] 35)).alloc (.cells #[.int .i64 0, .string ⟨#[]⟩, .string ⟨#[]⟩, .string ⟨#[]⟩, .string ⟨#[]⟩, .string ⟨#[]⟩, .string ⟨#[]⟩, .string ⟨#[]⟩, .string ⟨#[]⟩, .slice none 0 0] 38)) (RegAt.keep h hc1 (fun _ _ => id)) hs
  have HH := hid (And.intro hkc (And.intro hA1 (And.intro hB1 hc1)))
  have HR := hid hreg
  clear hkc hA1 hB1 hc1 hreg h
  show Calls Tryz.prog 12 #[.pointer (some ⟨g, 0, none⟩), .agg #[.int .i64 c.kind, .string ⟨c.head.1.toArray⟩, .string ⟨c.head.2.toArray⟩, .string ⟨c.who.toArray⟩, .string ⟨c.b.1.toArray⟩, .string ⟨c.b.2.toArray⟩, .string ⟨c.c.1.toArray⟩, .string ⟨c.c.2.toArray⟩, .string ⟨c.w2.toArray⟩]] w _
  go_enter Tryz.func12, Tryz.ntmps12
  go_wp2_with fail
  obtain ⟨hkc, hA1, hB1, hc1⟩ := HH.out
  clear HH
  generalize ((w.alloc (.cells #[.int .i64 c.kind, .string ⟨c.head.1.toArray⟩, .string ⟨c.head.2.toArray⟩, .string ⟨c.who.toArray⟩, .string ⟨c.b.1.toArray⟩, .string ⟨c.b.2.toArray⟩, .string ⟨c.c.1.toArray⟩, .string ⟨c.c.2.toArray⟩, .string ⟨c.w2.toArray⟩] 35)).alloc (.cells #[.int .i64 0, .string ⟨#[]⟩, .string ⟨#[]⟩, .string ⟨#[]⟩, .string ⟨#[]⟩, .string ⟨#[]⟩, .string ⟨#[]⟩, .string ⟨#[]⟩, .string ⟨#[]⟩, .slice none 0 0] 38)) = w1 at *
  refine hkc.mono ?_
  rintro e w2 ⟨ka, cap, rfl, hkb, hc12⟩
  have hA2 := blk_keep hA1 hc12 id
  have hB2 := blk_keep hB1 hc12 id
  have hc2 := hc1.trans hc12 (fun _ _ h => h)
  clear hkc hA1 hB1 hc1 hc12
  generalize hBe : w.heap.size + 1 = B at *
  have HBe := hid hBe
  clear hBe
  generalize hAe : w.heap.size = A at *
  have HAe := hid hAe
  clear hAe
  have hAB : A < B ∧ B < w2.heap.size := ⟨by have := HBe.out; omega, lt_blk hB2⟩
  by_cases h0 : signErr l c = 0
  · obtain ⟨hi, hw⟩ := signErr_ok h0
    obtain ⟨key, hkey⟩ : ∃ key, keyStr l c = key := ⟨_, rfl⟩
    obtain ⟨eb, heb⟩ : ∃ eb, credBytes c = eb := ⟨_, rfl⟩
    have hk0 : keyOf l c.head.1 = key := by rw [← hkey, keyStr, if_pos h0]
    have HE : Hid (signed l c = ⟨c, tagOf key eb⟩ ∧ signErr l c = 0) := hid ⟨by rw [signed, if_pos h0, signTag, hk0, ← heb, credBytes, if_pos hi], h0⟩
    have HK : Hid (1 ≤ key.length ∧ key.length ≤ 32) := hid (by rw [← hk0]; exact key_size HR.out hw)
    have HEB := hid heb
    rw [hkey] at hkb
    have HKB := hid hkb
    rw [h0, hkey]
    have HA := hid hA2
    have HC := hid hc2
    clear hkey hk0 heb h0 hi hw hA2 hc2 hkb
    go_wp2_with fail
    refine wp_region_state (Chg (· = B)) (PsgW B w2 c (tagOf key eb)) (specAtR (psgSpecs A B w2.heap.size cap hAB.2 c key eb ka)) [18, 19, 20, 21, 22, 23, 5] [3, 4, 6] (by kernel_rfl) (by kernel_rfl) ⟨(Chg.refl _ _).drew, (fun h => by cases h), (fun _ => hB2)⟩ (fun t v w w' hc h => specAtR_st _ t v w w' hc h) (by rfl) (by kernel_rfl) ?start ?obs ?fin
    case start =>
      simp only [List.forall_mem_cons]; exact ⟨⟨_, rfl, rfl⟩, ⟨_, rfl, rfl⟩, ⟨_, rfl, rfl⟩, fun _ h => by cases h⟩
    case obs =>
      clear HC hB2
      refine ObsL.cons none (by kernel_rfl) ?_ ?_
      · refine ObL.plain fun L a w hi he hW hk K k => ?_
        obtain ⟨_, e3, rfl⟩ := hk 3 (by decide)
        clear hk
        obtain ⟨y0, y1, y2, y3, y4, y5, y6, y7, y8⟩ := (cred_at_blk HA.out).keep hW.1 (show ¬ A = B by omega)
        simp only [Nat.zero_add] at y0 y1 y2 y3 y4 y5 y6 y7 y8
        clear hi he
        go_simp
        exact k _ _ (Chg.refl _ _) (hW.step (by decide)) rfl
      refine ObsL.cons none (by kernel_rfl) ?_ ?_
      · refine ObL.plain fun L a w hi he hW hk K k => ?_
        obtain ⟨_, e6, f6⟩ := hk 6 (by decide)
        clear hk
        clear hi he
        go_simp
        exact k _ _ (Chg.refl _ _) (hW.step (by decide)) f6
      refine ObsL.cons none (by kernel_rfl) ?_ ?_
      · refine ObL.plain fun L a w hi he hW hk K k => ?_
        obtain ⟨_, e3, rfl⟩ := hk 3 (by decide)
        clear hk
        obtain ⟨y0, y1, y2, y3, y4, y5, y6, y7, y8⟩ := (cred_at_blk HA.out).keep hW.1 (show ¬ A = B by omega)
        simp only [Nat.zero_add] at y0 y1 y2 y3 y4 y5 y6 y7 y8
        clear hi he
        go_simp
        exact k _ _ (Chg.refl _ _) (hW.step (by decide)) rfl
      refine ObsL.cons none (by kernel_rfl) ?_ ?_
      · refine ObL.plain fun L a w hi he hW hk K k => ?_
        obtain ⟨_, e20, rfl⟩ := hk 20 (by decide)
        clear hk
        have hsz := hW.1.size
        have hcb := pcbytes c w hs
        unfold BytesPostC at hcb
        rw [HEB.out] at hcb
        clear hi he
        go_simp
        refine hcb.mono ?_
        rintro e w5 ⟨ba, bc, rfl, hbt, hcc⟩
        exact k _ _ (hcc.mono (fun _ _ h => h.elim)) ((hW.keep hAB.2 hcc).step (by decide)) ⟨ba, bc, rfl, rfl, hbt.mono (fun i hi => ⟨Nat.le_trans hsz hi.1, hi.2⟩)⟩
      refine ObsL.cons none (by kernel_rfl) ?_ ?_
      · refine ObL.plain fun L a w hi he hW hk K k => ?_
        obtain ⟨_, e19, rfl⟩ := hk 19 (by decide)
        obtain ⟨_, e21, f21⟩ := hk 21 (by decide)
        clear hk
        have hsz := hW.1.size
        obtain ⟨ba, bc, rfl, _, hbt⟩ := f21
        have hk1 : BytesAt (fun _ => True) w (.slice ka key.length cap) key := (HKB.out.keep hW.1 (fun i hi e => by have h1 := hi.2; have h2 : i = B := e; omega)).mono (fun _ _ => trivial)
        have hmk := make_yes (D := fun _ => True) ka ba cap bc key eb w HK.out.1 HK.out.2 (bytes_len63 hbt) hk1 (hbt.mono (fun _ _ => trivial))
        clear hi he hk1 hbt
        go_simp
        refine hmk.mono ?_
        rintro e w5 ⟨gt, rfl, hgt, hcells, hcc⟩
        have hlt := lt_blk hcells
        exact k _ _ (hcc.mono (fun _ _ h => h.elim)) ((hW.keep hAB.2 hcc).step (by decide)) ⟨some ⟨gt, 0, none⟩, 8, by rw [tagOf_length], rfl, (tagCells_bytes _ hcells).mono (fun i hi => by have : i = gt := hi; omega)⟩
      refine ObsL.cons none (by kernel_rfl) ?_ ?_
      · refine ObL.plain fun L a w hi he hW hk K k => ?_
        obtain ⟨_, e18, rfl⟩ := hk 18 (by decide)
        obtain ⟨_, e22, f22⟩ := hk 22 (by decide)
        clear hk
        clear hi he
        obtain ⟨ta, cp, rfl, _, hbt⟩ := f22
        have HB := hid hbt
        clear hbt
        unfold credV credBox at e18
        go_simp
        exact k _ _ (Chg.refl _ _) (hW.step (by decide)) ⟨ta, cp, rfl, HB.out⟩
      refine ObsL.cons none (by kernel_rfl) ?_ ?_
      · refine ObL.plain fun L a w hi he hW hk K k => ?_
        obtain ⟨_, e4, rfl⟩ := hk 4 (by decide)
        obtain ⟨_, e23, f23⟩ := hk 23 (by decide)
        clear hk
        obtain ⟨ta, cp, rfl, hbt⟩ := f23
        have hz := hW.2.2 hi
        have hset := setSign_blk c (.slice ta (tagOf key eb).length cp) hz
        have hcs := setSign_chg w B c (.slice ta (tagOf key eb).length cp)
        have hW2 : PsgW B w2 c (tagOf key eb) (upd L 6) (setSign w B c (.slice ta (tagOf key eb).length cp)) := ⟨hW.1.trans hcs (fun _ _ h => h), fun _ => ⟨ta, cp, hset, (hbt.keep hcs (fun i hi e => by have := hi.1; have : i = B := e; omega)).mono (fun i hi => ⟨hi.1, Nat.lt_of_lt_of_le hi.2 hcs.size⟩)⟩, fun h => by cases h⟩
        have HB := hid (And.intro hW2 hcs)
        obtain ⟨hq, y9⟩ := cred_at_sign hz
        obtain ⟨y0, y1, y2, y3, y4, y5, y6, y7, y8⟩ := hq
        simp only [Nat.zero_add, noCred, noneR] at y0 y1 y2 y3 y4 y5 y6 y7 y8
        have g0 := froz_blk hz 0
        have g1 := froz_blk hz 1
        have g2 := froz_blk hz 2
        have g3 := froz_blk hz 3
        have g4 := froz_blk hz 4
        have g5 := froz_blk hz 5
        have g6 := froz_blk hz 6
        have g7 := froz_blk hz 7
        have g8 := froz_blk hz 8
        have g9 := froz_blk hz 9
        clear hi he hz hset hcs hW2 hbt hW
        unfold signV signBox at e23
        go_simp
        exact k undef _ HB.out.2 HB.out.1 trivial
      refine ObsL.cons none (by kernel_rfl) ?_ ?_
      · refine ObL.plain fun L a w hi he hW hk K k => ?_
        clear hk
        clear hi he
        go_simp
        exact k _ _ (Chg.refl _ _) (hW.step (by decide)) rfl
      exact ObsL.nil
    case fin =>
      intro L vals w9 hL hWL hv
      have h5 : vals 5 = .int .i64 0 := hv 5 (by decide)
      obtain ⟨hc9, hy, _⟩ := hWL
      obtain ⟨ta, cp, hb9, hbt⟩ := hy (hL 6 (by decide))
      have hch : Chg (fun _ => False) w w9 := HC.out.trans hc9 (fun i hi e => by have := HBe.out; have := HAe.out; have : i = B := e; omega)
      have hsz := HC.out.size
      have HX := hid (And.intro hb9 (And.intro hch (And.intro hbt hsz)))
      clear hB2 hL hv hc9 hy hb9 hbt hch hsz HC HA HK
      simp only [putAll, List.setIfInBounds_toArray, List.set_cons_zero, List.set_cons_succ, h5]
      clear h5
      go_wp2
      refine bodyPost_ret (results_row_tmp rfl _ _ B _ rfl (run_loadVar_row (P := Tryz.prog) _ B 38 38 _ (0, 0) _ HX.out.1 Tryz.underlying38 rfl (by kernel_rfl))) rfl ?_
      exact ⟨_, by rw [HE.out.2]; rfl, by rw [HE.out.1]; exact ⟨ta, cp, rfl, HX.out.2.2.1.mono (fun i hi => ⟨Nat.le_trans (by have := HX.out.2.2.2; have := HAe.out; omega) hi.1, hi.2⟩)⟩, HX.out.2.1⟩
  · have HE : Hid (signed l c = noSign) := hid (by rw [signed, if_neg h0])
    obtain ⟨e0, he0⟩ : ∃ e0 : Int, ((signErr l c : Nat) : Int) = e0 := ⟨_, rfl⟩
    have hne : (e0 == 0) = false := beq_eq_false_iff_ne.2 (by omega)
    have hne2 : (e0 != 0) = true := by rw [bne, hne]; rfl
    rw [he0]
    have hset := setSign_blk noCred (.slice none 0 0) hB2
    have hcs := setSign_chg w2 B noCred (.slice none 0 0)
    have hch : Chg (fun _ => False) w (setSign w2 B noCred (.slice none 0 0)) := hc2.trans hcs (fun i hi e => by have := HBe.out; have := HAe.out; have : i = B := e; omega)
    obtain ⟨hq, y9⟩ := cred_at_sign hB2
    obtain ⟨y0, y1, y2, y3, y4, y5, y6, y7, y8⟩ := hq
    simp only [Nat.zero_add, noCred, noneR] at y0 y1 y2 y3 y4 y5 y6 y7 y8
    have g0 := froz_blk hB2 0
    have g1 := froz_blk hB2 1
    have g2 := froz_blk hB2 2
    have g3 := froz_blk hB2 3
    have g4 := froz_blk hB2 4
    have g5 := froz_blk hB2 5
    have g6 := froz_blk hB2 6
    have g7 := froz_blk hB2 7
    have g8 := froz_blk hB2 8
    have g9 := froz_blk hB2 9
    have HX := hid (And.intro hset hch)
    have HE0 := hid he0
    clear he0 h0 hset hcs hch hA2 hB2 hc2 hkb
    go_wp2
    refine bodyPost_ret (results_row_tmp rfl _ _ B _ rfl (run_loadVar_row (P := Tryz.prog) _ B 38 38 _ (0, 0) _ HX.out.1 Tryz.underlying38 rfl (by kernel_rfl))) rfl ?_
    exact ⟨_, by rw [HE0.out]; rfl, by rw [HE.out]; exact ⟨none, 0, rfl, BytesAt.nil _ _⟩, HX.out.2⟩
end Go.Proofs.YtjflmhncgkbdmaaGreat

/- The contracts of a reader's Left and Number. -/
namespace Go.Proofs.YtjflmhncgkbdmaaGreat
open Go.RowKit

theorem rnum_nil (most : Int) (w : World) :
    Calls Tryz.prog 80 #[.pointer none, .int .i64 most] w fun e w' => e = .returned (.int .i64 0) ∧ w = w' := by
  go_enter Tryz.func80, Tryz.ntmps80
  go_wp2_with (go_at_call 83; refine (ended_nil _).mono ?_; rintro e w' ⟨rfl, rfl⟩)
  go_ret
  exact ⟨rfl, rfl⟩

theorem rnum_closed (R : Nat) (most : Int) (w : World) (h0 : w.cell? ⟨R, 0, none⟩ = some (.bool false)) :
    Calls Tryz.prog 80 #[.pointer (some ⟨R, 0, none⟩), .int .i64 most] w fun e w' => e = .returned (.int .i64 0) ∧ w = w' := by
  go_enter Tryz.func80, Tryz.ntmps80
  go_wp2_with (go_at_call 83; refine (ended_false _ _ h0).mono ?_; rintro e w' ⟨rfl, rfl⟩)
  go_ret
  exact ⟨rfl, rfl⟩

def RNumOk (D : Nat → Prop) (R : Nat) (l : List UInt8) (w : World) (e : Ending) (w' : World) : Prop :=
  e = .returned (.int .i64 (numN 9 l 0 0).1) ∧ ∃ v', BytesAt D w' v' (l.drop (numN 9 l 0 0).2.1) ∧ ReaderAt w' R true v' 0 ∧ Chg (· = R) w w'

set_option maxRecDepth 100000 in
theorem rnum_ok {D : Nat → Prop} (R b off cap : Nat) (l : List UInt8) (most : Int) (w : World) (hl : l.length ≤ 9223372036854775807) (hb : D b) (hDR : ¬ D R) (hlc : l.length ≤ cap) (hcm : cap ≤ maxLen)
    (hc : ∀ i (h : i < l.length), w.cell? ⟨b, off + i, none⟩ = some (.int .u8 (l[i].toNat : Int)))
    (hR : ReaderAt w R true (.slice (some ⟨b, off, none⟩) l.length cap) 0) (n k : Nat) (hN : Hid (numN 9 l 0 0 = (n, k, 0))) (hk : k ≤ l.length) (hn : (n : Int) ≤ most) (hn1 : (n : Int) ≤ 9223372036854775807) :
    Calls Tryz.prog 80 #[.pointer (some ⟨R, 0, none⟩), .int .i64 most] w (RNumOk D R l w) := by
  have h0 := cell_blk hR 0
  have h1 := cell_blk hR 1
  have f1 := froz_blk hR 1
  simp only [List.getElem?_toArray, List.getElem?_cons_zero, List.getElem?_cons_succ] at h0 h1
  have hnum := number_some b off cap l w hl hc
  go_enter Tryz.func80, Tryz.ntmps80
  go_wp2_with (first | (go_at_call 83; refine (ended_true _ _ h0).mono ?_; rintro e w' ⟨rfl, rfl⟩) | (go_at_call 84; refine hnum.mono ?_; rintro e w' ⟨rfl, rfl⟩; rw [hN.out]) | (go_at_call 55; refine (fail_ok _ _ h0).mono ?_; rintro e w' ⟨rfl, rfl⟩))
  · go_ret
    refine ⟨by simp [hN.out], ?_⟩
    rw [hN.out]
    exact reader_cut hb hDR hlc hcm hc hR hk (.inl ⟨by assumption, rfl⟩)
  · go_ret
    refine ⟨by simp [hN.out], ?_⟩
    rw [hN.out]
    exact reader_cut hb hDR hlc hcm hc hR hk (.inr ⟨rfl, rfl⟩)

set_option maxRecDepth 100000 in
theorem rnum_long {D : Nat → Prop} (R : Nat) (v : Value) (l : List UInt8) (most : Int) (w : World) (hl : l.length ≤ 9223372036854775807) (hv : BytesAt D w v l)
    (hR : ReaderAt w R true v 0) (n k : Nat) (hN : Hid (numN 9 l 0 0 = (n, k, 0))) (hn : most < (n : Int)) (hn1 : (n : Int) ≤ 9223372036854775807) :
    Calls Tryz.prog 80 #[.pointer (some ⟨R, 0, none⟩), .int .i64 most] w (Stops R 12 w) := by
  have h0 := cell_blk hR 0
  have h1 := cell_blk hR 1
  have h2 := cell_blk hR 2
  have f2 := froz_blk hR 2
  simp only [List.getElem?_toArray, List.getElem?_cons_zero, List.getElem?_cons_succ] at h0 h1 h2
  have hnum := number_any hl hv
  obtain ⟨ao, cp, rfl⟩ := hv.shape
  go_enter Tryz.func80, Tryz.ntmps80
  go_wp2_with (first | (go_at_call 83; refine (ended_true _ _ h0).mono ?_; rintro e w' ⟨rfl, rfl⟩) | (go_at_call 84; refine hnum.mono ?_; rintro e w' ⟨rfl, rfl⟩; rw [hN.out]) | (go_at_call 55; refine (fail_stops _ _ undef _ (by decide) h0 h2 f2).mono ?_; rintro e w' ⟨rfl, rfl⟩))
  exact ⟨rfl, reader_stop hR 12⟩

set_option maxRecDepth 100000 in
theorem rnum_bad {D : Nat → Prop} (R : Nat) (v : Value) (l : List UInt8) (most : Int) (w : World) (hl : l.length ≤ 9223372036854775807) (hv : BytesAt D w v l)
    (hR : ReaderAt w R true v 0) (n k err : Nat) (hN : Hid (numN 9 l 0 0 = (n, k, err))) (he : ((err : Int) == 0) = false) :
    Calls Tryz.prog 80 #[.pointer (some ⟨R, 0, none⟩), .int .i64 most] w (Stops R err w) := by
  have h0 := cell_blk hR 0
  have h1 := cell_blk hR 1
  have h2 := cell_blk hR 2
  have f2 := froz_blk hR 2
  simp only [List.getElem?_toArray, List.getElem?_cons_zero, List.getElem?_cons_succ] at h0 h1 h2
  have hnum := number_any hl hv
  obtain ⟨ao, cp, rfl⟩ := hv.shape
  go_enter Tryz.func80, Tryz.ntmps80
  go_wp2_with (first | (go_at_call 83; refine (ended_true _ _ h0).mono ?_; rintro e w' ⟨rfl, rfl⟩) | (go_at_call 84; refine hnum.mono ?_; rintro e w' ⟨rfl, rfl⟩; rw [hN.out]) | (go_at_call 55; refine (fail_stops _ _ undef _ he h0 h2 f2).mono ?_; rintro e w' ⟨rfl, rfl⟩))
  exact ⟨rfl, reader_stop hR err⟩

/-- Reader.Number, of an open reader: the number. -/
theorem rnum_reads {D : Nat → Prop} {R : Nat} {v : Value} {l : List UInt8} {most : Int} {w : World} (hl : l.length ≤ 9223372036854775807) (hv : BytesAt D w v l) (hDR : ¬ D R) (hR : ReaderAt w R true v 0) (he : errNum l most = 0) :
    Calls Tryz.prog 80 #[.pointer (some ⟨R, 0, none⟩), .int .i64 most] w (RNumOk D R l w) := by
  have hz : (numN 9 l 0 0).2.2 = 0 := by
    unfold errNum at he
    by_cases h : (numN 9 l 0 0).2.2 = 0
    · exact h
    · rw [if_neg h] at he
      exact he
  have hm : ((numN 9 l 0 0).1 : Int) ≤ most := by
    unfold errNum at he
    rw [if_pos hz] at he
    by_cases h : most < ((numN 9 l 0 0).1 : Int)
    · rw [if_pos h] at he
      omega
    · omega
  obtain ⟨k1, k2, k3⟩ := numN_ok hz
  rcases hv with ⟨ao, cp, rfl, rfl, _⟩ | ⟨b, off, cap, rfl, h1, h2, h3, h4⟩
  · simp at k2
    omega
  · exact rnum_ok R b off cap l most w hl h3 hDR h1 h2 h4 hR _ _ (pair3 _ hz) k2 hm (by omega)

/-- Reader.Number, of an open reader: the error. -/
theorem rnum_stops {D : Nat → Prop} {R : Nat} {v : Value} {l : List UInt8} {most : Int} {w : World} (hl : l.length ≤ 9223372036854775807) (hv : BytesAt D w v l) (hR : ReaderAt w R true v 0) (he : errNum l most ≠ 0) :
    Calls Tryz.prog 80 #[.pointer (some ⟨R, 0, none⟩), .int .i64 most] w (Stops R (errNum l most) w) := by
  by_cases hz : (numN 9 l 0 0).2.2 = 0
  · have e : errNum l most = 12 := by
      unfold errNum at he ⊢
      rw [if_pos hz] at he ⊢
      by_cases h : most < ((numN 9 l 0 0).1 : Int)
      · rw [if_pos h]
      · rw [if_neg h] at he
        exact absurd rfl he
    have hm : most < ((numN 9 l 0 0).1 : Int) := by
      unfold errNum at e
      rw [if_pos hz] at e
      by_cases h : most < ((numN 9 l 0 0).1 : Int)
      · exact h
      · rw [if_neg h] at e
        omega
    obtain ⟨k1, k2, k3⟩ := numN_ok hz
    rw [e]
    exact rnum_long R v l most w hl hv hR _ _ (pair3 _ hz) hm (by omega)
  · have e : errNum l most = (numN 9 l 0 0).2.2 := by
      unfold errNum
      rw [if_neg hz]
    rw [e]
    exact rnum_bad R v l most w hl hv hR _ _ _ (pair3 _ rfl) (by simpa using hz)

end Go.Proofs.YtjflmhncgkbdmaaGreat
