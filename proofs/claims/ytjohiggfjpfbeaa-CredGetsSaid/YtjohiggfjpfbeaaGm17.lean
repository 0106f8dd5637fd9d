/- Texts that the proof leans on, in one: CredFirst, RefCredStep. -/
import Derived.Test.YtjohiggfjpfbeaaGm15
import Derived.Test.YtjohiggfjpfbeaaGm5
import Derived.Test.YtjohiggfjpfbeaaGm16
import Derived.Test.YtjohiggfjpfbeaaGm2
/- The contract of law 5's first: it answers true, and turns nothing that was there. -/
namespace Go.Proofs.Ytjohiggfjpfbeaa
open Go.RowKit

def cL : CredB := ⟨3, ([115, 104, 111, 112], [100, 101, 97, 108]), [], ([115, 104, 111, 112], [112, 97, 114, 116, 110, 101, 114]), noneR, [109, 101, 109, 98, 101, 114]⟩
def cT : List UInt8 := [115, 104, 111, 112, 46, 100, 101, 97, 108, 32, 60, 45, 32, 115, 104, 111, 112, 46, 112, 97, 114, 116, 110, 101, 114, 46, 109, 101, 109, 98, 101, 114]
def dM : CredB := ⟨1, ([97], [114]), [98, 111, 98], noneR, noneR, []⟩
def dT : List UInt8 := [97, 46, 114, 32, 60, 45, 32, 98, 111, 98]
def nT : List UInt8 := [97, 46, 114, 32, 60, 45, 32, 99, 46, 116, 32, 38, 32, 98, 46, 115]
def dB : List UInt8 := [1, 1, 97, 1, 114, 3, 98, 111, 98]
theorem cL_parse : parseC cT = some cL := by decide +kernel
theorem dM_parse : parseC dT = some dM := by decide +kernel
theorem no_parse : parseC nT = none := by decide +kernel
theorem cL_cred : isCred cL = true := by decide
theorem dM_cred : isCred dM = true := by decide
theorem cL_short : credShort cL 1048576 := by unfold credShort; decide
theorem dM_short : credShort dM 1048576 := by unfold credShort; decide
theorem dM_bytes : credBytes dM = dB := by
  rw [credBytes, if_pos dM_cred]
  simp only [credEnc, credTail, roleEnc, encS, dM, if_true]
  rw [enc_small (by decide), enc_small (by decide), enc_small (by decide), enc_small (by decide)]
  decide
theorem cL_bytes : ∃ r, credBytes cL = 3 :: r := by
  rw [credBytes, if_pos cL_cred]
  simp only [credEnc, cL]
  rw [enc_small (by decide)]
  exact ⟨_, rfl⟩
theorem dM_got : credGet dB = .ok dM [] := by
  have h := credGet_enc dM_cred []
  rw [List.append_nil] at h
  have h2 : credEnc dM = dB := by rw [← dM_bytes, credBytes, if_pos dM_cred]
  rw [h2] at h
  exact h
theorem dM_lt : ltC dM cL = true := by
  obtain ⟨r, hr⟩ := cL_bytes
  rw [ltC_right dM_cred cL_cred, dM_bytes, hr]
  rfl
theorem first_set : SetC [cL, dM, cL] [dM, cL] := by
  refine ⟨⟨fun y hy => ?_, fun y hy => by simp at hy, trivial⟩, fun x => ⟨fun h => ?_, fun h => ?_⟩⟩
  · rw [List.mem_singleton.1 hy]; exact dM_lt
  · simp only [List.mem_cons, List.not_mem_nil, or_false] at h
    rcases h with rfl | rfl
    · exact ⟨by simp, dM_cred⟩
    · exact ⟨by simp, cL_cred⟩
  · obtain ⟨h, _⟩ := h
    simp only [List.mem_cons, List.not_mem_nil, or_false] at h
    rcases h with rfl | rfl | rfl <;> simp

/-- A slice of credentials; a slice of so many. -/
def Spec.creds (n : Nat) (ls : List CredB) : Spec :=
  ⟨fun v w => ∃ ao cap, v = .slice ao n cap ∧ CredsAt (fun _ => True) w ao ls, fun _ _ _ hc ⟨ao, cap, h1, h2⟩ => ⟨ao, cap, h1, h2.keep hc (fun _ _ => id)⟩⟩
def Spec.len (n : Nat) : Spec := ⟨fun v _ => ∃ ao cap, v = .slice ao n cap, fun _ _ _ _ h => h⟩

theorem creds_lit (ls : List CredB) (w : World) (f : Nat × Nat) (hb : ∀ x ∈ ls, credShort x 9223372036854775807) :
    CredsAt (fun k => k = w.heap.size) (w.alloc (.cells (credRow ls).toArray 25 f)) (some ⟨w.heap.size, 0, none⟩) ls := fun i hi =>
  ⟨w.heap.size, 0, rfl, rfl, cred_at_cells fun j hj => by rw [cell_blk (heap_alloc_new w _), Nat.zero_add, List.getElem?_toArray]; exact credRow_get ls i j hi hj, hb _ (List.getElem_mem hi)⟩

def cfirstSpecs (A B X : Nat) : List Spec := [.eq (.bool true), .eq (.pointer (some ⟨A, 0, none⟩)), .eq (.bool true), .eq (.pointer (some ⟨B, 0, none⟩)), .eq (.bool true), .any, .eq (.bool false), .bytes 9 dB, .eq (.pointer (some ⟨X, 0, none⟩)), .eq (.int .i64 0), .creds 2 [dM, cL], .any, .any, .any, .any, .any, .any, .any, .any, .any, .any, .any, .any, .any, .any, .any, .any, .any, .any, .any, .any, .any, .any, .eq (.bool true), .eq (.bool true), .eq (.pointer (some ⟨A, 0, none⟩)), .eq (.int .i64 3), .eq (.bool true), .eq (.bool true), .eq (.bool true), .eq (.pointer (some ⟨A, 8, none⟩)), .eq (.string ⟨#[109, 101, 109, 98, 101, 114]⟩), .eq (.bool true), .eq (.bool true), .eq (.bool true), .eq (.bool true), .eq (.bool true), .eq (.bool true), .eq (.bool false), .eq (.bool true), .eq (.bool true), .eq (.bool true), .bytes 9 dB, .eq (.string ⟨dB.toArray⟩), .eq (.bool true), .eq (.bool true), .eq (.bool true), .eq (.int .i64 0), .eq (.bool true), .eq (.bool true), .eq (.bool true), .eq (credV dM), .eq (credV dM), .eq (.bool true), .eq (.bool true), .eq (.bool true), .creds 2 [dM, cL], .eq (.int .i64 2), .eq (.bool true), .eq (.bool true), .eq (.bool true), .creds 2 [dM, cL], .credP dM, .eq (credV dM), .eq (credV dM), .eq (.bool true), .eq (.bool true), .eq (.bool true), .creds 2 [dM, cL], .eq (credV cL), .eq (.bool true), .eq (.bool true), .eq (.bool true), .eq (credV cL), .len 2, .eq (.int .i64 2), .eq (.bool true), .eq (.bool true), .eq (.bool true), .eq (credV dM), .eq (.string ⟨dT.toArray⟩), .eq (.bool true), .eq (.bool true)]


set_option maxRecDepth 100000 in
set_option maxHeartbeats 8000000 in
theorem cfirst_any (w : World) (hm : MaxAt w) : Calls Try.prog 7 #[] w fun e w' => e = .returned (.bool true) ∧ Chg (fun _ => False) w w' := by
  have hp := pcparse cT w (by decide) hm
  go_enter Try.func7, Try.ntmps7
  go_wp2_with fail
  refine hp.mono ?_
  rintro e w2 ⟨rfl, hc2⟩
  rw [show (Value.tuple #[credV ((parseC cT).getD noCred), Value.bool (parseC cT).isSome]) = .tuple #[.agg #[.int .i64 3, .string ⟨#[115, 104, 111, 112]⟩, .string ⟨#[100, 101, 97, 108]⟩, .string ⟨#[]⟩, .string ⟨#[115, 104, 111, 112]⟩, .string ⟨#[112, 97, 114, 116, 110, 101, 114]⟩, .string ⟨#[]⟩, .string ⟨#[]⟩, .string ⟨#[109, 101, 109, 98, 101, 114]⟩], .bool true] by rw [cL_parse]; rfl]
  clear hp
  have hA3 : (w2.alloc (.cells #[.int .i64 3, .string ⟨#[115, 104, 111, 112]⟩, .string ⟨#[100, 101, 97, 108]⟩, .string ⟨#[]⟩, .string ⟨#[115, 104, 111, 112]⟩, .string ⟨#[112, 97, 114, 116, 110, 101, 114]⟩, .string ⟨#[]⟩, .string ⟨#[]⟩, .string ⟨#[109, 101, 109, 98, 101, 114]⟩] 25)).heap[w2.heap.size]? = some (.cells (credBox cL) 25 (0, 0)) := heap_alloc_new w2 _
  have hc3 : Chg (fun _ => False) w (w2.alloc (.cells #[.int .i64 3, .string ⟨#[115, 104, 111, 112]⟩, .string ⟨#[100, 101, 97, 108]⟩, .string ⟨#[]⟩, .string ⟨#[115, 104, 111, 112]⟩, .string ⟨#[112, 97, 114, 116, 110, 101, 114]⟩, .string ⟨#[]⟩, .string ⟨#[]⟩, .string ⟨#[109, 101, 109, 98, 101, 114]⟩] 25)) := hc2.alloc _
  have hwA0 := hc2.size
  clear hc2
  have hp := pcparse dT (w2.alloc (.cells #[.int .i64 3, .string ⟨#[115, 104, 111, 112]⟩, .string ⟨#[100, 101, 97, 108]⟩, .string ⟨#[]⟩, .string ⟨#[115, 104, 111, 112]⟩, .string ⟨#[112, 97, 114, 116, 110, 101, 114]⟩, .string ⟨#[]⟩, .string ⟨#[]⟩, .string ⟨#[109, 101, 109, 98, 101, 114]⟩] 25)) (by decide) (hm.keep hc3 id)
  have HH := hid (And.intro hp (And.intro hA3 hc3))
  clear hp hA3 hc3
  go_wp2_with fail
  obtain ⟨hp, hA3, hc3⟩ := HH.out
  clear HH
  generalize w2.alloc (.cells #[.int .i64 3, .string ⟨#[115, 104, 111, 112]⟩, .string ⟨#[100, 101, 97, 108]⟩, .string ⟨#[]⟩, .string ⟨#[115, 104, 111, 112]⟩, .string ⟨#[112, 97, 114, 116, 110, 101, 114]⟩, .string ⟨#[]⟩, .string ⟨#[]⟩, .string ⟨#[109, 101, 109, 98, 101, 114]⟩] 25) = w3 at *
  have hwA : w.heap.size ≤ w2.heap.size := hwA0
  generalize w2.heap.size = A at *
  refine hp.mono ?_
  rintro e w4 ⟨rfl, hc34⟩
  rw [show (Value.tuple #[credV ((parseC dT).getD noCred), Value.bool (parseC dT).isSome]) = .tuple #[.agg #[.int .i64 1, .string ⟨#[97]⟩, .string ⟨#[114]⟩, .string ⟨#[98, 111, 98]⟩, .string ⟨#[]⟩, .string ⟨#[]⟩, .string ⟨#[]⟩, .string ⟨#[]⟩, .string ⟨#[]⟩], .bool true] by rw [dM_parse]; rfl]
  have hA4 := blk_keep hA3 hc34 id
  have hc4 := hc3.trans hc34 (fun _ _ h => h)
  clear hp hA3 hc3 hc34
  have hAB : A < w4.heap.size := lt_blk hA4
  have ha5 : Chg (fun _ => False) w4 (w4.alloc (.cells #[.int .i64 1, .string ⟨#[97]⟩, .string ⟨#[114]⟩, .string ⟨#[98, 111, 98]⟩, .string ⟨#[]⟩, .string ⟨#[]⟩, .string ⟨#[]⟩, .string ⟨#[]⟩, .string ⟨#[]⟩] 25)) := (Chg.refl _ w4).alloc _
  have hB5 : (w4.alloc (.cells #[.int .i64 1, .string ⟨#[97]⟩, .string ⟨#[114]⟩, .string ⟨#[98, 111, 98]⟩, .string ⟨#[]⟩, .string ⟨#[]⟩, .string ⟨#[]⟩, .string ⟨#[]⟩, .string ⟨#[]⟩] 25)).heap[w4.heap.size]? = some (.cells (credBox dM) 25 (0, 0)) := heap_alloc_new w4 _
  have hA5 := blk_keep hA4 ha5 id
  have hc5 := hc4.trans ha5 (fun _ _ h => h)
  clear ha5 hA4 hc4
  have hp := pcparse nT (w4.alloc (.cells #[.int .i64 1, .string ⟨#[97]⟩, .string ⟨#[114]⟩, .string ⟨#[98, 111, 98]⟩, .string ⟨#[]⟩, .string ⟨#[]⟩, .string ⟨#[]⟩, .string ⟨#[]⟩, .string ⟨#[]⟩] 25)) (by decide) (hm.keep hc5 id)
  have HH := hid (And.intro hp (And.intro hA5 (And.intro hB5 hc5)))
  clear hp hA5 hB5 hc5
  go_wp2_with fail
  obtain ⟨hp, hA5, hB5, hc5⟩ := HH.out
  clear HH
  generalize w4.alloc (.cells #[.int .i64 1, .string ⟨#[97]⟩, .string ⟨#[114]⟩, .string ⟨#[98, 111, 98]⟩, .string ⟨#[]⟩, .string ⟨#[]⟩, .string ⟨#[]⟩, .string ⟨#[]⟩, .string ⟨#[]⟩] 25) = w5 at *
  generalize w4.heap.size = B at *
  refine hp.mono ?_
  rintro e w6 ⟨rfl, hc56⟩
  rw [show (Value.tuple #[credV ((parseC nT).getD noCred), Value.bool (parseC nT).isSome]) = .tuple #[.agg #[.int .i64 0, .string ⟨#[]⟩, .string ⟨#[]⟩, .string ⟨#[]⟩, .string ⟨#[]⟩, .string ⟨#[]⟩, .string ⟨#[]⟩, .string ⟨#[]⟩, .string ⟨#[]⟩], .bool false] by rw [no_parse]; rfl]
  have ha7 : Chg (fun _ => False) w6 (w6.alloc (.cells #[.int .i64 0, .string ⟨#[]⟩, .string ⟨#[]⟩, .string ⟨#[]⟩, .string ⟨#[]⟩, .string ⟨#[]⟩, .string ⟨#[]⟩, .string ⟨#[]⟩, .string ⟨#[]⟩] 25)) := (Chg.refl _ w6).alloc _
  have hc57 := hc56.trans ha7 (fun _ _ h => h)
  have hA7 := blk_keep hA5 hc57 id
  have hB7 := blk_keep hB5 hc57 id
  have hc7 := hc5.trans hc57 (fun _ _ h => h)
  clear hp hA5 hB5 hc5 hc56 ha7 hc57
  obtain ⟨b0, b1, b2, b3, b4, b5, b6, b7, b8⟩ := cred_at_blk hB7
  simp only [Nat.zero_add, credBox, dM, noneR] at b0 b1 b2 b3 b4 b5 b6 b7 b8
  have hp := pcbytes dM (w6.alloc (.cells #[.int .i64 0, .string ⟨#[]⟩, .string ⟨#[]⟩, .string ⟨#[]⟩, .string ⟨#[]⟩, .string ⟨#[]⟩, .string ⟨#[]⟩, .string ⟨#[]⟩, .string ⟨#[]⟩] 25)) (dM_short.mono' (by decide))
  have HH := hid (And.intro hp (And.intro hA7 (And.intro hB7 hc7)))
  clear hp hA7 hB7 hc7
  go_wp2_with fail
  clear b0 b1 b2 b3 b4 b5 b6 b7 b8
  obtain ⟨hp, hA7, hB7, hc7⟩ := HH.out
  clear HH
  generalize w6.alloc (.cells #[.int .i64 0, .string ⟨#[]⟩, .string ⟨#[]⟩, .string ⟨#[]⟩, .string ⟨#[]⟩, .string ⟨#[]⟩, .string ⟨#[]⟩, .string ⟨#[]⟩, .string ⟨#[]⟩] 25) = w7 at *
  refine hp.mono ?_
  rintro e w8 ⟨ao8, cap8, rfl, hb8, hc78⟩
  rw [dM_bytes] at hb8
  rw [show (credBytes dM).length = 9 by rw [dM_bytes]; rfl]
  replace hb8 : BytesAt (fun k => w7.heap.size ≤ k ∧ k < w8.heap.size) w8 (.slice ao8 9 cap8) dB := hb8
  have hA8 := blk_keep hA7 hc78 id
  have hB8 := blk_keep hB7 hc78 id
  have hc8 := hc7.trans hc78 (fun _ _ h => h)
  clear hp hA7 hB7 hc7 hc78
  have ha9 : Chg (fun _ => False) w8 (w8.alloc (.cells #[.int .i64 0, .string ⟨#[]⟩, .string ⟨#[]⟩, .string ⟨#[]⟩, .string ⟨#[]⟩, .string ⟨#[]⟩, .string ⟨#[]⟩, .string ⟨#[]⟩, .string ⟨#[]⟩] 25)) := (Chg.refl _ w8).alloc _
  have hX9 : (w8.alloc (.cells #[.int .i64 0, .string ⟨#[]⟩, .string ⟨#[]⟩, .string ⟨#[]⟩, .string ⟨#[]⟩, .string ⟨#[]⟩, .string ⟨#[]⟩, .string ⟨#[]⟩, .string ⟨#[]⟩] 25)).heap[w8.heap.size]? = some (.cells (credBox noCred) 25 (0, 0)) := heap_alloc_new w8 _
  have hA9 := blk_keep hA8 ha9 id
  have hB9 := blk_keep hB8 ha9 id
  have hc9 := hc8.trans ha9 (fun _ _ h => h)
  have hb9 := hb8.keep ha9 (fun _ _ => id)
  have hBX : B < w8.heap.size := lt_blk hB8
  have hrd := creadF_any (w := w8.alloc (.cells #[.int .i64 0, .string ⟨#[]⟩, .string ⟨#[]⟩, .string ⟨#[]⟩, .string ⟨#[]⟩, .string ⟨#[]⟩, .string ⟨#[]⟩, .string ⟨#[]⟩, .string ⟨#[]⟩] 25)) (l := dB) (X := w8.heap.size) (z := noCred) (by decide) hb9 (fun i hi => Nat.lt_of_lt_of_le hi.2 ha9.size) (fun h => by have := h.2; omega) hX9
  have HH := hid (And.intro hrd (And.intro hA9 (And.intro hB9 (And.intro hc9 hb9))))
  clear hrd hA8 hB8 hc8 hb8 ha9 hX9 hA9 hB9 hc9 hb9
  go_wp2_with fail
  obtain ⟨hrd, hA9, hB9, hc9, hb9⟩ := HH.out
  clear HH
  generalize w8.alloc (.cells #[.int .i64 0, .string ⟨#[]⟩, .string ⟨#[]⟩, .string ⟨#[]⟩, .string ⟨#[]⟩, .string ⟨#[]⟩, .string ⟨#[]⟩, .string ⟨#[]⟩, .string ⟨#[]⟩] 25) = w9 at *
  generalize w8.heap.size = X at *
  refine hrd.mono ?_
  rintro e w10 ⟨rfl, hX10, hc910⟩
  rw [show credErr dB = 0 by rw [credErr, dM_got]; rfl]
  rw [show credGot dB noCred = dM by rw [credGot, dM_got]] at hX10
  have hA10 := blk_keep hA9 hc910 (show ¬ A = X by omega)
  have hB10 := blk_keep hB9 hc910 (show ¬ B = X by omega)
  have hc10 : Chg (fun _ => False) w w10 := hc9.trans hc910 (T := (· = X)) (S := fun _ => False) (fun i hi h => by have : i = X := h; have := hwA; omega)
  have hb10 := hb9.keep hc910 (fun i hi h => by have := hi.2; have : i = X := h; omega)
  clear hrd hA9 hB9 hc9 hb9 hc910
  obtain ⟨a0, a1, a2, a3, a4, a5, a6, a7, a8⟩ := cred_at_blk hA10
  obtain ⟨b0, b1, b2, b3, b4, b5, b6, b7, b8⟩ := cred_at_blk hB10
  simp only [Nat.zero_add, credBox, cL, dM, noneR] at a0 a1 a2 a3 a4 a5 a6 a7 a8 b0 b1 b2 b3 b4 b5 b6 b7 b8
  have hl11 := creds_lit [cL, dM, cL] w10 (0, 0) (by intro x hx; simp only [List.mem_cons, List.not_mem_nil, or_false] at hx; rcases hx with rfl | rfl | rfl <;> (unfold credShort; decide))
  have hc1011 : Chg (fun _ => False) w10 (w10.alloc (.cells (credRow [cL, dM, cL]).toArray 25)) := (Chg.refl _ w10).alloc _
  have hset := pcset (some ⟨w10.heap.size, 0, none⟩) 3 [cL, dM, cL] (w10.alloc (.cells (credRow [cL, dM, cL]).toArray 25)) (by decide) hl11 (by rintro i rfl; simp) (fun h => by cases h)
  have HS := hid (And.intro hset (And.intro hc1011 (And.intro hA10 (And.intro hB10 (And.intro hX10 (And.intro hc10 hb10))))))
  clear hset hl11 hc1011 hA10 hB10 hX10 hc10 hb10
  go_wp2_with fail
  obtain ⟨hset, hc1011, hA10, hB10, hX10, hc10, hb10⟩ := HS.out
  refine hset.mono ?_
  rintro e w11 ⟨out, ao, cap, rfl, hso, hst, hch, _⟩
  obtain rfl : out = [dM, cL] := hso.one first_set
  have hcc := hc1011.trans hch (fun _ _ h => h)
  have hA := blk_keep hA10 hcc id
  have hB := blk_keep hB10 hcc id
  have hX := blk_keep hX10 hcc id
  have hcw := hc10.trans hcc (fun _ _ h => h)
  have hb11 := hb10.keep hcc (fun _ _ => id)
  clear hset HS hc1011 hA10 hB10 hX10 hc10 hb10 hso hch hcc a0 a1 a2 a3 a4 a5 a6 a7 a8 b0 b1 b2 b3 b4 b5 b6 b7 b8
  go_wp2_with fail
  refine wp_region_specs (cfirstSpecs A B X) [33, 34, 35, 36, 37, 38, 39, 40, 41, 42, 43, 44, 45, 46, 47, 48, 49, 50, 51, 52, 53, 54, 55, 56, 57, 58, 59, 60, 61, 62, 63, 64, 65, 66, 67, 68, 69, 70, 71, 72, 73, 74, 75, 76, 77, 78, 79, 80, 81, 82, 83, 84, 85, 86, 87, 88, 89, 90, 91, 92, 0] [1, 2, 3, 4, 6, 7, 8, 9, 10] (by kernel_rfl) (by kernel_rfl) (by rfl) (by kernel_rfl) ?start ?obs ?fin
  case start =>
    simp only [List.forall_mem_cons]
    exact ⟨⟨_, rfl, rfl⟩, ⟨_, rfl, rfl⟩, ⟨_, rfl, rfl⟩, ⟨_, rfl, rfl⟩, ⟨_, rfl, rfl⟩, ⟨_, rfl, _, _, rfl, rfl, hb11.mono (fun _ _ => trivial)⟩, ⟨_, rfl, rfl⟩, ⟨_, rfl, rfl⟩, ⟨_, rfl, _, _, rfl, hst.mono (fun _ _ => trivial)⟩, fun _ h => by cases h⟩
  case obs =>
    clear hcw hst hb11
    refine Obs.cons none (by kernel_rfl) ?_ ?_
    · refine Ob.plain fun a w hR hk K k => ?_
      obtain ⟨_, e2, f2⟩ := hk 2 (by decide)
      clear hk
      go_simp
      exact k _ _ (Chg.refl _ _) f2
    refine Obs.cons none (by kernel_rfl) ?_ ?_
    · refine Ob.plain fun a w hR hk K k => ?_
      obtain ⟨_, e33, f33⟩ := hk 33 (by decide)
      clear hk
      go_simp
      exact k _ _ (Chg.refl _ _) f33
    refine Obs.cons (some (34, true)) (by kernel_rfl) ?_ ?_
    · refine Ob.yes (fun _ _ h => h) fun a w hR hk K k => ?_
      obtain ⟨_, e1, rfl⟩ := hk 1 (by decide)
      clear hk
      go_simp
      exact k _ _ (Chg.refl _ _) rfl
    refine Obs.cons (some (34, true)) (by kernel_rfl) ?_ ?_
    · refine Ob.yes (fun _ _ h => h) fun a w hR hk K k => ?_
      obtain ⟨_, e35, rfl⟩ := hk 35 (by decide)
      clear hk
      obtain ⟨c0, c1, c2, c3, c4, c5, c6, c7, c8⟩ := (cred_at_blk hA).keep hR id
      simp only [Nat.zero_add, credBox, cL, dM, noneR] at c0 c1 c2 c3 c4 c5 c6 c7 c8
      go_simp
      exact k _ _ (Chg.refl _ _) rfl
    refine Obs.cons (some (34, true)) (by kernel_rfl) ?_ ?_
    · refine Ob.yes (fun _ _ h => h) fun a w hR hk K k => ?_
      obtain ⟨_, e36, rfl⟩ := hk 36 (by decide)
      clear hk
      go_simp
      exact k _ _ (Chg.refl _ _) rfl
    refine Obs.cons none (by kernel_rfl) ?_ ?_
    · refine Ob.plain fun a w hR hk K k => ?_
      obtain ⟨_, e34, rfl⟩ := hk 34 (by decide)
      obtain ⟨_, e37, rfl⟩ := hk 37 (by decide)
      clear hk
      go_simp
      exact k _ _ (Chg.refl _ _) rfl
    refine Obs.cons none (by kernel_rfl) ?_ ?_
    · refine Ob.plain fun a w hR hk K k => ?_
      obtain ⟨_, e38, f38⟩ := hk 38 (by decide)
      clear hk
      go_simp
      exact k _ _ (Chg.refl _ _) f38
    refine Obs.cons (some (39, true)) (by kernel_rfl) ?_ ?_
    · refine Ob.yes (fun _ _ h => h) fun a w hR hk K k => ?_
      obtain ⟨_, e1, rfl⟩ := hk 1 (by decide)
      clear hk
      go_simp
      exact k _ _ (Chg.refl _ _) rfl
    refine Obs.cons (some (39, true)) (by kernel_rfl) ?_ ?_
    · refine Ob.yes (fun _ _ h => h) fun a w hR hk K k => ?_
      obtain ⟨_, e40, rfl⟩ := hk 40 (by decide)
      clear hk
      obtain ⟨c0, c1, c2, c3, c4, c5, c6, c7, c8⟩ := (cred_at_blk hA).keep hR id
      simp only [Nat.zero_add, credBox, cL, dM, noneR] at c0 c1 c2 c3 c4 c5 c6 c7 c8
      go_simp
      exact k _ _ (Chg.refl _ _) rfl
    refine Obs.cons (some (39, true)) (by kernel_rfl) ?_ ?_
    · refine Ob.yes (fun _ _ h => h) fun a w hR hk K k => ?_
      obtain ⟨_, e41, rfl⟩ := hk 41 (by decide)
      clear hk
      go_simp
      exact k _ _ (Chg.refl _ _) rfl
    refine Obs.cons none (by kernel_rfl) ?_ ?_
    · refine Ob.plain fun a w hR hk K k => ?_
      obtain ⟨_, e39, rfl⟩ := hk 39 (by decide)
      obtain ⟨_, e42, rfl⟩ := hk 42 (by decide)
      clear hk
      go_simp
      exact k _ _ (Chg.refl _ _) rfl
    refine Obs.cons none (by kernel_rfl) ?_ ?_
    · refine Ob.plain fun a w hR hk K k => ?_
      obtain ⟨_, e43, f43⟩ := hk 43 (by decide)
      clear hk
      go_simp
      exact k _ _ (Chg.refl _ _) f43
    refine Obs.cons (some (44, true)) (by kernel_rfl) ?_ ?_
    · refine Ob.yes (fun _ _ h => h) fun a w hR hk K k => ?_
      obtain ⟨_, e4, f4⟩ := hk 4 (by decide)
      clear hk
      go_simp
      exact k _ _ (Chg.refl _ _) f4
    refine Obs.cons none (by kernel_rfl) ?_ ?_
    · refine Ob.plain fun a w hR hk K k => ?_
      obtain ⟨_, e44, rfl⟩ := hk 44 (by decide)
      obtain ⟨_, e45, rfl⟩ := hk 45 (by decide)
      clear hk
      go_simp
      exact k _ _ (Chg.refl _ _) rfl
    refine Obs.cons none (by kernel_rfl) ?_ ?_
    · refine Ob.plain fun a w hR hk K k => ?_
      obtain ⟨_, e46, f46⟩ := hk 46 (by decide)
      clear hk
      go_simp
      exact k _ _ (Chg.refl _ _) f46
    refine Obs.cons (some (47, true)) (by kernel_rfl) ?_ ?_
    · refine Ob.yes (fun _ _ h => h) fun a w hR hk K k => ?_
      obtain ⟨_, e6, f6⟩ := hk 6 (by decide)
      clear hk
      go_simp
      exact k _ _ (Chg.refl _ _) f6
    refine Obs.cons (some (47, true)) (by kernel_rfl) ?_ ?_
    · refine Ob.yes (fun _ _ h => h) fun a w hR hk K k => ?_
      obtain ⟨_, e48, rfl⟩ := hk 48 (by decide)
      clear hk
      go_simp
      exact k _ _ (Chg.refl _ _) rfl
    refine Obs.cons none (by kernel_rfl) ?_ ?_
    · refine Ob.plain fun a w hR hk K k => ?_
      obtain ⟨_, e47, rfl⟩ := hk 47 (by decide)
      obtain ⟨_, e49, rfl⟩ := hk 49 (by decide)
      clear hk
      go_simp
      exact k _ _ (Chg.refl _ _) rfl
    refine Obs.cons none (by kernel_rfl) ?_ ?_
    · refine Ob.plain fun a w hR hk K k => ?_
      obtain ⟨_, e50, f50⟩ := hk 50 (by decide)
      clear hk
      go_simp
      exact k _ _ (Chg.refl _ _) f50
    refine Obs.cons (some (51, true)) (by kernel_rfl) ?_ ?_
    · refine Ob.yes (fun _ _ h => h) fun a w hR hk K k => ?_
      obtain ⟨_, e7, f7⟩ := hk 7 (by decide)
      clear hk
      go_simp
      exact k _ _ (Chg.refl _ _) f7
    refine Obs.cons (some (51, true)) (by kernel_rfl) ?_ ?_
    · refine Ob.yes (fun _ _ h => h) fun a w hR hk K k => ?_
      obtain ⟨_, e52, f52⟩ := hk 52 (by decide)
      clear hk
      obtain ⟨a0, p0, rfl, hbl, hby⟩ := f52
      have hcv := conv_bytes hby
      go_simp
      exact k _ _ (Chg.refl _ _) rfl
    refine Obs.cons (some (51, true)) (by kernel_rfl) ?_ ?_
    · refine Ob.yes (fun _ _ h => h) fun a w hR hk K k => ?_
      obtain ⟨_, e53, rfl⟩ := hk 53 (by decide)
      clear hk
      go_simp
      exact k _ _ (Chg.refl _ _) rfl
    refine Obs.cons none (by kernel_rfl) ?_ ?_
    · refine Ob.plain fun a w hR hk K k => ?_
      obtain ⟨_, e51, rfl⟩ := hk 51 (by decide)
      obtain ⟨_, e54, rfl⟩ := hk 54 (by decide)
      clear hk
      go_simp
      exact k _ _ (Chg.refl _ _) rfl
    refine Obs.cons none (by kernel_rfl) ?_ ?_
    · refine Ob.plain fun a w hR hk K k => ?_
      obtain ⟨_, e55, f55⟩ := hk 55 (by decide)
      clear hk
      go_simp
      exact k _ _ (Chg.refl _ _) f55
    refine Obs.cons (some (56, true)) (by kernel_rfl) ?_ ?_
    · refine Ob.yes (fun _ _ h => h) fun a w hR hk K k => ?_
      obtain ⟨_, e9, f9⟩ := hk 9 (by decide)
      clear hk
      go_simp
      exact k _ _ (Chg.refl _ _) f9
    refine Obs.cons (some (56, true)) (by kernel_rfl) ?_ ?_
    · refine Ob.yes (fun _ _ h => h) fun a w hR hk K k => ?_
      obtain ⟨_, e57, rfl⟩ := hk 57 (by decide)
      clear hk
      go_simp
      exact k _ _ (Chg.refl _ _) rfl
    refine Obs.cons none (by kernel_rfl) ?_ ?_
    · refine Ob.plain fun a w hR hk K k => ?_
      obtain ⟨_, e56, rfl⟩ := hk 56 (by decide)
      obtain ⟨_, e58, rfl⟩ := hk 58 (by decide)
      clear hk
      go_simp
      exact k _ _ (Chg.refl _ _) rfl
    refine Obs.cons none (by kernel_rfl) ?_ ?_
    · refine Ob.plain fun a w hR hk K k => ?_
      obtain ⟨_, e59, f59⟩ := hk 59 (by decide)
      clear hk
      go_simp
      exact k _ _ (Chg.refl _ _) f59
    refine Obs.cons (some (60, true)) (by kernel_rfl) ?_ ?_
    · refine Ob.yes (fun _ _ h => h) fun a w hR hk K k => ?_
      obtain ⟨_, e8, rfl⟩ := hk 8 (by decide)
      clear hk
      obtain ⟨c0, c1, c2, c3, c4, c5, c6, c7, c8⟩ := (cred_at_blk hX).keep hR id
      simp only [Nat.zero_add, credBox, cL, dM, noneR] at c0 c1 c2 c3 c4 c5 c6 c7 c8
      go_simp
      exact k _ _ (Chg.refl _ _) rfl
    refine Obs.cons (some (60, true)) (by kernel_rfl) ?_ ?_
    · refine Ob.yes (fun _ _ h => h) fun a w hR hk K k => ?_
      obtain ⟨_, e3, rfl⟩ := hk 3 (by decide)
      clear hk
      obtain ⟨c0, c1, c2, c3, c4, c5, c6, c7, c8⟩ := (cred_at_blk hB).keep hR id
      simp only [Nat.zero_add, credBox, cL, dM, noneR] at c0 c1 c2 c3 c4 c5 c6 c7 c8
      go_simp
      exact k _ _ (Chg.refl _ _) rfl
    refine Obs.cons (some (60, true)) (by kernel_rfl) ?_ ?_
    · refine Ob.yes (fun _ _ h => h) fun a w hR hk K k => ?_
      obtain ⟨_, e61, rfl⟩ := hk 61 (by decide)
      obtain ⟨_, e62, rfl⟩ := hk 62 (by decide)
      clear hk
      simp only [credV, credBox, dM, noneR] at e61 e62
      go_simp
      exact k _ _ (Chg.refl _ _) rfl
    refine Obs.cons none (by kernel_rfl) ?_ ?_
    · refine Ob.plain fun a w hR hk K k => ?_
      obtain ⟨_, e60, rfl⟩ := hk 60 (by decide)
      obtain ⟨_, e63, rfl⟩ := hk 63 (by decide)
      clear hk
      go_simp
      exact k _ _ (Chg.refl _ _) rfl
    refine Obs.cons none (by kernel_rfl) ?_ ?_
    · refine Ob.plain fun a w hR hk K k => ?_
      obtain ⟨_, e64, f64⟩ := hk 64 (by decide)
      clear hk
      go_simp
      exact k _ _ (Chg.refl _ _) f64
    refine Obs.cons (some (65, true)) (by kernel_rfl) ?_ ?_
    · refine Ob.yes (fun _ _ h => h) fun a w hR hk K k => ?_
      obtain ⟨_, e10, f10⟩ := hk 10 (by decide)
      clear hk
      go_simp
      exact k _ _ (Chg.refl _ _) f10
    refine Obs.cons (some (65, true)) (by kernel_rfl) ?_ ?_
    · refine Ob.yes (fun _ _ h => h) fun a w hR hk K k => ?_
      obtain ⟨_, e66, f66⟩ := hk 66 (by decide)
      clear hk
      obtain ⟨a0, p0, rfl, h0⟩ := f66
      go_simp
      exact k _ _ (Chg.refl _ _) rfl
    refine Obs.cons (some (65, true)) (by kernel_rfl) ?_ ?_
    · refine Ob.yes (fun _ _ h => h) fun a w hR hk K k => ?_
      obtain ⟨_, e67, rfl⟩ := hk 67 (by decide)
      clear hk
      go_simp
      exact k _ _ (Chg.refl _ _) rfl
    refine Obs.cons none (by kernel_rfl) ?_ ?_
    · refine Ob.plain fun a w hR hk K k => ?_
      obtain ⟨_, e65, rfl⟩ := hk 65 (by decide)
      obtain ⟨_, e68, rfl⟩ := hk 68 (by decide)
      clear hk
      go_simp
      exact k _ _ (Chg.refl _ _) rfl
    refine Obs.cons none (by kernel_rfl) ?_ ?_
    · refine Ob.plain fun a w hR hk K k => ?_
      obtain ⟨_, e69, f69⟩ := hk 69 (by decide)
      clear hk
      go_simp
      exact k _ _ (Chg.refl _ _) f69
    refine Obs.cons (some (70, true)) (by kernel_rfl) ?_ ?_
    · refine Ob.yes (fun _ _ h => h) fun a w hR hk K k => ?_
      obtain ⟨_, e10, f10⟩ := hk 10 (by decide)
      clear hk
      go_simp
      exact k _ _ (Chg.refl _ _) f10
    refine Obs.cons (some (70, true)) (by kernel_rfl) ?_ ?_
    · refine Ob.yes (fun _ _ h => h) fun a w hR hk K k => ?_
      obtain ⟨_, e71, f71⟩ := hk 71 (by decide)
      clear hk
      obtain ⟨a0, p0, rfl, h0⟩ := f71
      obtain ⟨b, off, rfl, _, hr, _⟩ := h0 0 (by decide)
      rw [Nat.zero_mul, Nat.add_zero] at hr
      go_simp
      exact k _ _ (Chg.refl _ _) ⟨_, _, rfl, hr⟩
    refine Obs.cons (some (70, true)) (by kernel_rfl) ?_ ?_
    · refine Ob.yes (fun _ _ h => h) fun a w hR hk K k => ?_
      obtain ⟨_, e72, f72⟩ := hk 72 (by decide)
      clear hk
      obtain ⟨b, off, rfl, c0, c1, c2, c3, c4, c5, c6, c7, c8⟩ := f72
      simp only [dM, noneR] at c0 c1 c2 c3 c4 c5 c6 c7 c8
      go_simp
      exact k _ _ (Chg.refl _ _) rfl
    refine Obs.cons (some (70, true)) (by kernel_rfl) ?_ ?_
    · refine Ob.yes (fun _ _ h => h) fun a w hR hk K k => ?_
      obtain ⟨_, e3, rfl⟩ := hk 3 (by decide)
      clear hk
      obtain ⟨c0, c1, c2, c3, c4, c5, c6, c7, c8⟩ := (cred_at_blk hB).keep hR id
      simp only [Nat.zero_add, credBox, cL, dM, noneR] at c0 c1 c2 c3 c4 c5 c6 c7 c8
      go_simp
      exact k _ _ (Chg.refl _ _) rfl
    refine Obs.cons (some (70, true)) (by kernel_rfl) ?_ ?_
    · refine Ob.yes (fun _ _ h => h) fun a w hR hk K k => ?_
      obtain ⟨_, e73, rfl⟩ := hk 73 (by decide)
      obtain ⟨_, e74, rfl⟩ := hk 74 (by decide)
      clear hk
      simp only [credV, credBox, dM, noneR] at e73 e74
      go_simp
      exact k _ _ (Chg.refl _ _) rfl
    refine Obs.cons none (by kernel_rfl) ?_ ?_
    · refine Ob.plain fun a w hR hk K k => ?_
      obtain ⟨_, e70, rfl⟩ := hk 70 (by decide)
      obtain ⟨_, e75, rfl⟩ := hk 75 (by decide)
      clear hk
      go_simp
      exact k _ _ (Chg.refl _ _) rfl
    refine Obs.cons none (by kernel_rfl) ?_ ?_
    · refine Ob.plain fun a w hR hk K k => ?_
      obtain ⟨_, e76, f76⟩ := hk 76 (by decide)
      clear hk
      go_simp
      exact k _ _ (Chg.refl _ _) f76
    refine Obs.cons (some (77, true)) (by kernel_rfl) ?_ ?_
    · refine Ob.yes (fun _ _ h => h) fun a w hR hk K k => ?_
      obtain ⟨_, e10, f10⟩ := hk 10 (by decide)
      clear hk
      go_simp
      exact k _ _ (Chg.refl _ _) f10
    refine Obs.cons (some (77, true)) (by kernel_rfl) ?_ ?_
    · refine Ob.yes (fun _ _ h => h) fun a w hR hk K k => ?_
      obtain ⟨_, e1, rfl⟩ := hk 1 (by decide)
      clear hk
      obtain ⟨c0, c1, c2, c3, c4, c5, c6, c7, c8⟩ := (cred_at_blk hA).keep hR id
      simp only [Nat.zero_add, credBox, cL, dM, noneR] at c0 c1 c2 c3 c4 c5 c6 c7 c8
      go_simp
      exact k _ _ (Chg.refl _ _) rfl
    refine Obs.cons (some (77, true)) (by kernel_rfl) ?_ ?_
    · refine Ob.yes (fun _ _ h => h) fun a w hR hk K k => ?_
      obtain ⟨_, e78, f78⟩ := hk 78 (by decide)
      obtain ⟨_, e79, rfl⟩ := hk 79 (by decide)
      clear hk
      obtain ⟨a0, p0, rfl, h0⟩ := f78
      go_simp
      refine (pchas a0 p0 [dM, cL] cL _ (by decide) cL_short h0).mono ?_
      rintro e w2 ⟨rfl, hc⟩
      exact k _ _ hc rfl
    refine Obs.cons none (by kernel_rfl) ?_ ?_
    · refine Ob.plain fun a w hR hk K k => ?_
      obtain ⟨_, e77, rfl⟩ := hk 77 (by decide)
      obtain ⟨_, e80, rfl⟩ := hk 80 (by decide)
      clear hk
      go_simp
      exact k _ _ (Chg.refl _ _) rfl
    refine Obs.cons none (by kernel_rfl) ?_ ?_
    · refine Ob.plain fun a w hR hk K k => ?_
      obtain ⟨_, e81, f81⟩ := hk 81 (by decide)
      clear hk
      go_simp
      exact k _ _ (Chg.refl _ _) f81
    refine Obs.cons (some (82, true)) (by kernel_rfl) ?_ ?_
    · refine Ob.yes (fun _ _ h => h) fun a w hR hk K k => ?_
      obtain ⟨_, e1, rfl⟩ := hk 1 (by decide)
      clear hk
      obtain ⟨c0, c1, c2, c3, c4, c5, c6, c7, c8⟩ := (cred_at_blk hA).keep hR id
      simp only [Nat.zero_add, credBox, cL, dM, noneR] at c0 c1 c2 c3 c4 c5 c6 c7 c8
      go_simp
      exact k _ _ (Chg.refl _ _) rfl
    refine Obs.cons (some (82, true)) (by kernel_rfl) ?_ ?_
    · refine Ob.yes (fun _ _ h => h) fun a w hR hk K k => ?_
      obtain ⟨_, e83, rfl⟩ := hk 83 (by decide)
      clear hk
      go_simp
      refine (pcroles cL _ (cL_short.mono' (by decide))).mono ?_
      rintro e w2 ⟨a0, p0, rfl, _, hc⟩
      exact k _ _ hc ⟨a0, p0, rfl⟩
    refine Obs.cons (some (82, true)) (by kernel_rfl) ?_ ?_
    · refine Ob.yes (fun _ _ h => h) fun a w hR hk K k => ?_
      obtain ⟨_, e84, f84⟩ := hk 84 (by decide)
      clear hk
      obtain ⟨a0, p0, rfl⟩ := f84
      go_simp
      exact k _ _ (Chg.refl _ _) rfl
    refine Obs.cons (some (82, true)) (by kernel_rfl) ?_ ?_
    · refine Ob.yes (fun _ _ h => h) fun a w hR hk K k => ?_
      obtain ⟨_, e85, rfl⟩ := hk 85 (by decide)
      clear hk
      go_simp
      exact k _ _ (Chg.refl _ _) rfl
    refine Obs.cons none (by kernel_rfl) ?_ ?_
    · refine Ob.plain fun a w hR hk K k => ?_
      obtain ⟨_, e82, rfl⟩ := hk 82 (by decide)
      obtain ⟨_, e86, rfl⟩ := hk 86 (by decide)
      clear hk
      go_simp
      exact k _ _ (Chg.refl _ _) rfl
    refine Obs.cons none (by kernel_rfl) ?_ ?_
    · refine Ob.plain fun a w hR hk K k => ?_
      obtain ⟨_, e87, f87⟩ := hk 87 (by decide)
      clear hk
      go_simp
      exact k _ _ (Chg.refl _ _) f87
    refine Obs.cons (some (88, true)) (by kernel_rfl) ?_ ?_
    · refine Ob.yes (fun _ _ h => h) fun a w hR hk K k => ?_
      obtain ⟨_, e3, rfl⟩ := hk 3 (by decide)
      clear hk
      obtain ⟨c0, c1, c2, c3, c4, c5, c6, c7, c8⟩ := (cred_at_blk hB).keep hR id
      simp only [Nat.zero_add, credBox, cL, dM, noneR] at c0 c1 c2 c3 c4 c5 c6 c7 c8
      go_simp
      exact k _ _ (Chg.refl _ _) rfl
    refine Obs.cons (some (88, true)) (by kernel_rfl) ?_ ?_
    · refine Ob.yes (fun _ _ h => h) fun a w hR hk K k => ?_
      obtain ⟨_, e89, rfl⟩ := hk 89 (by decide)
      clear hk
      go_simp
      refine (pctext dM _ dM_short).mono ?_
      rintro e w2 ⟨rfl, hc⟩
      exact k _ _ hc (by rw [show credTextOr dM = dT from rfl]; rfl)
    refine Obs.cons (some (88, true)) (by kernel_rfl) ?_ ?_
    · refine Ob.yes (fun _ _ h => h) fun a w hR hk K k => ?_
      obtain ⟨_, e90, rfl⟩ := hk 90 (by decide)
      clear hk
      go_simp
      exact k _ _ (Chg.refl _ _) rfl
    refine Obs.cons none (by kernel_rfl) ?_ ?_
    · refine Ob.plain fun a w hR hk K k => ?_
      obtain ⟨_, e88, rfl⟩ := hk 88 (by decide)
      obtain ⟨_, e91, rfl⟩ := hk 91 (by decide)
      clear hk
      go_simp
      exact k _ _ (Chg.refl _ _) rfl
    refine Obs.cons none (by kernel_rfl) ?_ ?_
    · refine Ob.plain fun a w hR hk K k => ?_
      obtain ⟨_, e92, f92⟩ := hk 92 (by decide)
      clear hk
      go_simp
      exact k _ _ (Chg.refl _ _) f92
    exact Obs.nil
  case fin =>
    intro vals w12 hc12 hv
    have h0 : vals 0 = .bool true := hv 0 (by decide)
    simp only [putAll, List.setIfInBounds_toArray, List.set_cons_zero, List.set_cons_succ, h0]
    go_wp2
    go_ret
    exact ⟨rfl, hcw.trans hc12 (fun _ _ h => h)⟩
end Go.Proofs.Ytjohiggfjpfbeaa

/- The document's Get of a role and of a name, of a tape in whatever state; what follows for a credential. -/
namespace Go.Proofs.Ytjohiggfjpfbeaa
open Go.RowKit

set_option maxRecDepth 100000 in
theorem rget_bad (X : Nat) (l : List UInt8) (e : Int) (w : World) (he : e ≠ 0) (hX : TapeAt w X l e) :
    Calls Try.prog 61 #[.pointer (some ⟨X, 0, none⟩)] w fun en w' => en = .returned (roleV noRole) ∧ TapeAt w' X l e ∧ Chg (· = X) w w' := by
  go_enter Try.func61, Try.ntmps61
  have hc0 : Chg (fun _ => False) w (w.alloc (.cells #[.string ⟨#[]⟩, .string ⟨#[]⟩] 23)) := (Chg.refl _ w).alloc _
  have hC := heap_alloc_new w (.cells #[.string ⟨#[]⟩, .string ⟨#[]⟩] 23)
  have hX0 : TapeAt _ X l e := blk_keep hX hc0 id
  have hXC : X < w.heap.size := lt_blk hX
  go_wp2_with fail
  generalize w.alloc (.cells #[.string ⟨#[]⟩, .string ⟨#[]⟩] 23) = w1 at *
  generalize hCC : w.heap.size = C at *
  refine (nget_bad X l e w1 he hX0).mono ?_
  rintro en w' ⟨rfl, rfl⟩
  go_wp2_with fail
  refine (nget_bad X l e w1 he hX0).mono ?_
  rintro en w' ⟨rfl, rfl⟩
  have hs1 := setCell_chg w1 C 0 (.string ⟨#[]⟩)
  have hs2 := setCell_chg (w1.setCell ⟨C, 0, none⟩ (.string ⟨#[]⟩)) C 1 (.string ⟨#[]⟩)
  have hD := set_blk (set_blk hC 0 (.string ⟨#[]⟩)) 1 (.string ⟨#[]⟩)
  have hT : TapeAt ((w1.setCell ⟨C, 0, none⟩ (.string ⟨#[]⟩)).setCell ⟨C, 1, none⟩ (.string ⟨#[]⟩)) X l e := blk_keep (blk_keep hX0 hs1 (by omega)) hs2 (by omega)
  have hch : Chg (· = X) w ((w1.setCell ⟨C, 0, none⟩ (.string ⟨#[]⟩)).setCell ⟨C, 1, none⟩ (.string ⟨#[]⟩)) := ((hc0.mono (fun _ _ h => h.elim)).trans hs1 (fun i hi h => by omega)).trans hs2 (fun i hi h => by omega)
  have HH := hid (And.intro hD (And.intro hT hch))
  have x1 := cell_blk hX0 1
  have q0 := cell_blk hC 0
  have q1 := cell_blk hC 1
  have f0 := froz_blk hC 0
  have f1 := froz_blk hC 1
  have z2 : (e != 0) = true := by rw [bne_iff_ne]; exact he
  simp only [List.getElem?_toArray, List.getElem?_cons_zero, List.getElem?_cons_succ] at x1 q0 q1
  clear hs1 hs2 hD hT hch hX0 hc0 hC he hX
  go_wp2
  refine bodyPost_ret (results_cell_row (P := Try.prog) rfl _ _ C 23 _ (0, 0) _ rfl HH.out.1 Try.underlying23 rfl (by kernel_rfl)) rfl ?_
  exact ⟨rfl, HH.out.2⟩

/-- How a tape goes on, when a role is read of it; when a name is. -/
def RStep (l : List UInt8) (e : Int) (r : RoleB) (l' : List UInt8) (e' : Int) : Prop :=
  (e = 0 ∧ roleOk l = true ∧ r = roleOf l ∧ l' = roleRest l ∧ e' = 0) ∨ (e = 0 ∧ roleOk l = false ∧ e' = roleBad l) ∨ (e ≠ 0 ∧ e' = e)
def NStep (l : List UInt8) (e : Int) (s : List UInt8) (l' : List UInt8) (e' : Int) : Prop :=
  (e = 0 ∧ nameOk l = true ∧ s = nameOf l ∧ l' = nameRest l ∧ e' = 0) ∨ (e = 0 ∧ nameOk l = false ∧ e' = nameBad l) ∨ (e ≠ 0 ∧ e' = e)

theorem roleRest_len (l : List UInt8) : (roleRest l).length ≤ l.length := by
  have h1 := nameRest_len l
  have h2 := nameRest_len (nameRest l)
  unfold roleRest
  omega

theorem rget_step (X : Nat) (l : List UInt8) (e : Int) (w : World) (hl : e = 0 → l.length ≤ 9223372036854775807) (hX : TapeAt w X l e) :
    Calls Try.prog 61 #[.pointer (some ⟨X, 0, none⟩)] w fun en w' => ∃ r l' e', en = .returned (roleV r) ∧ TapeAt w' X l' e' ∧ RStep l e r l' e' ∧ (e' = 0 → l'.length ≤ 9223372036854775807 ∧ r.1.length ≤ 16 ∧ r.2.length ≤ 16) ∧ Chg (· = X) w w' := by
  by_cases he : e = 0
  · subst he
    have hl' := hl rfl
    cases hok : roleOk l with
    | true =>
      refine (rget_ok X l w hl' hX hok).mono ?_
      rintro en w' ⟨rfl, h1, h2⟩
      have hr : isName (nameOf l) = true ∧ isName (nameOf (nameRest l)) = true := by
        simp only [roleOk, nameOk, Bool.and_eq_true] at hok
        exact ⟨hok.1.2, hok.2.2⟩
      have := roleRest_len l
      exact ⟨_, _, _, rfl, h1, .inl ⟨rfl, hok, rfl, rfl, rfl⟩, fun _ => ⟨by omega, (isName_len hr.1).2, (isName_len hr.2).2⟩, h2⟩
    | false =>
      refine (rget_no X l w hl' hX hok).mono ?_
      rintro en w' ⟨rfl, ⟨l', h1⟩, h2⟩
      exact ⟨_, _, _, rfl, h1, .inr (.inl ⟨rfl, hok, rfl⟩), fun h => absurd h (roleBad_ne l), h2⟩
  · refine (rget_bad X l e w he hX).mono ?_
    rintro en w' ⟨rfl, h1, h2⟩
    exact ⟨_, _, _, rfl, h1, .inr (.inr ⟨he, rfl⟩), fun h => absurd h he, h2⟩

theorem nget_step (X : Nat) (l : List UInt8) (e : Int) (w : World) (hl : e = 0 → l.length ≤ 9223372036854775807) (hX : TapeAt w X l e) :
    Calls Try.prog 62 #[.pointer (some ⟨X, 0, none⟩)] w fun en w' => ∃ s l' e', en = .returned (.string ⟨s.toArray⟩) ∧ TapeAt w' X l' e' ∧ NStep l e s l' e' ∧ (e' = 0 → l'.length ≤ 9223372036854775807 ∧ s.length ≤ 16) ∧ Chg (· = X) w w' := by
  by_cases he : e = 0
  · subst he
    have hl' := hl rfl
    cases hok : nameOk l with
    | true =>
      refine (nget_ok X l w hl' hX hok).mono ?_
      rintro en w' ⟨rfl, h1, h2⟩
      have hr : isName (nameOf l) = true := by
        simp only [nameOk, Bool.and_eq_true] at hok
        exact hok.2
      have := nameRest_len l
      exact ⟨_, _, _, rfl, h1, .inl ⟨rfl, hok, rfl, rfl, rfl⟩, fun _ => ⟨by omega, (isName_len hr).2⟩, h2⟩
    | false =>
      refine (nget_no X l w hl' hX hok).mono ?_
      rintro en w' ⟨rfl, ⟨l', h1⟩, h2⟩
      exact ⟨[], _, _, rfl, h1, .inr (.inl ⟨rfl, hok, rfl⟩), fun h => absurd h (nameBad_ne l), h2⟩
  · refine (nget_bad X l e w he hX).mono ?_
    rintro en w' ⟨rfl, rfl⟩
    exact ⟨[], _, _, rfl, hX, .inr (.inr ⟨he, rfl⟩), fun h => absurd h he, Chg.refl _ _⟩

theorem RStep.ok {l r l' e'} (h : RStep l 0 r l' e') (he : e' = 0) : roleOk l = true ∧ r = roleOf l ∧ l' = roleRest l := by
  rcases h with ⟨_, h1, h2, h3, _⟩ | ⟨_, _, h1⟩ | ⟨h1, _⟩
  · exact ⟨h1, h2, h3⟩
  · exact absurd (h1.symm.trans he) (roleBad_ne l)
  · exact absurd rfl h1
theorem RStep.bad {l r l' e'} (h : RStep l 0 r l' e') (he : e' ≠ 0) : roleOk l = false ∧ e' = roleBad l := by
  rcases h with ⟨_, _, _, _, h1⟩ | ⟨_, h1, h2⟩ | ⟨h1, _⟩
  · exact absurd h1 he
  · exact ⟨h1, h2⟩
  · exact absurd rfl h1
theorem RStep.from0 {l e r l' e'} (h : RStep l e r l' e') (he : e' = 0) : e = 0 := by
  rcases h with ⟨h1, _⟩ | ⟨h1, _⟩ | ⟨h1, h2⟩
  · exact h1
  · exact h1
  · exact absurd (h2.symm.trans he) h1
theorem RStep.same {l e r l' e'} (h : RStep l e r l' e') (he : e ≠ 0) : e' = e := by
  rcases h with ⟨h1, _⟩ | ⟨h1, _⟩ | ⟨_, h2⟩
  · exact absurd h1 he
  · exact absurd h1 he
  · exact h2
theorem NStep.ok {l s l' e'} (h : NStep l 0 s l' e') (he : e' = 0) : nameOk l = true ∧ s = nameOf l ∧ l' = nameRest l := by
  rcases h with ⟨_, h1, h2, h3, _⟩ | ⟨_, _, h1⟩ | ⟨h1, _⟩
  · exact ⟨h1, h2, h3⟩
  · exact absurd (h1.symm.trans he) (nameBad_ne l)
  · exact absurd rfl h1
theorem NStep.bad {l s l' e'} (h : NStep l 0 s l' e') (he : e' ≠ 0) : nameOk l = false ∧ e' = nameBad l := by
  rcases h with ⟨_, _, _, _, h1⟩ | ⟨_, h1, h2⟩ | ⟨h1, _⟩
  · exact absurd h1 he
  · exact ⟨h1, h2⟩
  · exact absurd rfl h1
theorem NStep.from0 {l e s l' e'} (h : NStep l e s l' e') (he : e' = 0) : e = 0 := by
  rcases h with ⟨h1, _⟩ | ⟨h1, _⟩ | ⟨h1, h2⟩
  · exact h1
  · exact h1
  · exact absurd (h2.symm.trans he) h1
theorem NStep.same {l e s l' e'} (h : NStep l e s l' e') (he : e ≠ 0) : e' = e := by
  rcases h with ⟨h1, _⟩ | ⟨h1, _⟩ | ⟨_, h2⟩
  · exact absurd h1 he
  · exact absurd h1 he
  · exact h2

/-- What comes of it: a credential's end, or an error that is told. -/
def GetOr (l : List UInt8) (c : CredB) (l' : List UInt8) (e' : Int) : Prop := (e' = 0 → credGet l = getEnd c l') ∧ (e' ≠ 0 → ∃ n : Nat, e' = n ∧ credGet l = .bad n)

theorem getOr_head {l : List UInt8} (h0 : numBad l = 0) {k : Nat} (hk : numOf l = k) (h1 : 1 ≤ k ∧ k ≤ 4) : credGet l = getHead k (numRest l) := by
  rw [credGet, if_pos h0, hk, if_pos h1]

theorem getOr1 {l hd l2 e2 who l3 e3} (hg : credGet l = getHead 1 (numRest l)) (h1 : RStep (numRest l) 0 hd l2 e2) (h2 : NStep l2 e2 who l3 e3) : GetOr l ⟨1, hd, who, noneR, noneR, []⟩ l3 e3 := by
  refine ⟨fun he => ?_, fun he => ?_⟩
  · have e0 := h2.from0 he
    subst e0
    obtain ⟨a1, a2, a3⟩ := h1.ok rfl
    obtain ⟨b1, b2, b3⟩ := h2.ok he
    rw [hg, getHead, if_pos a1, if_pos rfl, ← a3, ← a2, getWho, if_pos b1, ← b2, ← b3]
    rfl
  · by_cases e0 : e2 = 0
    · subst e0
      obtain ⟨a1, a2, a3⟩ := h1.ok rfl
      obtain ⟨b1, b2⟩ := h2.bad he
      exact ⟨_, b2, by rw [hg, getHead, if_pos a1, if_pos rfl, ← a3, getWho, if_neg (by rw [b1]; decide)]⟩
    · obtain ⟨a1, a2⟩ := h1.bad e0
      exact ⟨_, (h2.same e0).trans a2, by rw [hg, getHead, if_neg (by rw [a1]; decide)]⟩

theorem getOr2 {l hd l2 e2 b l3 e3} (hg : credGet l = getHead 2 (numRest l)) (h1 : RStep (numRest l) 0 hd l2 e2) (h2 : RStep l2 e2 b l3 e3) : GetOr l ⟨2, hd, [], b, noneR, []⟩ l3 e3 := by
  refine ⟨fun he => ?_, fun he => ?_⟩
  · have e0 := h2.from0 he
    subst e0
    obtain ⟨a1, a2, a3⟩ := h1.ok rfl
    obtain ⟨b1, b2, b3⟩ := h2.ok he
    rw [hg, getHead, if_pos a1, if_neg (by decide), ← a3, ← a2, getB, if_pos b1, ← b2, ← b3]
    rw [if_neg (show ¬ (2 : Int) = 3 by decide), if_neg (show ¬ (2 : Int) = 4 by decide)]
    rfl
  · by_cases e0 : e2 = 0
    · subst e0
      obtain ⟨a1, a2, a3⟩ := h1.ok rfl
      obtain ⟨b1, b2⟩ := h2.bad he
      exact ⟨_, b2, by rw [hg, getHead, if_pos a1, if_neg (by decide), ← a3, getB, if_neg (by rw [b1]; decide)]⟩
    · obtain ⟨a1, a2⟩ := h1.bad e0
      exact ⟨_, (h2.same e0).trans a2, by rw [hg, getHead, if_neg (by rw [a1]; decide)]⟩

theorem getOr3 {l hd l2 e2 b l3 e3 w2 l4 e4} (hg : credGet l = getHead 3 (numRest l)) (h1 : RStep (numRest l) 0 hd l2 e2) (h2 : RStep l2 e2 b l3 e3) (h3 : NStep l3 e3 w2 l4 e4) : GetOr l ⟨3, hd, [], b, noneR, w2⟩ l4 e4 := by
  refine ⟨fun he => ?_, fun he => ?_⟩
  · have e1 := h3.from0 he
    subst e1
    have e0 := h2.from0 rfl
    subst e0
    obtain ⟨a1, a2, a3⟩ := h1.ok rfl
    obtain ⟨b1, b2, b3⟩ := h2.ok rfl
    obtain ⟨c1, c2, c3⟩ := h3.ok he
    rw [hg, getHead, if_pos a1, if_neg (by decide), ← a3, ← a2, getB, if_pos b1, ← b2, ← b3]
    rw [if_pos rfl, getWord, if_pos c1, ← c2, ← c3]
    rfl
  · by_cases e1 : e3 = 0
    · subst e1
      have e0 := h2.from0 rfl
      subst e0
      obtain ⟨a1, a2, a3⟩ := h1.ok rfl
      obtain ⟨b1, b2, b3⟩ := h2.ok rfl
      obtain ⟨c1, c2⟩ := h3.bad he
      exact ⟨_, c2, by rw [hg, getHead, if_pos a1, if_neg (by decide), ← a3, getB, if_pos b1, if_pos rfl, ← b3, getWord, if_neg (by rw [c1]; decide)]⟩
    · have ee := h3.same e1
      by_cases e0 : e2 = 0
      · subst e0
        obtain ⟨a1, a2, a3⟩ := h1.ok rfl
        obtain ⟨b1, b2⟩ := h2.bad e1
        exact ⟨_, ee.trans b2, by rw [hg, getHead, if_pos a1, if_neg (by decide), ← a3, getB, if_neg (by rw [b1]; decide)]⟩
      · obtain ⟨a1, a2⟩ := h1.bad e0
        exact ⟨_, (ee.trans (h2.same e0)).trans a2, by rw [hg, getHead, if_neg (by rw [a1]; decide)]⟩

theorem getOr4 {l hd l2 e2 b l3 e3 cc l4 e4} (hg : credGet l = getHead 4 (numRest l)) (h1 : RStep (numRest l) 0 hd l2 e2) (h2 : RStep l2 e2 b l3 e3) (h3 : RStep l3 e3 cc l4 e4) : GetOr l ⟨4, hd, [], b, cc, []⟩ l4 e4 := by
  refine ⟨fun he => ?_, fun he => ?_⟩
  · have e1 := h3.from0 he
    subst e1
    have e0 := h2.from0 rfl
    subst e0
    obtain ⟨a1, a2, a3⟩ := h1.ok rfl
    obtain ⟨b1, b2, b3⟩ := h2.ok rfl
    obtain ⟨c1, c2, c3⟩ := h3.ok he
    rw [hg, getHead, if_pos a1, if_neg (by decide), ← a3, ← a2, getB, if_pos b1, ← b2, ← b3]
    rw [if_neg (show ¬ (4 : Int) = 3 by decide), if_pos rfl, getC, if_pos c1, ← c2, ← c3]
    rfl
  · by_cases e1 : e3 = 0
    · subst e1
      have e0 := h2.from0 rfl
      subst e0
      obtain ⟨a1, a2, a3⟩ := h1.ok rfl
      obtain ⟨b1, b2, b3⟩ := h2.ok rfl
      obtain ⟨c1, c2⟩ := h3.bad he
      exact ⟨_, c2, by rw [hg, getHead, if_pos a1, if_neg (by decide), ← a3, getB, if_pos b1, if_neg (show ¬ (4 : Int) = 3 by decide), if_pos rfl, ← b3, getC, if_neg (by rw [c1]; decide)]⟩
    · have ee := h3.same e1
      by_cases e0 : e2 = 0
      · subst e0
        obtain ⟨a1, a2, a3⟩ := h1.ok rfl
        obtain ⟨b1, b2⟩ := h2.bad e1
        exact ⟨_, ee.trans b2, by rw [hg, getHead, if_pos a1, if_neg (by decide), ← a3, getB, if_neg (by rw [b1]; decide)]⟩
      · obtain ⟨a1, a2⟩ := h1.bad e0
        exact ⟨_, (ee.trans (h2.same e0)).trans a2, by rw [hg, getHead, if_neg (by rw [a1]; decide)]⟩
end Go.Proofs.Ytjohiggfjpfbeaa
