/- Texts that the proof leans on, in one: CredFirst, OpenB, MaxShape. -/
import Derived.Test.YtjohiggfjpfbeaaCm15
import Derived.Test.YtjohiggfjpfbeaaCm5
import Derived.Test.YtjohiggfjpfbeaaCm16
import Derived.Test.YtjohiggfjpfbeaaCm2
import Derived.Test.YtjohiggfjpfbeaaRows
import Derived.Test.YtjohiggfjpfbeaaCm1
import Derived.ProofKit
import Derived.OpenShut
import Derived.ShutString
import Derived.ChangeOld
import Derived.Deep.Slices
import Derived.Deep.Fields
import Derived.ChangeSame
import Derived.Test.YtjohiggfjpfbeaaCm9
import Derived.Shelf.Vars
/- The contract of law 5's first: it answers true, and turns nothing that was there. -/
namespace Go.Proofs.Ytjohiggfjpfbeaa
open Go.RowKit

def cL : CredB := ⟨3, ([115, 104, 111, 112], [100, 101, 97, 108]), [], ([115, 104, 111, 112], [112, 97, 114, 116, 110, 101, 114]), noneR, [109, 101, 109, 98, 101, 114]⟩
def cT : List UInt8 := [115, 104, 111, 112, 46, 100, 101, 97, 108, 32, 60, 45, 32, 115, 104, 111, 112, 46, 112, 97, 114, 116, 110, 101, 114, 46, 109, 101, 109, 98, 101, 114]
def dM : CredB := ⟨1, ([97], [114]), [98, 111, 98], noneR, noneR, []⟩
def dT : List UInt8 := [97, 46, 114, 32, 60, 45, 32, 98, 111, 98]
def nT : List UInt8 := [97, 46, 114, 32, 60, 45, 32, 99, 46, 116, 32, 38, 32, 98, 46, 115]
def dB : List UInt8 := [1, 1, 97, 1, 114, 3, 98, 111, 98]
theorem cL_parse : parseC cT = some cL := by decide +kernel
theorem dM_parse : parseC dT = some dM := by decide +kernel
theorem no_parse : parseC nT = none := by decide +kernel
theorem cL_cred : isCred cL = true := by decide
theorem dM_cred : isCred dM = true := by decide
theorem cL_short : credShort cL 1048576 := by unfold credShort; decide
theorem dM_short : credShort dM 1048576 := by unfold credShort; decide
theorem dM_bytes : credBytes dM = dB := by
  rw [credBytes, if_pos dM_cred]
  simp only [credEnc, credTail, roleEnc, encS, dM, if_true]
  rw [enc_small (by decide), enc_small (by decide), enc_small (by decide), enc_small (by decide)]
  decide
theorem cL_bytes : ∃ r, credBytes cL = 3 :: r := by
  rw [credBytes, if_pos cL_cred]
  simp only [credEnc, cL]
  rw [enc_small (by decide)]
  exact ⟨_, rfl⟩
theorem dM_got : credGet dB = .ok dM [] := by
  have h := credGet_enc dM_cred []
  rw [List.append_nil] at h
  have h2 : credEnc dM = dB := by rw [← dM_bytes, credBytes, if_pos dM_cred]
  rw [h2] at h
  exact h
theorem dM_lt : ltC dM cL = true := by
  obtain ⟨r, hr⟩ := cL_bytes
  rw [ltC_right dM_cred cL_cred, dM_bytes, hr]
  rfl
theorem first_set : SetC [cL, dM, cL] [dM, cL] := by
  refine ⟨⟨fun y hy => ?_, fun y hy => by simp at hy, trivial⟩, fun x => ⟨fun h => ?_, fun h => ?_⟩⟩
  · rw [List.mem_singleton.1 hy]; exact dM_lt
  · simp only [List.mem_cons, List.not_mem_nil, or_false] at h
    rcases h with rfl | rfl
    · exact ⟨by simp, dM_cred⟩
    · exact ⟨by simp, cL_cred⟩
  · obtain ⟨h, _⟩ := h
    simp only [List.mem_cons, List.not_mem_nil, or_false] at h
    rcases h with rfl | rfl | rfl <;> simp

/-- A slice of credentials; a slice of so many. -/
def Spec.creds (n : Nat) (ls : List CredB) : Spec :=
  ⟨fun v w => ∃ ao cap, v = .slice ao n cap ∧ CredsAt (fun _ => True) w ao ls, fun _ _ _ hc ⟨ao, cap, h1, h2⟩ => ⟨ao, cap, h1, h2.keep hc (fun _ _ => id)⟩⟩
def Spec.len (n : Nat) : Spec := ⟨fun v _ => ∃ ao cap, v = .slice ao n cap, fun _ _ _ _ h => h⟩

theorem creds_lit (ls : List CredB) (w : World) (f : Nat × Nat) (hb : ∀ x ∈ ls, credShort x 9223372036854775807) :
    CredsAt (fun k => k = w.heap.size) (w.alloc (.cells (credRow ls).toArray 25 f)) (some ⟨w.heap.size, 0, none⟩) ls := fun i hi =>
  ⟨w.heap.size, 0, rfl, rfl, cred_at_cells fun j hj => by rw [cell_blk (heap_alloc_new w _), Nat.zero_add, List.getElem?_toArray]; exact credRow_get ls i j hi hj, hb _ (List.getElem_mem hi)⟩

def cfirstSpecs (A B X : Nat) : List Spec := [.eq (.bool true), .eq (.pointer (some ⟨A, 0, none⟩)), .eq (.bool true), .eq (.pointer (some ⟨B, 0, none⟩)), .eq (.bool true), .any, .eq (.bool false), .bytes 9 dB, .eq (.pointer (some ⟨X, 0, none⟩)), .eq (.int .i64 0), .creds 2 [dM, cL], .any, .any, .any, .any, .any, .any, .any, .any, .any, .any, .any, .any, .any, .any, .any, .any, .any, .any, .any, .any, .any, .any, .eq (.bool true), .eq (.bool true), .eq (.pointer (some ⟨A, 0, none⟩)), .eq (.int .i64 3), .eq (.bool true), .eq (.bool true), .eq (.bool true), .eq (.pointer (some ⟨A, 8, none⟩)), .eq (.string ⟨#[109, 101, 109, 98, 101, 114]⟩), .eq (.bool true), .eq (.bool true), .eq (.bool true), .eq (.bool true), .eq (.bool true), .eq (.bool true), .eq (.bool false), .eq (.bool true), .eq (.bool true), .eq (.bool true), .bytes 9 dB, .eq (.string ⟨dB.toArray⟩), .eq (.bool true), .eq (.bool true), .eq (.bool true), .eq (.int .i64 0), .eq (.bool true), .eq (.bool true), .eq (.bool true), .eq (credV dM), .eq (credV dM), .eq (.bool true), .eq (.bool true), .eq (.bool true), .creds 2 [dM, cL], .eq (.int .i64 2), .eq (.bool true), .eq (.bool true), .eq (.bool true), .creds 2 [dM, cL], .credP dM, .eq (credV dM), .eq (credV dM), .eq (.bool true), .eq (.bool true), .eq (.bool true), .creds 2 [dM, cL], .eq (credV cL), .eq (.bool true), .eq (.bool true), .eq (.bool true), .eq (credV cL), .len 2, .eq (.int .i64 2), .eq (.bool true), .eq (.bool true), .eq (.bool true), .eq (credV dM), .eq (.string ⟨dT.toArray⟩), .eq (.bool true), .eq (.bool true)]


set_option maxRecDepth 100000 in
set_option maxHeartbeats 8000000 in
theorem cfirst_any (w : World) (hm : MaxAt w) : Calls Try.prog 7 #[] w fun e w' => e = .returned (.bool true) ∧ Chg (fun _ => False) w w' := by
  have hp := pcparse cT w (by decide) hm
  go_enter Try.func7, Try.ntmps7
  go_wp2_with fail
  refine hp.mono ?_
  rintro e w2 ⟨rfl, hc2⟩
  rw [show (Value.tuple #[credV ((parseC cT).getD noCred), Value.bool (parseC cT).isSome]) = .tuple #[.agg #[.int .i64 3, .string ⟨#[115, 104, 111, 112]⟩, .string ⟨#[100, 101, 97, 108]⟩, .string ⟨#[]⟩, .string ⟨#[115, 104, 111, 112]⟩, .string ⟨#[112, 97, 114, 116, 110, 101, 114]⟩, .string ⟨#[]⟩, .string ⟨#[]⟩, .string ⟨#[109, 101, 109, 98, 101, 114]⟩], .bool true] by rw [cL_parse]; rfl]
  clear hp
  have hA3 : (w2.alloc (.cells #[.int .i64 3, .string ⟨#[115, 104, 111, 112]⟩, .string ⟨#[100, 101, 97, 108]⟩, .string ⟨#[]⟩, .string ⟨#[115, 104, 111, 112]⟩, .string ⟨#[112, 97, 114, 116, 110, 101, 114]⟩, .string ⟨#[]⟩, .string ⟨#[]⟩, .string ⟨#[109, 101, 109, 98, 101, 114]⟩] 25)).heap[w2.heap.size]? = some (.cells (credBox cL) 25 (0, 0)) := heap_alloc_new w2 _
  have hc3 : Chg (fun _ => False) w (w2.alloc (.cells #[.int .i64 3, .string ⟨#[115, 104, 111, 112]⟩, .string ⟨#[100, 101, 97, 108]⟩, .string ⟨#[]⟩, .string ⟨#[115, 104, 111, 112]⟩, .string ⟨#[112, 97, 114, 116, 110, 101, 114]⟩, .string ⟨#[]⟩, .string ⟨#[]⟩, .string ⟨#[109, 101, 109, 98, 101, 114]⟩] 25)) := hc2.alloc _
  have hwA0 := hc2.size
  clear hc2
  have hp := pcparse dT (w2.alloc (.cells #[.int .i64 3, .string ⟨#[115, 104, 111, 112]⟩, .string ⟨#[100, 101, 97, 108]⟩, .string ⟨#[]⟩, .string ⟨#[115, 104, 111, 112]⟩, .string ⟨#[112, 97, 114, 116, 110, 101, 114]⟩, .string ⟨#[]⟩, .string ⟨#[]⟩, .string ⟨#[109, 101, 109, 98, 101, 114]⟩] 25)) (by decide) (hm.keep hc3 id)
  have HH := hid (And.intro hp (And.intro hA3 hc3))
  clear hp hA3 hc3
  go_wp2_with fail
  obtain ⟨hp, hA3, hc3⟩ := HH.out
  clear HH
  generalize w2.alloc (.cells #[.int .i64 3, .string ⟨#[115, 104, 111, 112]⟩, .string ⟨#[100, 101, 97, 108]⟩, .string ⟨#[]⟩, .string ⟨#[115, 104, 111, 112]⟩, .string ⟨#[112, 97, 114, 116, 110, 101, 114]⟩, .string ⟨#[]⟩, .string ⟨#[]⟩, .string ⟨#[109, 101, 109, 98, 101, 114]⟩] 25) = w3 at *
  have hwA : w.heap.size ≤ w2.heap.size := hwA0
  generalize w2.heap.size = A at *
  refine hp.mono ?_
  rintro e w4 ⟨rfl, hc34⟩
  rw [show (Value.tuple #[credV ((parseC dT).getD noCred), Value.bool (parseC dT).isSome]) = .tuple #[.agg #[.int .i64 1, .string ⟨#[97]⟩, .string ⟨#[114]⟩, .string ⟨#[98, 111, 98]⟩, .string ⟨#[]⟩, .string ⟨#[]⟩, .string ⟨#[]⟩, .string ⟨#[]⟩, .string ⟨#[]⟩], .bool true] by rw [dM_parse]; rfl]
  have hA4 := blk_keep hA3 hc34 id
  have hc4 := hc3.trans hc34 (fun _ _ h => h)
  clear hp hA3 hc3 hc34
  have hAB : A < w4.heap.size := lt_blk hA4
  have ha5 : Chg (fun _ => False) w4 (w4.alloc (.cells #[.int .i64 1, .string ⟨#[97]⟩, .string ⟨#[114]⟩, .string ⟨#[98, 111, 98]⟩, .string ⟨#[]⟩, .string ⟨#[]⟩, .string ⟨#[]⟩, .string ⟨#[]⟩, .string ⟨#[]⟩] 25)) := (Chg.refl _ w4).alloc _
  have hB5 : (w4.alloc (.cells #[.int .i64 1, .string ⟨#[97]⟩, .string ⟨#[114]⟩, .string ⟨#[98, 111, 98]⟩, .string ⟨#[]⟩, .string ⟨#[]⟩, .string ⟨#[]⟩, .string ⟨#[]⟩, .string ⟨#[]⟩] 25)).heap[w4.heap.size]? = some (.cells (credBox dM) 25 (0, 0)) := heap_alloc_new w4 _
  have hA5 := blk_keep hA4 ha5 id
  have hc5 := hc4.trans ha5 (fun _ _ h => h)
  clear ha5 hA4 hc4
  have hp := pcparse nT (w4.alloc (.cells #[.int .i64 1, .string ⟨#[97]⟩, .string ⟨#[114]⟩, .string ⟨#[98, 111, 98]⟩, .string ⟨#[]⟩, .string ⟨#[]⟩, .string ⟨#[]⟩, .string ⟨#[]⟩, .string ⟨#[]⟩] 25)) (by decide) (hm.keep hc5 id)
  have HH := hid (And.intro hp (And.intro hA5 (And.intro hB5 hc5)))
  clear hp hA5 hB5 hc5
  go_wp2_with fail
  obtain ⟨hp, hA5, hB5, hc5⟩ := HH.out
  clear HH
  generalize w4.alloc (.cells #[.int .i64 1, .string ⟨#[97]⟩, .string ⟨#[114]⟩, .string ⟨#[98, 111, 98]⟩, .string ⟨#[]⟩, .string ⟨#[]⟩, .string ⟨#[]⟩, .string ⟨#[]⟩, .string ⟨#[]⟩] 25) = w5 at *
  generalize w4.heap.size = B at *
  refine hp.mono ?_
  rintro e w6 ⟨rfl, hc56⟩
  rw [show (Value.tuple #[credV ((parseC nT).getD noCred), Value.bool (parseC nT).isSome]) = .tuple #[.agg #[.int .i64 0, .string ⟨#[]⟩, .string ⟨#[]⟩, .string ⟨#[]⟩, .string ⟨#[]⟩, .string ⟨#[]⟩, .string ⟨#[]⟩, .string ⟨#[]⟩, .string ⟨#[]⟩], .bool false] by rw [no_parse]; rfl]
  have ha7 : Chg (fun _ => False) w6 (w6.alloc (.cells #[.int .i64 0, .string ⟨#[]⟩, .string ⟨#[]⟩, .string ⟨#[]⟩, .string ⟨#[]⟩, .string ⟨#[]⟩, .string ⟨#[]⟩, .string ⟨#[]⟩, .string ⟨#[]⟩] 25)) := (Chg.refl _ w6).alloc _
  have hc57 := hc56.trans ha7 (fun _ _ h => h)
  have hA7 := blk_keep hA5 hc57 id
  have hB7 := blk_keep hB5 hc57 id
  have hc7 := hc5.trans hc57 (fun _ _ h => h)
  clear hp hA5 hB5 hc5 hc56 ha7 hc57
  obtain ⟨b0, b1, b2, b3, b4, b5, b6, b7, b8⟩ := cred_at_blk hB7
  simp only [Nat.zero_add, dM, noneR] at b0 b1 b2 b3 b4 b5 b6 b7 b8
  have hp := pcbytes dM (w6.alloc (.cells #[.int .i64 0, .string ⟨#[]⟩, .string ⟨#[]⟩, .string ⟨#[]⟩, .string ⟨#[]⟩, .string ⟨#[]⟩, .string ⟨#[]⟩, .string ⟨#[]⟩, .string ⟨#[]⟩] 25)) (dM_short.mono' (by decide))
  have HH := hid (And.intro hp (And.intro hA7 (And.intro hB7 hc7)))
  clear hp hA7 hB7 hc7
  go_wp2_with fail
  clear b0 b1 b2 b3 b4 b5 b6 b7 b8
  obtain ⟨hp, hA7, hB7, hc7⟩ := HH.out
  clear HH
  generalize w6.alloc (.cells #[.int .i64 0, .string ⟨#[]⟩, .string ⟨#[]⟩, .string ⟨#[]⟩, .string ⟨#[]⟩, .string ⟨#[]⟩, .string ⟨#[]⟩, .string ⟨#[]⟩, .string ⟨#[]⟩] 25) = w7 at *
  refine hp.mono ?_
  rintro e w8 ⟨ao8, cap8, rfl, hb8, hc78⟩
  rw [dM_bytes] at hb8
  rw [show (credBytes dM).length = 9 by rw [dM_bytes]; rfl]
  replace hb8 : BytesAt (fun k => w7.heap.size ≤ k ∧ k < w8.heap.size) w8 (.slice ao8 9 cap8) dB := hb8
  have hA8 := blk_keep hA7 hc78 id
  have hB8 := blk_keep hB7 hc78 id
  have hc8 := hc7.trans hc78 (fun _ _ h => h)
  clear hp hA7 hB7 hc7 hc78
  have ha9 : Chg (fun _ => False) w8 (w8.alloc (.cells #[.int .i64 0, .string ⟨#[]⟩, .string ⟨#[]⟩, .string ⟨#[]⟩, .string ⟨#[]⟩, .string ⟨#[]⟩, .string ⟨#[]⟩, .string ⟨#[]⟩, .string ⟨#[]⟩] 25)) := (Chg.refl _ w8).alloc _
  have hX9 : (w8.alloc (.cells #[.int .i64 0, .string ⟨#[]⟩, .string ⟨#[]⟩, .string ⟨#[]⟩, .string ⟨#[]⟩, .string ⟨#[]⟩, .string ⟨#[]⟩, .string ⟨#[]⟩, .string ⟨#[]⟩] 25)).heap[w8.heap.size]? = some (.cells (credBox noCred) 25 (0, 0)) := heap_alloc_new w8 _
  have hA9 := blk_keep hA8 ha9 id
  have hB9 := blk_keep hB8 ha9 id
  have hc9 := hc8.trans ha9 (fun _ _ h => h)
  have hb9 := hb8.keep ha9 (fun _ _ => id)
  have hBX : B < w8.heap.size := lt_blk hB8
  have hrd := creadF_any (w := w8.alloc (.cells #[.int .i64 0, .string ⟨#[]⟩, .string ⟨#[]⟩, .string ⟨#[]⟩, .string ⟨#[]⟩, .string ⟨#[]⟩, .string ⟨#[]⟩, .string ⟨#[]⟩, .string ⟨#[]⟩] 25)) (l := dB) (X := w8.heap.size) (z := noCred) (by decide) hb9 (fun i hi => Nat.lt_of_lt_of_le hi.2 ha9.size) (fun h => by have := h.2; omega) hX9
  have HH := hid (And.intro hrd (And.intro hA9 (And.intro hB9 (And.intro hc9 hb9))))
  clear hrd hA8 hB8 hc8 hb8 ha9 hX9 hA9 hB9 hc9 hb9
  go_wp2_with fail
  obtain ⟨hrd, hA9, hB9, hc9, hb9⟩ := HH.out
  clear HH
  generalize w8.alloc (.cells #[.int .i64 0, .string ⟨#[]⟩, .string ⟨#[]⟩, .string ⟨#[]⟩, .string ⟨#[]⟩, .string ⟨#[]⟩, .string ⟨#[]⟩, .string ⟨#[]⟩, .string ⟨#[]⟩] 25) = w9 at *
  generalize w8.heap.size = X at *
  refine hrd.mono ?_
  rintro e w10 ⟨rfl, hX10, hc910⟩
  rw [show credErr dB = 0 by rw [credErr, dM_got]; rfl]
  rw [show credGot dB noCred = dM by rw [credGot, dM_got]] at hX10
  have hA10 := blk_keep hA9 hc910 (show ¬ A = X by omega)
  have hB10 := blk_keep hB9 hc910 (show ¬ B = X by omega)
  have hc10 : Chg (fun _ => False) w w10 := hc9.trans hc910 (T := (· = X)) (S := fun _ => False) (fun i hi h => by have : i = X := h; have := hwA; omega)
  have hb10 := hb9.keep hc910 (fun i hi h => by have := hi.2; have : i = X := h; omega)
  clear hrd hA9 hB9 hc9 hb9 hc910
  obtain ⟨a0, a1, a2, a3, a4, a5, a6, a7, a8⟩ := cred_at_blk hA10
  obtain ⟨b0, b1, b2, b3, b4, b5, b6, b7, b8⟩ := cred_at_blk hB10
  simp only [Nat.zero_add, cL, dM, noneR] at a0 a1 a2 a3 a4 a5 a6 a7 a8 b0 b1 b2 b3 b4 b5 b6 b7 b8
  have hl11 := creds_lit [cL, dM, cL] w10 (0, 0) (by intro x hx; simp only [List.mem_cons, List.not_mem_nil, or_false] at hx; rcases hx with rfl | rfl | rfl <;> (unfold credShort; decide))
  have hc1011 : Chg (fun _ => False) w10 (w10.alloc (.cells (credRow [cL, dM, cL]).toArray 25)) := (Chg.refl _ w10).alloc _
  have hset := pcset (some ⟨w10.heap.size, 0, none⟩) 3 [cL, dM, cL] (w10.alloc (.cells (credRow [cL, dM, cL]).toArray 25)) (by decide) hl11 (by rintro i rfl; simp) (fun h => by cases h)
  have HS := hid (And.intro hset (And.intro hc1011 (And.intro hA10 (And.intro hB10 (And.intro hX10 (And.intro hc10 hb10))))))
  clear hset hl11 hc1011 hA10 hB10 hX10 hc10 hb10
  go_wp2_with fail
  obtain ⟨hset, hc1011, hA10, hB10, hX10, hc10, hb10⟩ := HS.out
  refine hset.mono ?_
  rintro e w11 ⟨out, ao, cap, rfl, hso, hst, hch, _⟩
  obtain rfl : out = [dM, cL] := hso.one first_set
  have hcc := hc1011.trans hch (fun _ _ h => h)
  have hA := blk_keep hA10 hcc id
  have hB := blk_keep hB10 hcc id
  have hX := blk_keep hX10 hcc id
  have hcw := hc10.trans hcc (fun _ _ h => h)
  have hb11 := hb10.keep hcc (fun _ _ => id)
  clear hset HS hc1011 hA10 hB10 hX10 hc10 hb10 hso hch hcc a0 a1 a2 a3 a4 a5 a6 a7 a8 b0 b1 b2 b3 b4 b5 b6 b7 b8
  go_wp2_with fail
  refine wp_region_specs (cfirstSpecs A B X) [33, 34, 35, 36, 37, 38, 39, 40, 41, 42, 43, 44, 45, 46, 47, 48, 49, 50, 51, 52, 53, 54, 55, 56, 57, 58, 59, 60, 61, 62, 63, 64, 65, 66, 67, 68, 69, 70, 71, 72, 73, 74, 75, 76, 77, 78, 79, 80, 81, 82, 83, 84, 85, 86, 87, 88, 89, 90, 91, 92, 0] [1, 2, 3, 4, 6, 7, 8, 9, 10] (by kernel_rfl) (by kernel_rfl) (by rfl) (by kernel_rfl) ?start ?obs ?fin
  case start =>
    simp only [List.forall_mem_cons]
    exact ⟨⟨_, rfl, rfl⟩, ⟨_, rfl, rfl⟩, ⟨_, rfl, rfl⟩, ⟨_, rfl, rfl⟩, ⟨_, rfl, rfl⟩, ⟨_, rfl, _, _, rfl, rfl, hb11.mono (fun _ _ => trivial)⟩, ⟨_, rfl, rfl⟩, ⟨_, rfl, rfl⟩, ⟨_, rfl, _, _, rfl, hst.mono (fun _ _ => trivial)⟩, fun _ h => by cases h⟩
  case obs =>
    clear hcw hst hb11
    refine Obs.cons none (by kernel_rfl) ?_ ?_
    · refine Ob.plain fun a w hR hk K k => ?_
      obtain ⟨_, e2, f2⟩ := hk 2 (by decide)
      clear hk
      go_simp
      exact k _ _ (Chg.refl _ _) f2
    refine Obs.cons none (by kernel_rfl) ?_ ?_
    · refine Ob.plain fun a w hR hk K k => ?_
      obtain ⟨_, e33, f33⟩ := hk 33 (by decide)
      clear hk
      go_simp
      exact k _ _ (Chg.refl _ _) f33
    refine Obs.cons (some (34, true)) (by kernel_rfl) ?_ ?_
    · refine Ob.yes (fun _ _ h => h) fun a w hR hk K k => ?_
      obtain ⟨_, e1, rfl⟩ := hk 1 (by decide)
      clear hk
      go_simp
      exact k _ _ (Chg.refl _ _) rfl
    refine Obs.cons (some (34, true)) (by kernel_rfl) ?_ ?_
    · refine Ob.yes (fun _ _ h => h) fun a w hR hk K k => ?_
      obtain ⟨_, e35, rfl⟩ := hk 35 (by decide)
      clear hk
      obtain ⟨c0, c1, c2, c3, c4, c5, c6, c7, c8⟩ := (cred_at_blk hA).keep hR id
      simp only [Nat.zero_add, cL, noneR] at c0 c1 c2 c3 c4 c5 c6 c7 c8
      go_simp
      exact k _ _ (Chg.refl _ _) rfl
    refine Obs.cons (some (34, true)) (by kernel_rfl) ?_ ?_
    · refine Ob.yes (fun _ _ h => h) fun a w hR hk K k => ?_
      obtain ⟨_, e36, rfl⟩ := hk 36 (by decide)
      clear hk
      go_simp
      exact k _ _ (Chg.refl _ _) rfl
    refine Obs.cons none (by kernel_rfl) ?_ ?_
    · refine Ob.plain fun a w hR hk K k => ?_
      obtain ⟨_, e34, rfl⟩ := hk 34 (by decide)
      obtain ⟨_, e37, rfl⟩ := hk 37 (by decide)
      clear hk
      go_simp
      exact k _ _ (Chg.refl _ _) rfl
    refine Obs.cons none (by kernel_rfl) ?_ ?_
    · refine Ob.plain fun a w hR hk K k => ?_
      obtain ⟨_, e38, f38⟩ := hk 38 (by decide)
      clear hk
      go_simp
      exact k _ _ (Chg.refl _ _) f38
    refine Obs.cons (some (39, true)) (by kernel_rfl) ?_ ?_
    · refine Ob.yes (fun _ _ h => h) fun a w hR hk K k => ?_
      obtain ⟨_, e1, rfl⟩ := hk 1 (by decide)
      clear hk
      go_simp
      exact k _ _ (Chg.refl _ _) rfl
    refine Obs.cons (some (39, true)) (by kernel_rfl) ?_ ?_
    · refine Ob.yes (fun _ _ h => h) fun a w hR hk K k => ?_
      obtain ⟨_, e40, rfl⟩ := hk 40 (by decide)
      clear hk
      obtain ⟨c0, c1, c2, c3, c4, c5, c6, c7, c8⟩ := (cred_at_blk hA).keep hR id
      simp only [Nat.zero_add, cL, noneR] at c0 c1 c2 c3 c4 c5 c6 c7 c8
      go_simp
      exact k _ _ (Chg.refl _ _) rfl
    refine Obs.cons (some (39, true)) (by kernel_rfl) ?_ ?_
    · refine Ob.yes (fun _ _ h => h) fun a w hR hk K k => ?_
      obtain ⟨_, e41, rfl⟩ := hk 41 (by decide)
      clear hk
      go_simp
      exact k _ _ (Chg.refl _ _) rfl
    refine Obs.cons none (by kernel_rfl) ?_ ?_
    · refine Ob.plain fun a w hR hk K k => ?_
      obtain ⟨_, e39, rfl⟩ := hk 39 (by decide)
      obtain ⟨_, e42, rfl⟩ := hk 42 (by decide)
      clear hk
      go_simp
      exact k _ _ (Chg.refl _ _) rfl
    refine Obs.cons none (by kernel_rfl) ?_ ?_
    · refine Ob.plain fun a w hR hk K k => ?_
      obtain ⟨_, e43, f43⟩ := hk 43 (by decide)
      clear hk
      go_simp
      exact k _ _ (Chg.refl _ _) f43
    refine Obs.cons (some (44, true)) (by kernel_rfl) ?_ ?_
    · refine Ob.yes (fun _ _ h => h) fun a w hR hk K k => ?_
      obtain ⟨_, e4, f4⟩ := hk 4 (by decide)
      clear hk
      go_simp
      exact k _ _ (Chg.refl _ _) f4
    refine Obs.cons none (by kernel_rfl) ?_ ?_
    · refine Ob.plain fun a w hR hk K k => ?_
      obtain ⟨_, e44, rfl⟩ := hk 44 (by decide)
      obtain ⟨_, e45, rfl⟩ := hk 45 (by decide)
      clear hk
      go_simp
      exact k _ _ (Chg.refl _ _) rfl
    refine Obs.cons none (by kernel_rfl) ?_ ?_
    · refine Ob.plain fun a w hR hk K k => ?_
      obtain ⟨_, e46, f46⟩ := hk 46 (by decide)
      clear hk
      go_simp
      exact k _ _ (Chg.refl _ _) f46
    refine Obs.cons (some (47, true)) (by kernel_rfl) ?_ ?_
    · refine Ob.yes (fun _ _ h => h) fun a w hR hk K k => ?_
      obtain ⟨_, e6, f6⟩ := hk 6 (by decide)
      clear hk
      go_simp
      exact k _ _ (Chg.refl _ _) f6
    refine Obs.cons (some (47, true)) (by kernel_rfl) ?_ ?_
    · refine Ob.yes (fun _ _ h => h) fun a w hR hk K k => ?_
      obtain ⟨_, e48, rfl⟩ := hk 48 (by decide)
      clear hk
      go_simp
      exact k _ _ (Chg.refl _ _) rfl
    refine Obs.cons none (by kernel_rfl) ?_ ?_
    · refine Ob.plain fun a w hR hk K k => ?_
      obtain ⟨_, e47, rfl⟩ := hk 47 (by decide)
      obtain ⟨_, e49, rfl⟩ := hk 49 (by decide)
      clear hk
      go_simp
      exact k _ _ (Chg.refl _ _) rfl
    refine Obs.cons none (by kernel_rfl) ?_ ?_
    · refine Ob.plain fun a w hR hk K k => ?_
      obtain ⟨_, e50, f50⟩ := hk 50 (by decide)
      clear hk
      go_simp
      exact k _ _ (Chg.refl _ _) f50
    refine Obs.cons (some (51, true)) (by kernel_rfl) ?_ ?_
    · refine Ob.yes (fun _ _ h => h) fun a w hR hk K k => ?_
      obtain ⟨_, e7, f7⟩ := hk 7 (by decide)
      clear hk
      go_simp
      exact k _ _ (Chg.refl _ _) f7
    refine Obs.cons (some (51, true)) (by kernel_rfl) ?_ ?_
    · refine Ob.yes (fun _ _ h => h) fun a w hR hk K k => ?_
      obtain ⟨_, e52, f52⟩ := hk 52 (by decide)
      clear hk
      obtain ⟨a0, p0, rfl, hbl, hby⟩ := f52
      have hcv := conv_bytes hby
      go_simp
      exact k _ _ (Chg.refl _ _) rfl
    refine Obs.cons (some (51, true)) (by kernel_rfl) ?_ ?_
    · refine Ob.yes (fun _ _ h => h) fun a w hR hk K k => ?_
      obtain ⟨_, e53, rfl⟩ := hk 53 (by decide)
      clear hk
      go_simp
      exact k _ _ (Chg.refl _ _) rfl
    refine Obs.cons none (by kernel_rfl) ?_ ?_
    · refine Ob.plain fun a w hR hk K k => ?_
      obtain ⟨_, e51, rfl⟩ := hk 51 (by decide)
      obtain ⟨_, e54, rfl⟩ := hk 54 (by decide)
      clear hk
      go_simp
      exact k _ _ (Chg.refl _ _) rfl
    refine Obs.cons none (by kernel_rfl) ?_ ?_
    · refine Ob.plain fun a w hR hk K k => ?_
      obtain ⟨_, e55, f55⟩ := hk 55 (by decide)
      clear hk
      go_simp
      exact k _ _ (Chg.refl _ _) f55
    refine Obs.cons (some (56, true)) (by kernel_rfl) ?_ ?_
    · refine Ob.yes (fun _ _ h => h) fun a w hR hk K k => ?_
      obtain ⟨_, e9, f9⟩ := hk 9 (by decide)
      clear hk
      go_simp
      exact k _ _ (Chg.refl _ _) f9
    refine Obs.cons (some (56, true)) (by kernel_rfl) ?_ ?_
    · refine Ob.yes (fun _ _ h => h) fun a w hR hk K k => ?_
      obtain ⟨_, e57, rfl⟩ := hk 57 (by decide)
      clear hk
      go_simp
      exact k _ _ (Chg.refl _ _) rfl
    refine Obs.cons none (by kernel_rfl) ?_ ?_
    · refine Ob.plain fun a w hR hk K k => ?_
      obtain ⟨_, e56, rfl⟩ := hk 56 (by decide)
      obtain ⟨_, e58, rfl⟩ := hk 58 (by decide)
      clear hk
      go_simp
      exact k _ _ (Chg.refl _ _) rfl
    refine Obs.cons none (by kernel_rfl) ?_ ?_
    · refine Ob.plain fun a w hR hk K k => ?_
      obtain ⟨_, e59, f59⟩ := hk 59 (by decide)
      clear hk
      go_simp
      exact k _ _ (Chg.refl _ _) f59
    refine Obs.cons (some (60, true)) (by kernel_rfl) ?_ ?_
    · refine Ob.yes (fun _ _ h => h) fun a w hR hk K k => ?_
      obtain ⟨_, e8, rfl⟩ := hk 8 (by decide)
      clear hk
      obtain ⟨c0, c1, c2, c3, c4, c5, c6, c7, c8⟩ := (cred_at_blk hX).keep hR id
      simp only [Nat.zero_add, dM, noneR] at c0 c1 c2 c3 c4 c5 c6 c7 c8
      go_simp
      exact k _ _ (Chg.refl _ _) rfl
    refine Obs.cons (some (60, true)) (by kernel_rfl) ?_ ?_
    · refine Ob.yes (fun _ _ h => h) fun a w hR hk K k => ?_
      obtain ⟨_, e3, rfl⟩ := hk 3 (by decide)
      clear hk
      obtain ⟨c0, c1, c2, c3, c4, c5, c6, c7, c8⟩ := (cred_at_blk hB).keep hR id
      simp only [Nat.zero_add, dM, noneR] at c0 c1 c2 c3 c4 c5 c6 c7 c8
      go_simp
      exact k _ _ (Chg.refl _ _) rfl
    refine Obs.cons (some (60, true)) (by kernel_rfl) ?_ ?_
    · refine Ob.yes (fun _ _ h => h) fun a w hR hk K k => ?_
      obtain ⟨_, e61, rfl⟩ := hk 61 (by decide)
      obtain ⟨_, e62, rfl⟩ := hk 62 (by decide)
      clear hk
      simp only [credV, credBox, dM, noneR] at e61 e62
      go_simp
      exact k _ _ (Chg.refl _ _) rfl
    refine Obs.cons none (by kernel_rfl) ?_ ?_
    · refine Ob.plain fun a w hR hk K k => ?_
      obtain ⟨_, e60, rfl⟩ := hk 60 (by decide)
      obtain ⟨_, e63, rfl⟩ := hk 63 (by decide)
      clear hk
      go_simp
      exact k _ _ (Chg.refl _ _) rfl
    refine Obs.cons none (by kernel_rfl) ?_ ?_
    · refine Ob.plain fun a w hR hk K k => ?_
      obtain ⟨_, e64, f64⟩ := hk 64 (by decide)
      clear hk
      go_simp
      exact k _ _ (Chg.refl _ _) f64
    refine Obs.cons (some (65, true)) (by kernel_rfl) ?_ ?_
    · refine Ob.yes (fun _ _ h => h) fun a w hR hk K k => ?_
      obtain ⟨_, e10, f10⟩ := hk 10 (by decide)
      clear hk
      go_simp
      exact k _ _ (Chg.refl _ _) f10
    refine Obs.cons (some (65, true)) (by kernel_rfl) ?_ ?_
    · refine Ob.yes (fun _ _ h => h) fun a w hR hk K k => ?_
      obtain ⟨_, e66, f66⟩ := hk 66 (by decide)
      clear hk
      obtain ⟨a0, p0, rfl, h0⟩ := f66
      go_simp
      exact k _ _ (Chg.refl _ _) rfl
    refine Obs.cons (some (65, true)) (by kernel_rfl) ?_ ?_
    · refine Ob.yes (fun _ _ h => h) fun a w hR hk K k => ?_
      obtain ⟨_, e67, rfl⟩ := hk 67 (by decide)
      clear hk
      go_simp
      exact k _ _ (Chg.refl _ _) rfl
    refine Obs.cons none (by kernel_rfl) ?_ ?_
    · refine Ob.plain fun a w hR hk K k => ?_
      obtain ⟨_, e65, rfl⟩ := hk 65 (by decide)
      obtain ⟨_, e68, rfl⟩ := hk 68 (by decide)
      clear hk
      go_simp
      exact k _ _ (Chg.refl _ _) rfl
    refine Obs.cons none (by kernel_rfl) ?_ ?_
    · refine Ob.plain fun a w hR hk K k => ?_
      obtain ⟨_, e69, f69⟩ := hk 69 (by decide)
      clear hk
      go_simp
      exact k _ _ (Chg.refl _ _) f69
    refine Obs.cons (some (70, true)) (by kernel_rfl) ?_ ?_
    · refine Ob.yes (fun _ _ h => h) fun a w hR hk K k => ?_
      obtain ⟨_, e10, f10⟩ := hk 10 (by decide)
      clear hk
      go_simp
      exact k _ _ (Chg.refl _ _) f10
    refine Obs.cons (some (70, true)) (by kernel_rfl) ?_ ?_
    · refine Ob.yes (fun _ _ h => h) fun a w hR hk K k => ?_
      obtain ⟨_, e71, f71⟩ := hk 71 (by decide)
      clear hk
      obtain ⟨a0, p0, rfl, h0⟩ := f71
      obtain ⟨b, off, rfl, _, hr, _⟩ := h0 0 (by decide)
      rw [Nat.zero_mul, Nat.add_zero] at hr
      go_simp
      exact k _ _ (Chg.refl _ _) ⟨_, _, rfl, hr⟩
    refine Obs.cons (some (70, true)) (by kernel_rfl) ?_ ?_
    · refine Ob.yes (fun _ _ h => h) fun a w hR hk K k => ?_
      obtain ⟨_, e72, f72⟩ := hk 72 (by decide)
      clear hk
      obtain ⟨b, off, rfl, c0, c1, c2, c3, c4, c5, c6, c7, c8⟩ := f72
      simp only [dM, noneR] at c0 c1 c2 c3 c4 c5 c6 c7 c8
      go_simp
      exact k _ _ (Chg.refl _ _) rfl
    refine Obs.cons (some (70, true)) (by kernel_rfl) ?_ ?_
    · refine Ob.yes (fun _ _ h => h) fun a w hR hk K k => ?_
      obtain ⟨_, e3, rfl⟩ := hk 3 (by decide)
      clear hk
      obtain ⟨c0, c1, c2, c3, c4, c5, c6, c7, c8⟩ := (cred_at_blk hB).keep hR id
      simp only [Nat.zero_add, dM, noneR] at c0 c1 c2 c3 c4 c5 c6 c7 c8
      go_simp
      exact k _ _ (Chg.refl _ _) rfl
    refine Obs.cons (some (70, true)) (by kernel_rfl) ?_ ?_
    · refine Ob.yes (fun _ _ h => h) fun a w hR hk K k => ?_
      obtain ⟨_, e73, rfl⟩ := hk 73 (by decide)
      obtain ⟨_, e74, rfl⟩ := hk 74 (by decide)
      clear hk
      simp only [credV, credBox, dM, noneR] at e73 e74
      go_simp
      exact k _ _ (Chg.refl _ _) rfl
    refine Obs.cons none (by kernel_rfl) ?_ ?_
    · refine Ob.plain fun a w hR hk K k => ?_
      obtain ⟨_, e70, rfl⟩ := hk 70 (by decide)
      obtain ⟨_, e75, rfl⟩ := hk 75 (by decide)
      clear hk
      go_simp
      exact k _ _ (Chg.refl _ _) rfl
    refine Obs.cons none (by kernel_rfl) ?_ ?_
    · refine Ob.plain fun a w hR hk K k => ?_
      obtain ⟨_, e76, f76⟩ := hk 76 (by decide)
      clear hk
      go_simp
      exact k _ _ (Chg.refl _ _) f76
    refine Obs.cons (some (77, true)) (by kernel_rfl) ?_ ?_
    · refine Ob.yes (fun _ _ h => h) fun a w hR hk K k => ?_
      obtain ⟨_, e10, f10⟩ := hk 10 (by decide)
      clear hk
      go_simp
      exact k _ _ (Chg.refl _ _) f10
    refine Obs.cons (some (77, true)) (by kernel_rfl) ?_ ?_
    · refine Ob.yes (fun _ _ h => h) fun a w hR hk K k => ?_
      obtain ⟨_, e1, rfl⟩ := hk 1 (by decide)
      clear hk
      obtain ⟨c0, c1, c2, c3, c4, c5, c6, c7, c8⟩ := (cred_at_blk hA).keep hR id
      simp only [Nat.zero_add, cL, noneR] at c0 c1 c2 c3 c4 c5 c6 c7 c8
      go_simp
      exact k _ _ (Chg.refl _ _) rfl
    refine Obs.cons (some (77, true)) (by kernel_rfl) ?_ ?_
    · refine Ob.yes (fun _ _ h => h) fun a w hR hk K k => ?_
      obtain ⟨_, e78, f78⟩ := hk 78 (by decide)
      obtain ⟨_, e79, rfl⟩ := hk 79 (by decide)
      clear hk
      obtain ⟨a0, p0, rfl, h0⟩ := f78
      go_simp
      refine (pchas a0 p0 [dM, cL] cL _ (by decide) cL_short h0).mono ?_
      rintro e w2 ⟨rfl, hc⟩
      exact k _ _ hc rfl
    refine Obs.cons none (by kernel_rfl) ?_ ?_
    · refine Ob.plain fun a w hR hk K k => ?_
      obtain ⟨_, e77, rfl⟩ := hk 77 (by decide)
      obtain ⟨_, e80, rfl⟩ := hk 80 (by decide)
      clear hk
      go_simp
      exact k _ _ (Chg.refl _ _) rfl
    refine Obs.cons none (by kernel_rfl) ?_ ?_
    · refine Ob.plain fun a w hR hk K k => ?_
      obtain ⟨_, e81, f81⟩ := hk 81 (by decide)
      clear hk
      go_simp
      exact k _ _ (Chg.refl _ _) f81
    refine Obs.cons (some (82, true)) (by kernel_rfl) ?_ ?_
    · refine Ob.yes (fun _ _ h => h) fun a w hR hk K k => ?_
      obtain ⟨_, e1, rfl⟩ := hk 1 (by decide)
      clear hk
      obtain ⟨c0, c1, c2, c3, c4, c5, c6, c7, c8⟩ := (cred_at_blk hA).keep hR id
      simp only [Nat.zero_add, cL, noneR] at c0 c1 c2 c3 c4 c5 c6 c7 c8
      go_simp
      exact k _ _ (Chg.refl _ _) rfl
    refine Obs.cons (some (82, true)) (by kernel_rfl) ?_ ?_
    · refine Ob.yes (fun _ _ h => h) fun a w hR hk K k => ?_
      obtain ⟨_, e83, rfl⟩ := hk 83 (by decide)
      clear hk
      go_simp
      refine (pcroles cL _ (cL_short.mono' (by decide))).mono ?_
      rintro e w2 ⟨a0, p0, rfl, _, hc⟩
      exact k _ _ hc ⟨a0, p0, rfl⟩
    refine Obs.cons (some (82, true)) (by kernel_rfl) ?_ ?_
    · refine Ob.yes (fun _ _ h => h) fun a w hR hk K k => ?_
      obtain ⟨_, e84, f84⟩ := hk 84 (by decide)
      clear hk
      obtain ⟨a0, p0, rfl⟩ := f84
      go_simp
      exact k _ _ (Chg.refl _ _) rfl
    refine Obs.cons (some (82, true)) (by kernel_rfl) ?_ ?_
    · refine Ob.yes (fun _ _ h => h) fun a w hR hk K k => ?_
      obtain ⟨_, e85, rfl⟩ := hk 85 (by decide)
      clear hk
      go_simp
      exact k _ _ (Chg.refl _ _) rfl
    refine Obs.cons none (by kernel_rfl) ?_ ?_
    · refine Ob.plain fun a w hR hk K k => ?_
      obtain ⟨_, e82, rfl⟩ := hk 82 (by decide)
      obtain ⟨_, e86, rfl⟩ := hk 86 (by decide)
      clear hk
      go_simp
      exact k _ _ (Chg.refl _ _) rfl
    refine Obs.cons none (by kernel_rfl) ?_ ?_
    · refine Ob.plain fun a w hR hk K k => ?_
      obtain ⟨_, e87, f87⟩ := hk 87 (by decide)
      clear hk
      go_simp
      exact k _ _ (Chg.refl _ _) f87
    refine Obs.cons (some (88, true)) (by kernel_rfl) ?_ ?_
    · refine Ob.yes (fun _ _ h => h) fun a w hR hk K k => ?_
      obtain ⟨_, e3, rfl⟩ := hk 3 (by decide)
      clear hk
      obtain ⟨c0, c1, c2, c3, c4, c5, c6, c7, c8⟩ := (cred_at_blk hB).keep hR id
      simp only [Nat.zero_add, dM, noneR] at c0 c1 c2 c3 c4 c5 c6 c7 c8
      go_simp
      exact k _ _ (Chg.refl _ _) rfl
    refine Obs.cons (some (88, true)) (by kernel_rfl) ?_ ?_
    · refine Ob.yes (fun _ _ h => h) fun a w hR hk K k => ?_
      obtain ⟨_, e89, rfl⟩ := hk 89 (by decide)
      clear hk
      go_simp
      refine (pctext dM _ dM_short).mono ?_
      rintro e w2 ⟨rfl, hc⟩
      exact k _ _ hc (by rw [show credTextOr dM = dT from rfl]; rfl)
    refine Obs.cons (some (88, true)) (by kernel_rfl) ?_ ?_
    · refine Ob.yes (fun _ _ h => h) fun a w hR hk K k => ?_
      obtain ⟨_, e90, rfl⟩ := hk 90 (by decide)
      clear hk
      go_simp
      exact k _ _ (Chg.refl _ _) rfl
    refine Obs.cons none (by kernel_rfl) ?_ ?_
    · refine Ob.plain fun a w hR hk K k => ?_
      obtain ⟨_, e88, rfl⟩ := hk 88 (by decide)
      obtain ⟨_, e91, rfl⟩ := hk 91 (by decide)
      clear hk
      go_simp
      exact k _ _ (Chg.refl _ _) rfl
    refine Obs.cons none (by kernel_rfl) ?_ ?_
    · refine Ob.plain fun a w hR hk K k => ?_
      obtain ⟨_, e92, f92⟩ := hk 92 (by decide)
      clear hk
      go_simp
      exact k _ _ (Chg.refl _ _) f92
    exact Obs.nil
  case fin =>
    intro vals w12 hc12 hv
    have h0 : vals 0 = .bool true := hv 0 (by decide)
    simp only [putAll, List.setIfInBounds_toArray, List.set_cons_zero, List.set_cons_succ, h0]
    go_wp2
    go_ret
    exact ⟨rfl, hcw.trans hc12 (fun _ _ h => h)⟩
end Go.Proofs.Ytjohiggfjpfbeaa

/- The arguments of laws, opened to cells: bytes, a small array. -/
namespace Go.Proofs.Ytjohiggfjpfbeaa
open Go.ChangeShapes Go.WideShapes Go.ChangeAt Go.RowKit Go.Deep

theorem Try.own : ownKnob Try.prog.godebug = none := by kernel_rfl
theorem Try.laidOut : laidOutB Try.prog = true := by kernel_rfl

theorem spot_none {w : World} {a : Addr} {v : Value} (h : w.cell? a = some v) : a = ⟨a.block, a.off, none⟩ := by
  obtain ⟨b, o, s⟩ := a
  cases s with
  | none => rfl
  | some x =>
    simp only [World.cell?] at h
    split at h
    · simp at h
    · cases h

theorem add_zero (a : Addr) : a.add 0 = a := by
  unfold Addr.add
  simp

theorem wf_u8 {n : Int} (h : (Lit.int .u8 n).wf = true) : 0 ≤ n ∧ n ≤ 255 := by
  have hmin : IntKind.u8.min = 0 := rfl
  have hmax : IntKind.u8.max = 255 := rfl
  simp only [Lit.wf, Bool.and_eq_true, decide_eq_true_eq] at h
  omega

theorem wf_i64 {n : Int} (h : (Lit.int .i64 n).wf = true) : -9223372036854775808 ≤ n ∧ n ≤ 9223372036854775807 := by
  have hmin : IntKind.i64.min = -9223372036854775808 := rfl
  have hmax : IntKind.i64.max = 9223372036854775807 := rfl
  simp only [Lit.wf, Bool.and_eq_true, decide_eq_true_eq] at h
  omega

section
variable {H : Type} {enc : TypeId × Value → H} {w : World} {base : Nat} {held : Bool} {fuel : Nat}

theorem open_bytes {cs : List Value} {x : DataW H × List MemPlace} (h : DataW.trod enc Try.prog w base (fun _ => true) held fuel 32 cs = some x) :
    ∃ (ao : Option Addr) (cap : Nat) (l : List UInt8), cs = [.slice ao l.length cap] ∧ l.length ≤ 9223372036854775807 ∧ BytesAt (fun k => k < w.heap.size) w (.slice ao l.length cap) l := by
  rcases open_ints Try.underlying32 Try.underlying5 (by kernel_rfl) h with ⟨rfl, _⟩ | ⟨a, len, cap, zs, rfl, _, hl, hm, hz, _, hcell, hwz⟩
  · exact ⟨none, 0, [], rfl, by simp, BytesAt.nil _ _⟩
  · simp only [if_true] at hz
    have hlen : ((zs.take len).map fun n => UInt8.ofNat n.toNat).length = len := by simp; omega
    refine ⟨some a, cap, (zs.take len).map fun n => UInt8.ofNat n.toNat, by rw [hlen], by rw [hlen]; unfold maxLen at hm; omega, ?_⟩
    rw [hlen]
    by_cases h0 : len = 0
    · subst h0
      exact .inl ⟨some a, cap, rfl, by simp, fun h => by cases h⟩
    · have h1 := hcell 0 (by omega)
      rw [add_zero] at h1
      have ha := spot_none h1
      have hlt := World.block_lt_of_cell? w _ h1
      refine .inr ⟨a.block, a.off, cap, by rw [hlen]; exact congrArg (fun z => Value.slice (some z) len cap) ha, by rw [hlen]; exact hl, hm, hlt, fun i hi => ?_⟩
      rw [hlen] at hi
      have h2 := hcell i (by omega)
      rw [ha, add_off] at h2
      rw [h2]
      have hget : zs.getD i 0 = zs[i]'(by omega) := by simp [List.getD, show i < zs.length by omega]
      have hb := wf_u8 (hwz _ (List.getElem_mem (show i < zs.length by omega)))
      rw [hget]
      congr 2
      simp only [List.getElem_map, List.getElem_take]
      rw [ofNat_u8 _ (by omega)]
      omega

theorem okWide_array {P : Program} {w : World} {r : Reach} {base : Nat} {t e : TypeId} {n : Nat} {v : Value} (ht : P.underlying t = some (.array n e)) (h : Value.okWide P w r base t v) : ∃ cs, v = .agg cs ∧ cs.size = P.cellsOf t := by
  simp only [Value.okWide, ht] at h
  obtain ⟨cs, h1, h2, _⟩ := h
  exact ⟨cs, h1, h2⟩

end

end Go.Proofs.Ytjohiggfjpfbeaa

/- In the world that a row's claim begins with, the library's variable holds some number. -/
namespace Go.Proofs.Ytjohiggfjpfbeaa
open Go.RowKit

theorem max_shaped {W : World} (hsh : W.ShapedOpen Try.prog) : MaxAt W :=
  cell_of_shapedOpen_int (g := 0) (t := 3) (zero := #[.int .i64 0]) (k := .i64) hsh (by decide) (by kernel_rfl) rfl (by kernel_rfl) (by kernel_rfl) Try.underlying3
end Go.Proofs.Ytjohiggfjpfbeaa
