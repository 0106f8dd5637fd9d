/- The contract of first. -/
import Derived.Test.YtjipfbggoeiakaaTagRef
import Derived.Lib.SlBytesConst
namespace Go.Proofs.Ytjipfbggoeiakaa
open Go.RowKit

theorem sumOf_nil : sumOf [] = 14695981039346656037 := by decide +kernel
theorem sumOf_a : ((sumOf [97] : Nat) : Int) = 12638187200555641996 := by decide +kernel
theorem tag_kl : (tagOf [108] [97, 98] == tagOf [107] [97, 98]) = false := by decide +kernel

/-- A block of bytes. -/
theorem bytes_blk {w : World} {B : Nat} {T : TypeId} {f : Nat × Nat} (l : List UInt8) (hl : l.length ≤ maxLen) (h : w.heap[B]? = some (.cells (l.map cb).toArray T f)) : BytesAt (fun k => k = B) w (.slice (some ⟨B, 0, none⟩) l.length l.length) l := by
  refine .inr ⟨B, 0, l.length, rfl, Nat.le_refl _, hl, rfl, fun i hi => ?_⟩
  rw [cell_blk h, Nat.zero_add]
  simp [hi, cb]

theorem sum_none (w : World) : Calls Try.prog 35 #[.slice none 0 0] w fun e w' => e = .returned (.int .u64 14695981039346656037) ∧ w = w' := by
  refine (sum_any (D := fun _ => True) none 0 [] w (by simp) (fun i hi => by simp at hi)).mono ?_
  rintro e w' ⟨rfl, rfl⟩
  rw [List.flatten_nil, sumOf_nil]
  exact ⟨rfl, rfl⟩

theorem one_le_maxLen : 1 ≤ maxLen := by decide
theorem two_le_maxLen : 2 ≤ maxLen := by decide

theorem bytes_lit1 (x : Int) (y : UInt8) (f : Nat × Nat) (h : x = (y.toNat : Int)) (w : World) : BytesAt (fun _ => True) (w.alloc (.cells #[.int .u8 x] 5 f)) (.slice (some ⟨w.heap.size, 0, none⟩) 1 1) [y] := by
  subst h
  exact (bytes_blk [y] one_le_maxLen (heap_alloc_new w _)).mono (fun _ _ => trivial)
theorem bytes_lit2 (x x' : Int) (y y' : UInt8) (f : Nat × Nat) (h : x = (y.toNat : Int)) (h' : x' = (y'.toNat : Int)) (w : World) : BytesAt (fun _ => True) (w.alloc (.cells #[.int .u8 x, .int .u8 x'] 5 f)) (.slice (some ⟨w.heap.size, 0, none⟩) 2 2) [y, y'] := by
  subst h
  subst h'
  exact (bytes_blk [y, y'] two_le_maxLen (heap_alloc_new w _)).mono (fun _ _ => trivial)

theorem sum_one (w : World) {v : Value} {l : List UInt8} (hl : l.length ≤ 9223372036854775807) (h : BytesAt (fun _ => True) w v l) (n : Int) (hn : ((sumOf l : Nat) : Int) = n) : Calls Try.prog 35 #[.slice (some ⟨w.heap.size, 0, none⟩) 1 1] (w.alloc (.cells #[v] 25)) fun e w' => e = .returned (.int .u64 n) ∧ (w.alloc (.cells #[v] 25)) = w' := by
  refine (sum_any (D := fun _ => True) (some ⟨w.heap.size, 0, none⟩) 1 [l] _ (by simp) (fun i hi => ?_)).mono ?_
  · match i, hi with
    | 0, _ => exact ⟨w.heap.size, 0, v, rfl, by rw [cell_blk (heap_alloc_new w _)]; rfl, h.keep ((Chg.refl (fun _ => False) w).alloc _) (fun _ _ => id), hl⟩
  · rintro e w' ⟨rfl, rfl⟩
    rw [List.flatten_singleton, hn]
    exact ⟨rfl, rfl⟩

theorem kconv_at (w : World) (g : Nat) (C : Array Value) (n c : Nat) (hg : g = w.heap.size) : (convert 25 25 (.slice (some ⟨g, 0, none⟩) n c)).run Try.prog (w.alloc (.cells C 5)) = .ok (.slice (some ⟨g, 0, none⟩) n c) (w.alloc (.cells C 5 (C.size, C.size + 1))) := by
  subst hg
  exact Lib.run_convert_bytes_const (P := Try.prog) w 25 5 C n c Try.underlying25 Try.underlying5

theorem first_any (w : World) : Calls Try.prog 33 #[] w fun e w' => e = .returned (.bool true) ∧ Chg (fun _ => False) w w' := by
  have kc := kconv_at
  have hk := bytes_lit1 107 107 (1, 2) rfl w
  have hb := bytes_lit2 97 98 97 98 (2, 3) rfl rfl (w.alloc (.cells #[.int .u8 107] 5 (1, 2)))
  have hk' := hk.keep ((Chg.refl (fun _ => False) _).alloc (.cells #[.int .u8 97, .int .u8 98] 5 (2, 3))) (fun _ _ => id)
  have hc := ((Chg.refl (fun _ => False) w).alloc (.cells #[.int .u8 107] 5 (1, 2))).alloc (.cells #[.int .u8 97, .int .u8 98] 5 (2, 3))
  rw [show (w.alloc (.cells #[.int .u8 107] 5 (1, 2))).heap.size = w.heap.size + 1 from by simp] at hb
  clear hk
  go_enter Try.func33, Try.ntmps33
  go_wp2_with fail
  generalize (w.alloc (.cells #[.int .u8 107] 5 (1, 2))).alloc (.cells #[.int .u8 97, .int .u8 98] 5 (2, 3)) = w1 at *
  refine (make_yes _ _ _ _ [107] [97, 98] _ (by decide) (by decide) (by decide) hk' hb).mono ?_
  rintro e w2 ⟨g, rfl, _, hcells, hc1⟩
  have hc2 := hc.trans hc1 (fun _ _ h => h)
  clear hk' hb hc hc1
  go_wp2_with fail
  refine (sum_none _).mono ?_
  rintro e w3 ⟨rfl, rfl⟩
  go_wp2_with fail
  have ha := bytes_lit1 97 97 (1, 2) rfl w2
  have hs := sum_one _ (by decide) ha _ sumOf_a
  rw [show (w2.alloc (.cells #[.int .u8 97] 5 (1, 2))).heap.size = w2.heap.size + 1 from by simp] at hs
  have hc3 := (hc2.alloc (.cells #[.int .u8 97] 5 (1, 2))).alloc (.cells #[.slice (some ⟨w2.heap.size, 0, none⟩) 1 1] 25)
  have hg3 := blk_keep hcells (((Chg.refl (fun _ => False) w2).alloc (.cells #[.int .u8 97] 5 (1, 2))).alloc (.cells #[.slice (some ⟨w2.heap.size, 0, none⟩) 1 1] 25)) id
  refine hs.mono ?_
  rintro e w3 ⟨rfl, rfl⟩
  clear ha hs hc2 hcells
  generalize (w2.alloc (.cells #[.int .u8 97] 5 (1, 2))).alloc (.cells #[.slice (some ⟨w2.heap.size, 0, none⟩) 1 1] 25) = w3 at *
  have hk := bytes_lit1 107 107 (1, 2) rfl w3
  have hb := bytes_lit2 97 98 97 98 (2, 3) rfl rfl (w3.alloc (.cells #[.int .u8 107] 5 (1, 2)))
  have hk' := hk.keep ((Chg.refl (fun _ => False) _).alloc (.cells #[.int .u8 97, .int .u8 98] 5 (2, 3))) (fun _ _ => id)
  have hcc := ((Chg.refl (fun _ => False) w3).alloc (.cells #[.int .u8 107] 5 (1, 2))).alloc (.cells #[.int .u8 97, .int .u8 98] 5 (2, 3))
  have hc4 := hc3.trans hcc (fun _ _ h => h)
  have hg4 := blk_keep hg3 hcc id
  rw [show (w3.alloc (.cells #[.int .u8 107] 5 (1, 2))).heap.size = w3.heap.size + 1 from by simp] at hb
  clear hk hc3 hg3 hcc
  go_wp2_with fail
  generalize (w3.alloc (.cells #[.int .u8 107] 5 (1, 2))).alloc (.cells #[.int .u8 97, .int .u8 98] 5 (2, 3)) = w4 at *
  refine (good_yes _ _ _ _ _ _ [107] [97, 98] (tagOf [107] [97, 98]) _ (by decide) (by decide) (by decide) hk' hb ((tagCells_bytes _ hg4).mono (fun _ _ => trivial))).mono ?_
  rintro e w5 ⟨rfl, hc5⟩
  rw [show (tagOf [107] [97, 98] == tagOf [107] [97, 98]) = true from beq_self_eq_true _]
  have hc6 := hc4.trans hc5 (fun _ _ h => h)
  have hg5 := blk_keep hg4 hc5 id
  clear hk' hb hc4 hc5 hg4
  have hk := bytes_lit1 108 108 (1, 2) rfl w5
  have hb := bytes_lit2 97 98 97 98 (2, 3) rfl rfl (w5.alloc (.cells #[.int .u8 108] 5 (1, 2)))
  have hk' := hk.keep ((Chg.refl (fun _ => False) _).alloc (.cells #[.int .u8 97, .int .u8 98] 5 (2, 3))) (fun _ _ => id)
  have hcc := ((Chg.refl (fun _ => False) w5).alloc (.cells #[.int .u8 108] 5 (1, 2))).alloc (.cells #[.int .u8 97, .int .u8 98] 5 (2, 3))
  have hc7 := hc6.trans hcc (fun _ _ h => h)
  have hg7 := blk_keep hg5 hcc id
  rw [show (w5.alloc (.cells #[.int .u8 108] 5 (1, 2))).heap.size = w5.heap.size + 1 from by simp] at hb
  clear hk hc6 hg5 hcc
  go_wp2_with fail
  generalize (w5.alloc (.cells #[.int .u8 108] 5 (1, 2))).alloc (.cells #[.int .u8 97, .int .u8 98] 5 (2, 3)) = w6 at *
  refine (good_yes _ _ _ _ _ _ [108] [97, 98] (tagOf [107] [97, 98]) _ (by decide) (by decide) (by decide) hk' hb ((tagCells_bytes _ hg7).mono (fun _ _ => trivial))).mono ?_
  rintro e w7 ⟨rfl, hc8⟩
  rw [tag_kl]
  have hc9 := hc7.trans hc8 (fun _ _ h => h)
  clear hk' hb hc7 hc8 hg7
  go_wp2_with fail
  refine (make_no _ _ _ _ _ (.inl rfl) (by decide)).mono ?_
  rintro e w8 ⟨rfl, rfl⟩
  go_wp2_with fail
  go_ret
  exact ⟨rfl, hc9⟩
end Go.Proofs.Ytjipfbggoeiakaa
