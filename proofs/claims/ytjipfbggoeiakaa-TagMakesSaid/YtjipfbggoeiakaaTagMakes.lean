/- The last line of the law TagMakes: a region that draws its order, operation by operation. -/
import Derived.Test.YtjipfbggoeiakaaReg
import Derived.Test.YtjipfbggoeiakaaTagFirst
namespace Go.Proofs.Ytjipfbggoeiakaa
open Go.RowKit

/-- A slice of three slices of bytes. -/
def Spec.parts3 (l0 l1 l2 : List UInt8) : Spec :=
  ⟨fun v w => ∃ ao, v = .slice ao 3 3 ∧ PartsAt (fun _ => True) w ao [l0, l1, l2], fun _ _ _ hc ⟨ao, h1, h2⟩ => ⟨ao, h1, fun i hi => by
    obtain ⟨b, off, v, e, h3, h4, h5⟩ := h2 i hi
    exact ⟨b, off, v, e, hc.cell h3 id, h4.keep hc (fun _ _ => id), h5⟩⟩⟩

theorem parts3_new (w : World) (v0 v1 v2 : Value) {l0 l1 l2 : List UInt8} (h0 : BytesAt (fun _ => True) w v0 l0) (h1 : BytesAt (fun _ => True) w v1 l1) (h2 : BytesAt (fun _ => True) w v2 l2) (b0 : l0.length ≤ 9223372036854775807) (b1 : l1.length ≤ 9223372036854775807) (b2 : l2.length ≤ 9223372036854775807) :
    PartsAt (fun _ => True) (w.alloc (.cells #[v0, v1, v2] 25)) (some ⟨w.heap.size, 0, none⟩) [l0, l1, l2] := by
  have hc := (Chg.refl (fun _ => False) w).alloc (.cells #[v0, v1, v2] 25)
  have hB := heap_alloc_new w (.cells #[v0, v1, v2] 25)
  intro i hi
  match i, hi with
  | 0, _ => exact ⟨w.heap.size, 0, v0, rfl, by rw [cell_blk hB]; rfl, h0.keep hc (fun _ _ => id), b0⟩
  | 1, _ => exact ⟨w.heap.size, 0, v1, rfl, by rw [cell_blk hB]; rfl, h1.keep hc (fun _ _ => id), b1⟩
  | 2, _ => exact ⟨w.heap.size, 0, v2, rfl, by rw [cell_blk hB]; rfl, h2.keep hc (fun _ _ => id), b2⟩

theorem bytesRow_list (acc : List UInt8) (cap : Nat) (i : Nat) (h : i < acc.length) : (bytesRow ⟨acc.toArray⟩ cap)[i]? = some (.int .u8 (acc[i].toNat : Int)) := by
  have := bytesRow_at ⟨acc.toArray⟩ cap i (by simpa using h)
  simpa using this

/-- '[]byte(s)'. -/
theorem bytes_of (acc : List UInt8) (w : World) (c : Nat) (hc : acc.length ≤ c) (hm : c ≤ maxLen) (f : Nat × Nat) :
    BytesAt (fun k => k = w.heap.size) (w.alloc (.cells (bytesRow ⟨acc.toArray⟩ c) 5 f)) (.slice (some ⟨w.heap.size, 0, none⟩) acc.length c) acc := by
  refine .inr ⟨_, 0, c, rfl, hc, hm, rfl, fun i hi => ?_⟩
  rw [cell_blk (heap_alloc_new w _), Nat.zero_add]
  exact bytesRow_list acc c i hi

theorem conv_str (acc : List UInt8) (w : World) : (convert 9 25 (.string ⟨acc.toArray⟩)).run Try.prog w = .ok (.slice (some ⟨w.heap.size, 0, none⟩) acc.length (grownCap w acc.length 0 5))
      (w.drew.alloc (.cells (bytesRow ⟨acc.toArray⟩ (grownCap w acc.length 0 5)) 5 ((bytesRow ⟨acc.toArray⟩ (grownCap w acc.length 0 5)).size, (bytesRow ⟨acc.toArray⟩ (grownCap w acc.length 0 5)).size + 1))) := by
  have := run_bytes_of_string (P := Try.prog) w 9 25 5 ⟨acc.toArray⟩ Try.underlying9 Try.underlying25 Try.underlying5
  exact this

theorem beq_swap (a b : List UInt8) : (a == b) = (true && (b == a)) := by
  rw [Bool.true_and, BEq.comm]

def makesSpecsYes (key b t : List UInt8) : List Spec := [.bytes key.length key, .bytes b.length b, .bytes t.length t, .any, .any, .any, .eq (.bool true), .eq (.bool true), .eq (.string ⟨(tagOf key b).toArray⟩), .any, .any, .any, .any, .any, .any, .any, .any, .any, .any, .any, .any, .any, .any, .any, .any, .any, .any, .any, .any, .any, .any, .any, .any, .any, .any, .any, .any, .any, .bytes key.length key, .bytes b.length b, .bytes t.length t, .parts3 key b t, .eq (.int .u64 (sumOf (key ++ b ++ t) : Nat)), .bytes key.length key, .eq (.string ⟨key.toArray⟩), .bytes b.length b, .eq (.string ⟨b.toArray⟩), .eq (.string ⟨(key ++ b).toArray⟩), .bytes t.length t, .eq (.string ⟨t.toArray⟩), .eq (.string ⟨(key ++ b ++ t).toArray⟩), .eq (.int .u64 (sumOf (key ++ b ++ t) : Nat)), .eq (.bool true), .eq (.bool true), .bytes key.length key, .bytes b.length b, .bytes (tagOf key b).length (tagOf key b), .eq (.string ⟨(tagOf key b).toArray⟩), .eq (.string ⟨(tagOf key b).toArray⟩), .eq (.bool true), .eq (.bool true), .eq (.bool true), .bytes key.length key, .bytes b.length b, .bytes t.length t, .eq (.bool (true && ((tagOf key b) == t))), .eq (.bool true), .eq (.bool true), .bytes t.length t, .eq (.string ⟨t.toArray⟩), .eq (.string ⟨(tagOf key b).toArray⟩), .eq (.bool (t == (tagOf key b))), .eq (.bool (true && ((tagOf key b) == t))), .eq (.bool true), .eq (.bool true), .eq (.bool true), .bytes key.length key, .bytes b.length b, .eq (.string ⟨(tagOf key b).toArray⟩), .bytes (tagOf key b).length (tagOf key b), .eq (.bool true), .eq (.bool true), .eq (.bool true), .eq (.bool true)]

set_option maxRecDepth 100000 in
set_option maxHeartbeats 4000000 in
theorem makes_Yes {D : Nat → Prop} (a0 a1 a2 : Option Addr) (c0 c1 c2 : Nat) (key b t : List UInt8) (w : World) (h1 : 1 ≤ key.length) (h2 : key.length ≤ 32) (_ : key.length ≤ 100) (hbl : b.length ≤ 2000) (htl : t.length ≤ 100)
    (k0 : BytesAt D w (.slice a0 key.length c0) key) (k1 : BytesAt D w (.slice a1 b.length c1) b) (k2 : BytesAt D w (.slice a2 t.length c2) t) :
    Calls Try.prog 7 #[.slice a0 key.length c0, .slice a1 b.length c1, .slice a2 t.length c2] w fun e w' => e = .returned (.bool true) ∧ Chg (fun _ => False) w w' := by
  have e1 : decide (100 < (key.length : Int)) = false := by simp; omega
  have e2 : decide (2000 < (b.length : Int)) = false := by simp; omega
  have e3 : decide (100 < (t.length : Int)) = false := by simp; omega
  have d1 : decide ((key.length : Int) ≤ 32) = true := by simp; omega
  have d2 : decide (1 ≤ (key.length : Int)) = true := by simp; omega
  go_enter Try.func7, Try.ntmps7
  go_wp2_with fail
  refine (first_any _).mono ?_
  rintro e w1 ⟨rfl, hc⟩
  replace k0 := k0.keep hc (fun _ _ => id)
  replace k1 := k1.keep hc (fun _ _ => id)
  replace k2 := k2.keep hc (fun _ _ => id)
  have cv0 := conv_bytes k0
  have cv1 := conv_bytes k1
  go_wp2_with fail
  refine (refmake_any key b _ h2 (by omega)).mono ?_
  rintro e w2 ⟨rfl, hc2⟩
  clear cv0 cv1
  have k0' := k0.keep hc2 (fun _ _ => id)
  have k1' := k1.keep hc2 (fun _ _ => id)
  have k2' := k2.keep hc2 (fun _ _ => id)
  have hc' := hc.trans hc2 (fun _ _ h => h)
  clear k0 k1 k2 hc hc2
  go_wp2_with fail
  refine wp_region_specs (makesSpecsYes key b t) [38, 39, 40, 41, 42, 43, 44, 45, 46, 47, 48, 49, 50, 51, 52, 53, 54, 55, 56, 57, 58, 59, 60, 61, 62, 63, 64, 65, 66, 67, 68, 69, 70, 71, 72, 73, 74, 75, 76, 77, 78, 79, 80, 81, 82, 83, 6] [0, 1, 2, 7, 8] (by kernel_rfl) (by kernel_rfl) (by rfl) (by kernel_rfl) ?start ?obs ?fin
  case start =>
    simp only [List.forall_mem_cons]
    exact ⟨⟨_, rfl, _, _, rfl, rfl, k0'.mono (fun _ _ => trivial)⟩, ⟨_, rfl, _, _, rfl, rfl, k1'.mono (fun _ _ => trivial)⟩, ⟨_, rfl, _, _, rfl, rfl, k2'.mono (fun _ _ => trivial)⟩, ⟨_, rfl, rfl⟩, ⟨_, rfl, rfl⟩, fun _ h => by cases h⟩
  case obs =>
    clear k0' k1' k2' hc' e1 e2 e3 d1
    refine Obs.cons none (by kernel_rfl) ?_ ?_
    · refine Ob.plain fun a w hR hk K k => ?_
      obtain ⟨_, e0, f0⟩ := hk 0 (by decide)
      clear hk
      go_simp
      exact k _ _ (Chg.refl _ _) f0
    refine Obs.cons none (by kernel_rfl) ?_ ?_
    · refine Ob.plain fun a w hR hk K k => ?_
      obtain ⟨_, e1, f1⟩ := hk 1 (by decide)
      clear hk
      go_simp
      exact k _ _ (Chg.refl _ _) f1
    refine Obs.cons none (by kernel_rfl) ?_ ?_
    · refine Ob.plain fun a w hR hk K k => ?_
      obtain ⟨_, e2, f2⟩ := hk 2 (by decide)
      clear hk
      go_simp
      exact k _ _ (Chg.refl _ _) f2
    refine Obs.cons none (by kernel_rfl) ?_ ?_
    · refine Ob.plain fun a w hR hk K k => ?_
      obtain ⟨_, e38, f38⟩ := hk 38 (by decide)
      obtain ⟨_, e39, f39⟩ := hk 39 (by decide)
      obtain ⟨_, e40, f40⟩ := hk 40 (by decide)
      clear hk
      obtain ⟨a0, c0, rfl, l0, b0⟩ := f38
      obtain ⟨a1, c1, rfl, l1, b1⟩ := f39
      obtain ⟨a2, c2, rfl, l2, b2⟩ := f40
      go_simp
      exact k _ _ ((Chg.refl _ _).alloc _) ⟨_, rfl, parts3_new w _ _ _ b0 b1 b2 (by omega) (by omega) (by omega)⟩
    refine Obs.cons none (by kernel_rfl) ?_ ?_
    · refine Ob.plain fun a w hR hk K k => ?_
      obtain ⟨_, e41, f41⟩ := hk 41 (by decide)
      clear hk
      obtain ⟨ao, rfl, hp⟩ := f41
      go_simp
      refine (sum_any (ls := [key, b, t]) _ _ _ (by simp) hp).mono ?_
      rintro e w2 ⟨rfl, rfl⟩
      exact k _ _ (Chg.refl _ _) (congrArg (fun l => Value.int .u64 ((sumOf l : Nat) : Int)) (by simp))
    refine Obs.cons none (by kernel_rfl) ?_ ?_
    · refine Ob.plain fun a w hR hk K k => ?_
      obtain ⟨_, e0, f0⟩ := hk 0 (by decide)
      clear hk
      go_simp
      exact k _ _ (Chg.refl _ _) f0
    refine Obs.cons none (by kernel_rfl) ?_ ?_
    · refine Ob.plain fun a w hR hk K k => ?_
      obtain ⟨_, e43, f43⟩ := hk 43 (by decide)
      clear hk
      obtain ⟨a0, c0, rfl, l0, b0⟩ := f43
      have hcv := conv_bytes b0
      go_simp
      exact k _ _ (Chg.refl _ _) rfl
    refine Obs.cons none (by kernel_rfl) ?_ ?_
    · refine Ob.plain fun a w hR hk K k => ?_
      obtain ⟨_, e1, f1⟩ := hk 1 (by decide)
      clear hk
      go_simp
      exact k _ _ (Chg.refl _ _) f1
    refine Obs.cons none (by kernel_rfl) ?_ ?_
    · refine Ob.plain fun a w hR hk K k => ?_
      obtain ⟨_, e45, f45⟩ := hk 45 (by decide)
      clear hk
      obtain ⟨a0, c0, rfl, l0, b0⟩ := f45
      have hcv := conv_bytes b0
      go_simp
      exact k _ _ (Chg.refl _ _) rfl
    refine Obs.cons none (by kernel_rfl) ?_ ?_
    · refine Ob.plain fun a w hR hk K k => ?_
      obtain ⟨_, e44, rfl⟩ := hk 44 (by decide)
      obtain ⟨_, e46, rfl⟩ := hk 46 (by decide)
      clear hk
      have hb1 : ¬ 9223372036854775807 < key.length + b.length := by omega
      go_simp
      exact k _ _ (Chg.refl _ _) (congrArg Value.string (ByteArray.mk_append_mk _ _))
    refine Obs.cons none (by kernel_rfl) ?_ ?_
    · refine Ob.plain fun a w hR hk K k => ?_
      obtain ⟨_, e2, f2⟩ := hk 2 (by decide)
      clear hk
      go_simp
      exact k _ _ (Chg.refl _ _) f2
    refine Obs.cons none (by kernel_rfl) ?_ ?_
    · refine Ob.plain fun a w hR hk K k => ?_
      obtain ⟨_, e48, f48⟩ := hk 48 (by decide)
      clear hk
      obtain ⟨a0, c0, rfl, l0, b0⟩ := f48
      have hcv := conv_bytes b0
      go_simp
      exact k _ _ (Chg.refl _ _) rfl
    refine Obs.cons none (by kernel_rfl) ?_ ?_
    · refine Ob.plain fun a w hR hk K k => ?_
      obtain ⟨_, e47, rfl⟩ := hk 47 (by decide)
      obtain ⟨_, e49, rfl⟩ := hk 49 (by decide)
      clear hk
      have hul : ¬ 9223372036854775807 < (key ++ b).length + t.length := by simp; omega
      obtain ⟨u, hu⟩ : ∃ u, u = key ++ b := ⟨_, rfl⟩
      rw [← hu] at e47 hul
      have HU := hid hu
      clear hu
      go_simp
      exact k _ _ (Chg.refl _ _) (congrArg Value.string ((ByteArray.mk_append_mk u t).trans (by rw [HU.out])))
    refine Obs.cons none (by kernel_rfl) ?_ ?_
    · refine Ob.plain fun a w hR hk K k => ?_
      obtain ⟨_, e50, rfl⟩ := hk 50 (by decide)
      clear hk
      have hul : (key ++ b ++ t).length ≤ 9223372036854775807 := by simp; omega
      obtain ⟨u, hu⟩ : ∃ u, u = key ++ b ++ t := ⟨_, rfl⟩
      rw [← hu] at e50 hul
      have HU := hid hu
      clear hu
      go_simp
      refine (refsum_any ⟨u.toArray⟩ _ (by show u.toArray.size ≤ _; simpa using hul)).mono ?_
      rintro e w2 ⟨rfl, rfl⟩
      exact k _ _ (Chg.refl _ _) (congrArg (fun l => Value.int .u64 ((sumOf l : Nat) : Int)) HU.out)
    refine Obs.cons none (by kernel_rfl) ?_ ?_
    · refine Ob.plain fun a w hR hk K k => ?_
      obtain ⟨_, e42, rfl⟩ := hk 42 (by decide)
      obtain ⟨_, e51, rfl⟩ := hk 51 (by decide)
      clear hk
      go_simp
      exact k _ _ (Chg.refl _ _) rfl
    refine Obs.cons none (by kernel_rfl) ?_ ?_
    · refine Ob.plain fun a w hR hk K k => ?_
      obtain ⟨_, e52, f52⟩ := hk 52 (by decide)
      clear hk
      go_simp
      exact k _ _ (Chg.refl _ _) f52
    refine Obs.cons (some (53, true)) (by kernel_rfl) ?_ ?_
    · refine Ob.yes (fun _ _ h => h) fun a w hR hk K k => ?_
      obtain ⟨_, e0, f0⟩ := hk 0 (by decide)
      clear hk
      go_simp
      exact k _ _ (Chg.refl _ _) f0
    refine Obs.cons (some (53, true)) (by kernel_rfl) ?_ ?_
    · refine Ob.yes (fun _ _ h => h) fun a w hR hk K k => ?_
      obtain ⟨_, e1, f1⟩ := hk 1 (by decide)
      clear hk
      go_simp
      exact k _ _ (Chg.refl _ _) f1
    refine Obs.cons (some (53, true)) (by kernel_rfl) ?_ ?_
    · refine Ob.yes (fun _ _ h => h) fun a w hR hk K k => ?_
      obtain ⟨_, e54, f54⟩ := hk 54 (by decide)
      obtain ⟨_, e55, f55⟩ := hk 55 (by decide)
      clear hk
      obtain ⟨a0, c0, rfl, l0, b0⟩ := f54
      obtain ⟨a1, c1, rfl, l1, b1⟩ := f55
      go_simp
      refine (make_yes _ _ _ _ key b _ h1 h2 (by omega) b0 b1).mono ?_
      rintro e w2 ⟨g, rfl, _, hg, hc⟩
      exact k _ _ hc ⟨_, _, congrArg (fun n => Value.slice (some ⟨g, 0, none⟩) n 8) (tagOf_length key b).symm, rfl, (tagCells_bytes _ hg).mono (fun _ _ => trivial)⟩
    refine Obs.cons (some (53, true)) (by kernel_rfl) ?_ ?_
    · refine Ob.yes (fun _ _ h => h) fun a w hR hk K k => ?_
      obtain ⟨_, e56, f56⟩ := hk 56 (by decide)
      clear hk
      obtain ⟨a0, c0, rfl, l0, b0⟩ := f56
      have hcv := conv_bytes b0
      go_simp
      exact k _ _ (Chg.refl _ _) rfl
    refine Obs.cons (some (53, true)) (by kernel_rfl) ?_ ?_
    · refine Ob.yes (fun _ _ h => h) fun a w hR hk K k => ?_
      obtain ⟨_, e8, f8⟩ := hk 8 (by decide)
      clear hk
      go_simp
      exact k _ _ (Chg.refl _ _) f8
    refine Obs.cons (some (53, true)) (by kernel_rfl) ?_ ?_
    · refine Ob.yes (fun _ _ h => h) fun a w hR hk K k => ?_
      obtain ⟨_, e57, rfl⟩ := hk 57 (by decide)
      obtain ⟨_, e58, rfl⟩ := hk 58 (by decide)
      clear hk
      go_simp
      exact k _ _ (Chg.refl _ _) rfl
    refine Obs.cons none (by kernel_rfl) ?_ ?_
    · refine Ob.plain fun a w hR hk K k => ?_
      obtain ⟨_, e53, rfl⟩ := hk 53 (by decide)
      obtain ⟨_, e59, rfl⟩ := hk 59 (by decide)
      clear hk
      go_simp
      exact k _ _ (Chg.refl _ _) rfl
    refine Obs.cons none (by kernel_rfl) ?_ ?_
    · refine Ob.plain fun a w hR hk K k => ?_
      obtain ⟨_, e60, f60⟩ := hk 60 (by decide)
      clear hk
      go_simp
      exact k _ _ (Chg.refl _ _) f60
    refine Obs.cons (some (61, true)) (by kernel_rfl) ?_ ?_
    · refine Ob.yes (fun _ _ h => h) fun a w hR hk K k => ?_
      obtain ⟨_, e0, f0⟩ := hk 0 (by decide)
      clear hk
      go_simp
      exact k _ _ (Chg.refl _ _) f0
    refine Obs.cons (some (61, true)) (by kernel_rfl) ?_ ?_
    · refine Ob.yes (fun _ _ h => h) fun a w hR hk K k => ?_
      obtain ⟨_, e1, f1⟩ := hk 1 (by decide)
      clear hk
      go_simp
      exact k _ _ (Chg.refl _ _) f1
    refine Obs.cons (some (61, true)) (by kernel_rfl) ?_ ?_
    · refine Ob.yes (fun _ _ h => h) fun a w hR hk K k => ?_
      obtain ⟨_, e2, f2⟩ := hk 2 (by decide)
      clear hk
      go_simp
      exact k _ _ (Chg.refl _ _) f2
    refine Obs.cons (some (61, true)) (by kernel_rfl) ?_ ?_
    · refine Ob.yes (fun _ _ h => h) fun a w hR hk K k => ?_
      obtain ⟨_, e62, f62⟩ := hk 62 (by decide)
      obtain ⟨_, e63, f63⟩ := hk 63 (by decide)
      obtain ⟨_, e64, f64⟩ := hk 64 (by decide)
      clear hk
      obtain ⟨a0, c0, rfl, l0, b0⟩ := f62
      obtain ⟨a1, c1, rfl, l1, b1⟩ := f63
      obtain ⟨a2, c2, rfl, l2, b2⟩ := f64
      go_simp
      refine (good_at _ _ _ _ _ _ _ _ _ key b t _ h1 h2 (by omega) rfl rfl rfl b0 b1 b2).mono ?_
      rintro e w2 ⟨rfl, hc⟩
      exact k _ _ hc rfl
    refine Obs.cons (some (61, true)) (by kernel_rfl) ?_ ?_
    · refine Ob.yes (fun _ _ h => h) fun a w hR hk K k => ?_
      obtain ⟨_, e7, f7⟩ := hk 7 (by decide)
      clear hk
      go_simp
      exact k _ _ (Chg.refl _ _) f7
    refine Obs.cons (some (61, true)) (by kernel_rfl) ?_ ?_
    · refine Ob.yes (fun _ _ h => h) fun a w hR hk K k => ?_
      obtain ⟨_, e66, f66⟩ := hk 66 (by decide)
      clear hk
      go_simp
      exact k _ _ (Chg.refl _ _) f66
    refine Obs.cons (some (67, true)) (by kernel_rfl) ?_ ?_
    · refine Ob.yes (fun _ _ h => h) fun a w hR hk K k => ?_
      obtain ⟨_, e2, f2⟩ := hk 2 (by decide)
      clear hk
      go_simp
      exact k _ _ (Chg.refl _ _) f2
    refine Obs.cons (some (67, true)) (by kernel_rfl) ?_ ?_
    · refine Ob.yes (fun _ _ h => h) fun a w hR hk K k => ?_
      obtain ⟨_, e68, f68⟩ := hk 68 (by decide)
      clear hk
      obtain ⟨a0, c0, rfl, l0, b0⟩ := f68
      have hcv := conv_bytes b0
      go_simp
      exact k _ _ (Chg.refl _ _) rfl
    refine Obs.cons (some (67, true)) (by kernel_rfl) ?_ ?_
    · refine Ob.yes (fun _ _ h => h) fun a w hR hk K k => ?_
      obtain ⟨_, e8, f8⟩ := hk 8 (by decide)
      clear hk
      go_simp
      exact k _ _ (Chg.refl _ _) f8
    refine Obs.cons (some (67, true)) (by kernel_rfl) ?_ ?_
    · refine Ob.yes (fun _ _ h => h) fun a w hR hk K k => ?_
      obtain ⟨_, e69, rfl⟩ := hk 69 (by decide)
      obtain ⟨_, e70, rfl⟩ := hk 70 (by decide)
      clear hk
      go_simp
      exact k _ _ (Chg.refl _ _) rfl
    refine Obs.cons (some (61, true)) (by kernel_rfl) ?_ ?_
    · refine Ob.yes (fun _ _ h => h) fun a w hR hk K k => ?_
      obtain ⟨_, e67, rfl⟩ := hk 67 (by decide)
      obtain ⟨_, e71, rfl⟩ := hk 71 (by decide)
      clear hk
      go_simp
      exact k _ _ (Chg.refl _ _) (congrArg Value.bool (beq_swap t (tagOf key b)))
    refine Obs.cons (some (61, true)) (by kernel_rfl) ?_ ?_
    · refine Ob.yes (fun _ _ h => h) fun a w hR hk K k => ?_
      obtain ⟨_, e65, rfl⟩ := hk 65 (by decide)
      obtain ⟨_, e72, rfl⟩ := hk 72 (by decide)
      clear hk
      go_simp
      exact k _ _ (Chg.refl _ _) rfl
    refine Obs.cons none (by kernel_rfl) ?_ ?_
    · refine Ob.plain fun a w hR hk K k => ?_
      obtain ⟨_, e61, rfl⟩ := hk 61 (by decide)
      obtain ⟨_, e73, rfl⟩ := hk 73 (by decide)
      clear hk
      go_simp
      exact k _ _ (Chg.refl _ _) rfl
    refine Obs.cons none (by kernel_rfl) ?_ ?_
    · refine Ob.plain fun a w hR hk K k => ?_
      obtain ⟨_, e74, f74⟩ := hk 74 (by decide)
      clear hk
      go_simp
      exact k _ _ (Chg.refl _ _) f74
    refine Obs.cons (some (75, true)) (by kernel_rfl) ?_ ?_
    · refine Ob.yes (fun _ _ h => h) fun a w hR hk K k => ?_
      obtain ⟨_, e0, f0⟩ := hk 0 (by decide)
      clear hk
      go_simp
      exact k _ _ (Chg.refl _ _) f0
    refine Obs.cons (some (75, true)) (by kernel_rfl) ?_ ?_
    · refine Ob.yes (fun _ _ h => h) fun a w hR hk K k => ?_
      obtain ⟨_, e1, f1⟩ := hk 1 (by decide)
      clear hk
      go_simp
      exact k _ _ (Chg.refl _ _) f1
    refine Obs.cons (some (75, true)) (by kernel_rfl) ?_ ?_
    · refine Ob.yes (fun _ _ h => h) fun a w hR hk K k => ?_
      obtain ⟨_, e8, f8⟩ := hk 8 (by decide)
      clear hk
      go_simp
      exact k _ _ (Chg.refl _ _) f8
    refine Obs.cons (some (75, true)) (by kernel_rfl) ?_ ?_
    · refine Ob.yes (fun _ _ h => h) fun a w hR hk K k => ?_
      obtain ⟨_, e78, rfl⟩ := hk 78 (by decide)
      clear hk
      have hwl : (tagOf key b).length ≤ 8 := by simp [tagOf_length]
      have hcv := conv_str (tagOf key b) w
      go_simp
      exact k _ _ (((Chg.refl _ w).alloc _).drew) ⟨_, _, rfl, rfl, (bytes_of (tagOf key b) w _ (grownCap_ge w (tagOf key b).length 0 5) (grownCap_le_maxLen w (tagOf key b).length 0 5 (by unfold maxLen; omega)) _).mono (fun _ _ => trivial)⟩
    refine Obs.cons (some (75, true)) (by kernel_rfl) ?_ ?_
    · refine Ob.yes (fun _ _ h => h) fun a w hR hk K k => ?_
      obtain ⟨_, e76, f76⟩ := hk 76 (by decide)
      obtain ⟨_, e77, f77⟩ := hk 77 (by decide)
      obtain ⟨_, e79, f79⟩ := hk 79 (by decide)
      clear hk
      obtain ⟨a0, c0, rfl, l0, b0⟩ := f76
      obtain ⟨a1, c1, rfl, l1, b1⟩ := f77
      obtain ⟨a2, c2, rfl, l2, b2⟩ := f79
      go_simp
      refine (good_at _ _ _ _ _ _ _ _ _ key b (tagOf key b) _ h1 h2 (by omega) rfl rfl rfl b0 b1 b2).mono ?_
      rintro e w2 ⟨rfl, hc⟩
      exact k _ _ hc (congrArg Value.bool (beq_self_eq_true _))
    refine Obs.cons (some (75, true)) (by kernel_rfl) ?_ ?_
    · refine Ob.yes (fun _ _ h => h) fun a w hR hk K k => ?_
      obtain ⟨_, e7, f7⟩ := hk 7 (by decide)
      clear hk
      go_simp
      exact k _ _ (Chg.refl _ _) f7
    refine Obs.cons (some (75, true)) (by kernel_rfl) ?_ ?_
    · refine Ob.yes (fun _ _ h => h) fun a w hR hk K k => ?_
      obtain ⟨_, e80, rfl⟩ := hk 80 (by decide)
      obtain ⟨_, e81, rfl⟩ := hk 81 (by decide)
      clear hk
      go_simp
      exact k _ _ (Chg.refl _ _) rfl
    refine Obs.cons none (by kernel_rfl) ?_ ?_
    · refine Ob.plain fun a w hR hk K k => ?_
      obtain ⟨_, e75, rfl⟩ := hk 75 (by decide)
      obtain ⟨_, e82, rfl⟩ := hk 82 (by decide)
      clear hk
      go_simp
      exact k _ _ (Chg.refl _ _) rfl
    refine Obs.cons none (by kernel_rfl) ?_ ?_
    · refine Ob.plain fun a w hR hk K k => ?_
      obtain ⟨_, e83, f83⟩ := hk 83 (by decide)
      clear hk
      go_simp
      exact k _ _ (Chg.refl _ _) f83
    exact Obs.nil
  case fin =>
    intro vals w9 hc9 hv
    have h6 : vals 6 = .bool true := hv 6 (by decide)
    simp only [putAll, List.setIfInBounds_toArray, List.set_cons_zero, List.set_cons_succ, h6]
    go_wp2
    go_ret
    exact ⟨rfl, hc'.trans hc9 (fun _ _ h => h)⟩

def makesSpecsNil (key b t : List UInt8) : List Spec := [.bytes key.length key, .bytes b.length b, .bytes t.length t, .any, .any, .any, .eq (.bool true), .eq (.bool false), .eq (.string ⟨([] : List UInt8).toArray⟩), .any, .any, .any, .any, .any, .any, .any, .any, .any, .any, .any, .any, .any, .any, .any, .any, .any, .any, .any, .any, .any, .any, .any, .any, .any, .any, .any, .any, .any, .bytes key.length key, .bytes b.length b, .bytes t.length t, .parts3 key b t, .eq (.int .u64 (sumOf (key ++ b ++ t) : Nat)), .bytes key.length key, .eq (.string ⟨key.toArray⟩), .bytes b.length b, .eq (.string ⟨b.toArray⟩), .eq (.string ⟨(key ++ b).toArray⟩), .bytes t.length t, .eq (.string ⟨t.toArray⟩), .eq (.string ⟨(key ++ b ++ t).toArray⟩), .eq (.int .u64 (sumOf (key ++ b ++ t) : Nat)), .eq (.bool true), .eq (.bool true), .bytes key.length key, .bytes b.length b, .bytes ([] : List UInt8).length ([] : List UInt8), .eq (.string ⟨([] : List UInt8).toArray⟩), .eq (.string ⟨([] : List UInt8).toArray⟩), .eq (.bool true), .eq (.bool true), .eq (.bool true), .bytes key.length key, .bytes b.length b, .bytes t.length t, .eq (.bool (false && (([] : List UInt8) == t))), .eq (.bool false), .eq (.bool false), .any, .any, .any, .any, .eq (.bool (false && (([] : List UInt8) == t))), .eq (.bool true), .eq (.bool true), .eq (.bool true), .bytes key.length key, .bytes b.length b, .eq (.string ⟨([] : List UInt8).toArray⟩), .bytes ([] : List UInt8).length ([] : List UInt8), .eq (.bool false), .eq (.bool false), .eq (.bool true), .eq (.bool true)]

set_option maxRecDepth 100000 in
set_option maxHeartbeats 4000000 in
theorem makes_Nil {D : Nat → Prop} (a0 a1 a2 : Option Addr) (c0 c1 c2 : Nat) (key b t : List UInt8) (w : World) (h0 : key.length = 0) (hkl : key.length ≤ 100) (hbl : b.length ≤ 2000) (htl : t.length ≤ 100)
    (k0 : BytesAt D w (.slice a0 key.length c0) key) (k1 : BytesAt D w (.slice a1 b.length c1) b) (k2 : BytesAt D w (.slice a2 t.length c2) t) :
    Calls Try.prog 7 #[.slice a0 key.length c0, .slice a1 b.length c1, .slice a2 t.length c2] w fun e w' => e = .returned (.bool true) ∧ Chg (fun _ => False) w w' := by
  have e1 : decide (100 < (key.length : Int)) = false := by simp; omega
  have e2 : decide (2000 < (b.length : Int)) = false := by simp; omega
  have e3 : decide (100 < (t.length : Int)) = false := by simp; omega
  have d1 : decide (1 ≤ (key.length : Int)) = false := by simp; omega
  have hw : key.length = 0 ∨ 32 < key.length := .inl h0
  have HW := hid hw
  clear hw
  have hle : key.length < 1 := by omega
  clear h0
  go_enter Try.func7, Try.ntmps7
  go_wp2_with fail
  refine (first_any _).mono ?_
  rintro e w1 ⟨rfl, hc⟩
  replace k0 := k0.keep hc (fun _ _ => id)
  replace k1 := k1.keep hc (fun _ _ => id)
  replace k2 := k2.keep hc (fun _ _ => id)
  go_wp2_with fail
  have k0' := k0
  have k1' := k1
  have k2' := k2
  have hc' := hc
  clear k0 k1 k2 hc
  refine wp_region_specs (makesSpecsNil key b t) [38, 39, 40, 41, 42, 43, 44, 45, 46, 47, 48, 49, 50, 51, 52, 53, 54, 55, 56, 57, 58, 59, 60, 61, 62, 63, 64, 65, 66, 67, 68, 69, 70, 71, 72, 73, 74, 75, 76, 77, 78, 79, 80, 81, 82, 83, 6] [0, 1, 2, 7, 8] (by kernel_rfl) (by kernel_rfl) (by rfl) (by kernel_rfl) ?start ?obs ?fin
  case start =>
    simp only [List.forall_mem_cons]
    exact ⟨⟨_, rfl, _, _, rfl, rfl, k0'.mono (fun _ _ => trivial)⟩, ⟨_, rfl, _, _, rfl, rfl, k1'.mono (fun _ _ => trivial)⟩, ⟨_, rfl, _, _, rfl, rfl, k2'.mono (fun _ _ => trivial)⟩, ⟨_, rfl, rfl⟩, ⟨_, rfl, rfl⟩, fun _ h => by cases h⟩
  case obs =>
    clear k0' k1' k2' hc' e1 e2 e3 d1
    refine Obs.cons none (by kernel_rfl) ?_ ?_
    · refine Ob.plain fun a w hR hk K k => ?_
      obtain ⟨_, e0, f0⟩ := hk 0 (by decide)
      clear hk
      go_simp
      exact k _ _ (Chg.refl _ _) f0
    refine Obs.cons none (by kernel_rfl) ?_ ?_
    · refine Ob.plain fun a w hR hk K k => ?_
      obtain ⟨_, e1, f1⟩ := hk 1 (by decide)
      clear hk
      go_simp
      exact k _ _ (Chg.refl _ _) f1
    refine Obs.cons none (by kernel_rfl) ?_ ?_
    · refine Ob.plain fun a w hR hk K k => ?_
      obtain ⟨_, e2, f2⟩ := hk 2 (by decide)
      clear hk
      go_simp
      exact k _ _ (Chg.refl _ _) f2
    refine Obs.cons none (by kernel_rfl) ?_ ?_
    · refine Ob.plain fun a w hR hk K k => ?_
      obtain ⟨_, e38, f38⟩ := hk 38 (by decide)
      obtain ⟨_, e39, f39⟩ := hk 39 (by decide)
      obtain ⟨_, e40, f40⟩ := hk 40 (by decide)
      clear hk
      obtain ⟨a0, c0, rfl, l0, b0⟩ := f38
      obtain ⟨a1, c1, rfl, l1, b1⟩ := f39
      obtain ⟨a2, c2, rfl, l2, b2⟩ := f40
      go_simp
      exact k _ _ ((Chg.refl _ _).alloc _) ⟨_, rfl, parts3_new w _ _ _ b0 b1 b2 (by omega) (by omega) (by omega)⟩
    refine Obs.cons none (by kernel_rfl) ?_ ?_
    · refine Ob.plain fun a w hR hk K k => ?_
      obtain ⟨_, e41, f41⟩ := hk 41 (by decide)
      clear hk
      obtain ⟨ao, rfl, hp⟩ := f41
      go_simp
      refine (sum_any (ls := [key, b, t]) _ _ _ (by simp) hp).mono ?_
      rintro e w2 ⟨rfl, rfl⟩
      exact k _ _ (Chg.refl _ _) (congrArg (fun l => Value.int .u64 ((sumOf l : Nat) : Int)) (by simp))
    refine Obs.cons none (by kernel_rfl) ?_ ?_
    · refine Ob.plain fun a w hR hk K k => ?_
      obtain ⟨_, e0, f0⟩ := hk 0 (by decide)
      clear hk
      go_simp
      exact k _ _ (Chg.refl _ _) f0
    refine Obs.cons none (by kernel_rfl) ?_ ?_
    · refine Ob.plain fun a w hR hk K k => ?_
      obtain ⟨_, e43, f43⟩ := hk 43 (by decide)
      clear hk
      obtain ⟨a0, c0, rfl, l0, b0⟩ := f43
      have hcv := conv_bytes b0
      go_simp
      exact k _ _ (Chg.refl _ _) rfl
    refine Obs.cons none (by kernel_rfl) ?_ ?_
    · refine Ob.plain fun a w hR hk K k => ?_
      obtain ⟨_, e1, f1⟩ := hk 1 (by decide)
      clear hk
      go_simp
      exact k _ _ (Chg.refl _ _) f1
    refine Obs.cons none (by kernel_rfl) ?_ ?_
    · refine Ob.plain fun a w hR hk K k => ?_
      obtain ⟨_, e45, f45⟩ := hk 45 (by decide)
      clear hk
      obtain ⟨a0, c0, rfl, l0, b0⟩ := f45
      have hcv := conv_bytes b0
      go_simp
      exact k _ _ (Chg.refl _ _) rfl
    refine Obs.cons none (by kernel_rfl) ?_ ?_
    · refine Ob.plain fun a w hR hk K k => ?_
      obtain ⟨_, e44, rfl⟩ := hk 44 (by decide)
      obtain ⟨_, e46, rfl⟩ := hk 46 (by decide)
      clear hk
      have hb1 : ¬ 9223372036854775807 < key.length + b.length := by omega
      go_simp
      exact k _ _ (Chg.refl _ _) (congrArg Value.string (ByteArray.mk_append_mk _ _))
    refine Obs.cons none (by kernel_rfl) ?_ ?_
    · refine Ob.plain fun a w hR hk K k => ?_
      obtain ⟨_, e2, f2⟩ := hk 2 (by decide)
      clear hk
      go_simp
      exact k _ _ (Chg.refl _ _) f2
    refine Obs.cons none (by kernel_rfl) ?_ ?_
    · refine Ob.plain fun a w hR hk K k => ?_
      obtain ⟨_, e48, f48⟩ := hk 48 (by decide)
      clear hk
      obtain ⟨a0, c0, rfl, l0, b0⟩ := f48
      have hcv := conv_bytes b0
      go_simp
      exact k _ _ (Chg.refl _ _) rfl
    refine Obs.cons none (by kernel_rfl) ?_ ?_
    · refine Ob.plain fun a w hR hk K k => ?_
      obtain ⟨_, e47, rfl⟩ := hk 47 (by decide)
      obtain ⟨_, e49, rfl⟩ := hk 49 (by decide)
      clear hk
      have hul : ¬ 9223372036854775807 < (key ++ b).length + t.length := by simp; omega
      obtain ⟨u, hu⟩ : ∃ u, u = key ++ b := ⟨_, rfl⟩
      rw [← hu] at e47 hul
      have HU := hid hu
      clear hu
      go_simp
      exact k _ _ (Chg.refl _ _) (congrArg Value.string ((ByteArray.mk_append_mk u t).trans (by rw [HU.out])))
    refine Obs.cons none (by kernel_rfl) ?_ ?_
    · refine Ob.plain fun a w hR hk K k => ?_
      obtain ⟨_, e50, rfl⟩ := hk 50 (by decide)
      clear hk
      have hul : (key ++ b ++ t).length ≤ 9223372036854775807 := by simp; omega
      obtain ⟨u, hu⟩ : ∃ u, u = key ++ b ++ t := ⟨_, rfl⟩
      rw [← hu] at e50 hul
      have HU := hid hu
      clear hu
      go_simp
      refine (refsum_any ⟨u.toArray⟩ _ (by show u.toArray.size ≤ _; simpa using hul)).mono ?_
      rintro e w2 ⟨rfl, rfl⟩
      exact k _ _ (Chg.refl _ _) (congrArg (fun l => Value.int .u64 ((sumOf l : Nat) : Int)) HU.out)
    refine Obs.cons none (by kernel_rfl) ?_ ?_
    · refine Ob.plain fun a w hR hk K k => ?_
      obtain ⟨_, e42, rfl⟩ := hk 42 (by decide)
      obtain ⟨_, e51, rfl⟩ := hk 51 (by decide)
      clear hk
      go_simp
      exact k _ _ (Chg.refl _ _) rfl
    refine Obs.cons none (by kernel_rfl) ?_ ?_
    · refine Ob.plain fun a w hR hk K k => ?_
      obtain ⟨_, e52, f52⟩ := hk 52 (by decide)
      clear hk
      go_simp
      exact k _ _ (Chg.refl _ _) f52
    refine Obs.cons (some (53, true)) (by kernel_rfl) ?_ ?_
    · refine Ob.yes (fun _ _ h => h) fun a w hR hk K k => ?_
      obtain ⟨_, e0, f0⟩ := hk 0 (by decide)
      clear hk
      go_simp
      exact k _ _ (Chg.refl _ _) f0
    refine Obs.cons (some (53, true)) (by kernel_rfl) ?_ ?_
    · refine Ob.yes (fun _ _ h => h) fun a w hR hk K k => ?_
      obtain ⟨_, e1, f1⟩ := hk 1 (by decide)
      clear hk
      go_simp
      exact k _ _ (Chg.refl _ _) f1
    refine Obs.cons (some (53, true)) (by kernel_rfl) ?_ ?_
    · refine Ob.yes (fun _ _ h => h) fun a w hR hk K k => ?_
      obtain ⟨_, e54, f54⟩ := hk 54 (by decide)
      obtain ⟨_, e55, f55⟩ := hk 55 (by decide)
      clear hk
      obtain ⟨a0, c0, rfl, l0, b0⟩ := f54
      obtain ⟨a1, c1, rfl, l1, b1⟩ := f55
      go_simp
      refine (make_no _ _ _ _ _ HW.out (by omega)).mono ?_
      rintro e w2 ⟨rfl, rfl⟩
      exact k _ _ (Chg.refl _ _) ⟨none, 0, rfl, rfl, BytesAt.nil _ _⟩
    refine Obs.cons (some (53, true)) (by kernel_rfl) ?_ ?_
    · refine Ob.yes (fun _ _ h => h) fun a w hR hk K k => ?_
      obtain ⟨_, e56, f56⟩ := hk 56 (by decide)
      clear hk
      obtain ⟨a0, c0, rfl, l0, b0⟩ := f56
      have hcv : (convert 25 9 (.slice a0 0 c0)).run Try.prog w = .ok (.string ⟨#[]⟩) w := conv_bytes b0
      go_simp
      exact k _ _ (Chg.refl _ _) rfl
    refine Obs.cons (some (53, true)) (by kernel_rfl) ?_ ?_
    · refine Ob.yes (fun _ _ h => h) fun a w hR hk K k => ?_
      obtain ⟨_, e8, f8⟩ := hk 8 (by decide)
      clear hk
      go_simp
      exact k _ _ (Chg.refl _ _) f8
    refine Obs.cons (some (53, true)) (by kernel_rfl) ?_ ?_
    · refine Ob.yes (fun _ _ h => h) fun a w hR hk K k => ?_
      obtain ⟨_, e57, rfl⟩ := hk 57 (by decide)
      obtain ⟨_, e58, rfl⟩ := hk 58 (by decide)
      clear hk
      go_simp
      exact k _ _ (Chg.refl _ _) rfl
    refine Obs.cons none (by kernel_rfl) ?_ ?_
    · refine Ob.plain fun a w hR hk K k => ?_
      obtain ⟨_, e53, rfl⟩ := hk 53 (by decide)
      obtain ⟨_, e59, rfl⟩ := hk 59 (by decide)
      clear hk
      go_simp
      exact k _ _ (Chg.refl _ _) rfl
    refine Obs.cons none (by kernel_rfl) ?_ ?_
    · refine Ob.plain fun a w hR hk K k => ?_
      obtain ⟨_, e60, f60⟩ := hk 60 (by decide)
      clear hk
      go_simp
      exact k _ _ (Chg.refl _ _) f60
    refine Obs.cons (some (61, true)) (by kernel_rfl) ?_ ?_
    · refine Ob.yes (fun _ _ h => h) fun a w hR hk K k => ?_
      obtain ⟨_, e0, f0⟩ := hk 0 (by decide)
      clear hk
      go_simp
      exact k _ _ (Chg.refl _ _) f0
    refine Obs.cons (some (61, true)) (by kernel_rfl) ?_ ?_
    · refine Ob.yes (fun _ _ h => h) fun a w hR hk K k => ?_
      obtain ⟨_, e1, f1⟩ := hk 1 (by decide)
      clear hk
      go_simp
      exact k _ _ (Chg.refl _ _) f1
    refine Obs.cons (some (61, true)) (by kernel_rfl) ?_ ?_
    · refine Ob.yes (fun _ _ h => h) fun a w hR hk K k => ?_
      obtain ⟨_, e2, f2⟩ := hk 2 (by decide)
      clear hk
      go_simp
      exact k _ _ (Chg.refl _ _) f2
    refine Obs.cons (some (61, true)) (by kernel_rfl) ?_ ?_
    · refine Ob.yes (fun _ _ h => h) fun a w hR hk K k => ?_
      obtain ⟨_, e62, f62⟩ := hk 62 (by decide)
      obtain ⟨_, e63, f63⟩ := hk 63 (by decide)
      obtain ⟨_, e64, f64⟩ := hk 64 (by decide)
      clear hk
      obtain ⟨a0, c0, rfl, l0, b0⟩ := f62
      obtain ⟨a1, c1, rfl, l1, b1⟩ := f63
      obtain ⟨a2, c2, rfl, l2, b2⟩ := f64
      go_simp
      refine (good_no _ _ _ _ _ _ HW.out (by omega)).mono ?_
      rintro e w2 ⟨rfl, rfl⟩
      exact k _ _ (Chg.refl _ _) rfl
    refine Obs.cons (some (61, true)) (by kernel_rfl) ?_ ?_
    · refine Ob.yes (fun _ _ h => h) fun a w hR hk K k => ?_
      obtain ⟨_, e7, f7⟩ := hk 7 (by decide)
      clear hk
      go_simp
      exact k _ _ (Chg.refl _ _) f7
    refine Obs.cons (some (61, true)) (by kernel_rfl) ?_ ?_
    · refine Ob.yes (fun _ _ h => h) fun a w hR hk K k => ?_
      obtain ⟨_, e66, f66⟩ := hk 66 (by decide)
      clear hk
      go_simp
      exact k _ _ (Chg.refl _ _) f66
    refine Obs.cons (some (67, true)) (by kernel_rfl) ?_ ?_
    · exact Ob.no (fun _ _ h => h) (Chg.refl _) (fun _ _ => trivial)
    refine Obs.cons (some (67, true)) (by kernel_rfl) ?_ ?_
    · exact Ob.no (fun _ _ h => h) (Chg.refl _) (fun _ _ => trivial)
    refine Obs.cons (some (67, true)) (by kernel_rfl) ?_ ?_
    · exact Ob.no (fun _ _ h => h) (Chg.refl _) (fun _ _ => trivial)
    refine Obs.cons (some (67, true)) (by kernel_rfl) ?_ ?_
    · exact Ob.no (fun _ _ h => h) (Chg.refl _) (fun _ _ => trivial)
    refine Obs.cons (some (61, true)) (by kernel_rfl) ?_ ?_
    · refine Ob.yes (fun _ _ h => h) fun a w hR hk K k => ?_
      obtain ⟨_, e67, rfl⟩ := hk 67 (by decide)
      obtain ⟨_, e71, f71⟩ := hk 71 (by decide)
      clear hk
      go_simp
      exact k _ _ (Chg.refl _ _) rfl
    refine Obs.cons (some (61, true)) (by kernel_rfl) ?_ ?_
    · refine Ob.yes (fun _ _ h => h) fun a w hR hk K k => ?_
      obtain ⟨_, e65, rfl⟩ := hk 65 (by decide)
      obtain ⟨_, e72, rfl⟩ := hk 72 (by decide)
      clear hk
      go_simp
      exact k _ _ (Chg.refl _ _) rfl
    refine Obs.cons none (by kernel_rfl) ?_ ?_
    · refine Ob.plain fun a w hR hk K k => ?_
      obtain ⟨_, e61, rfl⟩ := hk 61 (by decide)
      obtain ⟨_, e73, rfl⟩ := hk 73 (by decide)
      clear hk
      go_simp
      exact k _ _ (Chg.refl _ _) rfl
    refine Obs.cons none (by kernel_rfl) ?_ ?_
    · refine Ob.plain fun a w hR hk K k => ?_
      obtain ⟨_, e74, f74⟩ := hk 74 (by decide)
      clear hk
      go_simp
      exact k _ _ (Chg.refl _ _) f74
    refine Obs.cons (some (75, true)) (by kernel_rfl) ?_ ?_
    · refine Ob.yes (fun _ _ h => h) fun a w hR hk K k => ?_
      obtain ⟨_, e0, f0⟩ := hk 0 (by decide)
      clear hk
      go_simp
      exact k _ _ (Chg.refl _ _) f0
    refine Obs.cons (some (75, true)) (by kernel_rfl) ?_ ?_
    · refine Ob.yes (fun _ _ h => h) fun a w hR hk K k => ?_
      obtain ⟨_, e1, f1⟩ := hk 1 (by decide)
      clear hk
      go_simp
      exact k _ _ (Chg.refl _ _) f1
    refine Obs.cons (some (75, true)) (by kernel_rfl) ?_ ?_
    · refine Ob.yes (fun _ _ h => h) fun a w hR hk K k => ?_
      obtain ⟨_, e8, f8⟩ := hk 8 (by decide)
      clear hk
      go_simp
      exact k _ _ (Chg.refl _ _) f8
    refine Obs.cons (some (75, true)) (by kernel_rfl) ?_ ?_
    · refine Ob.yes (fun _ _ h => h) fun a w hR hk K k => ?_
      obtain ⟨_, e78, rfl⟩ := hk 78 (by decide)
      clear hk
      have hwl : ([] : List UInt8).length ≤ 8 := by simp
      have hcv := conv_str ([] : List UInt8) w
      go_simp
      exact k _ _ (((Chg.refl _ w).alloc _).drew) ⟨_, _, rfl, rfl, (bytes_of ([] : List UInt8) w _ (grownCap_ge w ([] : List UInt8).length 0 5) (grownCap_le_maxLen w ([] : List UInt8).length 0 5 (by unfold maxLen; omega)) _).mono (fun _ _ => trivial)⟩
    refine Obs.cons (some (75, true)) (by kernel_rfl) ?_ ?_
    · refine Ob.yes (fun _ _ h => h) fun a w hR hk K k => ?_
      obtain ⟨_, e76, f76⟩ := hk 76 (by decide)
      obtain ⟨_, e77, f77⟩ := hk 77 (by decide)
      obtain ⟨_, e79, f79⟩ := hk 79 (by decide)
      clear hk
      obtain ⟨a0, c0, rfl, l0, b0⟩ := f76
      obtain ⟨a1, c1, rfl, l1, b1⟩ := f77
      obtain ⟨a2, c2, rfl, l2, b2⟩ := f79
      go_simp
      refine (good_no _ _ _ _ _ _ HW.out (by omega)).mono ?_
      rintro e w2 ⟨rfl, rfl⟩
      exact k _ _ (Chg.refl _ _) rfl
    refine Obs.cons (some (75, true)) (by kernel_rfl) ?_ ?_
    · refine Ob.yes (fun _ _ h => h) fun a w hR hk K k => ?_
      obtain ⟨_, e7, f7⟩ := hk 7 (by decide)
      clear hk
      go_simp
      exact k _ _ (Chg.refl _ _) f7
    refine Obs.cons (some (75, true)) (by kernel_rfl) ?_ ?_
    · refine Ob.yes (fun _ _ h => h) fun a w hR hk K k => ?_
      obtain ⟨_, e80, rfl⟩ := hk 80 (by decide)
      obtain ⟨_, e81, rfl⟩ := hk 81 (by decide)
      clear hk
      go_simp
      exact k _ _ (Chg.refl _ _) rfl
    refine Obs.cons none (by kernel_rfl) ?_ ?_
    · refine Ob.plain fun a w hR hk K k => ?_
      obtain ⟨_, e75, rfl⟩ := hk 75 (by decide)
      obtain ⟨_, e82, rfl⟩ := hk 82 (by decide)
      clear hk
      go_simp
      exact k _ _ (Chg.refl _ _) rfl
    refine Obs.cons none (by kernel_rfl) ?_ ?_
    · refine Ob.plain fun a w hR hk K k => ?_
      obtain ⟨_, e83, f83⟩ := hk 83 (by decide)
      clear hk
      go_simp
      exact k _ _ (Chg.refl _ _) f83
    exact Obs.nil
  case fin =>
    intro vals w9 hc9 hv
    have h6 : vals 6 = .bool true := hv 6 (by decide)
    simp only [putAll, List.setIfInBounds_toArray, List.set_cons_zero, List.set_cons_succ, h6]
    go_wp2
    go_ret
    exact ⟨rfl, hc'.trans hc9 (fun _ _ h => h)⟩

def makesSpecsLong (key b t : List UInt8) : List Spec := [.bytes key.length key, .bytes b.length b, .bytes t.length t, .any, .any, .any, .eq (.bool true), .eq (.bool false), .eq (.string ⟨([] : List UInt8).toArray⟩), .any, .any, .any, .any, .any, .any, .any, .any, .any, .any, .any, .any, .any, .any, .any, .any, .any, .any, .any, .any, .any, .any, .any, .any, .any, .any, .any, .any, .any, .bytes key.length key, .bytes b.length b, .bytes t.length t, .parts3 key b t, .eq (.int .u64 (sumOf (key ++ b ++ t) : Nat)), .bytes key.length key, .eq (.string ⟨key.toArray⟩), .bytes b.length b, .eq (.string ⟨b.toArray⟩), .eq (.string ⟨(key ++ b).toArray⟩), .bytes t.length t, .eq (.string ⟨t.toArray⟩), .eq (.string ⟨(key ++ b ++ t).toArray⟩), .eq (.int .u64 (sumOf (key ++ b ++ t) : Nat)), .eq (.bool true), .eq (.bool true), .bytes key.length key, .bytes b.length b, .bytes ([] : List UInt8).length ([] : List UInt8), .eq (.string ⟨([] : List UInt8).toArray⟩), .eq (.string ⟨([] : List UInt8).toArray⟩), .eq (.bool true), .eq (.bool true), .eq (.bool true), .bytes key.length key, .bytes b.length b, .bytes t.length t, .eq (.bool (false && (([] : List UInt8) == t))), .eq (.bool false), .eq (.bool false), .any, .any, .any, .any, .eq (.bool (false && (([] : List UInt8) == t))), .eq (.bool true), .eq (.bool true), .eq (.bool true), .bytes key.length key, .bytes b.length b, .eq (.string ⟨([] : List UInt8).toArray⟩), .bytes ([] : List UInt8).length ([] : List UInt8), .eq (.bool false), .eq (.bool false), .eq (.bool true), .eq (.bool true)]

set_option maxRecDepth 100000 in
set_option maxHeartbeats 4000000 in
theorem makes_Long {D : Nat → Prop} (a0 a1 a2 : Option Addr) (c0 c1 c2 : Nat) (key b t : List UInt8) (w : World) (h0 : 32 < key.length) (hkl : key.length ≤ 100) (hbl : b.length ≤ 2000) (htl : t.length ≤ 100)
    (k0 : BytesAt D w (.slice a0 key.length c0) key) (k1 : BytesAt D w (.slice a1 b.length c1) b) (k2 : BytesAt D w (.slice a2 t.length c2) t) :
    Calls Try.prog 7 #[.slice a0 key.length c0, .slice a1 b.length c1, .slice a2 t.length c2] w fun e w' => e = .returned (.bool true) ∧ Chg (fun _ => False) w w' := by
  have e1 : decide (100 < (key.length : Int)) = false := by simp; omega
  have e2 : decide (2000 < (b.length : Int)) = false := by simp; omega
  have e3 : decide (100 < (t.length : Int)) = false := by simp; omega
  have d1 : decide ((key.length : Int) ≤ 32) = false := by simp; omega
  have hw : key.length = 0 ∨ 32 < key.length := .inr h0
  have HW := hid hw
  clear hw
  go_enter Try.func7, Try.ntmps7
  go_wp2_with fail
  refine (first_any _).mono ?_
  rintro e w1 ⟨rfl, hc⟩
  replace k0 := k0.keep hc (fun _ _ => id)
  replace k1 := k1.keep hc (fun _ _ => id)
  replace k2 := k2.keep hc (fun _ _ => id)
  go_wp2_with fail
  have k0' := k0
  have k1' := k1
  have k2' := k2
  have hc' := hc
  clear k0 k1 k2 hc
  refine wp_region_specs (makesSpecsLong key b t) [38, 39, 40, 41, 42, 43, 44, 45, 46, 47, 48, 49, 50, 51, 52, 53, 54, 55, 56, 57, 58, 59, 60, 61, 62, 63, 64, 65, 66, 67, 68, 69, 70, 71, 72, 73, 74, 75, 76, 77, 78, 79, 80, 81, 82, 83, 6] [0, 1, 2, 7, 8] (by kernel_rfl) (by kernel_rfl) (by rfl) (by kernel_rfl) ?start ?obs ?fin
  case start =>
    simp only [List.forall_mem_cons]
    exact ⟨⟨_, rfl, _, _, rfl, rfl, k0'.mono (fun _ _ => trivial)⟩, ⟨_, rfl, _, _, rfl, rfl, k1'.mono (fun _ _ => trivial)⟩, ⟨_, rfl, _, _, rfl, rfl, k2'.mono (fun _ _ => trivial)⟩, ⟨_, rfl, rfl⟩, ⟨_, rfl, rfl⟩, fun _ h => by cases h⟩
  case obs =>
    clear k0' k1' k2' hc' e1 e2 e3 d1
    refine Obs.cons none (by kernel_rfl) ?_ ?_
    · refine Ob.plain fun a w hR hk K k => ?_
      obtain ⟨_, e0, f0⟩ := hk 0 (by decide)
      clear hk
      go_simp
      exact k _ _ (Chg.refl _ _) f0
    refine Obs.cons none (by kernel_rfl) ?_ ?_
    · refine Ob.plain fun a w hR hk K k => ?_
      obtain ⟨_, e1, f1⟩ := hk 1 (by decide)
      clear hk
      go_simp
      exact k _ _ (Chg.refl _ _) f1
    refine Obs.cons none (by kernel_rfl) ?_ ?_
    · refine Ob.plain fun a w hR hk K k => ?_
      obtain ⟨_, e2, f2⟩ := hk 2 (by decide)
      clear hk
      go_simp
      exact k _ _ (Chg.refl _ _) f2
    refine Obs.cons none (by kernel_rfl) ?_ ?_
    · refine Ob.plain fun a w hR hk K k => ?_
      obtain ⟨_, e38, f38⟩ := hk 38 (by decide)
      obtain ⟨_, e39, f39⟩ := hk 39 (by decide)
      obtain ⟨_, e40, f40⟩ := hk 40 (by decide)
      clear hk
      obtain ⟨a0, c0, rfl, l0, b0⟩ := f38
      obtain ⟨a1, c1, rfl, l1, b1⟩ := f39
      obtain ⟨a2, c2, rfl, l2, b2⟩ := f40
      go_simp
      exact k _ _ ((Chg.refl _ _).alloc _) ⟨_, rfl, parts3_new w _ _ _ b0 b1 b2 (by omega) (by omega) (by omega)⟩
    refine Obs.cons none (by kernel_rfl) ?_ ?_
    · refine Ob.plain fun a w hR hk K k => ?_
      obtain ⟨_, e41, f41⟩ := hk 41 (by decide)
      clear hk
      obtain ⟨ao, rfl, hp⟩ := f41
      go_simp
      refine (sum_any (ls := [key, b, t]) _ _ _ (by simp) hp).mono ?_
      rintro e w2 ⟨rfl, rfl⟩
      exact k _ _ (Chg.refl _ _) (congrArg (fun l => Value.int .u64 ((sumOf l : Nat) : Int)) (by simp))
    refine Obs.cons none (by kernel_rfl) ?_ ?_
    · refine Ob.plain fun a w hR hk K k => ?_
      obtain ⟨_, e0, f0⟩ := hk 0 (by decide)
      clear hk
      go_simp
      exact k _ _ (Chg.refl _ _) f0
    refine Obs.cons none (by kernel_rfl) ?_ ?_
    · refine Ob.plain fun a w hR hk K k => ?_
      obtain ⟨_, e43, f43⟩ := hk 43 (by decide)
      clear hk
      obtain ⟨a0, c0, rfl, l0, b0⟩ := f43
      have hcv := conv_bytes b0
      go_simp
      exact k _ _ (Chg.refl _ _) rfl
    refine Obs.cons none (by kernel_rfl) ?_ ?_
    · refine Ob.plain fun a w hR hk K k => ?_
      obtain ⟨_, e1, f1⟩ := hk 1 (by decide)
      clear hk
      go_simp
      exact k _ _ (Chg.refl _ _) f1
    refine Obs.cons none (by kernel_rfl) ?_ ?_
    · refine Ob.plain fun a w hR hk K k => ?_
      obtain ⟨_, e45, f45⟩ := hk 45 (by decide)
      clear hk
      obtain ⟨a0, c0, rfl, l0, b0⟩ := f45
      have hcv := conv_bytes b0
      go_simp
      exact k _ _ (Chg.refl _ _) rfl
    refine Obs.cons none (by kernel_rfl) ?_ ?_
    · refine Ob.plain fun a w hR hk K k => ?_
      obtain ⟨_, e44, rfl⟩ := hk 44 (by decide)
      obtain ⟨_, e46, rfl⟩ := hk 46 (by decide)
      clear hk
      have hb1 : ¬ 9223372036854775807 < key.length + b.length := by omega
      go_simp
      exact k _ _ (Chg.refl _ _) (congrArg Value.string (ByteArray.mk_append_mk _ _))
    refine Obs.cons none (by kernel_rfl) ?_ ?_
    · refine Ob.plain fun a w hR hk K k => ?_
      obtain ⟨_, e2, f2⟩ := hk 2 (by decide)
      clear hk
      go_simp
      exact k _ _ (Chg.refl _ _) f2
    refine Obs.cons none (by kernel_rfl) ?_ ?_
    · refine Ob.plain fun a w hR hk K k => ?_
      obtain ⟨_, e48, f48⟩ := hk 48 (by decide)
      clear hk
      obtain ⟨a0, c0, rfl, l0, b0⟩ := f48
      have hcv := conv_bytes b0
      go_simp
      exact k _ _ (Chg.refl _ _) rfl
    refine Obs.cons none (by kernel_rfl) ?_ ?_
    · refine Ob.plain fun a w hR hk K k => ?_
      obtain ⟨_, e47, rfl⟩ := hk 47 (by decide)
      obtain ⟨_, e49, rfl⟩ := hk 49 (by decide)
      clear hk
      have hul : ¬ 9223372036854775807 < (key ++ b).length + t.length := by simp; omega
      obtain ⟨u, hu⟩ : ∃ u, u = key ++ b := ⟨_, rfl⟩
      rw [← hu] at e47 hul
      have HU := hid hu
      clear hu
      go_simp
      exact k _ _ (Chg.refl _ _) (congrArg Value.string ((ByteArray.mk_append_mk u t).trans (by rw [HU.out])))
    refine Obs.cons none (by kernel_rfl) ?_ ?_
    · refine Ob.plain fun a w hR hk K k => ?_
      obtain ⟨_, e50, rfl⟩ := hk 50 (by decide)
      clear hk
      have hul : (key ++ b ++ t).length ≤ 9223372036854775807 := by simp; omega
      obtain ⟨u, hu⟩ : ∃ u, u = key ++ b ++ t := ⟨_, rfl⟩
      rw [← hu] at e50 hul
      have HU := hid hu
      clear hu
      go_simp
      refine (refsum_any ⟨u.toArray⟩ _ (by show u.toArray.size ≤ _; simpa using hul)).mono ?_
      rintro e w2 ⟨rfl, rfl⟩
      exact k _ _ (Chg.refl _ _) (congrArg (fun l => Value.int .u64 ((sumOf l : Nat) : Int)) HU.out)
    refine Obs.cons none (by kernel_rfl) ?_ ?_
    · refine Ob.plain fun a w hR hk K k => ?_
      obtain ⟨_, e42, rfl⟩ := hk 42 (by decide)
      obtain ⟨_, e51, rfl⟩ := hk 51 (by decide)
      clear hk
      go_simp
      exact k _ _ (Chg.refl _ _) rfl
    refine Obs.cons none (by kernel_rfl) ?_ ?_
    · refine Ob.plain fun a w hR hk K k => ?_
      obtain ⟨_, e52, f52⟩ := hk 52 (by decide)
      clear hk
      go_simp
      exact k _ _ (Chg.refl _ _) f52
    refine Obs.cons (some (53, true)) (by kernel_rfl) ?_ ?_
    · refine Ob.yes (fun _ _ h => h) fun a w hR hk K k => ?_
      obtain ⟨_, e0, f0⟩ := hk 0 (by decide)
      clear hk
      go_simp
      exact k _ _ (Chg.refl _ _) f0
    refine Obs.cons (some (53, true)) (by kernel_rfl) ?_ ?_
    · refine Ob.yes (fun _ _ h => h) fun a w hR hk K k => ?_
      obtain ⟨_, e1, f1⟩ := hk 1 (by decide)
      clear hk
      go_simp
      exact k _ _ (Chg.refl _ _) f1
    refine Obs.cons (some (53, true)) (by kernel_rfl) ?_ ?_
    · refine Ob.yes (fun _ _ h => h) fun a w hR hk K k => ?_
      obtain ⟨_, e54, f54⟩ := hk 54 (by decide)
      obtain ⟨_, e55, f55⟩ := hk 55 (by decide)
      clear hk
      obtain ⟨a0, c0, rfl, l0, b0⟩ := f54
      obtain ⟨a1, c1, rfl, l1, b1⟩ := f55
      go_simp
      refine (make_no _ _ _ _ _ HW.out (by omega)).mono ?_
      rintro e w2 ⟨rfl, rfl⟩
      exact k _ _ (Chg.refl _ _) ⟨none, 0, rfl, rfl, BytesAt.nil _ _⟩
    refine Obs.cons (some (53, true)) (by kernel_rfl) ?_ ?_
    · refine Ob.yes (fun _ _ h => h) fun a w hR hk K k => ?_
      obtain ⟨_, e56, f56⟩ := hk 56 (by decide)
      clear hk
      obtain ⟨a0, c0, rfl, l0, b0⟩ := f56
      have hcv : (convert 25 9 (.slice a0 0 c0)).run Try.prog w = .ok (.string ⟨#[]⟩) w := conv_bytes b0
      go_simp
      exact k _ _ (Chg.refl _ _) rfl
    refine Obs.cons (some (53, true)) (by kernel_rfl) ?_ ?_
    · refine Ob.yes (fun _ _ h => h) fun a w hR hk K k => ?_
      obtain ⟨_, e8, f8⟩ := hk 8 (by decide)
      clear hk
      go_simp
      exact k _ _ (Chg.refl _ _) f8
    refine Obs.cons (some (53, true)) (by kernel_rfl) ?_ ?_
    · refine Ob.yes (fun _ _ h => h) fun a w hR hk K k => ?_
      obtain ⟨_, e57, rfl⟩ := hk 57 (by decide)
      obtain ⟨_, e58, rfl⟩ := hk 58 (by decide)
      clear hk
      go_simp
      exact k _ _ (Chg.refl _ _) rfl
    refine Obs.cons none (by kernel_rfl) ?_ ?_
    · refine Ob.plain fun a w hR hk K k => ?_
      obtain ⟨_, e53, rfl⟩ := hk 53 (by decide)
      obtain ⟨_, e59, rfl⟩ := hk 59 (by decide)
      clear hk
      go_simp
      exact k _ _ (Chg.refl _ _) rfl
    refine Obs.cons none (by kernel_rfl) ?_ ?_
    · refine Ob.plain fun a w hR hk K k => ?_
      obtain ⟨_, e60, f60⟩ := hk 60 (by decide)
      clear hk
      go_simp
      exact k _ _ (Chg.refl _ _) f60
    refine Obs.cons (some (61, true)) (by kernel_rfl) ?_ ?_
    · refine Ob.yes (fun _ _ h => h) fun a w hR hk K k => ?_
      obtain ⟨_, e0, f0⟩ := hk 0 (by decide)
      clear hk
      go_simp
      exact k _ _ (Chg.refl _ _) f0
    refine Obs.cons (some (61, true)) (by kernel_rfl) ?_ ?_
    · refine Ob.yes (fun _ _ h => h) fun a w hR hk K k => ?_
      obtain ⟨_, e1, f1⟩ := hk 1 (by decide)
      clear hk
      go_simp
      exact k _ _ (Chg.refl _ _) f1
    refine Obs.cons (some (61, true)) (by kernel_rfl) ?_ ?_
    · refine Ob.yes (fun _ _ h => h) fun a w hR hk K k => ?_
      obtain ⟨_, e2, f2⟩ := hk 2 (by decide)
      clear hk
      go_simp
      exact k _ _ (Chg.refl _ _) f2
    refine Obs.cons (some (61, true)) (by kernel_rfl) ?_ ?_
    · refine Ob.yes (fun _ _ h => h) fun a w hR hk K k => ?_
      obtain ⟨_, e62, f62⟩ := hk 62 (by decide)
      obtain ⟨_, e63, f63⟩ := hk 63 (by decide)
      obtain ⟨_, e64, f64⟩ := hk 64 (by decide)
      clear hk
      obtain ⟨a0, c0, rfl, l0, b0⟩ := f62
      obtain ⟨a1, c1, rfl, l1, b1⟩ := f63
      obtain ⟨a2, c2, rfl, l2, b2⟩ := f64
      go_simp
      refine (good_no _ _ _ _ _ _ HW.out (by omega)).mono ?_
      rintro e w2 ⟨rfl, rfl⟩
      exact k _ _ (Chg.refl _ _) rfl
    refine Obs.cons (some (61, true)) (by kernel_rfl) ?_ ?_
    · refine Ob.yes (fun _ _ h => h) fun a w hR hk K k => ?_
      obtain ⟨_, e7, f7⟩ := hk 7 (by decide)
      clear hk
      go_simp
      exact k _ _ (Chg.refl _ _) f7
    refine Obs.cons (some (61, true)) (by kernel_rfl) ?_ ?_
    · refine Ob.yes (fun _ _ h => h) fun a w hR hk K k => ?_
      obtain ⟨_, e66, f66⟩ := hk 66 (by decide)
      clear hk
      go_simp
      exact k _ _ (Chg.refl _ _) f66
    refine Obs.cons (some (67, true)) (by kernel_rfl) ?_ ?_
    · exact Ob.no (fun _ _ h => h) (Chg.refl _) (fun _ _ => trivial)
    refine Obs.cons (some (67, true)) (by kernel_rfl) ?_ ?_
    · exact Ob.no (fun _ _ h => h) (Chg.refl _) (fun _ _ => trivial)
    refine Obs.cons (some (67, true)) (by kernel_rfl) ?_ ?_
    · exact Ob.no (fun _ _ h => h) (Chg.refl _) (fun _ _ => trivial)
    refine Obs.cons (some (67, true)) (by kernel_rfl) ?_ ?_
    · exact Ob.no (fun _ _ h => h) (Chg.refl _) (fun _ _ => trivial)
    refine Obs.cons (some (61, true)) (by kernel_rfl) ?_ ?_
    · refine Ob.yes (fun _ _ h => h) fun a w hR hk K k => ?_
      obtain ⟨_, e67, rfl⟩ := hk 67 (by decide)
      obtain ⟨_, e71, f71⟩ := hk 71 (by decide)
      clear hk
      go_simp
      exact k _ _ (Chg.refl _ _) rfl
    refine Obs.cons (some (61, true)) (by kernel_rfl) ?_ ?_
    · refine Ob.yes (fun _ _ h => h) fun a w hR hk K k => ?_
      obtain ⟨_, e65, rfl⟩ := hk 65 (by decide)
      obtain ⟨_, e72, rfl⟩ := hk 72 (by decide)
      clear hk
      go_simp
      exact k _ _ (Chg.refl _ _) rfl
    refine Obs.cons none (by kernel_rfl) ?_ ?_
    · refine Ob.plain fun a w hR hk K k => ?_
      obtain ⟨_, e61, rfl⟩ := hk 61 (by decide)
      obtain ⟨_, e73, rfl⟩ := hk 73 (by decide)
      clear hk
      go_simp
      exact k _ _ (Chg.refl _ _) rfl
    refine Obs.cons none (by kernel_rfl) ?_ ?_
    · refine Ob.plain fun a w hR hk K k => ?_
      obtain ⟨_, e74, f74⟩ := hk 74 (by decide)
      clear hk
      go_simp
      exact k _ _ (Chg.refl _ _) f74
    refine Obs.cons (some (75, true)) (by kernel_rfl) ?_ ?_
    · refine Ob.yes (fun _ _ h => h) fun a w hR hk K k => ?_
      obtain ⟨_, e0, f0⟩ := hk 0 (by decide)
      clear hk
      go_simp
      exact k _ _ (Chg.refl _ _) f0
    refine Obs.cons (some (75, true)) (by kernel_rfl) ?_ ?_
    · refine Ob.yes (fun _ _ h => h) fun a w hR hk K k => ?_
      obtain ⟨_, e1, f1⟩ := hk 1 (by decide)
      clear hk
      go_simp
      exact k _ _ (Chg.refl _ _) f1
    refine Obs.cons (some (75, true)) (by kernel_rfl) ?_ ?_
    · refine Ob.yes (fun _ _ h => h) fun a w hR hk K k => ?_
      obtain ⟨_, e8, f8⟩ := hk 8 (by decide)
      clear hk
      go_simp
      exact k _ _ (Chg.refl _ _) f8
    refine Obs.cons (some (75, true)) (by kernel_rfl) ?_ ?_
    · refine Ob.yes (fun _ _ h => h) fun a w hR hk K k => ?_
      obtain ⟨_, e78, rfl⟩ := hk 78 (by decide)
      clear hk
      have hwl : ([] : List UInt8).length ≤ 8 := by simp
      have hcv := conv_str ([] : List UInt8) w
      go_simp
      exact k _ _ (((Chg.refl _ w).alloc _).drew) ⟨_, _, rfl, rfl, (bytes_of ([] : List UInt8) w _ (grownCap_ge w ([] : List UInt8).length 0 5) (grownCap_le_maxLen w ([] : List UInt8).length 0 5 (by unfold maxLen; omega)) _).mono (fun _ _ => trivial)⟩
    refine Obs.cons (some (75, true)) (by kernel_rfl) ?_ ?_
    · refine Ob.yes (fun _ _ h => h) fun a w hR hk K k => ?_
      obtain ⟨_, e76, f76⟩ := hk 76 (by decide)
      obtain ⟨_, e77, f77⟩ := hk 77 (by decide)
      obtain ⟨_, e79, f79⟩ := hk 79 (by decide)
      clear hk
      obtain ⟨a0, c0, rfl, l0, b0⟩ := f76
      obtain ⟨a1, c1, rfl, l1, b1⟩ := f77
      obtain ⟨a2, c2, rfl, l2, b2⟩ := f79
      go_simp
      refine (good_no _ _ _ _ _ _ HW.out (by omega)).mono ?_
      rintro e w2 ⟨rfl, rfl⟩
      exact k _ _ (Chg.refl _ _) rfl
    refine Obs.cons (some (75, true)) (by kernel_rfl) ?_ ?_
    · refine Ob.yes (fun _ _ h => h) fun a w hR hk K k => ?_
      obtain ⟨_, e7, f7⟩ := hk 7 (by decide)
      clear hk
      go_simp
      exact k _ _ (Chg.refl _ _) f7
    refine Obs.cons (some (75, true)) (by kernel_rfl) ?_ ?_
    · refine Ob.yes (fun _ _ h => h) fun a w hR hk K k => ?_
      obtain ⟨_, e80, rfl⟩ := hk 80 (by decide)
      obtain ⟨_, e81, rfl⟩ := hk 81 (by decide)
      clear hk
      go_simp
      exact k _ _ (Chg.refl _ _) rfl
    refine Obs.cons none (by kernel_rfl) ?_ ?_
    · refine Ob.plain fun a w hR hk K k => ?_
      obtain ⟨_, e75, rfl⟩ := hk 75 (by decide)
      obtain ⟨_, e82, rfl⟩ := hk 82 (by decide)
      clear hk
      go_simp
      exact k _ _ (Chg.refl _ _) rfl
    refine Obs.cons none (by kernel_rfl) ?_ ?_
    · refine Ob.plain fun a w hR hk K k => ?_
      obtain ⟨_, e83, f83⟩ := hk 83 (by decide)
      clear hk
      go_simp
      exact k _ _ (Chg.refl _ _) f83
    exact Obs.nil
  case fin =>
    intro vals w9 hc9 hv
    have h6 : vals 6 = .bool true := hv 6 (by decide)
    simp only [putAll, List.setIfInBounds_toArray, List.set_cons_zero, List.set_cons_succ, h6]
    go_wp2
    go_ret
    exact ⟨rfl, hc'.trans hc9 (fun _ _ h => h)⟩

end Go.Proofs.Ytjipfbggoeiakaa
