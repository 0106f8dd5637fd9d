/- Texts that the proof leans on, in one: GreatK, CheckK, RefKBytes, TagMath, KeyMath, KeyCells, RefKey, TagRef, RefCheck, RefSign, RefCredStep, RefCredGet, RefSGet, RefKGet. -/
import Derived.Test.YtjaplnainlbldaaUc8
import Derived.Test.YtjaplnainlbldaaUc46
import Derived.Test.YtjaplnainlbldaaUc47
import Derived.Test.YtjaplnainlbldaaUc11
import Derived.Test.YtjaplnainlbldaaUc43
import Derived.Test.YtjaplnainlbldaaUc3
import Derived.Test.YtjaplnainlbldaaUc1
import Derived.Test.YtjaplnainlbldaaUc6
import Derived.Test.YtjaplnainlbldaaUc7
import Derived.Test.YtjaplnainlbldaaUc2
import Derived.Test.YtjaplnainlbldaaUc5
import Derived.Test.YtjaplnainlbldaaUc31
/- Law 9's Great, and the document's Same, of layer 9. -/
namespace Go.Proofs.Ytjaplnainlbldaa
open Go.RowKit

/-- How great a step is. -/
def sizeSt (s : StepB) : Nat := sizeC s.c + s.f.2.length + s.f.1.1.length + s.f.1.2.length
def totalSt : List StepB → Nat
  | [] => 0
  | s :: l => sizeSt s + totalSt l
theorem totalSt_snoc (a : List StepB) (s : StepB) : totalSt (a ++ [s]) = totalSt a + sizeSt s := by
  induction a with
  | nil => simp [totalSt]
  | cons x l ih => rw [List.cons_append, totalSt, totalSt, ih]; omega
theorem totalSt_len (a : List StepB) : a.length * 20 ≤ totalSt a := by
  induction a with
  | nil => simp [totalSt]
  | cons x l ih => rw [totalSt, List.length_cons, sizeSt, sizeC]; omega
theorem totalSt_take (a : List StepB) (k : Nat) : totalSt (a.take k) ≤ totalSt a := by
  induction a generalizing k with
  | nil => simp [totalSt]
  | cons x l ih =>
    cases k with
    | zero => simp [totalSt]
    | succ k => rw [List.take_succ_cons, totalSt, totalSt]; have := ih k; omega
theorem totalC_one9 (c : CredB) : totalC [c] = sizeC c := by simp [totalC]
theorem creds_oneK {w : World} {g : Nat} {c : CredB} {ty : TypeId} {f : Nat × Nat} (h : w.heap[g]? = some (.cells (credBox c) ty f)) (hs : credShort c 9223372036854775807) : CredsAt (fun k => k = g) w (some ⟨g, 0, none⟩) [c] := fun i hi => by
  have : i = 0 := by simp at hi; omega
  subst this
  exact ⟨g, 0, rfl, rfl, cred_at_blk h, hs⟩

/-- A row of one credential. -/
def Spec.credK (c : CredB) : Spec := ⟨fun v w => ∃ b, v = .slice (some ⟨b, 0, none⟩) 1 1 ∧ w.heap[b]? = some (.cells (credBox c) 36 (0, 0)), fun _ _ _ hc ⟨b, h1, h2⟩ => ⟨b, h1, blk_keep h2 hc id⟩⟩

def gkSpecs (X m : Nat) (s : StepB) : List Spec := [.any, .any, .any, .eq (.int .i64 (m + sizeSt s : Nat)), .any, .eq (.pointer (some ⟨X, 0, none⟩)), .any, .any, .any, .any, .any, .any, .eq (.int .i64 (m : Nat)), .eq (.pointer (some ⟨X, 0, none⟩)), .eq (.agg #[.int .i64 s.c.kind, .string ⟨s.c.head.1.toArray⟩, .string ⟨s.c.head.2.toArray⟩, .string ⟨s.c.who.toArray⟩, .string ⟨s.c.b.1.toArray⟩, .string ⟨s.c.b.2.toArray⟩, .string ⟨s.c.c.1.toArray⟩, .string ⟨s.c.c.2.toArray⟩, .string ⟨s.c.w2.toArray⟩]), .credK s.c, .eq (.int .i64 (sizeC s.c : Nat)), .eq (.pointer (some ⟨X, 9, none⟩)), .eq (.pointer (some ⟨X, 11, none⟩)), .eq (.string ⟨s.f.2.toArray⟩), .eq (.int .i64 (s.f.2.length : Nat)), .eq (.int .i64 (sizeC s.c + s.f.2.length : Nat)), .eq (.pointer (some ⟨X, 9, none⟩)), .eq (.pointer (some ⟨X, 9, none⟩)), .eq (.pointer (some ⟨X, 9, none⟩)), .eq (.string ⟨s.f.1.1.toArray⟩), .eq (.int .i64 (s.f.1.1.length : Nat)), .eq (.int .i64 (sizeC s.c + s.f.2.length + s.f.1.1.length : Nat)), .eq (.pointer (some ⟨X, 9, none⟩)), .eq (.pointer (some ⟨X, 9, none⟩)), .eq (.pointer (some ⟨X, 10, none⟩)), .eq (.string ⟨s.f.1.2.toArray⟩), .eq (.int .i64 (s.f.1.2.length : Nat)), .eq (.int .i64 (sizeC s.c + s.f.2.length + s.f.1.1.length + s.f.1.2.length : Nat)), .eq (.int .i64 (m + sizeSt s : Nat)), .any, .any]

set_option maxRecDepth 100000 in
set_option maxHeartbeats 4000000 in
theorem great9 {D : Nat → Prop} (ao : Option Addr) (cp : Nat) (ls : List StepB) (w : World) (hn : totalSt ls ≤ 4503599627370496) (h : StepsAt D w ao ls) :
    Calls Try.prog 16 #[.slice ao ls.length cp] w fun e w' => e = .returned (.int .i64 (totalSt ls)) ∧ Chg (fun _ => False) w w' := by
  have hl := totalSt_len ls
  have HX := hid h
  clear h
  go_enter Try.func16, Try.ntmps16
  go_wp2
  go_loopw [3, 8] (fun n i wr => ∃ k m : Nat, k ≤ ls.length ∧ i = .int .i64 k ∧ n = .int .i64 m ∧ Hid (m = totalSt (ls.take k)) ∧ m ≤ 4503599627370496 ∧ Hid (Chg (fun _ => False) w wr)) (fun _ i _ => ls.length - (intOf i).toNat)
  case atStart => exact ⟨0, 0, Nat.zero_le _, rfl, rfl, hid (by simp [totalSt]), by omega, hid (Chg.refl _ _)⟩
  case round =>
    obtain ⟨k, m, hk, rfl, rfl, hm, hml, hc⟩ := hrel
    by_cases hlt : k < ls.length
    · obtain ⟨b, off, hao, _, ⟨⟨a0, a1, a2, a3, a4, a5, a6, a7, a8⟩, ⟨b0, b1, b2⟩⟩, hss⟩ := (HX.out.keep hc.out (fun _ _ => id)) k hlt
      have htk : totalSt (ls.take (k + 1)) = totalSt (ls.take k) + sizeSt ls[k] := by rw [List.take_succ_eq_append_getElem hlt, totalSt_snoc]
      have hle := totalSt_take ls (k + 1)
      have HNX : Hid (m + sizeSt ls[k] = totalSt (ls.take (k + 1))) := hid (by rw [htk, hm.out])
      have hsz : m + sizeSt ls[k] ≤ 4503599627370496 := by rw [HNX.out]; omega
      have HKL := hid hlt
      clear htk hle hm
      generalize ls[k] = s at *
      have HB : Hid (m + (sizeC s.c + s.f.2.length + s.f.1.1.length + s.f.1.2.length) ≤ 4503599627370496) := hid hsz
      change wr.cell? ⟨b, off + k * 12 + 10, none⟩ = _ at b1
      change wr.cell? ⟨b, off + k * 12 + 11, none⟩ = _ at b2
      have hSb : (wr.alloc (.cells #[.int .i64 s.c.kind, .string ⟨s.c.head.1.toArray⟩, .string ⟨s.c.head.2.toArray⟩, .string ⟨s.c.who.toArray⟩, .string ⟨s.c.b.1.toArray⟩, .string ⟨s.c.b.2.toArray⟩, .string ⟨s.c.c.1.toArray⟩, .string ⟨s.c.c.2.toArray⟩, .string ⟨s.c.w2.toArray⟩, .string ⟨s.f.1.1.toArray⟩, .string ⟨s.f.1.2.toArray⟩, .string ⟨s.f.2.toArray⟩] 43)).heap[wr.heap.size]? = some (.cells (stepBox s) 43 (0, 0)) := heap_alloc_new wr _
      have hcA : Chg (fun _ => False) wr (wr.alloc (.cells #[.int .i64 s.c.kind, .string ⟨s.c.head.1.toArray⟩, .string ⟨s.c.head.2.toArray⟩, .string ⟨s.c.who.toArray⟩, .string ⟨s.c.b.1.toArray⟩, .string ⟨s.c.b.2.toArray⟩, .string ⟨s.c.c.1.toArray⟩, .string ⟨s.c.c.2.toArray⟩, .string ⟨s.c.w2.toArray⟩, .string ⟨s.f.1.1.toArray⟩, .string ⟨s.f.1.2.toArray⟩, .string ⟨s.f.2.toArray⟩] 43)) := (Chg.refl _ wr).alloc _
      have HT : Hid ((wr.alloc (.cells #[.int .i64 s.c.kind, .string ⟨s.c.head.1.toArray⟩, .string ⟨s.c.head.2.toArray⟩, .string ⟨s.c.who.toArray⟩, .string ⟨s.c.b.1.toArray⟩, .string ⟨s.c.b.2.toArray⟩, .string ⟨s.c.c.1.toArray⟩, .string ⟨s.c.c.2.toArray⟩, .string ⟨s.c.w2.toArray⟩, .string ⟨s.f.1.1.toArray⟩, .string ⟨s.f.1.2.toArray⟩, .string ⟨s.f.2.toArray⟩] 43)).heap[wr.heap.size]? = some (.cells (stepBox s) 43 (0, 0)) ∧ credShort s.c 9223372036854775807) := hid ⟨hSb, hss.1⟩
      have HC2 := hid (hc.out.trans hcA (fun _ _ h => h))
      clear hSb hcA hc hss
      subst hao
      go_wp2_with fail
      clear a0 a1 a2 a3 a4 a5 a6 a7 a8 b0 b1 b2
      generalize (wr.alloc (.cells #[.int .i64 s.c.kind, .string ⟨s.c.head.1.toArray⟩, .string ⟨s.c.head.2.toArray⟩, .string ⟨s.c.who.toArray⟩, .string ⟨s.c.b.1.toArray⟩, .string ⟨s.c.b.2.toArray⟩, .string ⟨s.c.c.1.toArray⟩, .string ⟨s.c.c.2.toArray⟩, .string ⟨s.c.w2.toArray⟩, .string ⟨s.f.1.1.toArray⟩, .string ⟨s.f.1.2.toArray⟩, .string ⟨s.f.2.toArray⟩] 43)) = w3 at *
      generalize wr.heap.size = X at *
      refine wp_region_specsE (gkSpecs X m s) [12, 13, 14, 15, 16, 17, 18, 19, 20, 21, 22, 23, 24, 25, 26, 27, 28, 29, 30, 31, 32, 33, 34, 3] [5] 3 (.int .i64 m) (by kernel_rfl) (by kernel_rfl) (by rfl) (by rfl) (by kernel_rfl) ?start ?obs ?fin
      case start =>
        simp only [List.forall_mem_cons]; exact ⟨⟨_, rfl, rfl⟩, fun _ h => by cases h⟩
      case obs =>
        refine ObsE.cons none (by kernel_rfl) ?_ ?_
        · refine ObE.plain fun a w hR hk K k9 => ?_
          obtain ⟨_, e3, f3⟩ := hk 3 (by decide)
          clear hk
          go_simp
          exact k9 _ _ (Chg.refl _ _) f3
        refine ObsE.cons none (by kernel_rfl) ?_ ?_
        · refine ObE.plain fun a w hR hk K k9 => ?_
          obtain ⟨_, e5, rfl⟩ := hk 5 (by decide)
          clear hk
          go_simp
          exact k9 _ _ (Chg.refl _ _) rfl
        refine ObsE.cons none (by kernel_rfl) ?_ ?_
        · refine ObE.plain fun a w hR hk K k9 => ?_
          obtain ⟨_, e13, rfl⟩ := hk 13 (by decide)
          clear hk
          obtain ⟨⟨a0, a1, a2, a3, a4, a5, a6, a7, a8⟩, ⟨b0, b1, b2⟩⟩ := step_at_blk (blk_keep HT.out.1 hR id)
          simp only [Nat.zero_add] at a0 a1 a2 a3 a4 a5 a6 a7 a8 b0 b1 b2
          go_simp
          exact k9 _ _ (Chg.refl _ _) rfl
        refine ObsE.cons none (by kernel_rfl) ?_ ?_
        · refine ObE.plain fun a w hR hk K k9 => ?_
          obtain ⟨_, e14, rfl⟩ := hk 14 (by decide)
          clear hk
          have hb := heap_alloc_new w (.cells #[.int .i64 s.c.kind, .string ⟨s.c.head.1.toArray⟩, .string ⟨s.c.head.2.toArray⟩, .string ⟨s.c.who.toArray⟩, .string ⟨s.c.b.1.toArray⟩, .string ⟨s.c.b.2.toArray⟩, .string ⟨s.c.c.1.toArray⟩, .string ⟨s.c.c.2.toArray⟩, .string ⟨s.c.w2.toArray⟩] 36)
          have hc : Chg (fun _ => False) w (w.alloc (.cells #[.int .i64 s.c.kind, .string ⟨s.c.head.1.toArray⟩, .string ⟨s.c.head.2.toArray⟩, .string ⟨s.c.who.toArray⟩, .string ⟨s.c.b.1.toArray⟩, .string ⟨s.c.b.2.toArray⟩, .string ⟨s.c.c.1.toArray⟩, .string ⟨s.c.c.2.toArray⟩, .string ⟨s.c.w2.toArray⟩] 36)) := (Chg.refl _ w).alloc _
          go_simp
          exact k9 _ _ hc ⟨_, rfl, hb⟩
        refine ObsE.cons none (by kernel_rfl) ?_ ?_
        · refine ObE.plain fun a w hR hk K k9 => ?_
          obtain ⟨_, e15, f15⟩ := hk 15 (by decide)
          clear hk
          obtain ⟨b9, rfl, hb9⟩ := f15
          have hq := great_any (some ⟨b9, 0, none⟩) 1 [s.c] w (by have := HB.out; rw [totalC_one9]; omega) (creds_oneK hb9 HT.out.2)
          rw [totalC_one9] at hq
          go_simp
          refine hq.mono ?_
          rintro e w2 ⟨rfl, hc⟩
          exact k9 _ _ hc rfl
        refine ObsE.cons none (by kernel_rfl) ?_ ?_
        · refine ObE.plain fun a w hR hk K k9 => ?_
          obtain ⟨_, e5, rfl⟩ := hk 5 (by decide)
          clear hk
          go_simp
          exact k9 _ _ (Chg.refl _ _) rfl
        refine ObsE.cons none (by kernel_rfl) ?_ ?_
        · refine ObE.plain fun a w hR hk K k9 => ?_
          obtain ⟨_, e17, rfl⟩ := hk 17 (by decide)
          clear hk
          go_simp
          exact k9 _ _ (Chg.refl _ _) rfl
        refine ObsE.cons none (by kernel_rfl) ?_ ?_
        · refine ObE.plain fun a w hR hk K k9 => ?_
          obtain ⟨_, e18, rfl⟩ := hk 18 (by decide)
          clear hk
          obtain ⟨⟨a0, a1, a2, a3, a4, a5, a6, a7, a8⟩, ⟨b0, b1, b2⟩⟩ := step_at_blk (blk_keep HT.out.1 hR id)
          simp only [Nat.zero_add] at a0 a1 a2 a3 a4 a5 a6 a7 a8 b0 b1 b2
          go_simp
          exact k9 _ _ (Chg.refl _ _) rfl
        refine ObsE.cons none (by kernel_rfl) ?_ ?_
        · refine ObE.plain fun a w hR hk K k9 => ?_
          obtain ⟨_, e19, rfl⟩ := hk 19 (by decide)
          clear hk
          go_simp
          exact k9 _ _ (Chg.refl _ _) rfl
        refine ObsE.cons none (by kernel_rfl) ?_ ?_
        · refine ObE.plain fun a w hR hk K k9 => ?_
          obtain ⟨_, e16, rfl⟩ := hk 16 (by decide)
          obtain ⟨_, e20, rfl⟩ := hk 20 (by decide)
          clear hk
          have e1 : IntKind.i64.wrap (((sizeC s.c : Nat) : Int) + ((s.f.2.length : Nat) : Int)) = ((sizeC s.c + s.f.2.length : Nat) : Int) := by rw [IntKind.wrap_i64]; have := HB.out; omega
          go_simp
          exact k9 _ _ (Chg.refl _ _) (by first | rfl | (show Value.int _ _ = Value.int _ _; first | exact congrArg _ e1 | (simp only [Int.natCast_add] at e1 ⊢; first | exact congrArg _ e1 | rw [e1])))
        refine ObsE.cons none (by kernel_rfl) ?_ ?_
        · refine ObE.plain fun a w hR hk K k9 => ?_
          obtain ⟨_, e5, rfl⟩ := hk 5 (by decide)
          clear hk
          go_simp
          exact k9 _ _ (Chg.refl _ _) rfl
        refine ObsE.cons none (by kernel_rfl) ?_ ?_
        · refine ObE.plain fun a w hR hk K k9 => ?_
          obtain ⟨_, e22, rfl⟩ := hk 22 (by decide)
          clear hk
          go_simp
          exact k9 _ _ (Chg.refl _ _) rfl
        refine ObsE.cons none (by kernel_rfl) ?_ ?_
        · refine ObE.plain fun a w hR hk K k9 => ?_
          obtain ⟨_, e23, rfl⟩ := hk 23 (by decide)
          clear hk
          go_simp
          exact k9 _ _ (Chg.refl _ _) rfl
        refine ObsE.cons none (by kernel_rfl) ?_ ?_
        · refine ObE.plain fun a w hR hk K k9 => ?_
          obtain ⟨_, e24, rfl⟩ := hk 24 (by decide)
          clear hk
          obtain ⟨⟨a0, a1, a2, a3, a4, a5, a6, a7, a8⟩, ⟨b0, b1, b2⟩⟩ := step_at_blk (blk_keep HT.out.1 hR id)
          simp only [Nat.zero_add] at a0 a1 a2 a3 a4 a5 a6 a7 a8 b0 b1 b2
          go_simp
          exact k9 _ _ (Chg.refl _ _) rfl
        refine ObsE.cons none (by kernel_rfl) ?_ ?_
        · refine ObE.plain fun a w hR hk K k9 => ?_
          obtain ⟨_, e25, rfl⟩ := hk 25 (by decide)
          clear hk
          go_simp
          exact k9 _ _ (Chg.refl _ _) rfl
        refine ObsE.cons none (by kernel_rfl) ?_ ?_
        · refine ObE.plain fun a w hR hk K k9 => ?_
          obtain ⟨_, e21, rfl⟩ := hk 21 (by decide)
          obtain ⟨_, e26, rfl⟩ := hk 26 (by decide)
          clear hk
          have e1 : IntKind.i64.wrap (((sizeC s.c + s.f.2.length : Nat) : Int) + ((s.f.1.1.length : Nat) : Int)) = ((sizeC s.c + s.f.2.length + s.f.1.1.length : Nat) : Int) := by rw [IntKind.wrap_i64]; have := HB.out; omega
          go_simp
          exact k9 _ _ (Chg.refl _ _) (by first | rfl | (show Value.int _ _ = Value.int _ _; first | exact congrArg _ e1 | (simp only [Int.natCast_add] at e1 ⊢; first | exact congrArg _ e1 | rw [e1])))
        refine ObsE.cons none (by kernel_rfl) ?_ ?_
        · refine ObE.plain fun a w hR hk K k9 => ?_
          obtain ⟨_, e5, rfl⟩ := hk 5 (by decide)
          clear hk
          go_simp
          exact k9 _ _ (Chg.refl _ _) rfl
        refine ObsE.cons none (by kernel_rfl) ?_ ?_
        · refine ObE.plain fun a w hR hk K k9 => ?_
          obtain ⟨_, e28, rfl⟩ := hk 28 (by decide)
          clear hk
          go_simp
          exact k9 _ _ (Chg.refl _ _) rfl
        refine ObsE.cons none (by kernel_rfl) ?_ ?_
        · refine ObE.plain fun a w hR hk K k9 => ?_
          obtain ⟨_, e29, rfl⟩ := hk 29 (by decide)
          clear hk
          go_simp
          exact k9 _ _ (Chg.refl _ _) rfl
        refine ObsE.cons none (by kernel_rfl) ?_ ?_
        · refine ObE.plain fun a w hR hk K k9 => ?_
          obtain ⟨_, e30, rfl⟩ := hk 30 (by decide)
          clear hk
          obtain ⟨⟨a0, a1, a2, a3, a4, a5, a6, a7, a8⟩, ⟨b0, b1, b2⟩⟩ := step_at_blk (blk_keep HT.out.1 hR id)
          simp only [Nat.zero_add] at a0 a1 a2 a3 a4 a5 a6 a7 a8 b0 b1 b2
          go_simp
          exact k9 _ _ (Chg.refl _ _) rfl
        refine ObsE.cons none (by kernel_rfl) ?_ ?_
        · refine ObE.plain fun a w hR hk K k9 => ?_
          obtain ⟨_, e31, rfl⟩ := hk 31 (by decide)
          clear hk
          go_simp
          exact k9 _ _ (Chg.refl _ _) rfl
        refine ObsE.cons none (by kernel_rfl) ?_ ?_
        · refine ObE.plain fun a w hR hk K k9 => ?_
          obtain ⟨_, e27, rfl⟩ := hk 27 (by decide)
          obtain ⟨_, e32, rfl⟩ := hk 32 (by decide)
          clear hk
          have e1 : IntKind.i64.wrap (((sizeC s.c + s.f.2.length + s.f.1.1.length : Nat) : Int) + ((s.f.1.2.length : Nat) : Int)) = ((sizeC s.c + s.f.2.length + s.f.1.1.length + s.f.1.2.length : Nat) : Int) := by rw [IntKind.wrap_i64]; have := HB.out; omega
          go_simp
          exact k9 _ _ (Chg.refl _ _) (by first | rfl | (show Value.int _ _ = Value.int _ _; first | exact congrArg _ e1 | (simp only [Int.natCast_add] at e1 ⊢; first | exact congrArg _ e1 | rw [e1])))
        refine ObsE.cons none (by kernel_rfl) ?_ ?_
        · refine ObE.plain fun a w hR hk K k9 => ?_
          obtain ⟨_, e12, rfl⟩ := hk 12 (by decide)
          obtain ⟨_, e33, rfl⟩ := hk 33 (by decide)
          clear hk
          have hzs : sizeSt s = sizeC s.c + s.f.2.length + s.f.1.1.length + s.f.1.2.length := rfl
          have e1 : IntKind.i64.wrap (((m : Nat) : Int) + ((sizeC s.c + s.f.2.length + s.f.1.1.length + s.f.1.2.length : Nat) : Int)) = ((m + sizeSt s : Nat) : Int) := by rw [IntKind.wrap_i64]; have := HB.out; omega
          go_simp
          exact k9 _ _ (Chg.refl _ _) (by first | rfl | (show Value.int _ _ = Value.int _ _; first | exact congrArg _ e1 | (simp only [Int.natCast_add] at e1 ⊢; first | exact congrArg _ e1 | rw [e1])))
        refine ObsE.cons none (by kernel_rfl) ?_ ?_
        · refine ObE.plain fun a w hR hk K k9 => ?_
          obtain ⟨_, e34, f34⟩ := hk 34 (by decide)
          clear hk
          go_simp
          exact k9 _ _ (Chg.refl _ _) f34
        exact ObsE.nil
      case fin =>
        intro vals w9 hc9 hv
        have h3 : vals 3 = .int .i64 (m + sizeSt s : Nat) := hv 3 (by decide)
        have HC9 := hid (HC2.out.trans hc9 (fun _ _ h => h))
        simp only [putAll, List.setIfInBounds_toArray, List.set_cons_zero, List.set_cons_succ, h3]
        clear hv h3 hc9
        go_wp2
        go_roundw
        case rel => exact ⟨k + 1, m + sizeSt s, by have := HKL.out; omega, by go_num, rfl, HNX, hsz, HC9⟩
        case measure => have := HKL.out; simp [intOf]; omega
    · have hk2 : k = ls.length := by omega
      have hx : m = totalSt ls := by have := hm.out; rwa [hk2, List.take_length] at this
      subst hx
      clear hm
      go_wp2
      go_ret
      exact ⟨rfl, hc.out⟩
end Go.Proofs.Ytjaplnainlbldaa

/- What the laws of layer 9 ask of the program's check: its contracts, as the fields of a structure. -/
namespace Go.Proofs.Ytjaplnainlbldaa
open Go.RowKit

end Go.Proofs.Ytjaplnainlbldaa

/- The contract of the document's Bytes, of layer 9. -/
namespace Go.Proofs.Ytjaplnainlbldaa
open Go.RowKit

theorem run_neqg_roleK (x y : Operand) (a b : RoleB) (w : World) : Sem.run Try.prog (eqGuard BinOp.neq 24 x y (.agg #[.string ⟨a.1.toArray⟩, .string ⟨a.2.toArray⟩]) (.agg #[.string ⟨b.1.toArray⟩, .string ⟨b.2.toArray⟩])) w = .ok () w := by
  go_simp
theorem run_neq_roleK (a b : RoleB) (w : World) : Sem.run Try.prog (binOp BinOp.neq 24 (.agg #[.string ⟨a.1.toArray⟩, .string ⟨a.2.toArray⟩]) (.agg #[.string ⟨b.1.toArray⟩, .string ⟨b.2.toArray⟩])) w = .ok (.bool (!decide (a = b))) w := by
  have : decide (a = b) = decide (a.1 = b.1 ∧ a.2 = b.2) := by simp only [Prod.ext_iff]
  rw [this]
  go_simp
  by_cases h1 : a.1 = b.1 <;> by_cases h2 : a.2 = b.2 <;> simp [h1, h2]
attribute [local go_sem ↓ high] run_neqg_roleK run_neq_roleK

end Go.Proofs.Ytjaplnainlbldaa

/- Plain arithmetic of layer 2's sums and tags: nothing of the program's text. -/
namespace Go.Proofs.Ytjaplnainlbldaa
open Go.RowKit

end Go.Proofs.Ytjaplnainlbldaa

/- Keys and signed credentials: plain words. -/
namespace Go.Proofs.Ytjaplnainlbldaa
open Go.RowKit

/-- Somebody's key. -/
structure KeyB where
  who : List UInt8
  key : List UInt8
  deriving DecidableEq, Inhabited

/-- A credential with its tag. -/
structure SignB where
  c : CredB
  tag : List UInt8
  deriving DecidableEq, Inhabited

/-- The first key of somebody's. -/
def keyAt (l : List KeyB) (o : List UInt8) : Option (List UInt8) := (l.find? (·.who == o)).map (·.key)
def keyOf (l : List KeyB) (o : List UInt8) : List UInt8 := (keyAt l o).getD []
end Go.Proofs.Ytjaplnainlbldaa

/- Keys and signed credentials, as they lie in memory. -/
namespace Go.Proofs.Ytjaplnainlbldaa
open Go.RowKit

/-- The key k lies at two cells from o on; its bytes can be read from blocks of D. -/
structure KeyAt (D : Nat → Prop) (w : World) (b o : Nat) (k : KeyB) : Prop where
  k0 : w.cell? ⟨b, o, none⟩ = some (.string ⟨k.who.toArray⟩)
  k1 : ∃ ka cap, w.cell? ⟨b, o + 1, none⟩ = some (.slice ka k.key.length cap) ∧ BytesAt D w (.slice ka k.key.length cap) k.key
  l0 : k.who.length ≤ 9223372036854775807
  l1 : k.key.length ≤ 9223372036854775807

theorem KeyAt.keep {D S : Nat → Prop} {w w' : World} {b o : Nat} {k : KeyB} (h : KeyAt D w b o k) (hc : Chg S w w') (hb : ¬ S b) (hD : ∀ i, D i → ¬ S i) : KeyAt D w' b o k := by
  obtain ⟨ka, cap, h1, h2⟩ := h.k1
  exact ⟨hc.cell h.k0 hb, ⟨ka, cap, hc.cell h1 hb, h2.keep hc hD⟩, h.l0, h.l1⟩

theorem KeyAt.mono {D E : Nat → Prop} {w : World} {b o : Nat} {k : KeyB} (h : KeyAt D w b o k) (hD : ∀ i, D i → E i) : KeyAt E w b o k := by
  obtain ⟨ka, cap, h1, h2⟩ := h.k1
  exact ⟨h.k0, ⟨ka, cap, h1, h2.mono hD⟩, h.l0, h.l1⟩

/-- The keys ls can be read from the address ao on. -/
def KeysAt (D : Nat → Prop) (w : World) (ao : Option Addr) (ls : List KeyB) : Prop :=
  ∀ i (h : i < ls.length), ∃ b off, ao = some ⟨b, off, none⟩ ∧ D b ∧ KeyAt D w b (off + i * 2) ls[i]

theorem KeysAt.keep {S D : Nat → Prop} {w w' : World} {ao : Option Addr} {ls : List KeyB} (h : KeysAt D w ao ls) (hc : Chg S w w') (hS : ∀ i, D i → ¬ S i) : KeysAt D w' ao ls := fun i hi =>
  let ⟨b, off, h1, h2, h3⟩ := h i hi
  ⟨b, off, h1, h2, h3.keep hc (hS b h2) hS⟩

theorem KeysAt.mono {D D' : Nat → Prop} {w : World} {ao : Option Addr} {ls : List KeyB} (h : KeysAt D w ao ls) (hD : ∀ i, D i → D' i) : KeysAt D' w ao ls := fun i hi =>
  let ⟨b, off, h1, h2, h3⟩ := h i hi
  ⟨b, off, h1, hD b h2, h3.mono hD⟩

theorem KeysAt.nil (D : Nat → Prop) (w : World) (ao : Option Addr) : KeysAt D w ao [] := fun i hi => by simp at hi

/-- The signed credential s lies at ten cells from o on; its tag's bytes can be read from blocks of D. -/
structure SignAt (D : Nat → Prop) (w : World) (b o : Nat) (s : SignB) : Prop where
  cr : CredAt w b o s.c
  tg : ∃ ta cap, w.cell? ⟨b, o + 9, none⟩ = some (.slice ta s.tag.length cap) ∧ BytesAt D w (.slice ta s.tag.length cap) s.tag
  sh : credShort s.c 9223372036854775807
  ln : s.tag.length ≤ 9223372036854775807

theorem SignAt.keep {D S : Nat → Prop} {w w' : World} {b o : Nat} {s : SignB} (h : SignAt D w b o s) (hc : Chg S w w') (hb : ¬ S b) (hD : ∀ i, D i → ¬ S i) : SignAt D w' b o s := by
  obtain ⟨ta, cap, h1, h2⟩ := h.tg
  exact ⟨h.cr.keep hc hb, ⟨ta, cap, hc.cell h1 hb, h2.keep hc hD⟩, h.sh, h.ln⟩

theorem SignAt.mono {D E : Nat → Prop} {w : World} {b o : Nat} {s : SignB} (h : SignAt D w b o s) (hD : ∀ i, D i → E i) : SignAt E w b o s := by
  obtain ⟨ta, cap, h1, h2⟩ := h.tg
  exact ⟨h.cr, ⟨ta, cap, h1, h2.mono hD⟩, h.sh, h.ln⟩

/-- The signed credentials ls can be read from the address ao on. -/
def SignsAt (D : Nat → Prop) (w : World) (ao : Option Addr) (ls : List SignB) : Prop :=
  ∀ i (h : i < ls.length), ∃ b off, ao = some ⟨b, off, none⟩ ∧ D b ∧ SignAt D w b (off + i * 10) ls[i]

theorem SignsAt.keep {S D : Nat → Prop} {w w' : World} {ao : Option Addr} {ls : List SignB} (h : SignsAt D w ao ls) (hc : Chg S w w') (hS : ∀ i, D i → ¬ S i) : SignsAt D w' ao ls := fun i hi =>
  let ⟨b, off, h1, h2, h3⟩ := h i hi
  ⟨b, off, h1, h2, h3.keep hc (hS b h2) hS⟩

theorem SignsAt.mono {D D' : Nat → Prop} {w : World} {ao : Option Addr} {ls : List SignB} (h : SignsAt D w ao ls) (hD : ∀ i, D i → D' i) : SignsAt D' w ao ls := fun i hi =>
  let ⟨b, off, h1, h2, h3⟩ := h i hi
  ⟨b, off, h1, hD b h2, h3.mono hD⟩

theorem SignsAt.nil (D : Nat → Prop) (w : World) (ao : Option Addr) : SignsAt D w ao [] := fun i hi => by simp at hi

/-- A signed credential's ten cells, the tag being the slice v. -/
def signBox (c : CredB) (v : Value) : Array Value :=
  #[.int .i64 c.kind, .string ⟨c.head.1.toArray⟩, .string ⟨c.head.2.toArray⟩, .string ⟨c.who.toArray⟩, .string ⟨c.b.1.toArray⟩, .string ⟨c.b.2.toArray⟩, .string ⟨c.c.1.toArray⟩, .string ⟨c.c.2.toArray⟩, .string ⟨c.w2.toArray⟩, v]
def signV (c : CredB) (v : Value) : Value := .agg (signBox c v)

/-- v is a signed credential's value: its tag can be read. -/
def SignVal (D : Nat → Prop) (w : World) (v : Value) (s : SignB) : Prop :=
  ∃ ta cap, v = signV s.c (.slice ta s.tag.length cap) ∧ BytesAt D w (.slice ta s.tag.length cap) s.tag

theorem SignVal.keep {D S : Nat → Prop} {w w' : World} {v : Value} {s : SignB} (h : SignVal D w v s) (hc : Chg S w w') (hD : ∀ i, D i → ¬ S i) : SignVal D w' v s := by
  obtain ⟨ta, cap, h1, h2⟩ := h
  exact ⟨ta, cap, h1, h2.keep hc hD⟩

end Go.Proofs.Ytjaplnainlbldaa

/- Whose key signs: the contract of the document's key, of layer 6. -/
namespace Go.Proofs.Ytjaplnainlbldaa
open Go.RowKit

end Go.Proofs.Ytjaplnainlbldaa

/- The contract of the document's Make. -/
namespace Go.Proofs.Ytjaplnainlbldaa
open Go.RowKit

end Go.Proofs.Ytjaplnainlbldaa

/- The contract of the document's Check, of layer 6. -/
namespace Go.Proofs.Ytjaplnainlbldaa
open Go.RowKit

end Go.Proofs.Ytjaplnainlbldaa

/- The contract of the document's Sign, of layer 6. -/
namespace Go.Proofs.Ytjaplnainlbldaa
open Go.RowKit

end Go.Proofs.Ytjaplnainlbldaa

/- The document's Get of a role and of a name, of a tape in whatever state; what follows for a credential. -/
namespace Go.Proofs.Ytjaplnainlbldaa
open Go.RowKit

/-- How a tape goes on, when a role is read of it; when a name is. -/
def RStep (l : List UInt8) (e : Int) (r : RoleB) (l' : List UInt8) (e' : Int) : Prop :=
  (e = 0 ∧ roleOk l = true ∧ r = roleOf l ∧ l' = roleRest l ∧ e' = 0) ∨ (e = 0 ∧ roleOk l = false ∧ e' = roleBad l) ∨ (e ≠ 0 ∧ e' = e)
def NStep (l : List UInt8) (e : Int) (s : List UInt8) (l' : List UInt8) (e' : Int) : Prop :=
  (e = 0 ∧ nameOk l = true ∧ s = nameOf l ∧ l' = nameRest l ∧ e' = 0) ∨ (e = 0 ∧ nameOk l = false ∧ e' = nameBad l) ∨ (e ≠ 0 ∧ e' = e)

theorem RStep.ok {l r l' e'} (h : RStep l 0 r l' e') (he : e' = 0) : roleOk l = true ∧ r = roleOf l ∧ l' = roleRest l := by
  rcases h with ⟨_, h1, h2, h3, _⟩ | ⟨_, _, h1⟩ | ⟨h1, _⟩
  · exact ⟨h1, h2, h3⟩
  · exact absurd (h1.symm.trans he) (roleBad_ne l)
  · exact absurd rfl h1
theorem RStep.bad {l r l' e'} (h : RStep l 0 r l' e') (he : e' ≠ 0) : roleOk l = false ∧ e' = roleBad l := by
  rcases h with ⟨_, _, _, _, h1⟩ | ⟨_, h1, h2⟩ | ⟨h1, _⟩
  · exact absurd h1 he
  · exact ⟨h1, h2⟩
  · exact absurd rfl h1
theorem RStep.same {l e r l' e'} (h : RStep l e r l' e') (he : e ≠ 0) : e' = e := by
  rcases h with ⟨h1, _⟩ | ⟨h1, _⟩ | ⟨_, h2⟩
  · exact absurd h1 he
  · exact absurd h1 he
  · exact h2
theorem NStep.ok {l s l' e'} (h : NStep l 0 s l' e') (he : e' = 0) : nameOk l = true ∧ s = nameOf l ∧ l' = nameRest l := by
  rcases h with ⟨_, h1, h2, h3, _⟩ | ⟨_, _, h1⟩ | ⟨h1, _⟩
  · exact ⟨h1, h2, h3⟩
  · exact absurd (h1.symm.trans he) (nameBad_ne l)
  · exact absurd rfl h1
theorem NStep.bad {l s l' e'} (h : NStep l 0 s l' e') (he : e' ≠ 0) : nameOk l = false ∧ e' = nameBad l := by
  rcases h with ⟨_, _, _, _, h1⟩ | ⟨_, h1, h2⟩ | ⟨h1, _⟩
  · exact absurd h1 he
  · exact ⟨h1, h2⟩
  · exact absurd rfl h1
theorem NStep.same {l e s l' e'} (h : NStep l e s l' e') (he : e ≠ 0) : e' = e := by
  rcases h with ⟨h1, _⟩ | ⟨h1, _⟩ | ⟨_, h2⟩
  · exact absurd h1 he
  · exact absurd h1 he
  · exact h2

end Go.Proofs.Ytjaplnainlbldaa

/- The contract of the document's Get of layer 5. -/
namespace Go.Proofs.Ytjaplnainlbldaa
open Go.RowKit

end Go.Proofs.Ytjaplnainlbldaa

/- The contract of the document's Get, of layer 6. -/
namespace Go.Proofs.Ytjaplnainlbldaa
open Go.RowKit

end Go.Proofs.Ytjaplnainlbldaa

/- The contract of the document's Get, of layer 9. -/
namespace Go.Proofs.Ytjaplnainlbldaa
open Go.RowKit

end Go.Proofs.Ytjaplnainlbldaa
