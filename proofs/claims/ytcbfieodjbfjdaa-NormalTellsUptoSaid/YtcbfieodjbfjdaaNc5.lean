/- Layer 11's law's Great. -/
import Derived.Test.YtcbfieodjbfjdaaNc2
import Derived.Test.YtcbfieodjbfjdaaNc4
namespace Go.Proofs.Ytcbfieodjbfjdaa
open Go.RowKit

def fmgSpecs (X m : Nat) (ao2 : Option Addr) (cp2 : Nat) (g : FmB) : List Spec := [.any, .any, .any, .eq (.int .i64 (m + greatF g : Nat)), .any, .eq (.pointer (some ⟨X, 0, none⟩)), .any, .any, .any, .any, .any, .any, .eq (.int .i64 (m : Nat)), .eq (.pointer (some ⟨X, 2, none⟩)), .eq (.pointer (some ⟨X, 2, none⟩)), .eq (.string ⟨g.r.1.toArray⟩), .eq (.int .i64 (g.r.1.length : Nat)), .eq (.pointer (some ⟨X, 2, none⟩)), .eq (.pointer (some ⟨X, 3, none⟩)), .eq (.string ⟨g.r.2.toArray⟩), .eq (.int .i64 (g.r.2.length : Nat)), .eq (.int .i64 (g.r.1.length + g.r.2.length : Nat)), .eq (.int .i64 ((g.r.1.length + g.r.2.length) / 16 : Nat)), .eq (.int .i64 (1 + (g.r.1.length + g.r.2.length) / 16 : Nat)), .eq (.pointer (some ⟨X, 4, none⟩)), .eq (.slice ao2 g.kids.length cp2), .eq (.int .i64 (greatL g.kids : Nat)), .eq (.int .i64 (greatF g : Nat)), .eq (.int .i64 (m + greatF g : Nat)), .any, .any]

theorem greatL_len (l : List FmB) : l.length ≤ greatL l := by
  induction l with
  | nil => simp
  | cons x l ih => rw [greatL, List.length_cons, greatF_eq]; omega
theorem greatL_take (l : List FmB) (j : Nat) : greatL (l.take j) ≤ greatL l := by
  induction l generalizing j with
  | nil => simp [greatL]
  | cons x l ih =>
    cases j with
    | zero => simp [greatL]
    | succ j => rw [List.take_succ_cons, greatL, greatL]; have := ih j; omega
theorem div16 (a b : Nat) (h : a + b ≤ 9223372036854775807) : IntKind.i64.wrap (Int.tdiv ((a + b : Nat) : Int) 16) = (((a + b) / 16 : Nat) : Int) := by
  rw [IntKind.wrap_i64, Int.tdiv_eq_ediv_of_nonneg (by omega)]
  omega

set_option maxRecDepth 100000 in
set_option maxHeartbeats 4000000 in
theorem fm_great {D : Nat → Prop} : ∀ (n : Nat) (ao : Option Addr) (cp : Nat) (ls : List FmB) (w : World), greatL ls ≤ 4503599627370496 → FmsAt D w n ao ls →
    Calls Try.prog 7 #[.slice ao ls.length cp] w fun e w' => e = .returned (.int .i64 (greatL ls)) ∧ Chg (fun _ => False) w w' := by
  intro n
  induction n using Nat.strongRecOn with
  | _ n ih =>
  intro ao cp ls w hn h
  have hl := greatL_len ls
  have HX := hid h
  have HIN := hid ih
  clear h ih
  go_enter Try.func7, Try.ntmps7
  go_wp2
  go_loopw [3, 8] (fun n i wr => ∃ j m : Nat, j ≤ ls.length ∧ i = .int .i64 j ∧ n = .int .i64 m ∧ Hid (m = greatL (ls.take j)) ∧ m ≤ 4503599627370496 ∧ Hid (Chg (fun _ => False) w wr)) (fun _ i _ => ls.length - (intOf i).toNat)
  case atStart => exact ⟨0, 0, Nat.zero_le _, rfl, rfl, hid (by simp [greatL]), by omega, hid (Chg.refl _ _)⟩
  case round =>
    obtain ⟨j, m, hk, rfl, rfl, hm, hml, hc⟩ := hrel
    by_cases hlt : j < ls.length
    · obtain ⟨b, off, hao, _, hat⟩ := (HX.out.keep hc.out (fun _ _ => id)) j hlt
      obtain ⟨d, ao2, cp2, hd, ⟨a0, a1, a2, a3, a4⟩, hok, hz2, hkids⟩ := hat.open_
      have htk : greatL (ls.take (j + 1)) = greatL (ls.take j) + greatF ls[j] := by rw [List.take_succ_eq_append_getElem hlt, greatL_snoc]
      have hle := greatL_take ls (j + 1)
      have HNX : Hid (m + greatF ls[j] = greatL (ls.take (j + 1))) := hid (by rw [htk, hm.out])
      have hsz : m + greatF ls[j] ≤ 4503599627370496 := by rw [HNX.out]; omega
      have hge := greatF_eq ls[j]
      have HKL := hid hlt
      clear htk hle hm
      generalize ls[j] = g at *
      have HB : Hid (1 + (g.r.1.length + g.r.2.length) / 16 + greatL g.kids ≤ 4503599627370496) := hid (by omega)
      have HB2 := hid hsz
      have hSb : (wr.alloc (.cells #[.int .i64 g.op, .int .i64 g.k, .string ⟨g.r.1.toArray⟩, .string ⟨g.r.2.toArray⟩, .slice ao2 g.kids.length cp2] 26)).heap[wr.heap.size]? = some (.cells #[.int .i64 g.op, .int .i64 g.k, .string ⟨g.r.1.toArray⟩, .string ⟨g.r.2.toArray⟩, .slice ao2 g.kids.length cp2] 26 (0, 0)) := heap_alloc_new wr _
      have hcA : Chg (fun _ => False) wr (wr.alloc (.cells #[.int .i64 g.op, .int .i64 g.k, .string ⟨g.r.1.toArray⟩, .string ⟨g.r.2.toArray⟩, .slice ao2 g.kids.length cp2] 26)) := (Chg.refl _ wr).alloc _
      have HT := hid hSb
      have HC2 := hid (hc.out.trans hcA (fun _ _ h => h))
      have HOK : Hid (g.r.1.length + g.r.2.length ≤ 9223372036854775807) := hid (by omega)
      have HIH : Hid (∀ w2, Chg (fun _ => False) (wr.alloc (.cells #[.int .i64 g.op, .int .i64 g.k, .string ⟨g.r.1.toArray⟩, .string ⟨g.r.2.toArray⟩, .slice ao2 g.kids.length cp2] 26)) w2 → Calls Try.prog 7 #[.slice ao2 g.kids.length cp2] w2 fun e w' => e = .returned (.int .i64 (greatL g.kids)) ∧ Chg (fun _ => False) w2 w') := hid (fun w2 hc2 => HIN.out d hd ao2 cp2 g.kids w2 (by omega) (hkids.keep (hcA.trans hc2 (fun _ _ h => h)) (fun _ _ => id)))
      clear hSb hcA hc hok hkids hge hsz hd hat
      subst hao
      go_wp2_with fail
      clear a0 a1 a2 a3 a4
      generalize (wr.alloc (.cells #[.int .i64 g.op, .int .i64 g.k, .string ⟨g.r.1.toArray⟩, .string ⟨g.r.2.toArray⟩, .slice ao2 g.kids.length cp2] 26)) = w3 at *
      generalize wr.heap.size = X at *
      refine wp_region_specsE (fmgSpecs X m ao2 cp2 g) [12, 13, 14, 15, 16, 17, 18, 19, 20, 21, 22, 23, 24, 25, 26, 27, 28, 3] [5] 3 (.int .i64 m) (by kernel_rfl) (by kernel_rfl) (by rfl) (by rfl) (by kernel_rfl) ?start ?obs ?fin
      case start =>
        simp only [List.forall_mem_cons]; exact ⟨⟨_, rfl, rfl⟩, fun _ h => by cases h⟩
      case obs =>
        refine ObsE.cons none (by kernel_rfl) ?_ ?_
        · refine ObE.plain fun a w hR hk K k9 => ?_
          obtain ⟨_, e3, f3⟩ := hk 3 (by decide)
          clear hk
          go_simp
          exact k9 _ _ (Chg.refl _ _) f3
        refine ObsE.cons none (by kernel_rfl) ?_ ?_
        · refine ObE.plain fun a w hR hk K k9 => ?_
          obtain ⟨_, e5, rfl⟩ := hk 5 (by decide)
          clear hk
          go_simp
          exact k9 _ _ (Chg.refl _ _) rfl
        refine ObsE.cons none (by kernel_rfl) ?_ ?_
        · refine ObE.plain fun a w hR hk K k9 => ?_
          obtain ⟨_, e13, rfl⟩ := hk 13 (by decide)
          clear hk
          go_simp
          exact k9 _ _ (Chg.refl _ _) rfl
        refine ObsE.cons none (by kernel_rfl) ?_ ?_
        · refine ObE.plain fun a w hR hk K k9 => ?_
          obtain ⟨_, e14, rfl⟩ := hk 14 (by decide)
          clear hk
          have hb := blk_keep HT.out hR id
          have a2 : w.cell? ⟨X, 2, none⟩ = some (.string ⟨g.r.1.toArray⟩) := cell_blk hb 2
          have a3 : w.cell? ⟨X, 3, none⟩ = some (.string ⟨g.r.2.toArray⟩) := cell_blk hb 3
          have a4 : w.cell? ⟨X, 4, none⟩ = some (.slice ao2 g.kids.length cp2) := cell_blk hb 4
          clear hb hR
          go_simp
          exact k9 _ _ (Chg.refl _ _) rfl
        refine ObsE.cons none (by kernel_rfl) ?_ ?_
        · refine ObE.plain fun a w hR hk K k9 => ?_
          obtain ⟨_, e15, rfl⟩ := hk 15 (by decide)
          clear hk
          go_simp
          exact k9 _ _ (Chg.refl _ _) rfl
        refine ObsE.cons none (by kernel_rfl) ?_ ?_
        · refine ObE.plain fun a w hR hk K k9 => ?_
          obtain ⟨_, e5, rfl⟩ := hk 5 (by decide)
          clear hk
          go_simp
          exact k9 _ _ (Chg.refl _ _) rfl
        refine ObsE.cons none (by kernel_rfl) ?_ ?_
        · refine ObE.plain fun a w hR hk K k9 => ?_
          obtain ⟨_, e17, rfl⟩ := hk 17 (by decide)
          clear hk
          go_simp
          exact k9 _ _ (Chg.refl _ _) rfl
        refine ObsE.cons none (by kernel_rfl) ?_ ?_
        · refine ObE.plain fun a w hR hk K k9 => ?_
          obtain ⟨_, e18, rfl⟩ := hk 18 (by decide)
          clear hk
          have hb := blk_keep HT.out hR id
          have a2 : w.cell? ⟨X, 2, none⟩ = some (.string ⟨g.r.1.toArray⟩) := cell_blk hb 2
          have a3 : w.cell? ⟨X, 3, none⟩ = some (.string ⟨g.r.2.toArray⟩) := cell_blk hb 3
          have a4 : w.cell? ⟨X, 4, none⟩ = some (.slice ao2 g.kids.length cp2) := cell_blk hb 4
          clear hb hR
          go_simp
          exact k9 _ _ (Chg.refl _ _) rfl
        refine ObsE.cons none (by kernel_rfl) ?_ ?_
        · refine ObE.plain fun a w hR hk K k9 => ?_
          obtain ⟨_, e19, rfl⟩ := hk 19 (by decide)
          clear hk
          go_simp
          exact k9 _ _ (Chg.refl _ _) rfl
        refine ObsE.cons none (by kernel_rfl) ?_ ?_
        · refine ObE.plain fun a w hR hk K k9 => ?_
          obtain ⟨_, e16, rfl⟩ := hk 16 (by decide)
          obtain ⟨_, e20, rfl⟩ := hk 20 (by decide)
          clear hk
          have e1 : IntKind.i64.wrap (((g.r.1.length : Nat) : Int) + ((g.r.2.length : Nat) : Int)) = ((g.r.1.length + g.r.2.length : Nat) : Int) := by rw [IntKind.wrap_i64]; have := HB.out; omega
          go_simp
          exact k9 _ _ (Chg.refl _ _) (by first | rfl | (show Value.int _ _ = Value.int _ _; first | exact congrArg _ e1 | (simp only [Int.natCast_add] at e1 ⊢; first | exact congrArg _ e1 | rw [e1])))
        refine ObsE.cons none (by kernel_rfl) ?_ ?_
        · refine ObE.plain fun a w hR hk K k9 => ?_
          obtain ⟨_, e21, rfl⟩ := hk 21 (by decide)
          clear hk
          have e1 := div16 g.r.1.length g.r.2.length (by have := HOK.out; omega)
          go_simp
          exact k9 _ _ (Chg.refl _ _) (by first | rfl | (show Value.int _ _ = Value.int _ _; first | exact congrArg _ e1 | (simp only [Int.natCast_add] at e1 ⊢; first | exact congrArg _ e1 | rw [e1])))
        refine ObsE.cons none (by kernel_rfl) ?_ ?_
        · refine ObE.plain fun a w hR hk K k9 => ?_
          obtain ⟨_, e22, rfl⟩ := hk 22 (by decide)
          clear hk
          have e1 : IntKind.i64.wrap (1 + (((g.r.1.length + g.r.2.length) / 16 : Nat) : Int)) = ((1 + (g.r.1.length + g.r.2.length) / 16 : Nat) : Int) := by rw [IntKind.wrap_i64]; have := HB.out; omega
          go_simp
          exact k9 _ _ (Chg.refl _ _) (by first | rfl | (show Value.int _ _ = Value.int _ _; first | exact congrArg _ e1 | (simp only [Int.natCast_add] at e1 ⊢; first | exact congrArg _ e1 | rw [e1])))
        refine ObsE.cons none (by kernel_rfl) ?_ ?_
        · refine ObE.plain fun a w hR hk K k9 => ?_
          obtain ⟨_, e5, rfl⟩ := hk 5 (by decide)
          clear hk
          go_simp
          exact k9 _ _ (Chg.refl _ _) rfl
        refine ObsE.cons none (by kernel_rfl) ?_ ?_
        · refine ObE.plain fun a w hR hk K k9 => ?_
          obtain ⟨_, e24, rfl⟩ := hk 24 (by decide)
          clear hk
          have hb := blk_keep HT.out hR id
          have a2 : w.cell? ⟨X, 2, none⟩ = some (.string ⟨g.r.1.toArray⟩) := cell_blk hb 2
          have a3 : w.cell? ⟨X, 3, none⟩ = some (.string ⟨g.r.2.toArray⟩) := cell_blk hb 3
          have a4 : w.cell? ⟨X, 4, none⟩ = some (.slice ao2 g.kids.length cp2) := cell_blk hb 4
          clear hb hR
          go_simp
          exact k9 _ _ (Chg.refl _ _) rfl
        refine ObsE.cons none (by kernel_rfl) ?_ ?_
        · refine ObE.plain fun a w hR hk K k9 => ?_
          obtain ⟨_, e25, rfl⟩ := hk 25 (by decide)
          clear hk
          have hq := HIH.out w hR
          clear hR
          go_simp
          refine hq.mono ?_
          rintro e w2 ⟨rfl, hc⟩
          exact k9 _ _ hc rfl
        refine ObsE.cons none (by kernel_rfl) ?_ ?_
        · refine ObE.plain fun a w hR hk K k9 => ?_
          obtain ⟨_, e23, rfl⟩ := hk 23 (by decide)
          obtain ⟨_, e26, rfl⟩ := hk 26 (by decide)
          clear hk
          have e1 : IntKind.i64.wrap (((1 + (g.r.1.length + g.r.2.length) / 16 : Nat) : Int) + ((greatL g.kids : Nat) : Int)) = ((greatF g : Nat) : Int) := by rw [IntKind.wrap_i64, greatF_eq]; have := HB.out; omega
          go_simp
          exact k9 _ _ (Chg.refl _ _) (by first | rfl | (show Value.int _ _ = Value.int _ _; first | exact congrArg _ e1 | (simp only [Int.natCast_add] at e1 ⊢; first | exact congrArg _ e1 | rw [e1])))
        refine ObsE.cons none (by kernel_rfl) ?_ ?_
        · refine ObE.plain fun a w hR hk K k9 => ?_
          obtain ⟨_, e12, rfl⟩ := hk 12 (by decide)
          obtain ⟨_, e27, rfl⟩ := hk 27 (by decide)
          clear hk
          have e1 : IntKind.i64.wrap ((m : Int) + ((greatF g : Nat) : Int)) = ((m + greatF g : Nat) : Int) := by rw [IntKind.wrap_i64]; have := HB2.out; omega
          go_simp
          exact k9 _ _ (Chg.refl _ _) (by first | rfl | (show Value.int _ _ = Value.int _ _; first | exact congrArg _ e1 | (simp only [Int.natCast_add] at e1 ⊢; first | exact congrArg _ e1 | rw [e1])))
        refine ObsE.cons none (by kernel_rfl) ?_ ?_
        · refine ObE.plain fun a w hR hk K k9 => ?_
          obtain ⟨_, e28, f28⟩ := hk 28 (by decide)
          clear hk
          go_simp
          exact k9 _ _ (Chg.refl _ _) f28
        exact ObsE.nil
      case fin =>
        intro vals w9 hc9 hv
        have h3 : vals 3 = .int .i64 (m + greatF g : Nat) := hv 3 (by decide)
        have HC9 := hid (HC2.out.trans hc9 (fun _ _ h => h))
        simp only [putAll, List.setIfInBounds_toArray, List.set_cons_zero, List.set_cons_succ, h3]
        clear hv h3 hc9
        go_wp2
        go_roundw
        case rel => exact ⟨j + 1, m + greatF g, by have := HKL.out; omega, by go_num, rfl, HNX, HB2.out, HC9⟩
        case measure => have := HKL.out; simp [intOf]; omega
    · have hk2 : j = ls.length := by omega
      have hx : m = greatL ls := by have := hm.out; rwa [hk2, List.take_length] at this
      subst hx
      clear hm
      go_wp2
      go_ret
      exact ⟨rfl, hc.out⟩
end Go.Proofs.Ytcbfieodjbfjdaa
