/- Texts that the proof leans on, in one: StepEq, RefKSame, End, Defer, Read, GetNe, CheckG, FirstS, ChFst. -/
import Derived.Test.YtjaplnainlbldaaUc8
import Derived.Test.YtjaplnainlbldaaUc5
import Derived.Test.YtjaplnainlbldaaUc4
import Derived.Test.YtjaplnainlbldaaUc3
import Derived.Defers
import Derived.Recover
import Derived.LaidEqlPtr
import Derived.Test.YtjaplnainlbldaaUc6
import Derived.Test.YtjaplnainlbldaaUc14
import Derived.Test.YtjaplnainlbldaaUc48
import Derived.Test.YtjaplnainlbldaaUc12
import Derived.Test.YtjaplnainlbldaaUc31
import Derived.Test.YtjaplnainlbldaaUc46
/- '==' and '!=' at steps whose cells are told. -/
namespace Go.Proofs.Ytjaplnainlbldaa
open Go.RowKit

def eqK (a b : StepB) : Bool := decide (a = b)
theorem eqK_iff (a b : StepB) : eqK a b = decide (a.c.kind = b.c.kind ∧ a.c.head.1 = b.c.head.1 ∧ a.c.head.2 = b.c.head.2 ∧ a.c.who = b.c.who ∧ a.c.b.1 = b.c.b.1 ∧ a.c.b.2 = b.c.b.2 ∧ a.c.c.1 = b.c.c.1 ∧ a.c.c.2 = b.c.c.2 ∧ a.c.w2 = b.c.w2 ∧ a.f.1.1 = b.f.1.1 ∧ a.f.1.2 = b.f.1.2 ∧ a.f.2 = b.f.2) := by
  unfold eqK
  apply decide_eq_decide.2
  obtain ⟨⟨k, ⟨h1, h2⟩, w1, ⟨b1, b2⟩, ⟨c1, c2⟩, w2⟩, ⟨⟨f1, f2⟩, f3⟩⟩ := a
  obtain ⟨⟨k', ⟨h1', h2'⟩, w1', ⟨b1', b2'⟩, ⟨c1', c2'⟩, w2'⟩, ⟨⟨f1', f2'⟩, f3'⟩⟩ := b
  simp [and_assoc]

set_option maxRecDepth 100000 in
set_option maxHeartbeats 4000000 in
theorem run_neqgK (x y : Operand) (a b : StepB) (w : World) : Sem.run Try.prog (eqGuard BinOp.neq 43 x y (.agg #[.int .i64 a.c.kind, .string ⟨a.c.head.1.toArray⟩, .string ⟨a.c.head.2.toArray⟩, .string ⟨a.c.who.toArray⟩, .string ⟨a.c.b.1.toArray⟩, .string ⟨a.c.b.2.toArray⟩, .string ⟨a.c.c.1.toArray⟩, .string ⟨a.c.c.2.toArray⟩, .string ⟨a.c.w2.toArray⟩, .string ⟨a.f.1.1.toArray⟩, .string ⟨a.f.1.2.toArray⟩, .string ⟨a.f.2.toArray⟩]) (.agg #[.int .i64 b.c.kind, .string ⟨b.c.head.1.toArray⟩, .string ⟨b.c.head.2.toArray⟩, .string ⟨b.c.who.toArray⟩, .string ⟨b.c.b.1.toArray⟩, .string ⟨b.c.b.2.toArray⟩, .string ⟨b.c.c.1.toArray⟩, .string ⟨b.c.c.2.toArray⟩, .string ⟨b.c.w2.toArray⟩, .string ⟨b.f.1.1.toArray⟩, .string ⟨b.f.1.2.toArray⟩, .string ⟨b.f.2.toArray⟩])) w = .ok () w := by
  go_simp
set_option maxRecDepth 100000 in
set_option maxHeartbeats 4000000 in
theorem run_neqK (a b : StepB) (w : World) : Sem.run Try.prog (binOp BinOp.neq 43 (.agg #[.int .i64 a.c.kind, .string ⟨a.c.head.1.toArray⟩, .string ⟨a.c.head.2.toArray⟩, .string ⟨a.c.who.toArray⟩, .string ⟨a.c.b.1.toArray⟩, .string ⟨a.c.b.2.toArray⟩, .string ⟨a.c.c.1.toArray⟩, .string ⟨a.c.c.2.toArray⟩, .string ⟨a.c.w2.toArray⟩, .string ⟨a.f.1.1.toArray⟩, .string ⟨a.f.1.2.toArray⟩, .string ⟨a.f.2.toArray⟩]) (.agg #[.int .i64 b.c.kind, .string ⟨b.c.head.1.toArray⟩, .string ⟨b.c.head.2.toArray⟩, .string ⟨b.c.who.toArray⟩, .string ⟨b.c.b.1.toArray⟩, .string ⟨b.c.b.2.toArray⟩, .string ⟨b.c.c.1.toArray⟩, .string ⟨b.c.c.2.toArray⟩, .string ⟨b.c.w2.toArray⟩, .string ⟨b.f.1.1.toArray⟩, .string ⟨b.f.1.2.toArray⟩, .string ⟨b.f.2.toArray⟩])) w = .ok (.bool (!eqK a b)) w := by
  rw [eqK_iff]
  go_simp
  by_cases h0 : a.c.kind = b.c.kind
  rotate_left
  · simp [h0]
  simp only [h0, if_true, decide_true, Bool.not_true, Bool.false_or]
  by_cases h1 : a.c.head.1 = b.c.head.1
  rotate_left
  · simp [h1]
  simp only [h1, if_true, decide_true, Bool.not_true, Bool.false_or]
  by_cases h2 : a.c.head.2 = b.c.head.2
  rotate_left
  · simp [h2]
  simp only [h2, if_true, decide_true, Bool.not_true, Bool.false_or]
  by_cases h3 : a.c.who = b.c.who
  rotate_left
  · simp [h3]
  simp only [h3, if_true, decide_true, Bool.not_true, Bool.false_or]
  by_cases h4 : a.c.b.1 = b.c.b.1
  rotate_left
  · simp [h4]
  simp only [h4, if_true, decide_true, Bool.not_true, Bool.false_or]
  by_cases h5 : a.c.b.2 = b.c.b.2
  rotate_left
  · simp [h5]
  simp only [h5, if_true, decide_true, Bool.not_true, Bool.false_or]
  by_cases h6 : a.c.c.1 = b.c.c.1
  rotate_left
  · simp [h6]
  simp only [h6, if_true, decide_true, Bool.not_true, Bool.false_or]
  by_cases h7 : a.c.c.2 = b.c.c.2
  rotate_left
  · simp [h7]
  simp only [h7, if_true, decide_true, Bool.not_true, Bool.false_or]
  by_cases h8 : a.c.w2 = b.c.w2
  rotate_left
  · simp [h8]
  simp only [h8, if_true, decide_true, Bool.not_true, Bool.false_or]
  by_cases h9 : a.f.1.1 = b.f.1.1
  rotate_left
  · simp [h9]
  simp only [h9, if_true, decide_true, Bool.not_true, Bool.false_or]
  by_cases h10 : a.f.1.2 = b.f.1.2
  rotate_left
  · simp [h10]
  simp only [h10, if_true, decide_true, Bool.not_true, Bool.false_or]
  by_cases h11 : a.f.2 = b.f.2 <;> simp [h11]
end Go.Proofs.Ytjaplnainlbldaa

/- The contract of the document's Same, of layer 9. -/
namespace Go.Proofs.Ytjaplnainlbldaa
open Go.RowKit
attribute [local go_sem ↓ high] run_neqgK run_neqK

/-- Are two chains the same? -/
def sameK (a b : List StepB) : Bool := decide (a = b)

set_option maxRecDepth 100000 in
set_option maxHeartbeats 4000000 in
theorem rksame {D1 D2 : Nat → Prop} (a1 a2 : Option Addr) (c1 c2 : Nat) (l1 l2 : List StepB) (w : World) (hn : l1.length ≤ 4611686018427387904) (hm : l2.length ≤ 4611686018427387904) (h1 : StepsAt D1 w a1 l1) (h2 : StepsAt D2 w a2 l2) :
    Calls Try.prog 12 #[.slice a1 l1.length c1, .slice a2 l2.length c2] w fun e w' => e = .returned (.bool (sameK l1 l2)) ∧ Chg (fun _ => False) w w' := by
  have HX := hid (And.intro h1 h2)
  clear h1 h2
  by_cases hl : l1.length = l2.length
  · have z1 : ((l1.length : Int) != (l2.length : Int)) = false := by simp; omega
    have HL := hid hl
    have hl1 : l1.length ≤ l2.length := by omega
    have hl2 : l2.length ≤ l1.length := by omega
    clear hl
    go_enter Try.func12, Try.ntmps12
    go_wp2
    go_loopw [13] (fun i wr => ∃ k : Nat, k ≤ l1.length ∧ i = .int .i64 k ∧ Hid (l1.take k = l2.take k) ∧ Hid (Chg (fun _ => False) w wr)) (fun i _ => l1.length - (intOf i).toNat)
    case atStart => exact ⟨0, Nat.zero_le _, rfl, hid (by simp), hid (Chg.refl _ _)⟩
    case round =>
      obtain ⟨k, hk, rfl, htk, hc⟩ := hrel
      by_cases hlt : k < l1.length
      · obtain ⟨p1, o1, hp1, _, hx, _⟩ := (HX.out.1.keep hc.out (fun _ _ => id)) k hlt
        obtain ⟨p2, o2, hp2, _, hy, _⟩ := (HX.out.2.keep hc.out (fun _ _ => id)) k (by omega)
        have HKL : Hid (k < l1.length ∧ k < l2.length) := hid ⟨hlt, by omega⟩
        have HNX : Hid ((l1[k] = l2[k]'(by omega) → l1.take (k + 1) = l2.take (k + 1)) ∧ (l1[k] ≠ l2[k]'(by omega) → sameK l1 l2 = false)) := hid ⟨fun he => by rw [List.take_succ_eq_append_getElem hlt, List.take_succ_eq_append_getElem (HL.out ▸ hlt), htk.out, he], fun he => decide_eq_false (fun h => by subst h; exact he rfl)⟩
        generalize l1[k] = x at *
        generalize l2[k]'(by omega) = y at *
        have HXY := hid (And.intro hx hy)
        clear hx hy htk
        subst hp1
        subst hp2
        go_wp2_with fail
        refine wp_region_specs ([.eq (.slice (some ⟨p1, o1, none⟩) l1.length c1), .eq (.slice (some ⟨p2, o2, none⟩) l2.length c2), .any, .any, .any, .eq (.int .i64 k), .any, .any, .any, .any, .any, .any, .any, .any, .any, .any, .eq (.slice (some ⟨p1, o1, none⟩) l1.length c1), .eq (.int .i64 k), .eq (.pointer (some ⟨p1, o1 + k * 12, none⟩)), .eq (.agg #[.int .i64 x.c.kind, .string ⟨x.c.head.1.toArray⟩, .string ⟨x.c.head.2.toArray⟩, .string ⟨x.c.who.toArray⟩, .string ⟨x.c.b.1.toArray⟩, .string ⟨x.c.b.2.toArray⟩, .string ⟨x.c.c.1.toArray⟩, .string ⟨x.c.c.2.toArray⟩, .string ⟨x.c.w2.toArray⟩, .string ⟨x.f.1.1.toArray⟩, .string ⟨x.f.1.2.toArray⟩, .string ⟨x.f.2.toArray⟩]), .eq (.slice (some ⟨p2, o2, none⟩) l2.length c2), .eq (.int .i64 k), .eq (.pointer (some ⟨p2, o2 + k * 12, none⟩)), .eq (.agg #[.int .i64 y.c.kind, .string ⟨y.c.head.1.toArray⟩, .string ⟨y.c.head.2.toArray⟩, .string ⟨y.c.who.toArray⟩, .string ⟨y.c.b.1.toArray⟩, .string ⟨y.c.b.2.toArray⟩, .string ⟨y.c.c.1.toArray⟩, .string ⟨y.c.c.2.toArray⟩, .string ⟨y.c.w2.toArray⟩, .string ⟨y.f.1.1.toArray⟩, .string ⟨y.f.1.2.toArray⟩, .string ⟨y.f.2.toArray⟩]), .eq (.bool (!eqK x y)), .any] : List Spec) [16, 17, 18, 19, 20, 21, 22, 23, 24] [0, 1, 5] (by kernel_rfl) (by kernel_rfl) (by rfl) (by kernel_rfl) ?start ?obs ?fin
        case start =>
          simp only [List.forall_mem_cons]; exact ⟨⟨_, rfl, rfl⟩, ⟨_, rfl, rfl⟩, ⟨_, rfl, rfl⟩, fun _ h => by cases h⟩
        case obs =>
          refine Obs.cons none (by kernel_rfl) ?_ ?_
          · refine Ob.plain fun a w hR hk K k9 => ?_
            obtain ⟨_, e0, f0⟩ := hk 0 (by decide)
            clear hk
            go_simp
            exact k9 _ _ (Chg.refl _ _) f0
          refine Obs.cons none (by kernel_rfl) ?_ ?_
          · refine Ob.plain fun a w hR hk K k9 => ?_
            obtain ⟨_, e5, f5⟩ := hk 5 (by decide)
            clear hk
            go_simp
            exact k9 _ _ (Chg.refl _ _) f5
          refine Obs.cons none (by kernel_rfl) ?_ ?_
          · refine Ob.plain fun a w hR hk K k9 => ?_
            obtain ⟨_, e16, rfl⟩ := hk 16 (by decide)
            obtain ⟨_, e17, rfl⟩ := hk 17 (by decide)
            clear hk
            have hk3 : k < l1.length := HKL.out.1
            go_simp
            exact k9 _ _ (Chg.refl _ _) rfl
          refine Obs.cons none (by kernel_rfl) ?_ ?_
          · refine Ob.plain fun a w hR hk K k9 => ?_
            obtain ⟨_, e18, rfl⟩ := hk 18 (by decide)
            clear hk
            obtain ⟨⟨a0, a1, a2, a3, a4, a5, a6, a7, a8⟩, ⟨b0, b1, b2⟩⟩ := (HXY.out.1).keep hR id
            change w.cell? ⟨p1, o1 + k * 12 + 10, none⟩ = _ at b1
            change w.cell? ⟨p1, o1 + k * 12 + 11, none⟩ = _ at b2
            go_simp
            exact k9 _ _ (Chg.refl _ _) rfl
          refine Obs.cons none (by kernel_rfl) ?_ ?_
          · refine Ob.plain fun a w hR hk K k9 => ?_
            obtain ⟨_, e1, f1⟩ := hk 1 (by decide)
            clear hk
            go_simp
            exact k9 _ _ (Chg.refl _ _) f1
          refine Obs.cons none (by kernel_rfl) ?_ ?_
          · refine Ob.plain fun a w hR hk K k9 => ?_
            obtain ⟨_, e5, f5⟩ := hk 5 (by decide)
            clear hk
            go_simp
            exact k9 _ _ (Chg.refl _ _) f5
          refine Obs.cons none (by kernel_rfl) ?_ ?_
          · refine Ob.plain fun a w hR hk K k9 => ?_
            obtain ⟨_, e20, rfl⟩ := hk 20 (by decide)
            obtain ⟨_, e21, rfl⟩ := hk 21 (by decide)
            clear hk
            have hk3 : k < l2.length := HKL.out.2
            go_simp
            exact k9 _ _ (Chg.refl _ _) rfl
          refine Obs.cons none (by kernel_rfl) ?_ ?_
          · refine Ob.plain fun a w hR hk K k9 => ?_
            obtain ⟨_, e22, rfl⟩ := hk 22 (by decide)
            clear hk
            obtain ⟨⟨a0, a1, a2, a3, a4, a5, a6, a7, a8⟩, ⟨b0, b1, b2⟩⟩ := (HXY.out.2).keep hR id
            change w.cell? ⟨p2, o2 + k * 12 + 10, none⟩ = _ at b1
            change w.cell? ⟨p2, o2 + k * 12 + 11, none⟩ = _ at b2
            go_simp
            exact k9 _ _ (Chg.refl _ _) rfl
          refine Obs.cons none (by kernel_rfl) ?_ ?_
          · refine Ob.plain fun a w hR hk K k9 => ?_
            obtain ⟨_, e19, rfl⟩ := hk 19 (by decide)
            obtain ⟨_, e23, rfl⟩ := hk 23 (by decide)
            clear hk
            go_simp
            exact k9 _ _ (Chg.refl _ _) rfl
          exact Obs.nil
        case fin =>
          intro vals w9 hc9 hv
          have h24 : vals 24 = .bool (!eqK x y) := hv 24 (by decide)
          have HC9 := hid (hc.out.trans hc9 (fun _ _ h => h))
          have HQ : Hid ((eqK x y = true → l1.take (k + 1) = l2.take (k + 1)) ∧ (eqK x y = false → sameK l1 l2 = false)) := hid ⟨fun h => HNX.out.1 (of_decide_eq_true h), fun h => HNX.out.2 (of_decide_eq_false h)⟩
          simp only [putAll, List.setIfInBounds_toArray, List.set_cons_zero, List.set_cons_succ, h24]
          clear hv h24 hc9 hc HNX
          cases he : eqK x y with
          | true =>
            have HUP := hid (HQ.out.1 he)
            clear he
            go_wp2
            go_roundw
            case rel => exact ⟨k + 1, by have := HKL.out.1; omega, by go_num, HUP, HC9⟩
            case measure => have := HKL.out.1; simp [intOf]; omega
          | false =>
            have HRES := hid (HQ.out.2 he)
            clear he
            go_wp2
            go_ret
            exact ⟨by rw [HRES.out]; rfl, HC9.out⟩
      · have HRES : Hid (sameK l1 l2 = true) := hid (decide_eq_true (by have := htk.out; rwa [List.take_of_length_le (by omega), List.take_of_length_le (by omega)] at this))
        clear htk
        go_wp2
        go_ret
        exact ⟨by rw [HRES.out]; rfl, hc.out⟩
  · have z1 : ((l1.length : Int) != (l2.length : Int)) = true := by simp; omega
    have HRES : Hid (sameK l1 l2 = false) := hid (decide_eq_false (fun h => hl (by rw [h])))
    clear hl
    go_enter Try.func12, Try.ntmps12
    go_wp2
    go_ret
    exact ⟨by rw [HRES.out]; rfl, Chg.refl _ _⟩
end Go.Proofs.Ytjaplnainlbldaa

/- The contract of a reader's end. -/
namespace Go.Proofs.Ytjaplnainlbldaa
open Go.RowKit

end Go.Proofs.Ytjaplnainlbldaa

/- The three contracts of the function that Read defers. -/
namespace Go.Proofs.Ytjaplnainlbldaa
open Go.RowKit

end Go.Proofs.Ytjaplnainlbldaa

/- The four contracts of Read, by how f ends. -/
namespace Go.Proofs.Ytjaplnainlbldaa
open Go.RowKit

end Go.Proofs.Ytjaplnainlbldaa

/- What a failed Get of a credential tells is no zero. (As in SignRead, under names of its own, without the program's keys.) -/
namespace Go.Proofs.Ytjaplnainlbldaa
open Go.RowKit

end Go.Proofs.Ytjaplnainlbldaa

/- What the law CheckGets asks of the program's check beside CK, and Read with the law's function over it. -/
namespace Go.Proofs.Ytjaplnainlbldaa
open Go.RowKit

end Go.Proofs.Ytjaplnainlbldaa

/- Words for law 9's first. -/
namespace Go.Proofs.Ytjaplnainlbldaa
open Go.RowKit

def cI9 : CredB := ⟨2, ([97], [114]), [], ([98], [115]), noneR, []⟩
def cM9 : CredB := ⟨1, ([98], [115]), [100], noneR, noneR, []⟩
def fA9 : FactB := (([97], [114]), [100])
def fB9 : FactB := (([98], [115]), [100])

theorem cM9_ok : isCred cM9 = true := by decide +kernel
theorem short_M9 : credShort cM9 16 := isCred_short cM9_ok

theorem upd_ne9 {L : Nat → Bool} {i j : Nat} (h : i ≠ j) : upd L i j = L j := if_neg (Ne.symm h)
def stX : StepB := ⟨cM9, fB9⟩
def stY : StepB := ⟨cI9, fA9⟩
def noStep : StepB := ⟨noCred, (([], []), [])⟩

/-- What is so amid the making of the two credentials: 5 and 6 make blocks, 7 and 8 write them. -/
structure TwoC (B : Nat) (w1 : World) (L : Nat → Bool) (a : Act) (w : World) : Prop where
  ch : Chg (fun i => B ≤ i) w1 w
  lo : B ≤ w.heap.size
  sz : 4 < a.tmps.size
  p3 : L 5 = true → ∃ b, a.tmps[3]? = some (.pointer (some ⟨b, 0, none⟩)) ∧ B ≤ b ∧ w.heap[b]? = some (.cells (credBox (if L 7 then cI9 else noCred)) 36 (0, 0))
  p4 : L 6 = true → ∃ b, a.tmps[4]? = some (.pointer (some ⟨b, 0, none⟩)) ∧ B ≤ b ∧ w.heap[b]? = some (.cells (credBox (if L 8 then cM9 else noCred)) 36 (0, 0))
  ne : L 5 = true → L 6 = true → a.tmps[3]? ≠ a.tmps[4]?
  o7 : L 7 = true → L 5 = true
  o8 : L 8 = true → L 6 = true

theorem put_other9 {a : Act} {d t : Nat} (v : Value) (h : d ≠ t) : (a.put (some d) v).tmps[t]? = a.tmps[t]? := by
  simp [Act.put, Array.getElem?_setIfInBounds_ne h]
theorem TwoC.quiet {B : Nat} {w1 w : World} {L : Nat → Bool} {a : Act} {i : Nat} (h : TwoC B w1 L a w) (hi : i < 5) (d : Nat) (v : Value) (hd : 4 < d) : TwoC B w1 (upd L i) (a.put (some d) v) w := by
  have e5 : upd L i 5 = L 5 := upd_ne9 (by omega)
  have e6 : upd L i 6 = L 6 := upd_ne9 (by omega)
  have e7 : upd L i 7 = L 7 := upd_ne9 (by omega)
  have e8 : upd L i 8 = L 8 := upd_ne9 (by omega)
  refine ⟨h.ch, h.lo, by simpa [Act.put] using h.sz, ?_, ?_, ?_, by rw [e5, e7]; exact h.o7, by rw [e6, e8]; exact h.o8⟩
  · rw [e5, e7, put_other9 v (by omega)]; exact h.p3
  · rw [e6, e8, put_other9 v (by omega)]; exact h.p4
  · rw [e5, e6, put_other9 v (by omega), put_other9 v (by omega)]; exact h.ne

/-- What is so amid the making of the two steps: 8 and 9 make blocks, 10 and 11 write them. -/
structure TwoS (B : Nat) (w1 : World) (L : Nat → Bool) (a : Act) (w : World) : Prop where
  ch : Chg (fun i => B ≤ i) w1 w
  lo : B ≤ w.heap.size
  sz : 6 < a.tmps.size
  p3 : L 8 = true → ∃ b, a.tmps[5]? = some (.pointer (some ⟨b, 0, none⟩)) ∧ B ≤ b ∧ w.heap[b]? = some (.cells (stepBox (if L 10 then stX else noStep)) 43 (0, 0))
  p4 : L 9 = true → ∃ b, a.tmps[6]? = some (.pointer (some ⟨b, 0, none⟩)) ∧ B ≤ b ∧ w.heap[b]? = some (.cells (stepBox (if L 11 then stY else noStep)) 43 (0, 0))
  ne : L 8 = true → L 9 = true → a.tmps[5]? ≠ a.tmps[6]?
  o7 : L 10 = true → L 8 = true
  o8 : L 11 = true → L 9 = true

theorem TwoS.quiet {B : Nat} {w1 w : World} {L : Nat → Bool} {a : Act} {i : Nat} (h : TwoS B w1 L a w) (hi : i < 8) (d : Nat) (v : Value) (hd : 6 < d) : TwoS B w1 (upd L i) (a.put (some d) v) w := by
  have e5 : upd L i 8 = L 8 := upd_ne9 (by omega)
  have e6 : upd L i 9 = L 9 := upd_ne9 (by omega)
  have e7 : upd L i 10 = L 10 := upd_ne9 (by omega)
  have e8 : upd L i 11 = L 11 := upd_ne9 (by omega)
  refine ⟨h.ch, h.lo, by simpa [Act.put] using h.sz, ?_, ?_, ?_, by rw [e5, e7]; exact h.o7, by rw [e6, e8]; exact h.o8⟩
  · rw [e5, e7, put_other9 v (by omega)]; exact h.p3
  · rw [e6, e8, put_other9 v (by omega)]; exact h.p4
  · rw [e5, e6, put_other9 v (by omega), put_other9 v (by omega)]; exact h.ne

end Go.Proofs.Ytjaplnainlbldaa

/- Words for law 10's first. -/
namespace Go.Proofs.Ytjaplnainlbldaa
open Go.RowKit

theorem fst_set : SetC [cM9] [cM9] := by
  refine ⟨?_, fun c => ?_⟩
  · exact ⟨fun y hy => by simp at hy, trivial⟩
  · constructor
    · intro h
      rw [List.mem_singleton] at h
      subst h
      exact ⟨by simp, by decide +kernel⟩
    · exact fun h => h.1
theorem fst_set0 : SetC [] [] := ⟨trivial, fun c => by simp⟩
theorem fst_find : FindIs [cM9] fB9 [stX] true :=
  ⟨[cM9], [stX], fst_set, ⟨0, by decide +kernel, .inr (by decide +kernel), fun j hj => absurd hj (Nat.not_lt_zero j)⟩, .inl ⟨by decide +kernel, rfl, by decide +kernel⟩⟩
theorem fst_none : FindIs [] fB9 [] false :=
  ⟨[], [], fst_set0, ⟨0, by decide +kernel, .inl (Nat.le_refl 0), fun j hj => absurd hj (Nat.not_lt_zero j)⟩, .inr ⟨by decide +kernel, rfl, rfl⟩⟩
theorem fst_merge : mergeL [[stX], [stX]] = [stX] := by decide +kernel
end Go.Proofs.Ytjaplnainlbldaa
