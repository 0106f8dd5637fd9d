/- Texts that the proof leans on, in one: RefKSame, End, Defer, Read, Enters, GetNe. -/
import Derived.Test.YtmmkopdcbiiedaaKb23
import Derived.Test.YtmmkopdcbiiedaaKb2
import Derived.Test.YtmmkopdcbiiedaaKb7
import Derived.Test.YtmmkopdcbiiedaaKb5
import Derived.Defers
import Derived.Recover
import Derived.LaidEqlPtr
import Derived.Test.YtmmkopdcbiiedaaKb9
/- The contract of the document's Same, of layer 9. -/
namespace Go.Proofs.Ytmmkopdcbiiedaa
open Go.RowKit
attribute [local go_sem ↓ high] run_neqgK run_neqK

/-- Are two chains the same? -/
def sameK (a b : List StepB) : Bool := decide (a = b)

set_option maxRecDepth 100000 in
set_option maxHeartbeats 4000000 in
theorem rksame {D1 D2 : Nat → Prop} (a1 a2 : Option Addr) (c1 c2 : Nat) (l1 l2 : List StepB) (w : World) (hn : l1.length ≤ 4611686018427387904) (hm : l2.length ≤ 4611686018427387904) (h1 : StepsAt D1 w a1 l1) (h2 : StepsAt D2 w a2 l2) :
    Calls Try.prog 24 #[.slice a1 l1.length c1, .slice a2 l2.length c2] w fun e w' => e = .returned (.bool (sameK l1 l2)) ∧ Chg (fun _ => False) w w' := by
  have HX := hid (And.intro h1 h2)
  clear h1 h2
  by_cases hl : l1.length = l2.length
  · have z1 : ((l1.length : Int) != (l2.length : Int)) = false := by simp; omega
    have HL := hid hl
    have hl1 : l1.length ≤ l2.length := by omega
    have hl2 : l2.length ≤ l1.length := by omega
    clear hl
    go_enter Try.func24, Try.ntmps24
    go_wp2
    go_loopw [13] (fun i wr => ∃ k : Nat, k ≤ l1.length ∧ i = .int .i64 k ∧ Hid (l1.take k = l2.take k) ∧ Hid (Chg (fun _ => False) w wr)) (fun i _ => l1.length - (intOf i).toNat)
    case atStart => exact ⟨0, Nat.zero_le _, rfl, hid (by simp), hid (Chg.refl _ _)⟩
    case round =>
      obtain ⟨k, hk, rfl, htk, hc⟩ := hrel
      by_cases hlt : k < l1.length
      · obtain ⟨p1, o1, hp1, _, hx, _⟩ := (HX.out.1.keep hc.out (fun _ _ => id)) k hlt
        obtain ⟨p2, o2, hp2, _, hy, _⟩ := (HX.out.2.keep hc.out (fun _ _ => id)) k (by omega)
        have HKL : Hid (k < l1.length ∧ k < l2.length) := hid ⟨hlt, by omega⟩
        have HNX : Hid ((l1[k] = l2[k]'(by omega) → l1.take (k + 1) = l2.take (k + 1)) ∧ (l1[k] ≠ l2[k]'(by omega) → sameK l1 l2 = false)) := hid ⟨fun he => by rw [List.take_succ_eq_append_getElem hlt, List.take_succ_eq_append_getElem (HL.out ▸ hlt), htk.out, he], fun he => decide_eq_false (fun h => by subst h; exact he rfl)⟩
        generalize l1[k] = x at *
        generalize l2[k]'(by omega) = y at *
        have HXY := hid (And.intro hx hy)
        clear hx hy htk
        subst hp1
        subst hp2
        go_wp2_with fail
        refine wp_region_specs ([.eq (.slice (some ⟨p1, o1, none⟩) l1.length c1), .eq (.slice (some ⟨p2, o2, none⟩) l2.length c2), .any, .any, .any, .eq (.int .i64 k), .any, .any, .any, .any, .any, .any, .any, .any, .any, .any, .eq (.slice (some ⟨p1, o1, none⟩) l1.length c1), .eq (.int .i64 k), .eq (.pointer (some ⟨p1, o1 + k * 12, none⟩)), .eq (.agg #[.int .i64 x.c.kind, .string ⟨x.c.head.1.toArray⟩, .string ⟨x.c.head.2.toArray⟩, .string ⟨x.c.who.toArray⟩, .string ⟨x.c.b.1.toArray⟩, .string ⟨x.c.b.2.toArray⟩, .string ⟨x.c.c.1.toArray⟩, .string ⟨x.c.c.2.toArray⟩, .string ⟨x.c.w2.toArray⟩, .string ⟨x.f.1.1.toArray⟩, .string ⟨x.f.1.2.toArray⟩, .string ⟨x.f.2.toArray⟩]), .eq (.slice (some ⟨p2, o2, none⟩) l2.length c2), .eq (.int .i64 k), .eq (.pointer (some ⟨p2, o2 + k * 12, none⟩)), .eq (.agg #[.int .i64 y.c.kind, .string ⟨y.c.head.1.toArray⟩, .string ⟨y.c.head.2.toArray⟩, .string ⟨y.c.who.toArray⟩, .string ⟨y.c.b.1.toArray⟩, .string ⟨y.c.b.2.toArray⟩, .string ⟨y.c.c.1.toArray⟩, .string ⟨y.c.c.2.toArray⟩, .string ⟨y.c.w2.toArray⟩, .string ⟨y.f.1.1.toArray⟩, .string ⟨y.f.1.2.toArray⟩, .string ⟨y.f.2.toArray⟩]), .eq (.bool (!eqK x y)), .any] : List Spec) [16, 17, 18, 19, 20, 21, 22, 23, 24] [0, 1, 5] (by kernel_rfl) (by kernel_rfl) (by rfl) (by kernel_rfl) ?start ?obs ?fin
        case start =>
          simp only [List.forall_mem_cons]; exact ⟨⟨_, rfl, rfl⟩, ⟨_, rfl, rfl⟩, ⟨_, rfl, rfl⟩, fun _ h => by cases h⟩
        case obs =>
          refine Obs.cons none (by kernel_rfl) ?_ ?_
          · refine Ob.plain fun a w hR hk K k9 => ?_
            obtain ⟨_, e0, f0⟩ := hk 0 (by decide)
            clear hk
            go_simp
            exact k9 _ _ (Chg.refl _ _) f0
          refine Obs.cons none (by kernel_rfl) ?_ ?_
          · refine Ob.plain fun a w hR hk K k9 => ?_
            obtain ⟨_, e5, f5⟩ := hk 5 (by decide)
            clear hk
            go_simp
            exact k9 _ _ (Chg.refl _ _) f5
          refine Obs.cons none (by kernel_rfl) ?_ ?_
          · refine Ob.plain fun a w hR hk K k9 => ?_
            obtain ⟨_, e16, rfl⟩ := hk 16 (by decide)
            obtain ⟨_, e17, rfl⟩ := hk 17 (by decide)
            clear hk
            have hk3 : k < l1.length := HKL.out.1
            go_simp
            exact k9 _ _ (Chg.refl _ _) rfl
          refine Obs.cons none (by kernel_rfl) ?_ ?_
          · refine Ob.plain fun a w hR hk K k9 => ?_
            obtain ⟨_, e18, rfl⟩ := hk 18 (by decide)
            clear hk
            obtain ⟨⟨a0, a1, a2, a3, a4, a5, a6, a7, a8⟩, ⟨b0, b1, b2⟩⟩ := (HXY.out.1).keep hR id
            change w.cell? ⟨p1, o1 + k * 12 + 10, none⟩ = _ at b1
            change w.cell? ⟨p1, o1 + k * 12 + 11, none⟩ = _ at b2
            go_simp
            exact k9 _ _ (Chg.refl _ _) rfl
          refine Obs.cons none (by kernel_rfl) ?_ ?_
          · refine Ob.plain fun a w hR hk K k9 => ?_
            obtain ⟨_, e1, f1⟩ := hk 1 (by decide)
            clear hk
            go_simp
            exact k9 _ _ (Chg.refl _ _) f1
          refine Obs.cons none (by kernel_rfl) ?_ ?_
          · refine Ob.plain fun a w hR hk K k9 => ?_
            obtain ⟨_, e5, f5⟩ := hk 5 (by decide)
            clear hk
            go_simp
            exact k9 _ _ (Chg.refl _ _) f5
          refine Obs.cons none (by kernel_rfl) ?_ ?_
          · refine Ob.plain fun a w hR hk K k9 => ?_
            obtain ⟨_, e20, rfl⟩ := hk 20 (by decide)
            obtain ⟨_, e21, rfl⟩ := hk 21 (by decide)
            clear hk
            have hk3 : k < l2.length := HKL.out.2
            go_simp
            exact k9 _ _ (Chg.refl _ _) rfl
          refine Obs.cons none (by kernel_rfl) ?_ ?_
          · refine Ob.plain fun a w hR hk K k9 => ?_
            obtain ⟨_, e22, rfl⟩ := hk 22 (by decide)
            clear hk
            obtain ⟨⟨a0, a1, a2, a3, a4, a5, a6, a7, a8⟩, ⟨b0, b1, b2⟩⟩ := (HXY.out.2).keep hR id
            change w.cell? ⟨p2, o2 + k * 12 + 10, none⟩ = _ at b1
            change w.cell? ⟨p2, o2 + k * 12 + 11, none⟩ = _ at b2
            go_simp
            exact k9 _ _ (Chg.refl _ _) rfl
          refine Obs.cons none (by kernel_rfl) ?_ ?_
          · refine Ob.plain fun a w hR hk K k9 => ?_
            obtain ⟨_, e19, rfl⟩ := hk 19 (by decide)
            obtain ⟨_, e23, rfl⟩ := hk 23 (by decide)
            clear hk
            go_simp
            exact k9 _ _ (Chg.refl _ _) rfl
          exact Obs.nil
        case fin =>
          intro vals w9 hc9 hv
          have h24 : vals 24 = .bool (!eqK x y) := hv 24 (by decide)
          have HC9 := hid (hc.out.trans hc9 (fun _ _ h => h))
          have HQ : Hid ((eqK x y = true → l1.take (k + 1) = l2.take (k + 1)) ∧ (eqK x y = false → sameK l1 l2 = false)) := hid ⟨fun h => HNX.out.1 (of_decide_eq_true h), fun h => HNX.out.2 (of_decide_eq_false h)⟩
          simp only [putAll, List.setIfInBounds_toArray, List.set_cons_zero, List.set_cons_succ, h24]
          clear hv h24 hc9 hc HNX
          cases he : eqK x y with
          | true =>
            have HUP := hid (HQ.out.1 he)
            clear he
            go_wp2
            go_roundw
            case rel => exact ⟨k + 1, by have := HKL.out.1; omega, by go_num, HUP, HC9⟩
            case measure => have := HKL.out.1; simp [intOf]; omega
          | false =>
            have HRES := hid (HQ.out.2 he)
            clear he
            go_wp2
            go_ret
            exact ⟨by rw [HRES.out]; rfl, HC9.out⟩
      · have HRES : Hid (sameK l1 l2 = true) := hid (decide_eq_true (by have := htk.out; rwa [List.take_of_length_le (by omega), List.take_of_length_le (by omega)] at this))
        clear htk
        go_wp2
        go_ret
        exact ⟨by rw [HRES.out]; rfl, hc.out⟩
  · have z1 : ((l1.length : Int) != (l2.length : Int)) = true := by simp; omega
    have HRES : Hid (sameK l1 l2 = false) := hid (decide_eq_false (fun h => hl (by rw [h])))
    clear hl
    go_enter Try.func24, Try.ntmps24
    go_wp2
    go_ret
    exact ⟨by rw [HRES.out]; rfl, Chg.refl _ _⟩
end Go.Proofs.Ytmmkopdcbiiedaa

/- The contract of a reader's end. -/
namespace Go.Proofs.Ytmmkopdcbiiedaa
open Go.RowKit

def Ended (R : Nat) (r : Int) (w : World) (e : Ending) (w' : World) : Prop :=
  e = .returned (.int .i64 r) ∧ ReaderAt w' R false (.slice none 0 0) 0 ∧ Chg (· = R) w w'

theorem ended_mk {R : Nat} {r : Int} {w : World} {op : Bool} {v : Value} {flt : Int} (hR : ReaderAt w R op v flt) :
    Ended R r w (.returned (.int .i64 r)) (((w.setCell ⟨R, 0, none⟩ (.bool false)).setCell ⟨R, 1, none⟩ (.slice none 0 0)).setCell ⟨R, 2, none⟩ (.int .i64 0)) := by
  refine ⟨rfl, ?_, ?_⟩
  · exact set_blk (set_blk (set_blk hR 0 (.bool false)) 1 (.slice none 0 0)) 2 (.int .i64 0)
  · exact (((Chg.refl (· = R) w).setCell (p := ⟨R, _, none⟩) (fun _ => rfl) _).setCell (p := ⟨R, _, none⟩) (fun _ => rfl) _).setCell (p := ⟨R, _, none⟩) (fun _ => rfl) _

set_option maxRecDepth 100000 in
theorem end_fault (R n cap : Nat) (flt : Int) (ao : Option Addr) (op : Bool) (w : World) (hR : ReaderAt w R op (.slice ao n cap) flt) (hf : (flt == 0) = false) :
    Calls Try.prog 52 #[.pointer (some ⟨R, 0, none⟩)] w (Ended R flt w) := by
  have h0 := cell_blk hR 0
  have h1 := cell_blk hR 1
  have h2 := cell_blk hR 2
  have f0 := froz_blk hR 0
  have f1 := froz_blk hR 1
  have f2 := froz_blk hR 2
  simp only [List.getElem?_toArray, List.getElem?_cons_zero, List.getElem?_cons_succ] at h0 h1 h2
  go_enter Try.func52, Try.ntmps52
  go_wp2
  go_ret
  exact ended_mk hR

set_option maxRecDepth 100000 in
theorem end_trail (R n cap : Nat) (ao : Option Addr) (op : Bool) (w : World) (hR : ReaderAt w R op (.slice ao n cap) 0) (hn : 0 < (n : Int)) :
    Calls Try.prog 52 #[.pointer (some ⟨R, 0, none⟩)] w (Ended R 13 w) := by
  have h0 := cell_blk hR 0
  have h1 := cell_blk hR 1
  have h2 := cell_blk hR 2
  have f0 := froz_blk hR 0
  have f1 := froz_blk hR 1
  have f2 := froz_blk hR 2
  simp only [List.getElem?_toArray, List.getElem?_cons_zero, List.getElem?_cons_succ] at h0 h1 h2
  go_enter Try.func52, Try.ntmps52
  go_wp2
  go_ret
  exact ended_mk hR

set_option maxRecDepth 100000 in
theorem end_ok (R cap : Nat) (ao : Option Addr) (op : Bool) (w : World) (hR : ReaderAt w R op (.slice ao 0 cap) 0) :
    Calls Try.prog 52 #[.pointer (some ⟨R, 0, none⟩)] w (Ended R 0 w) := by
  have h0 := cell_blk hR 0
  have h1 := cell_blk hR 1
  have h2 := cell_blk hR 2
  have f0 := froz_blk hR 0
  have f1 := froz_blk hR 1
  have f2 := froz_blk hR 2
  simp only [List.getElem?_toArray, List.getElem?_cons_zero, List.getElem?_cons_succ] at h0 h1 h2
  go_enter Try.func52, Try.ntmps52
  go_wp2
  go_ret
  exact ended_mk hR

theorem end_any (R n cap : Nat) (flt : Int) (ao : Option Addr) (op : Bool) (w : World) (hR : ReaderAt w R op (.slice ao n cap) flt) :
    Calls Try.prog 52 #[.pointer (some ⟨R, 0, none⟩)] w (Ended R (endOf flt n) w) := by
  unfold endOf
  by_cases hf : flt = 0
  · subst hf
    rw [if_pos rfl]
    by_cases hn : 0 < n
    · rw [if_pos hn]
      exact end_trail R n cap ao op w hR (by omega)
    · rw [if_neg hn]
      obtain rfl : n = 0 := by omega
      exact end_ok R cap ao op w hR
  · rw [if_neg hf]
    exact end_fault R n cap flt ao op w hR (by simpa using hf)

end Go.Proofs.Ytmmkopdcbiiedaa

/- The three contracts of the function that Read defers. -/
namespace Go.Proofs.Ytmmkopdcbiiedaa
open Go.RowKit

theorem assert_nil (w : World) : (Instr.typeAssert .nilIface 20 98 true).run Try.prog w = .ok (.tuple #[.agg #[.pointer none], .bool false]) w := by kernel_rfl
theorem assert_stop (a : Option Addr) (w : World) : (Instr.typeAssert (.iface 98 (.agg #[.pointer a])) 20 98 true).run Try.prog w = .ok (.tuple #[.agg #[.pointer a], .bool true]) w := by kernel_rfl
theorem neq_ptr_same {P : Program} (w : World) {tp te : TypeId} {j : TypeInfo} (a : Addr) (hp : P.underlying tp = some (.pointer te)) (hte : P.info? te = some j) :
    (binOp .neq tp (.pointer (some a)) (.pointer (some a))).run P w = .ok (.bool false) w := by
  have h : ∀ d : Nat, (Op.equalIn (d + 1) tp (.pointer (some a)) (.pointer (some a))).run P w = .ok true w := fun d => by
    simp [Op.equalIn, run_underlying hp, sizeOf, typeInfo, hte, run_sameAddr_same]
  simp only [binOp]
  simp [Op.equal, Op.maxDepth, h 9999]

theorem Try.info95 : (Try.prog.info? 95).map (fun i => i.size) = some 3 := by kernel_rfl

theorem info54_of : ∃ j, Try.prog.info? 95 = some j ∧ j.size ≠ 0 := by
  have h := Try.info95
  cases e : Try.prog.info? 95 with
  | none => rw [e] at h; simp at h
  | some j =>
    rw [e] at h
    simp at h
    exact ⟨j, rfl, by omega⟩

theorem neq39_same (a : Addr) (w : World) : (binOp .neq 56 (.pointer (some a)) (.pointer (some a))).run Try.prog w = .ok (.bool false) w := by
  obtain ⟨j, hj, _⟩ := info54_of
  exact neq_ptr_same w a Try.underlying56 hj

/-- What the function that Read defers leaves of memory. -/
def ReadLeft (R E : Nat) (r : Int) (w w' : World) : Prop :=
  ReaderAt w' R false (.slice none 0 0) 0 ∧ w'.heap[E]? = some (.cells #[.int .i64 r] 38 (0, 0)) ∧ Chg (fun k => k = R ∨ k = E) w w'

theorem readLeft_mk {R E : Nat} {r : Int} {ev : Int} {w w1 : World} {o : Obj} (hER : E ≠ R) (hR : ReaderAt w1 R false (.slice none 0 0) 0) (hE : w1.heap[E]? = some (.cells #[.int .i64 ev] 38 (0, 0))) (hch : Chg (· = R) w w1) :
    ReadLeft R E r w ((w1.setCell ⟨E, 0, none⟩ (.int .i64 r)).alloc o) := by
  have h1 := set_blk hE 0 (.int .i64 r)
  have h2 : (w1.setCell ⟨E, 0, none⟩ (.int .i64 r)).heap[R]? = w1.heap[R]? := set_blk_ne (by show R ≠ E; omega)
  refine ⟨?_, ?_, ?_⟩
  · exact (Below.heap_alloc _ _ _ (lt_blk (h2.trans hR))).trans (h2.trans hR)
  · exact (Below.heap_alloc _ _ _ (lt_blk h1)).trans h1
  · exact (((hch.mono (fun _ _ h => .inl h)).setCell (p := ⟨E, 0, none⟩) (fun _ => .inr rfl) _).alloc o)

theorem postS_end {fn : Func} {c₀ : Frame} {cs : List Frame} {R : Ending → FrameMode → World → Prop} {u : FrameMode} {t : Array Value} {w : World} (hr : fn.results = #[]) (h : R (.returned (.tuple #[])) u w) :
    bodyPostS Try.prog fn c₀ cs R .normal { tmps := t, defers := [] } ({ c₀ with mode := u } :: cs) w :=
  ⟨rfl, u, rfl, .tuple #[], results_none hr _ _ _, h⟩

theorem mode_self {c : Frame} {u : FrameMode} (h : c.mode = u) : ({ c with mode := u } : Frame) = c := by
  subst h
  rfl

set_option maxRecDepth 100000 in
/-- f has ended by itself. -/
theorem deferred_idle (V R E n cap : Nat) (flt : Int) (ao : Option Addr) (op : Bool) (ev : Int) (w : World) (hR : ReaderAt w R op (.slice ao n cap) flt)
    (hV : w.heap[V]? = some (.cells #[.pointer (some ⟨R, 0, none⟩)] 56 (0, 0))) (hE : w.heap[E]? = some (.cells #[.int .i64 ev] 38 (0, 0))) (hER : E ≠ R) :
    CallsD Try.prog 51 #[.pointer (some ⟨V, 0, none⟩), .pointer (some ⟨E, 0, none⟩)] .returning w fun e u' w' =>
      e = .returned (.tuple #[]) ∧ u' = .returning ∧ ReadLeft R E (endOf flt n) w w' := by
  have v0 := cell_blk hV 0
  simp only [List.getElem?_toArray, List.getElem?_cons_zero] at v0
  refine callsD_of_wpS Try.func51 rfl fun c₀ cs hu => ?_
  simp only [Try.ntmps51, List.size_toArray, List.length_cons, List.length_nil, Nat.reduceAdd, Nat.reduceSub, Array.replicate_succ, Array.replicate_zero, List.push_toArray, List.append_toArray, List.nil_append, List.cons_append]
  apply wpS_seq
  refine wpS_of_wp ?_
  go_wp2_with (go_at_call 52; refine (end_any R n cap flt ao op _ hR).mono ?_; rintro e w1 ⟨rfl, hR1, hch⟩; have hE1 := (hch.block E (lt_blk hE) hER).trans hE; have e0 := cell_blk hE1 0; have fe0 := froz_blk hE1 0; simp only [List.getElem?_toArray, List.getElem?_cons_zero] at e0)
  apply wpS_seq
  apply wpS_region
  simp [wpOpsS, go_sem, recoverD, hu, Exit.thenS]
  refine wpS_of_wp ?_
  have ha := assert_nil
  have HL := fun o => hid (readLeft_mk (r := endOf flt n) (o := o) hER hR1 hE1 hch)
  have HU := hid (mode_self hu)
  clear hch hR1 hE1 e0 fe0 v0 hV hE hR hu
  go_wp2
  rw [← HU.out]
  exact postS_end rfl ⟨rfl, rfl, (HL _).out⟩

set_option maxRecDepth 100000 in
/-- f was ended by this reader's error. -/
theorem deferred_stops (V R E n cap : Nat) (flt : Int) (ao : Option Addr) (op : Bool) (ev : Int) (w : World) (hR : ReaderAt w R op (.slice ao n cap) flt)
    (hV : w.heap[V]? = some (.cells #[.pointer (some ⟨R, 0, none⟩)] 56 (0, 0))) (hE : w.heap[E]? = some (.cells #[.int .i64 ev] 38 (0, 0))) (hER : E ≠ R) (hVR : V ≠ R) (hVE : V ≠ E) (older : List PanicEntry) :
    CallsD Try.prog 51 #[.pointer (some ⟨V, 0, none⟩), .pointer (some ⟨E, 0, none⟩)] (.panicking ({ v := stopOf R, recovered := false } :: older)) w fun e u' w' =>
      e = .returned (.tuple #[]) ∧ u' = .panicking ({ v := stopOf R, recovered := true } :: older) ∧ ReadLeft R E (endOf flt n) w w' := by
  unfold stopOf
  have v0 := cell_blk hV 0
  simp only [List.getElem?_toArray, List.getElem?_cons_zero] at v0
  refine callsD_of_wpS Try.func51 rfl fun c₀ cs hu => ?_
  simp only [Try.ntmps51, List.size_toArray, List.length_cons, List.length_nil, Nat.reduceAdd, Nat.reduceSub, Array.replicate_succ, Array.replicate_zero, List.push_toArray, List.append_toArray, List.nil_append, List.cons_append]
  apply wpS_seq
  refine wpS_of_wp ?_
  go_wp2_with (go_at_call 52; refine (end_any R n cap flt ao op _ hR).mono ?_; rintro e w1 ⟨rfl, hR1, hch⟩; have hE1 := (hch.block E (lt_blk hE) hER).trans hE; have e0 := cell_blk hE1 0; have fe0 := froz_blk hE1 0; simp only [List.getElem?_toArray, List.getElem?_cons_zero] at e0)
  apply wpS_seq
  apply wpS_region
  simp [wpOpsS, go_sem, recoverD, hu, Exit.thenS]
  refine wpS_of_wp ?_
  have ha := assert_stop (some ⟨R, 0, none⟩)
  have hq := neq39_same ⟨R, 0, none⟩
  have HL := fun o => hid (readLeft_mk (r := endOf flt n) (o := o) hER hR1 hE1 hch)
  have v1 := hch.cell v0 hVR
  have hb := World.block_lt_of_cell? w1 _ v1
  simp only [] at hb
  clear hch hR1 hE1 e0 fe0 v0 hV hE hR hu
  go_wp2
  exact postS_end rfl ⟨rfl, rfl, (HL _).out⟩

end Go.Proofs.Ytmmkopdcbiiedaa

/- The four contracts of Read, by how f ends. -/
namespace Go.Proofs.Ytmmkopdcbiiedaa
open Go.RowKit

theorem neq47_func (K : Nat) (cap : Array Value) (w : World) : (binOp .neq 58 (.func (.func K) #[] cap) .nilFunc).run Try.prog w = .ok (.bool true) w := by kernel_rfl
theorem dropWhile_all {α : Type} (p : α → Bool) : ∀ l : List α, l.all p = true → l.dropWhile p = []
  | [], _ => rfl
  | x :: l, h => by
    simp only [List.all_cons, Bool.and_eq_true] at h
    rw [List.dropWhile_cons, if_pos h.1]
    exact dropWhile_all p l h.2

/-- The world in which Read calls f. -/
def readWorld (w : World) (sv : Value) : World :=
  ((w.alloc (.cells #[.int .i64 0] 38)).alloc (.cells #[.bool true, sv, .int .i64 0] 95)).alloc (.cells #[.pointer (some ⟨w.heap.size + 1, 0, none⟩)] 56)

theorem readWorld_size (w : World) (sv : Value) : (readWorld w sv).heap.size = w.heap.size + 3 := by simp [readWorld]

theorem readWorld_chg (w : World) (sv : Value) (S : Nat → Prop) : Chg S w (readWorld w sv) := (((Chg.refl S w).alloc _).alloc _).alloc _

theorem readWorld_E (w : World) (sv : Value) : (readWorld w sv).heap[w.heap.size]? = some (.cells #[.int .i64 0] 38 (0, 0)) := by
  unfold readWorld
  rw [Below.heap_alloc _ _ _ (by simp; omega), Below.heap_alloc _ _ _ (by simp)]
  exact heap_alloc_new w _

theorem readWorld_R (w : World) (sv : Value) : ReaderAt (readWorld w sv) (w.heap.size + 1) true sv 0 := by
  unfold readWorld ReaderAt
  rw [Below.heap_alloc _ _ _ (by simp)]
  have := heap_alloc_new (w.alloc (.cells #[.int .i64 0] 38)) (.cells #[.bool true, sv, .int .i64 0] 95)
  simpa using this

theorem readWorld_V (w : World) (sv : Value) : (readWorld w sv).heap[w.heap.size + 2]? = some (.cells #[.pointer (some ⟨w.heap.size + 1, 0, none⟩)] 56 (0, 0)) := by
  unfold readWorld
  have := heap_alloc_new ((w.alloc (.cells #[.int .i64 0] 38)).alloc (.cells #[.bool true, sv, .int .i64 0] 95)) (.cells #[.pointer (some ⟨w.heap.size + 1, 0, none⟩)] 56)
  simpa using this

/-- What f leaves of memory: its reader; else the blocks of T alone, which were there ahead of Read. -/
def FLeft (w : World) (sv : Value) (T : Nat → Prop) (n : Nat) (flt : Int) (w1 : World) : Prop :=
  (∃ ao m cp, ReaderAt w1 (w.heap.size + 1) true (.slice ao m cp) flt ∧ (flt = 0 → m = n)) ∧ Chg (fun k => k = w.heap.size + 1 ∨ T k) (readWorld w sv) w1

/-- What Read leaves of it. -/
def RLeft (w : World) (T : Nat → Prop) (w1 w' : World) : Prop :=
  ReaderAt w' (w.heap.size + 1) false (.slice none 0 0) 0 ∧ Chg (fun k => k = w.heap.size + 1 ∨ k = w.heap.size) w1 w' ∧ Chg T w w'

theorem fleft_facts {w : World} {sv : Value} {T : Nat → Prop} {n : Nat} {flt : Int} {w1 : World} (h : FLeft w sv T n flt w1) (hT : ∀ k, T k → k < w.heap.size) :
    w1.heap[w.heap.size + 2]? = some (.cells #[.pointer (some ⟨w.heap.size + 1, 0, none⟩)] 56 (0, 0)) ∧ w1.heap[w.heap.size]? = some (.cells #[.int .i64 0] 38 (0, 0)) := by
  refine ⟨(h.2.block _ (by rw [readWorld_size]; omega) ?_).trans (readWorld_V w sv), (h.2.block _ (by rw [readWorld_size]; omega) ?_).trans (readWorld_E w sv)⟩
  · rintro (e | e)
    · omega
    · have := hT _ e; omega
  · rintro (e | e)
    · omega
    · have := hT _ e; omega

theorem rleft_mk {w : World} {sv : Value} {T : Nat → Prop} {n : Nat} {flt r : Int} {w1 w' : World} (h : FLeft w sv T n flt w1) (hl : ReadLeft (w.heap.size + 1) w.heap.size r w1 w') : RLeft w T w1 w' := by
  obtain ⟨h1, h2, h3⟩ := hl
  refine ⟨h1, h3, ?_⟩
  refine ((readWorld_chg w sv T).trans h.2 ?_).trans h3 ?_
  · rintro i hi (e | e)
    · omega
    · exact e
  · rintro i hi (e | e) <;> omega

set_option maxRecDepth 100000 in
/-- f ends by itself. -/
theorem read_returns {K : Nat} {cap : Array Value} {ao : Option Addr} {len cp n : Nat} {w : World} {T : Nat → Prop} {P : World → Prop} (hT : ∀ k, T k → k < w.heap.size) (hK : ∀ args w, (callFunc K args).run Try.prog w = .ok (.enter K args) w)
    (hcall : Calls Try.prog K (#[.pointer (some ⟨w.heap.size + 1, 0, none⟩)] ++ cap) (readWorld w (.slice ao len cp)) fun e w1 => e = .returned (.tuple #[]) ∧ FLeft w (.slice ao len cp) T n 0 w1 ∧ P w1) :
    Calls Try.prog 20 #[.slice ao len cp, .func (.func K) #[] cap] w fun e w' => e = .returned (.int .i64 (endOf 0 n)) ∧ ∃ w1, P w1 ∧ RLeft w T w1 w' := by
  have hmf : ∀ (fn : Fn) (first cap : Array Value) (w : World), (Instr.makeFunc fn first cap).run Try.prog w = .ok (.func fn first cap) w := fun _ _ _ _ => rfl
  have hq := neq47_func K cap
  go_enter_defers Try.func20, Try.ntmps20
  go_wp2_with fail
  refine Calls.mono hcall ?_
  rintro e w1 ⟨rfl, hf, hP⟩
  go_wp2
  refine leaves_cons (f := 51) (args := #[.pointer (some ⟨w.heap.size + 1 + 1, 0, none⟩), .pointer (some ⟨w.heap.size, 0, none⟩)]) (by simp) (by simp [go_sem]) ?_
  obtain ⟨f1, f2⟩ := fleft_facts hf hT
  obtain ⟨⟨ao', m, cp', hR, hm⟩, hch⟩ := id hf
  obtain rfl : m = n := hm rfl
  refine (deferred_idle _ _ _ _ _ _ _ _ _ w1 hR f1 f2 (by omega)).mono ?_
  rintro e u' w2 ⟨rfl, rfl, hl⟩
  have hc := cell_blk hl.2.1 0
  simp only [List.getElem?_toArray, List.getElem?_cons_zero] at hc
  have hL := rleft_mk hf hl
  simp [Leaves, settle, results, Try.results20, go_sem, hc]
  exact ⟨w1, hP, hL⟩

set_option maxRecDepth 100000 in
/-- f is ended by its reader's error. -/
theorem read_stops {K : Nat} {cap : Array Value} {ao : Option Addr} {len cp n : Nat} {flt : Int} {w : World} {T : Nat → Prop} {P : World → Prop} (older : List PanicEntry) (hold : older.all (!·.goexit) = true) (hT : ∀ k, T k → k < w.heap.size) (hK : ∀ args w, (callFunc K args).run Try.prog w = .ok (.enter K args) w)
    (hcall : Calls Try.prog K (#[.pointer (some ⟨w.heap.size + 1, 0, none⟩)] ++ cap) (readWorld w (.slice ao len cp)) fun e w1 => e = .panicked ({ v := stopOf (w.heap.size + 1), recovered := false } :: older) ∧ FLeft w (.slice ao len cp) T n flt w1 ∧ P w1) :
    Calls Try.prog 20 #[.slice ao len cp, .func (.func K) #[] cap] w fun e w' => e = .returned (.int .i64 (endOf flt n)) ∧ ∃ w1, P w1 ∧ RLeft w T w1 w' := by
  have hmf : ∀ (fn : Fn) (first cap : Array Value) (w : World), (Instr.makeFunc fn first cap).run Try.prog w = .ok (.func fn first cap) w := fun _ _ _ _ => rfl
  have hq := neq47_func K cap
  go_enter_defers Try.func20, Try.ntmps20
  go_wp2_with fail
  refine Calls.mono hcall ?_
  rintro e w1 ⟨rfl, hf, hP⟩
  go_wp2
  refine leaves_cons (f := 51) (args := #[.pointer (some ⟨w.heap.size + 1 + 1, 0, none⟩), .pointer (some ⟨w.heap.size, 0, none⟩)]) (by simp) (by simp [go_sem]) ?_
  obtain ⟨f1, f2⟩ := fleft_facts hf hT
  obtain ⟨⟨ao', m, cp', hR, hm⟩, hch⟩ := id hf
  have hen : endOf flt m = endOf flt n := by
    unfold endOf
    by_cases h : flt = 0
    · rw [hm h]
    · rw [if_neg h, if_neg h]
  refine (deferred_stops _ _ _ _ _ _ _ _ _ w1 hR f1 f2 (by omega) (by omega) (by omega) older).mono ?_
  rintro e u' w2 ⟨rfl, rfl, hl⟩
  have hc := cell_blk hl.2.1 0
  simp only [List.getElem?_toArray, List.getElem?_cons_zero] at hc
  have hL := rleft_mk hf hl
  rw [hen] at hc
  have hd : older.dropWhile (!·.goexit) = [] := dropWhile_all _ _ hold
  simp [Leaves, settle, results, Try.results20, go_sem, hc, hd]
  exact ⟨w1, hP, hL⟩

end Go.Proofs.Ytmmkopdcbiiedaa

/- Functions that are values. -/
namespace Go.Proofs.Ytmmkopdcbiiedaa
open Go.RowKit

/-- A function with a body is entered. -/
theorem enters {K : Nat} {fn : Func} (hf : Try.prog.funcs[K]? = some fn) (hn : (fn.name == "runtime.NumGoroutine") = false) (hb : fn.body.isNone = false) (args : Array Value) (w : World) :
    (callFunc K args).run Try.prog w = .ok (.enter K args) w := by
  have h1 : fn.name ≠ "runtime.NumGoroutine" := by simpa using hn
  have h2 : fn.body ≠ none := by
    intro h
    rw [h] at hb
    simp at hb
  unfold callFunc
  simp [program, Sem.run, hf, h1, h2]

end Go.Proofs.Ytmmkopdcbiiedaa

/- What a failed Get of a credential tells is no zero. (As in SignRead, under names of its own, without the program's keys.) -/
namespace Go.Proofs.Ytmmkopdcbiiedaa
open Go.RowKit

theorem kgetEnd_ne {c l n} (h : getEnd c l = .bad n) : ¬ ((n : Int) = 0) := by
  unfold getEnd at h
  split at h
  · cases h
  · cases h; decide
theorem kgetWord_ne {c l n} (h : getWord c l = .bad n) : ¬ ((n : Int) = 0) := by
  unfold getWord at h
  split at h
  · exact kgetEnd_ne h
  · cases h; exact nameBad_ne _
theorem kgetC_ne {c l n} (h : getC c l = .bad n) : ¬ ((n : Int) = 0) := by
  unfold getC at h
  split at h
  · exact kgetEnd_ne h
  · cases h; exact roleBad_ne _
theorem kgetWho_ne {c l n} (h : getWho c l = .bad n) : ¬ ((n : Int) = 0) := by
  unfold getWho at h
  split at h
  · exact kgetEnd_ne h
  · cases h; exact nameBad_ne _
theorem kgetB_ne {c l n} (h : getB c l = .bad n) : ¬ ((n : Int) = 0) := by
  unfold getB at h
  split at h
  · split at h
    · exact kgetWord_ne h
    · split at h
      · exact kgetC_ne h
      · exact kgetEnd_ne h
  · cases h; exact roleBad_ne _
theorem kcredGet_ne {l n} (h : credGet l = .bad n) : ¬ ((n : Int) = 0) := by
  unfold credGet at h
  split at h
  · split at h
    · unfold getHead at h
      split at h
      · split at h
        · exact kgetWho_ne h
        · exact kgetB_ne h
      · cases h; exact roleBad_ne _
    · cases h; decide
  · cases h; omega
end Go.Proofs.Ytmmkopdcbiiedaa
