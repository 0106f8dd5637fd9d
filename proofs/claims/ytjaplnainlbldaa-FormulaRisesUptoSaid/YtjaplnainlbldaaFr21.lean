/- Texts that the proof leans on, in one: End, Defer, Read, Enters. -/
import Derived.Test.YtjaplnainlbldaaFr8
import Derived.Test.YtjaplnainlbldaaFr6
import Derived.Defers
import Derived.Recover
import Derived.LaidEqlPtr
import Derived.Test.YtjaplnainlbldaaFr2
/- The contract of a reader's end. -/
namespace Go.Proofs.Ytjaplnainlbldaa
open Go.RowKit

def Ended (R : Nat) (r : Int) (w : World) (e : Ending) (w' : World) : Prop :=
  e = .returned (.int .i64 r) ∧ ReaderAt w' R false (.slice none 0 0) 0 ∧ Chg (· = R) w w'

theorem ended_mk {R : Nat} {r : Int} {w : World} {op : Bool} {v : Value} {flt : Int} (hR : ReaderAt w R op v flt) :
    Ended R r w (.returned (.int .i64 r)) (((w.setCell ⟨R, 0, none⟩ (.bool false)).setCell ⟨R, 1, none⟩ (.slice none 0 0)).setCell ⟨R, 2, none⟩ (.int .i64 0)) := by
  refine ⟨rfl, ?_, ?_⟩
  · exact set_blk (set_blk (set_blk hR 0 (.bool false)) 1 (.slice none 0 0)) 2 (.int .i64 0)
  · exact (((Chg.refl (· = R) w).setCell (p := ⟨R, _, none⟩) (fun _ => rfl) _).setCell (p := ⟨R, _, none⟩) (fun _ => rfl) _).setCell (p := ⟨R, _, none⟩) (fun _ => rfl) _

set_option maxRecDepth 100000 in
theorem end_fault (R n cap : Nat) (flt : Int) (ao : Option Addr) (op : Bool) (w : World) (hR : ReaderAt w R op (.slice ao n cap) flt) (hf : (flt == 0) = false) :
    Calls Try.prog 65 #[.pointer (some ⟨R, 0, none⟩)] w (Ended R flt w) := by
  have h0 := cell_blk hR 0
  have h1 := cell_blk hR 1
  have h2 := cell_blk hR 2
  have f0 := froz_blk hR 0
  have f1 := froz_blk hR 1
  have f2 := froz_blk hR 2
  simp only [List.getElem?_toArray, List.getElem?_cons_zero, List.getElem?_cons_succ] at h0 h1 h2
  go_enter Try.func65, Try.ntmps65
  go_wp2
  go_ret
  exact ended_mk hR

set_option maxRecDepth 100000 in
theorem end_trail (R n cap : Nat) (ao : Option Addr) (op : Bool) (w : World) (hR : ReaderAt w R op (.slice ao n cap) 0) (hn : 0 < (n : Int)) :
    Calls Try.prog 65 #[.pointer (some ⟨R, 0, none⟩)] w (Ended R 13 w) := by
  have h0 := cell_blk hR 0
  have h1 := cell_blk hR 1
  have h2 := cell_blk hR 2
  have f0 := froz_blk hR 0
  have f1 := froz_blk hR 1
  have f2 := froz_blk hR 2
  simp only [List.getElem?_toArray, List.getElem?_cons_zero, List.getElem?_cons_succ] at h0 h1 h2
  go_enter Try.func65, Try.ntmps65
  go_wp2
  go_ret
  exact ended_mk hR

set_option maxRecDepth 100000 in
theorem end_ok (R cap : Nat) (ao : Option Addr) (op : Bool) (w : World) (hR : ReaderAt w R op (.slice ao 0 cap) 0) :
    Calls Try.prog 65 #[.pointer (some ⟨R, 0, none⟩)] w (Ended R 0 w) := by
  have h0 := cell_blk hR 0
  have h1 := cell_blk hR 1
  have h2 := cell_blk hR 2
  have f0 := froz_blk hR 0
  have f1 := froz_blk hR 1
  have f2 := froz_blk hR 2
  simp only [List.getElem?_toArray, List.getElem?_cons_zero, List.getElem?_cons_succ] at h0 h1 h2
  go_enter Try.func65, Try.ntmps65
  go_wp2
  go_ret
  exact ended_mk hR

theorem end_any (R n cap : Nat) (flt : Int) (ao : Option Addr) (op : Bool) (w : World) (hR : ReaderAt w R op (.slice ao n cap) flt) :
    Calls Try.prog 65 #[.pointer (some ⟨R, 0, none⟩)] w (Ended R (endOf flt n) w) := by
  unfold endOf
  by_cases hf : flt = 0
  · subst hf
    rw [if_pos rfl]
    by_cases hn : 0 < n
    · rw [if_pos hn]
      exact end_trail R n cap ao op w hR (by omega)
    · rw [if_neg hn]
      obtain rfl : n = 0 := by omega
      exact end_ok R cap ao op w hR
  · rw [if_neg hf]
    exact end_fault R n cap flt ao op w hR (by simpa using hf)

end Go.Proofs.Ytjaplnainlbldaa

/- The three contracts of the function that Read defers. -/
namespace Go.Proofs.Ytjaplnainlbldaa
open Go.RowKit

theorem assert_nil (w : World) : (Instr.typeAssert .nilIface 20 115 true).run Try.prog w = .ok (.tuple #[.agg #[.pointer none], .bool false]) w := by kernel_rfl
/-- What the function that Read defers leaves of memory. -/
def ReadLeft (R E : Nat) (r : Int) (w w' : World) : Prop :=
  ReaderAt w' R false (.slice none 0 0) 0 ∧ w'.heap[E]? = some (.cells #[.int .i64 r] 52 (0, 0)) ∧ Chg (fun k => k = R ∨ k = E) w w'

theorem readLeft_mk {R E : Nat} {r : Int} {ev : Int} {w w1 : World} {o : Obj} (hER : E ≠ R) (hR : ReaderAt w1 R false (.slice none 0 0) 0) (hE : w1.heap[E]? = some (.cells #[.int .i64 ev] 52 (0, 0))) (hch : Chg (· = R) w w1) :
    ReadLeft R E r w ((w1.setCell ⟨E, 0, none⟩ (.int .i64 r)).alloc o) := by
  have h1 := set_blk hE 0 (.int .i64 r)
  have h2 : (w1.setCell ⟨E, 0, none⟩ (.int .i64 r)).heap[R]? = w1.heap[R]? := set_blk_ne (by show R ≠ E; omega)
  refine ⟨?_, ?_, ?_⟩
  · exact (Below.heap_alloc _ _ _ (lt_blk (h2.trans hR))).trans (h2.trans hR)
  · exact (Below.heap_alloc _ _ _ (lt_blk h1)).trans h1
  · exact (((hch.mono (fun _ _ h => .inl h)).setCell (p := ⟨E, 0, none⟩) (fun _ => .inr rfl) _).alloc o)

theorem postS_end {fn : Func} {c₀ : Frame} {cs : List Frame} {R : Ending → FrameMode → World → Prop} {u : FrameMode} {t : Array Value} {w : World} (hr : fn.results = #[]) (h : R (.returned (.tuple #[])) u w) :
    bodyPostS Try.prog fn c₀ cs R .normal { tmps := t, defers := [] } ({ c₀ with mode := u } :: cs) w :=
  ⟨rfl, u, rfl, .tuple #[], results_none hr _ _ _, h⟩

theorem mode_self {c : Frame} {u : FrameMode} (h : c.mode = u) : ({ c with mode := u } : Frame) = c := by
  subst h
  rfl

set_option maxRecDepth 100000 in
/-- f has ended by itself. -/
theorem deferred_idle (V R E n cap : Nat) (flt : Int) (ao : Option Addr) (op : Bool) (ev : Int) (w : World) (hR : ReaderAt w R op (.slice ao n cap) flt)
    (hV : w.heap[V]? = some (.cells #[.pointer (some ⟨R, 0, none⟩)] 72 (0, 0))) (hE : w.heap[E]? = some (.cells #[.int .i64 ev] 52 (0, 0))) (hER : E ≠ R) :
    CallsD Try.prog 64 #[.pointer (some ⟨V, 0, none⟩), .pointer (some ⟨E, 0, none⟩)] .returning w fun e u' w' =>
      e = .returned (.tuple #[]) ∧ u' = .returning ∧ ReadLeft R E (endOf flt n) w w' := by
  have v0 := cell_blk hV 0
  simp only [List.getElem?_toArray, List.getElem?_cons_zero] at v0
  refine callsD_of_wpS Try.func64 rfl fun c₀ cs hu => ?_
  simp only [Try.ntmps64, List.size_toArray, List.length_cons, List.length_nil, Nat.reduceAdd, Nat.reduceSub, Array.replicate_succ, Array.replicate_zero, List.push_toArray, List.append_toArray, List.nil_append, List.cons_append]
  apply wpS_seq
  refine wpS_of_wp ?_
  go_wp2_with (go_at_call 65; refine (end_any R n cap flt ao op _ hR).mono ?_; rintro e w1 ⟨rfl, hR1, hch⟩; have hE1 := (hch.block E (lt_blk hE) hER).trans hE; have e0 := cell_blk hE1 0; have fe0 := froz_blk hE1 0; simp only [List.getElem?_toArray, List.getElem?_cons_zero] at e0)
  apply wpS_seq
  apply wpS_region
  simp [wpOpsS, go_sem, recoverD, hu, Exit.thenS]
  refine wpS_of_wp ?_
  have ha := assert_nil
  have HL := fun o => hid (readLeft_mk (r := endOf flt n) (o := o) hER hR1 hE1 hch)
  have HU := hid (mode_self hu)
  clear hch hR1 hE1 e0 fe0 v0 hV hE hR hu
  go_wp2
  rw [← HU.out]
  exact postS_end rfl ⟨rfl, rfl, (HL _).out⟩

end Go.Proofs.Ytjaplnainlbldaa

/- The four contracts of Read, by how f ends. -/
namespace Go.Proofs.Ytjaplnainlbldaa
open Go.RowKit

theorem neq47_func (K : Nat) (cap : Array Value) (w : World) : (binOp .neq 74 (.func (.func K) #[] cap) .nilFunc).run Try.prog w = .ok (.bool true) w := by kernel_rfl
/-- The world in which Read calls f. -/
def readWorld (w : World) (sv : Value) : World :=
  ((w.alloc (.cells #[.int .i64 0] 52)).alloc (.cells #[.bool true, sv, .int .i64 0] 112)).alloc (.cells #[.pointer (some ⟨w.heap.size + 1, 0, none⟩)] 72)

theorem readWorld_size (w : World) (sv : Value) : (readWorld w sv).heap.size = w.heap.size + 3 := by simp [readWorld]

theorem readWorld_chg (w : World) (sv : Value) (S : Nat → Prop) : Chg S w (readWorld w sv) := (((Chg.refl S w).alloc _).alloc _).alloc _

theorem readWorld_E (w : World) (sv : Value) : (readWorld w sv).heap[w.heap.size]? = some (.cells #[.int .i64 0] 52 (0, 0)) := by
  unfold readWorld
  rw [Below.heap_alloc _ _ _ (by simp; omega), Below.heap_alloc _ _ _ (by simp)]
  exact heap_alloc_new w _

theorem readWorld_R (w : World) (sv : Value) : ReaderAt (readWorld w sv) (w.heap.size + 1) true sv 0 := by
  unfold readWorld ReaderAt
  rw [Below.heap_alloc _ _ _ (by simp)]
  have := heap_alloc_new (w.alloc (.cells #[.int .i64 0] 52)) (.cells #[.bool true, sv, .int .i64 0] 112)
  simpa using this

theorem readWorld_V (w : World) (sv : Value) : (readWorld w sv).heap[w.heap.size + 2]? = some (.cells #[.pointer (some ⟨w.heap.size + 1, 0, none⟩)] 72 (0, 0)) := by
  unfold readWorld
  have := heap_alloc_new ((w.alloc (.cells #[.int .i64 0] 52)).alloc (.cells #[.bool true, sv, .int .i64 0] 112)) (.cells #[.pointer (some ⟨w.heap.size + 1, 0, none⟩)] 72)
  simpa using this

/-- What f leaves of memory: its reader; else the blocks of T alone, which were there ahead of Read. -/
def FLeft (w : World) (sv : Value) (T : Nat → Prop) (n : Nat) (flt : Int) (w1 : World) : Prop :=
  (∃ ao m cp, ReaderAt w1 (w.heap.size + 1) true (.slice ao m cp) flt ∧ (flt = 0 → m = n)) ∧ Chg (fun k => k = w.heap.size + 1 ∨ T k) (readWorld w sv) w1

/-- What Read leaves of it. -/
def RLeft (w : World) (T : Nat → Prop) (w1 w' : World) : Prop :=
  ReaderAt w' (w.heap.size + 1) false (.slice none 0 0) 0 ∧ Chg (fun k => k = w.heap.size + 1 ∨ k = w.heap.size) w1 w' ∧ Chg T w w'

theorem fleft_facts {w : World} {sv : Value} {T : Nat → Prop} {n : Nat} {flt : Int} {w1 : World} (h : FLeft w sv T n flt w1) (hT : ∀ k, T k → k < w.heap.size) :
    w1.heap[w.heap.size + 2]? = some (.cells #[.pointer (some ⟨w.heap.size + 1, 0, none⟩)] 72 (0, 0)) ∧ w1.heap[w.heap.size]? = some (.cells #[.int .i64 0] 52 (0, 0)) := by
  refine ⟨(h.2.block _ (by rw [readWorld_size]; omega) ?_).trans (readWorld_V w sv), (h.2.block _ (by rw [readWorld_size]; omega) ?_).trans (readWorld_E w sv)⟩
  · rintro (e | e)
    · omega
    · have := hT _ e; omega
  · rintro (e | e)
    · omega
    · have := hT _ e; omega

theorem rleft_mk {w : World} {sv : Value} {T : Nat → Prop} {n : Nat} {flt r : Int} {w1 w' : World} (h : FLeft w sv T n flt w1) (hl : ReadLeft (w.heap.size + 1) w.heap.size r w1 w') : RLeft w T w1 w' := by
  obtain ⟨h1, h2, h3⟩ := hl
  refine ⟨h1, h3, ?_⟩
  refine ((readWorld_chg w sv T).trans h.2 ?_).trans h3 ?_
  · rintro i hi (e | e)
    · omega
    · exact e
  · rintro i hi (e | e) <;> omega

set_option maxRecDepth 100000 in
/-- f ends by itself. -/
theorem read_returns {K : Nat} {cap : Array Value} {ao : Option Addr} {len cp n : Nat} {w : World} {T : Nat → Prop} {P : World → Prop} (hT : ∀ k, T k → k < w.heap.size) (hK : ∀ args w, (callFunc K args).run Try.prog w = .ok (.enter K args) w)
    (hcall : Calls Try.prog K (#[.pointer (some ⟨w.heap.size + 1, 0, none⟩)] ++ cap) (readWorld w (.slice ao len cp)) fun e w1 => e = .returned (.tuple #[]) ∧ FLeft w (.slice ao len cp) T n 0 w1 ∧ P w1) :
    Calls Try.prog 32 #[.slice ao len cp, .func (.func K) #[] cap] w fun e w' => e = .returned (.int .i64 (endOf 0 n)) ∧ ∃ w1, P w1 ∧ RLeft w T w1 w' := by
  have hmf : ∀ (fn : Fn) (first cap : Array Value) (w : World), (Instr.makeFunc fn first cap).run Try.prog w = .ok (.func fn first cap) w := fun _ _ _ _ => rfl
  have hq := neq47_func K cap
  go_enter_defers Try.func32, Try.ntmps32
  go_wp2_with fail
  refine Calls.mono hcall ?_
  rintro e w1 ⟨rfl, hf, hP⟩
  go_wp2
  refine leaves_cons (f := 64) (args := #[.pointer (some ⟨w.heap.size + 1 + 1, 0, none⟩), .pointer (some ⟨w.heap.size, 0, none⟩)]) (by simp) (by simp [go_sem]) ?_
  obtain ⟨f1, f2⟩ := fleft_facts hf hT
  obtain ⟨⟨ao', m, cp', hR, hm⟩, hch⟩ := id hf
  obtain rfl : m = n := hm rfl
  refine (deferred_idle _ _ _ _ _ _ _ _ _ w1 hR f1 f2 (by omega)).mono ?_
  rintro e u' w2 ⟨rfl, rfl, hl⟩
  have hc := cell_blk hl.2.1 0
  simp only [List.getElem?_toArray, List.getElem?_cons_zero] at hc
  have hL := rleft_mk hf hl
  simp [Leaves, settle, results, Try.results32, go_sem, hc]
  exact ⟨w1, hP, hL⟩

end Go.Proofs.Ytjaplnainlbldaa

/- Functions that are values. -/
namespace Go.Proofs.Ytjaplnainlbldaa
open Go.RowKit

/-- A function with a body is entered. -/
theorem enters {K : Nat} {fn : Func} (hf : Try.prog.funcs[K]? = some fn) (hn : (fn.name == "runtime.NumGoroutine") = false) (hb : fn.body.isNone = false) (args : Array Value) (w : World) :
    (callFunc K args).run Try.prog w = .ok (.enter K args) w := by
  have h1 : fn.name ≠ "runtime.NumGoroutine" := by simpa using hn
  have h2 : fn.body ≠ none := by
    intro h
    rw [h] at hb
    simp at hb
  unfold callFunc
  simp [program, Sem.run, hf, h1, h2]

end Go.Proofs.Ytjaplnainlbldaa
