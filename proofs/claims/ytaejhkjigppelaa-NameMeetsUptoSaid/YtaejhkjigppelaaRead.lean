/- The four contracts of Read, by how f ends. -/
import Derived.Test.YtaejhkjigppelaaDefer
namespace Go.Proofs.Ytaejhkjigppelaa
open Go.RowKit

theorem neq47_func (K : Nat) (cap : Array Value) (w : World) : (binOp .neq 47 (.func (.func K) #[] cap) .nilFunc).run Try.prog w = .ok (.bool true) w := by kernel_rfl
theorem neq47_nil (w : World) : (binOp .neq 47 .nilFunc .nilFunc).run Try.prog w = .ok (.bool false) w := by kernel_rfl

theorem dropWhile_all {α : Type} (p : α → Bool) : ∀ l : List α, l.all p = true → l.dropWhile p = []
  | [], _ => rfl
  | x :: l, h => by
    simp only [List.all_cons, Bool.and_eq_true] at h
    rw [List.dropWhile_cons, if_pos h.1]
    exact dropWhile_all p l h.2

/-- The world in which Read calls f. -/
def readWorld (w : World) (sv : Value) : World :=
  ((w.alloc (.cells #[.int .i64 0] 40)).alloc (.cells #[.bool true, sv, .int .i64 0] 75)).alloc (.cells #[.pointer (some ⟨w.heap.size + 1, 0, none⟩)] 39)

theorem readWorld_size (w : World) (sv : Value) : (readWorld w sv).heap.size = w.heap.size + 3 := by simp [readWorld]

theorem readWorld_chg (w : World) (sv : Value) (S : Nat → Prop) : Chg S w (readWorld w sv) := (((Chg.refl S w).alloc _).alloc _).alloc _

theorem readWorld_E (w : World) (sv : Value) : (readWorld w sv).heap[w.heap.size]? = some (.cells #[.int .i64 0] 40 (0, 0)) := by
  unfold readWorld
  rw [Below.heap_alloc _ _ _ (by simp; omega), Below.heap_alloc _ _ _ (by simp)]
  exact heap_alloc_new w _

theorem readWorld_R (w : World) (sv : Value) : ReaderAt (readWorld w sv) (w.heap.size + 1) true sv 0 := by
  unfold readWorld ReaderAt
  rw [Below.heap_alloc _ _ _ (by simp)]
  have := heap_alloc_new (w.alloc (.cells #[.int .i64 0] 40)) (.cells #[.bool true, sv, .int .i64 0] 75)
  simpa using this

theorem readWorld_V (w : World) (sv : Value) : (readWorld w sv).heap[w.heap.size + 2]? = some (.cells #[.pointer (some ⟨w.heap.size + 1, 0, none⟩)] 39 (0, 0)) := by
  unfold readWorld
  have := heap_alloc_new ((w.alloc (.cells #[.int .i64 0] 40)).alloc (.cells #[.bool true, sv, .int .i64 0] 75)) (.cells #[.pointer (some ⟨w.heap.size + 1, 0, none⟩)] 39)
  simpa using this

/-- What f leaves of memory: its reader; else the blocks of T alone, which were there ahead of Read. -/
def FLeft (w : World) (sv : Value) (T : Nat → Prop) (n : Nat) (flt : Int) (w1 : World) : Prop :=
  (∃ ao m cp, ReaderAt w1 (w.heap.size + 1) true (.slice ao m cp) flt ∧ (flt = 0 → m = n)) ∧ Chg (fun k => k = w.heap.size + 1 ∨ T k) (readWorld w sv) w1

/-- What Read leaves of it. -/
def RLeft (w : World) (T : Nat → Prop) (w1 w' : World) : Prop :=
  ReaderAt w' (w.heap.size + 1) false (.slice none 0 0) 0 ∧ Chg (fun k => k = w.heap.size + 1 ∨ k = w.heap.size) w1 w' ∧ Chg T w w'

theorem fleft_facts {w : World} {sv : Value} {T : Nat → Prop} {n : Nat} {flt : Int} {w1 : World} (h : FLeft w sv T n flt w1) (hT : ∀ k, T k → k < w.heap.size) :
    w1.heap[w.heap.size + 2]? = some (.cells #[.pointer (some ⟨w.heap.size + 1, 0, none⟩)] 39 (0, 0)) ∧ w1.heap[w.heap.size]? = some (.cells #[.int .i64 0] 40 (0, 0)) := by
  refine ⟨(h.2.block _ (by rw [readWorld_size]; omega) ?_).trans (readWorld_V w sv), (h.2.block _ (by rw [readWorld_size]; omega) ?_).trans (readWorld_E w sv)⟩
  · rintro (e | e)
    · omega
    · have := hT _ e; omega
  · rintro (e | e)
    · omega
    · have := hT _ e; omega

theorem rleft_mk {w : World} {sv : Value} {T : Nat → Prop} {n : Nat} {flt r : Int} {w1 w' : World} (h : FLeft w sv T n flt w1) (hl : ReadLeft (w.heap.size + 1) w.heap.size r w1 w') : RLeft w T w1 w' := by
  obtain ⟨h1, h2, h3⟩ := hl
  refine ⟨h1, h3, ?_⟩
  refine ((readWorld_chg w sv T).trans h.2 ?_).trans h3 ?_
  · rintro i hi (e | e)
    · omega
    · exact e
  · rintro i hi (e | e) <;> omega

set_option maxRecDepth 100000 in
/-- f ends by itself. -/
theorem read_returns {K : Nat} {cap : Array Value} {ao : Option Addr} {len cp n : Nat} {w : World} {T : Nat → Prop} {P : World → Prop} (hT : ∀ k, T k → k < w.heap.size) (hK : ∀ args w, (callFunc K args).run Try.prog w = .ok (.enter K args) w)
    (hcall : Calls Try.prog K (#[.pointer (some ⟨w.heap.size + 1, 0, none⟩)] ++ cap) (readWorld w (.slice ao len cp)) fun e w1 => e = .returned (.tuple #[]) ∧ FLeft w (.slice ao len cp) T n 0 w1 ∧ P w1) :
    Calls Try.prog 19 #[.slice ao len cp, .func (.func K) #[] cap] w fun e w' => e = .returned (.int .i64 (endOf 0 n)) ∧ ∃ w1, P w1 ∧ RLeft w T w1 w' := by
  have hmf : ∀ (fn : Fn) (first cap : Array Value) (w : World), (Instr.makeFunc fn first cap).run Try.prog w = .ok (.func fn first cap) w := fun _ _ _ _ => rfl
  have hq := neq47_func K cap
  go_enter_defers Try.func19, Try.ntmps19
  go_wp2_with fail
  refine Calls.mono hcall ?_
  rintro e w1 ⟨rfl, hf, hP⟩
  go_wp2
  refine leaves_cons (f := 64) (args := #[.pointer (some ⟨w.heap.size + 1 + 1, 0, none⟩), .pointer (some ⟨w.heap.size, 0, none⟩)]) (by simp) (by simp [go_sem]) ?_
  obtain ⟨f1, f2⟩ := fleft_facts hf hT
  obtain ⟨⟨ao', m, cp', hR, hm⟩, hch⟩ := id hf
  obtain rfl : m = n := hm rfl
  refine (deferred_idle _ _ _ _ _ _ _ _ _ w1 hR f1 f2 (by omega)).mono ?_
  rintro e u' w2 ⟨rfl, rfl, hl⟩
  have hc := cell_blk hl.2.1 0
  simp only [List.getElem?_toArray, List.getElem?_cons_zero] at hc
  have hL := rleft_mk hf hl
  simp [Leaves, settle, results, Try.results19, go_sem, hc]
  exact ⟨w1, hP, hL⟩

set_option maxRecDepth 100000 in
/-- f is ended by its reader's error. -/
theorem read_stops {K : Nat} {cap : Array Value} {ao : Option Addr} {len cp n : Nat} {flt : Int} {w : World} {T : Nat → Prop} {P : World → Prop} (older : List PanicEntry) (hold : older.all (!·.goexit) = true) (hT : ∀ k, T k → k < w.heap.size) (hK : ∀ args w, (callFunc K args).run Try.prog w = .ok (.enter K args) w)
    (hcall : Calls Try.prog K (#[.pointer (some ⟨w.heap.size + 1, 0, none⟩)] ++ cap) (readWorld w (.slice ao len cp)) fun e w1 => e = .panicked ({ v := stopOf (w.heap.size + 1), recovered := false } :: older) ∧ FLeft w (.slice ao len cp) T n flt w1 ∧ P w1) :
    Calls Try.prog 19 #[.slice ao len cp, .func (.func K) #[] cap] w fun e w' => e = .returned (.int .i64 (endOf flt n)) ∧ ∃ w1, P w1 ∧ RLeft w T w1 w' := by
  have hmf : ∀ (fn : Fn) (first cap : Array Value) (w : World), (Instr.makeFunc fn first cap).run Try.prog w = .ok (.func fn first cap) w := fun _ _ _ _ => rfl
  have hq := neq47_func K cap
  go_enter_defers Try.func19, Try.ntmps19
  go_wp2_with fail
  refine Calls.mono hcall ?_
  rintro e w1 ⟨rfl, hf, hP⟩
  go_wp2
  refine leaves_cons (f := 64) (args := #[.pointer (some ⟨w.heap.size + 1 + 1, 0, none⟩), .pointer (some ⟨w.heap.size, 0, none⟩)]) (by simp) (by simp [go_sem]) ?_
  obtain ⟨f1, f2⟩ := fleft_facts hf hT
  obtain ⟨⟨ao', m, cp', hR, hm⟩, hch⟩ := id hf
  have hen : endOf flt m = endOf flt n := by
    unfold endOf
    by_cases h : flt = 0
    · rw [hm h]
    · rw [if_neg h, if_neg h]
  refine (deferred_stops _ _ _ _ _ _ _ _ _ w1 hR f1 f2 (by omega) (by omega) (by omega) older).mono ?_
  rintro e u' w2 ⟨rfl, rfl, hl⟩
  have hc := cell_blk hl.2.1 0
  simp only [List.getElem?_toArray, List.getElem?_cons_zero] at hc
  have hL := rleft_mk hf hl
  rw [hen] at hc
  have hd : older.dropWhile (!·.goexit) = [] := dropWhile_all _ _ hold
  simp [Leaves, settle, results, Try.results19, go_sem, hc, hd]
  exact ⟨w1, hP, hL⟩

set_option maxRecDepth 100000 in
/-- f panics by itself, or another reader's error goes through. -/
theorem read_throws {K : Nat} {cap : Array Value} {ao : Option Addr} {len cp n : Nat} {flt : Int} {w : World} {T : Nat → Prop} {P : World → Prop} (older : List PanicEntry) (TT : TypeId) (pv : Value) (ok : Bool) (q : Nat)
    (ha : ∀ w, (Instr.typeAssert (.iface TT pv) 20 78 true).run Try.prog w = .ok (.tuple #[.agg #[.pointer (if ok then some ⟨q, 0, none⟩ else none)], .bool ok]) w) (hq : ok = true → q < w.heap.size)
    (hQ : ∀ w1, P w1 → ok = true → ∃ cq tq, w1.heap[q]? = some (.cells cq tq (0, 0))) (hT : ∀ k, T k → k < w.heap.size) (hK : ∀ args w, (callFunc K args).run Try.prog w = .ok (.enter K args) w)
    (hcall : Calls Try.prog K (#[.pointer (some ⟨w.heap.size + 1, 0, none⟩)] ++ cap) (readWorld w (.slice ao len cp)) fun e w1 => e = .panicked ({ v := .iface TT pv, recovered := false } :: older) ∧ FLeft w (.slice ao len cp) T n flt w1 ∧ P w1) :
    Calls Try.prog 19 #[.slice ao len cp, .func (.func K) #[] cap] w fun e w' => e = .panicked ({ v := .iface TT pv, recovered := false } :: { v := .iface TT pv, recovered := true } :: older) ∧ ∃ w1, P w1 ∧ RLeft w T w1 w' := by
  have hmf : ∀ (fn : Fn) (first cap : Array Value) (w : World), (Instr.makeFunc fn first cap).run Try.prog w = .ok (.func fn first cap) w := fun _ _ _ _ => rfl
  have hqq := neq47_func K cap
  go_enter_defers Try.func19, Try.ntmps19
  go_wp2_with fail
  refine Calls.mono hcall ?_
  rintro e w1 ⟨rfl, hf, hP⟩
  go_wp2
  refine leaves_cons (f := 64) (args := #[.pointer (some ⟨w.heap.size + 1 + 1, 0, none⟩), .pointer (some ⟨w.heap.size, 0, none⟩)]) (by simp) (by simp [go_sem]) ?_
  obtain ⟨f1, f2⟩ := fleft_facts hf hT
  obtain ⟨⟨ao', m, cp', hR, hm⟩, hch⟩ := id hf
  refine (deferred_throws _ _ _ _ _ _ _ _ _ w1 hR f1 f2 (by omega) (by omega) (by omega) older TT pv ok q ha ?_).mono ?_
  · intro h
    have := hq h
    exact ⟨by omega, by omega, hQ w1 hP h⟩
  rintro e u' w2 ⟨rfl, rfl, hl⟩
  have hL := rleft_mk hf hl
  simp [Leaves, raised]
  exact ⟨w1, hP, hL⟩

set_option maxRecDepth 100000 in
/-- No f. -/
theorem read_none {ao : Option Addr} {len cp : Nat} {w : World} :
    Calls Try.prog 19 #[.slice ao len cp, .nilFunc] w fun e w' => e = .returned (.int .i64 (endOf 0 len)) ∧ Chg (fun _ => False) w w' := by
  have hmf : ∀ (fn : Fn) (first cap : Array Value) (w : World), (Instr.makeFunc fn first cap).run Try.prog w = .ok (.func fn first cap) w := fun _ _ _ _ => rfl
  have hqq := neq47_nil
  go_enter_defers Try.func19, Try.ntmps19
  go_wp2
  refine leaves_cons (f := 64) (args := #[.pointer (some ⟨w.heap.size + 1 + 1, 0, none⟩), .pointer (some ⟨w.heap.size, 0, none⟩)]) (by simp) (by simp [go_sem]) ?_
  have hf : FLeft w (.slice ao len cp) (fun _ => False) len 0 (readWorld w (.slice ao len cp)) := ⟨⟨ao, len, cp, readWorld_R w _, fun _ => rfl⟩, Chg.refl _ _⟩
  refine (deferred_idle _ _ _ _ _ _ _ _ _ _ (readWorld_R w _) (readWorld_V w _) (readWorld_E w _) (by omega)).mono ?_
  rintro e u' w2 ⟨rfl, rfl, hl⟩
  have hc := cell_blk hl.2.1 0
  simp only [List.getElem?_toArray, List.getElem?_cons_zero] at hc
  have hL := rleft_mk hf hl
  simp [Leaves, settle, results, Try.results19, go_sem, hc]
  exact hL.2.2

end Go.Proofs.Ytaejhkjigppelaa
