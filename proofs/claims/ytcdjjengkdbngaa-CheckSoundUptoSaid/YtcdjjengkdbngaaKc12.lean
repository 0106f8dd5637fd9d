/- Texts that the proof leans on, in one: Read, Enters, GetNe, CheckG. -/
import Derived.Test.YtcdjjengkdbngaaKc11
import Derived.Test.YtcdjjengkdbngaaKc5
import Derived.Test.YtcdjjengkdbngaaKc7
import Derived.Test.YtcdjjengkdbngaaKc10
/- The four contracts of Read, by how f ends. -/
namespace Go.Proofs.Ytcdjjengkdbngaa
open Go.RowKit

theorem neq47_func (K : Nat) (cap : Array Value) (w : World) : (binOp .neq 69 (.func (.func K) #[] cap) .nilFunc).run Try.prog w = .ok (.bool true) w := by kernel_rfl
theorem dropWhile_all {α : Type} (p : α → Bool) : ∀ l : List α, l.all p = true → l.dropWhile p = []
  | [], _ => rfl
  | x :: l, h => by
    simp only [List.all_cons, Bool.and_eq_true] at h
    rw [List.dropWhile_cons, if_pos h.1]
    exact dropWhile_all p l h.2

/-- The world in which Read calls f. -/
def readWorld (w : World) (sv : Value) : World :=
  ((w.alloc (.cells #[.int .i64 0] 37)).alloc (.cells #[.bool true, sv, .int .i64 0] 111)).alloc (.cells #[.pointer (some ⟨w.heap.size + 1, 0, none⟩)] 67)

theorem readWorld_size (w : World) (sv : Value) : (readWorld w sv).heap.size = w.heap.size + 3 := by simp [readWorld]

theorem readWorld_chg (w : World) (sv : Value) (S : Nat → Prop) : Chg S w (readWorld w sv) := (((Chg.refl S w).alloc _).alloc _).alloc _

theorem readWorld_E (w : World) (sv : Value) : (readWorld w sv).heap[w.heap.size]? = some (.cells #[.int .i64 0] 37 (0, 0)) := by
  unfold readWorld
  rw [Below.heap_alloc _ _ _ (by simp; omega), Below.heap_alloc _ _ _ (by simp)]
  exact heap_alloc_new w _

theorem readWorld_R (w : World) (sv : Value) : ReaderAt (readWorld w sv) (w.heap.size + 1) true sv 0 := by
  unfold readWorld ReaderAt
  rw [Below.heap_alloc _ _ _ (by simp)]
  have := heap_alloc_new (w.alloc (.cells #[.int .i64 0] 37)) (.cells #[.bool true, sv, .int .i64 0] 111)
  simpa using this

theorem readWorld_V (w : World) (sv : Value) : (readWorld w sv).heap[w.heap.size + 2]? = some (.cells #[.pointer (some ⟨w.heap.size + 1, 0, none⟩)] 67 (0, 0)) := by
  unfold readWorld
  have := heap_alloc_new ((w.alloc (.cells #[.int .i64 0] 37)).alloc (.cells #[.bool true, sv, .int .i64 0] 111)) (.cells #[.pointer (some ⟨w.heap.size + 1, 0, none⟩)] 67)
  simpa using this

/-- What f leaves of memory: its reader; else the blocks of T alone, which were there ahead of Read. -/
def FLeft (w : World) (sv : Value) (T : Nat → Prop) (n : Nat) (flt : Int) (w1 : World) : Prop :=
  (∃ ao m cp, ReaderAt w1 (w.heap.size + 1) true (.slice ao m cp) flt ∧ (flt = 0 → m = n)) ∧ Chg (fun k => k = w.heap.size + 1 ∨ T k) (readWorld w sv) w1

/-- What Read leaves of it. -/
def RLeft (w : World) (T : Nat → Prop) (w1 w' : World) : Prop :=
  ReaderAt w' (w.heap.size + 1) false (.slice none 0 0) 0 ∧ Chg (fun k => k = w.heap.size + 1 ∨ k = w.heap.size) w1 w' ∧ Chg T w w'

theorem fleft_facts {w : World} {sv : Value} {T : Nat → Prop} {n : Nat} {flt : Int} {w1 : World} (h : FLeft w sv T n flt w1) (hT : ∀ k, T k → k < w.heap.size) :
    w1.heap[w.heap.size + 2]? = some (.cells #[.pointer (some ⟨w.heap.size + 1, 0, none⟩)] 67 (0, 0)) ∧ w1.heap[w.heap.size]? = some (.cells #[.int .i64 0] 37 (0, 0)) := by
  refine ⟨(h.2.block _ (by rw [readWorld_size]; omega) ?_).trans (readWorld_V w sv), (h.2.block _ (by rw [readWorld_size]; omega) ?_).trans (readWorld_E w sv)⟩
  · rintro (e | e)
    · omega
    · have := hT _ e; omega
  · rintro (e | e)
    · omega
    · have := hT _ e; omega

theorem rleft_mk {w : World} {sv : Value} {T : Nat → Prop} {n : Nat} {flt r : Int} {w1 w' : World} (h : FLeft w sv T n flt w1) (hl : ReadLeft (w.heap.size + 1) w.heap.size r w1 w') : RLeft w T w1 w' := by
  obtain ⟨h1, h2, h3⟩ := hl
  refine ⟨h1, h3, ?_⟩
  refine ((readWorld_chg w sv T).trans h.2 ?_).trans h3 ?_
  · rintro i hi (e | e)
    · omega
    · exact e
  · rintro i hi (e | e) <;> omega

set_option maxRecDepth 100000 in
/-- f ends by itself. -/
theorem read_returns {K : Nat} {cap : Array Value} {ao : Option Addr} {len cp n : Nat} {w : World} {T : Nat → Prop} {P : World → Prop} (hT : ∀ k, T k → k < w.heap.size) (hK : ∀ args w, (callFunc K args).run Try.prog w = .ok (.enter K args) w)
    (hcall : Calls Try.prog K (#[.pointer (some ⟨w.heap.size + 1, 0, none⟩)] ++ cap) (readWorld w (.slice ao len cp)) fun e w1 => e = .returned (.tuple #[]) ∧ FLeft w (.slice ao len cp) T n 0 w1 ∧ P w1) :
    Calls Try.prog 27 #[.slice ao len cp, .func (.func K) #[] cap] w fun e w' => e = .returned (.int .i64 (endOf 0 n)) ∧ ∃ w1, P w1 ∧ RLeft w T w1 w' := by
  have hmf : ∀ (fn : Fn) (first cap : Array Value) (w : World), (Instr.makeFunc fn first cap).run Try.prog w = .ok (.func fn first cap) w := fun _ _ _ _ => rfl
  have hq := neq47_func K cap
  go_enter_defers Try.func27, Try.ntmps27
  go_wp2_with fail
  refine Calls.mono hcall ?_
  rintro e w1 ⟨rfl, hf, hP⟩
  go_wp2
  refine leaves_cons (f := 56) (args := #[.pointer (some ⟨w.heap.size + 1 + 1, 0, none⟩), .pointer (some ⟨w.heap.size, 0, none⟩)]) (by simp) (by simp [go_sem]) ?_
  obtain ⟨f1, f2⟩ := fleft_facts hf hT
  obtain ⟨⟨ao', m, cp', hR, hm⟩, hch⟩ := id hf
  obtain rfl : m = n := hm rfl
  refine (deferred_idle _ _ _ _ _ _ _ _ _ w1 hR f1 f2 (by omega)).mono ?_
  rintro e u' w2 ⟨rfl, rfl, hl⟩
  have hc := cell_blk hl.2.1 0
  simp only [List.getElem?_toArray, List.getElem?_cons_zero] at hc
  have hL := rleft_mk hf hl
  simp [Leaves, settle, results, Try.results27, go_sem, hc]
  exact ⟨w1, hP, hL⟩

set_option maxRecDepth 100000 in
/-- f is ended by its reader's error. -/
theorem read_stops {K : Nat} {cap : Array Value} {ao : Option Addr} {len cp n : Nat} {flt : Int} {w : World} {T : Nat → Prop} {P : World → Prop} (older : List PanicEntry) (hold : older.all (!·.goexit) = true) (hT : ∀ k, T k → k < w.heap.size) (hK : ∀ args w, (callFunc K args).run Try.prog w = .ok (.enter K args) w)
    (hcall : Calls Try.prog K (#[.pointer (some ⟨w.heap.size + 1, 0, none⟩)] ++ cap) (readWorld w (.slice ao len cp)) fun e w1 => e = .panicked ({ v := stopOf (w.heap.size + 1), recovered := false } :: older) ∧ FLeft w (.slice ao len cp) T n flt w1 ∧ P w1) :
    Calls Try.prog 27 #[.slice ao len cp, .func (.func K) #[] cap] w fun e w' => e = .returned (.int .i64 (endOf flt n)) ∧ ∃ w1, P w1 ∧ RLeft w T w1 w' := by
  have hmf : ∀ (fn : Fn) (first cap : Array Value) (w : World), (Instr.makeFunc fn first cap).run Try.prog w = .ok (.func fn first cap) w := fun _ _ _ _ => rfl
  have hq := neq47_func K cap
  go_enter_defers Try.func27, Try.ntmps27
  go_wp2_with fail
  refine Calls.mono hcall ?_
  rintro e w1 ⟨rfl, hf, hP⟩
  go_wp2
  refine leaves_cons (f := 56) (args := #[.pointer (some ⟨w.heap.size + 1 + 1, 0, none⟩), .pointer (some ⟨w.heap.size, 0, none⟩)]) (by simp) (by simp [go_sem]) ?_
  obtain ⟨f1, f2⟩ := fleft_facts hf hT
  obtain ⟨⟨ao', m, cp', hR, hm⟩, hch⟩ := id hf
  have hen : endOf flt m = endOf flt n := by
    unfold endOf
    by_cases h : flt = 0
    · rw [hm h]
    · rw [if_neg h, if_neg h]
  refine (deferred_stops _ _ _ _ _ _ _ _ _ w1 hR f1 f2 (by omega) (by omega) (by omega) older).mono ?_
  rintro e u' w2 ⟨rfl, rfl, hl⟩
  have hc := cell_blk hl.2.1 0
  simp only [List.getElem?_toArray, List.getElem?_cons_zero] at hc
  have hL := rleft_mk hf hl
  rw [hen] at hc
  have hd : older.dropWhile (!·.goexit) = [] := dropWhile_all _ _ hold
  simp [Leaves, settle, results, Try.results27, go_sem, hc, hd]
  exact ⟨w1, hP, hL⟩

end Go.Proofs.Ytcdjjengkdbngaa

/- Functions that are values. -/
namespace Go.Proofs.Ytcdjjengkdbngaa
open Go.RowKit

/-- A function with a body is entered. -/
theorem enters {K : Nat} {fn : Func} (hf : Try.prog.funcs[K]? = some fn) (hn : (fn.name == "runtime.NumGoroutine") = false) (hb : fn.body.isNone = false) (args : Array Value) (w : World) :
    (callFunc K args).run Try.prog w = .ok (.enter K args) w := by
  have h1 : fn.name ≠ "runtime.NumGoroutine" := by simpa using hn
  have h2 : fn.body ≠ none := by
    intro h
    rw [h] at hb
    simp at hb
  unfold callFunc
  simp [program, Sem.run, hf, h1, h2]

end Go.Proofs.Ytcdjjengkdbngaa

/- What a failed Get of a credential tells is no zero. (As in SignRead, under names of its own, without the program's keys.) -/
namespace Go.Proofs.Ytcdjjengkdbngaa
open Go.RowKit

theorem kgetEnd_ne {c l n} (h : getEnd c l = .bad n) : ¬ ((n : Int) = 0) := by
  unfold getEnd at h
  split at h
  · cases h
  · cases h; decide
theorem kgetWord_ne {c l n} (h : getWord c l = .bad n) : ¬ ((n : Int) = 0) := by
  unfold getWord at h
  split at h
  · exact kgetEnd_ne h
  · cases h; exact nameBad_ne _
theorem kgetC_ne {c l n} (h : getC c l = .bad n) : ¬ ((n : Int) = 0) := by
  unfold getC at h
  split at h
  · exact kgetEnd_ne h
  · cases h; exact roleBad_ne _
theorem kgetWho_ne {c l n} (h : getWho c l = .bad n) : ¬ ((n : Int) = 0) := by
  unfold getWho at h
  split at h
  · exact kgetEnd_ne h
  · cases h; exact nameBad_ne _
theorem kgetB_ne {c l n} (h : getB c l = .bad n) : ¬ ((n : Int) = 0) := by
  unfold getB at h
  split at h
  · split at h
    · exact kgetWord_ne h
    · split at h
      · exact kgetC_ne h
      · exact kgetEnd_ne h
  · cases h; exact roleBad_ne _
theorem kcredGet_ne {l n} (h : credGet l = .bad n) : ¬ ((n : Int) = 0) := by
  unfold credGet at h
  split at h
  · split at h
    · unfold getHead at h
      split at h
      · split at h
        · exact kgetWho_ne h
        · exact kgetB_ne h
      · cases h; exact roleBad_ne _
    · cases h; decide
  · cases h; omega
end Go.Proofs.Ytcdjjengkdbngaa

/- What the law CheckGets asks of the program's check beside CK, and Read with the law's function over it. -/
namespace Go.Proofs.Ytcdjjengkdbngaa
open Go.RowKit

/-- What is got of a reader. -/
def ChainGot (D : Nat → Prop) (R : Nat) (l : List UInt8) (most : Int) (w : World) (e : Ending) (w' : World) : Prop :=
  (∃ b, chainGet l most = .bad b ∧ Stops R b w e w') ∨
  (∃ ls rest ao cap, chainGet l most = .ok ls rest ∧ e = .returned (.slice ao ls.length cap) ∧ StepsAt (fun k => w.heap.size ≤ k ∧ k < w'.heap.size) w' ao ls ∧ ∃ vb, BytesAt D w' vb rest ∧ ReaderAt w' R true vb 0 ∧ Chg (· = R) w w')

structure CG : Prop where
  put : ∀ {D : Nat → Prop} (B P cp : Nat) (ao : Option Addr) (ls : List StepB) (w : World), totalSt ls ≤ 2500 → PenAt B w P none 0 [] → P < B → B ≤ w.heap.size → StepsAt D w ao ls → (∀ i, D i → i ≠ P ∧ i < w.heap.size) → Calls Try.prog 26 #[.pointer (some ⟨P, 0, none⟩), .slice ao ls.length cp] w fun e w' => e = .returned (.bool (decide (chainBytes ls ≠ []))) ∧ (∃ ao9 cap9, PenAt B w' P ao9 cap9 (chainBytes ls)) ∧ Chg (· = P) w w'
  putNil : ∀ {D : Nat → Prop} (cp : Nat) (ao : Option Addr) (ls : List StepB) (w : World), totalSt ls ≤ 2500 → StepsAt D w ao ls → Calls Try.prog 26 #[.pointer none, .slice ao ls.length cp] w fun e w' => e = .returned (.bool false) ∧ Chg (fun _ => False) w w'
  get : ∀ {D : Nat → Prop} {R : Nat} {v : Value} {l : List UInt8} {w : World} (most : Int), 0 ≤ most → most ≤ 255 → l.length ≤ 140737488355328 → BytesAt D w v l → ¬ D R → (∀ i, D i → i < w.heap.size) → ReaderAt w R true v 0 → Calls Try.prog 30 #[.pointer (some ⟨R, 0, none⟩), .int .i64 most] w (ChainGot D R l most w)

theorem chainGo_ne : ∀ (n : Nat) (l : List UInt8) (acc : List StepB) (b : Nat), chainGo n l acc = .bad b → ¬ ((b : Int) = 0)
  | 0, l, acc, b, h => by cases h
  | n + 1, l, acc, b, h => by
    rw [chainGo] at h
    split at h
    · rename_i m hm
      cases h
      exact kcredGet_ne hm
    · split at h
      · exact chainGo_ne n _ _ b h
      · cases h; exact nameBad_ne _
theorem chainGet_ne {l : List UInt8} {most : Int} {b : Nat} (h : chainGet l most = .bad b) : ¬ ((b : Int) = 0) := by
  unfold chainGet at h
  split at h
  · exact chainGo_ne _ _ _ _ h
  · cases h; omega

/-- How Read ends, and with what. -/
def ckErr (l : List UInt8) (most : Int) : Int := match chainGet l most with
  | .bad e => e
  | .ok _ rest => endOf 0 rest.length
def ckGot (l : List UInt8) (most : Int) : List StepB := match chainGet l most with
  | .bad _ => []
  | .ok ls _ => ls

def KClos (_ : Nat → Prop) (R X : Nat) (l : List UInt8) (most : Int) (w : World) (e : Ending) (w' : World) : Prop :=
  (∃ b, chainGet l most = .bad b ∧ Stops R b w e w') ∨
  (∃ ls rest, chainGet l most = .ok ls rest ∧ e = .returned (.tuple #[]) ∧ (∃ ao cp, ReaderAt w' R true (.slice ao rest.length cp) 0) ∧ Chg (fun k => k = R ∨ k = X) w w' ∧
    ∃ ta cap, w'.heap[X]? = some (.cells #[.slice ta ls.length cap] 22 (0, 0)) ∧ StepsAt (fun k => (w.heap.size ≤ k ∧ k < w'.heap.size)) w' ta ls)

def ChainRead (X : Nat) (l : List UInt8) (most : Int) (w : World) (e : Ending) (w' : World) : Prop :=
  e = .returned (.int .i64 (ckErr l most)) ∧ (∃ ta cap, w'.heap[X]? = some (.cells #[.slice ta (ckGot l most).length cap] 22 (0, 0)) ∧ StepsAt (fun k => w.heap.size ≤ k ∧ k < w'.heap.size) w' ta (ckGot l most)) ∧ Chg (· = X) w w'

end Go.Proofs.Ytcdjjengkdbngaa
