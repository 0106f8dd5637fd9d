/- Texts that the proof leans on, in one: Read, Enters, CredRead, RoleSpec, RefCredBytes. -/
import Derived.Test.YtjohiggfjpfbeaaCm14
import Derived.Test.YtjohiggfjpfbeaaCm2
import Derived.Test.YtjohiggfjpfbeaaCm5
import Derived.Test.YtjohiggfjpfbeaaCm4
/- The four contracts of Read, by how f ends. -/
namespace Go.Proofs.Ytjohiggfjpfbeaa
open Go.RowKit

theorem neq47_func (K : Nat) (cap : Array Value) (w : World) : (binOp .neq 45 (.func (.func K) #[] cap) .nilFunc).run Try.prog w = .ok (.bool true) w := by kernel_rfl
theorem neq47_nil (w : World) : (binOp .neq 45 .nilFunc .nilFunc).run Try.prog w = .ok (.bool false) w := by kernel_rfl

theorem dropWhile_all {α : Type} (p : α → Bool) : ∀ l : List α, l.all p = true → l.dropWhile p = []
  | [], _ => rfl
  | x :: l, h => by
    simp only [List.all_cons, Bool.and_eq_true] at h
    rw [List.dropWhile_cons, if_pos h.1]
    exact dropWhile_all p l h.2

/-- The world in which Read calls f. -/
def readWorld (w : World) (sv : Value) : World :=
  ((w.alloc (.cells #[.int .i64 0] 41)).alloc (.cells #[.bool true, sv, .int .i64 0] 79)).alloc (.cells #[.pointer (some ⟨w.heap.size + 1, 0, none⟩)] 43)

theorem readWorld_size (w : World) (sv : Value) : (readWorld w sv).heap.size = w.heap.size + 3 := by simp [readWorld]

theorem readWorld_chg (w : World) (sv : Value) (S : Nat → Prop) : Chg S w (readWorld w sv) := (((Chg.refl S w).alloc _).alloc _).alloc _

theorem readWorld_E (w : World) (sv : Value) : (readWorld w sv).heap[w.heap.size]? = some (.cells #[.int .i64 0] 41 (0, 0)) := by
  unfold readWorld
  rw [Below.heap_alloc _ _ _ (by simp; omega), Below.heap_alloc _ _ _ (by simp)]
  exact heap_alloc_new w _

theorem readWorld_R (w : World) (sv : Value) : ReaderAt (readWorld w sv) (w.heap.size + 1) true sv 0 := by
  unfold readWorld ReaderAt
  rw [Below.heap_alloc _ _ _ (by simp)]
  have := heap_alloc_new (w.alloc (.cells #[.int .i64 0] 41)) (.cells #[.bool true, sv, .int .i64 0] 79)
  simpa using this

theorem readWorld_V (w : World) (sv : Value) : (readWorld w sv).heap[w.heap.size + 2]? = some (.cells #[.pointer (some ⟨w.heap.size + 1, 0, none⟩)] 43 (0, 0)) := by
  unfold readWorld
  have := heap_alloc_new ((w.alloc (.cells #[.int .i64 0] 41)).alloc (.cells #[.bool true, sv, .int .i64 0] 79)) (.cells #[.pointer (some ⟨w.heap.size + 1, 0, none⟩)] 43)
  simpa using this

/-- What f leaves of memory: its reader; else the blocks of T alone, which were there ahead of Read. -/
def FLeft (w : World) (sv : Value) (T : Nat → Prop) (n : Nat) (flt : Int) (w1 : World) : Prop :=
  (∃ ao m cp, ReaderAt w1 (w.heap.size + 1) true (.slice ao m cp) flt ∧ (flt = 0 → m = n)) ∧ Chg (fun k => k = w.heap.size + 1 ∨ T k) (readWorld w sv) w1

/-- What Read leaves of it. -/
def RLeft (w : World) (T : Nat → Prop) (w1 w' : World) : Prop :=
  ReaderAt w' (w.heap.size + 1) false (.slice none 0 0) 0 ∧ Chg (fun k => k = w.heap.size + 1 ∨ k = w.heap.size) w1 w' ∧ Chg T w w'

theorem fleft_facts {w : World} {sv : Value} {T : Nat → Prop} {n : Nat} {flt : Int} {w1 : World} (h : FLeft w sv T n flt w1) (hT : ∀ k, T k → k < w.heap.size) :
    w1.heap[w.heap.size + 2]? = some (.cells #[.pointer (some ⟨w.heap.size + 1, 0, none⟩)] 43 (0, 0)) ∧ w1.heap[w.heap.size]? = some (.cells #[.int .i64 0] 41 (0, 0)) := by
  refine ⟨(h.2.block _ (by rw [readWorld_size]; omega) ?_).trans (readWorld_V w sv), (h.2.block _ (by rw [readWorld_size]; omega) ?_).trans (readWorld_E w sv)⟩
  · rintro (e | e)
    · omega
    · have := hT _ e; omega
  · rintro (e | e)
    · omega
    · have := hT _ e; omega

theorem rleft_mk {w : World} {sv : Value} {T : Nat → Prop} {n : Nat} {flt r : Int} {w1 w' : World} (h : FLeft w sv T n flt w1) (hl : ReadLeft (w.heap.size + 1) w.heap.size r w1 w') : RLeft w T w1 w' := by
  obtain ⟨h1, h2, h3⟩ := hl
  refine ⟨h1, h3, ?_⟩
  refine ((readWorld_chg w sv T).trans h.2 ?_).trans h3 ?_
  · rintro i hi (e | e)
    · omega
    · exact e
  · rintro i hi (e | e) <;> omega

set_option maxRecDepth 100000 in
/-- f ends by itself. -/
theorem read_returns {K : Nat} {cap : Array Value} {ao : Option Addr} {len cp n : Nat} {w : World} {T : Nat → Prop} {P : World → Prop} (hT : ∀ k, T k → k < w.heap.size) (hK : ∀ args w, (callFunc K args).run Try.prog w = .ok (.enter K args) w)
    (hcall : Calls Try.prog K (#[.pointer (some ⟨w.heap.size + 1, 0, none⟩)] ++ cap) (readWorld w (.slice ao len cp)) fun e w1 => e = .returned (.tuple #[]) ∧ FLeft w (.slice ao len cp) T n 0 w1 ∧ P w1) :
    Calls Try.prog 20 #[.slice ao len cp, .func (.func K) #[] cap] w fun e w' => e = .returned (.int .i64 (endOf 0 n)) ∧ ∃ w1, P w1 ∧ RLeft w T w1 w' := by
  have hmf : ∀ (fn : Fn) (first cap : Array Value) (w : World), (Instr.makeFunc fn first cap).run Try.prog w = .ok (.func fn first cap) w := fun _ _ _ _ => rfl
  have hq := neq47_func K cap
  go_enter_defers Try.func20, Try.ntmps20
  go_wp2_with fail
  refine Calls.mono hcall ?_
  rintro e w1 ⟨rfl, hf, hP⟩
  go_wp2
  refine leaves_cons (f := 54) (args := #[.pointer (some ⟨w.heap.size + 1 + 1, 0, none⟩), .pointer (some ⟨w.heap.size, 0, none⟩)]) (by simp) (by simp [go_sem]) ?_
  obtain ⟨f1, f2⟩ := fleft_facts hf hT
  obtain ⟨⟨ao', m, cp', hR, hm⟩, hch⟩ := id hf
  obtain rfl : m = n := hm rfl
  refine (deferred_idle _ _ _ _ _ _ _ _ _ w1 hR f1 f2 (by omega)).mono ?_
  rintro e u' w2 ⟨rfl, rfl, hl⟩
  have hc := cell_blk hl.2.1 0
  simp only [List.getElem?_toArray, List.getElem?_cons_zero] at hc
  have hL := rleft_mk hf hl
  simp [Leaves, settle, results, Try.results20, go_sem, hc]
  exact ⟨w1, hP, hL⟩

set_option maxRecDepth 100000 in
/-- f is ended by its reader's error. -/
theorem read_stops {K : Nat} {cap : Array Value} {ao : Option Addr} {len cp n : Nat} {flt : Int} {w : World} {T : Nat → Prop} {P : World → Prop} (older : List PanicEntry) (hold : older.all (!·.goexit) = true) (hT : ∀ k, T k → k < w.heap.size) (hK : ∀ args w, (callFunc K args).run Try.prog w = .ok (.enter K args) w)
    (hcall : Calls Try.prog K (#[.pointer (some ⟨w.heap.size + 1, 0, none⟩)] ++ cap) (readWorld w (.slice ao len cp)) fun e w1 => e = .panicked ({ v := stopOf (w.heap.size + 1), recovered := false } :: older) ∧ FLeft w (.slice ao len cp) T n flt w1 ∧ P w1) :
    Calls Try.prog 20 #[.slice ao len cp, .func (.func K) #[] cap] w fun e w' => e = .returned (.int .i64 (endOf flt n)) ∧ ∃ w1, P w1 ∧ RLeft w T w1 w' := by
  have hmf : ∀ (fn : Fn) (first cap : Array Value) (w : World), (Instr.makeFunc fn first cap).run Try.prog w = .ok (.func fn first cap) w := fun _ _ _ _ => rfl
  have hq := neq47_func K cap
  go_enter_defers Try.func20, Try.ntmps20
  go_wp2_with fail
  refine Calls.mono hcall ?_
  rintro e w1 ⟨rfl, hf, hP⟩
  go_wp2
  refine leaves_cons (f := 54) (args := #[.pointer (some ⟨w.heap.size + 1 + 1, 0, none⟩), .pointer (some ⟨w.heap.size, 0, none⟩)]) (by simp) (by simp [go_sem]) ?_
  obtain ⟨f1, f2⟩ := fleft_facts hf hT
  obtain ⟨⟨ao', m, cp', hR, hm⟩, hch⟩ := id hf
  have hen : endOf flt m = endOf flt n := by
    unfold endOf
    by_cases h : flt = 0
    · rw [hm h]
    · rw [if_neg h, if_neg h]
  refine (deferred_stops _ _ _ _ _ _ _ _ _ w1 hR f1 f2 (by omega) (by omega) (by omega) older).mono ?_
  rintro e u' w2 ⟨rfl, rfl, hl⟩
  have hc := cell_blk hl.2.1 0
  simp only [List.getElem?_toArray, List.getElem?_cons_zero] at hc
  have hL := rleft_mk hf hl
  rw [hen] at hc
  have hd : older.dropWhile (!·.goexit) = [] := dropWhile_all _ _ hold
  simp [Leaves, settle, results, Try.results20, go_sem, hc, hd]
  exact ⟨w1, hP, hL⟩

set_option maxRecDepth 100000 in
/-- f panics by itself, or another reader's error goes through. -/
theorem read_throws {K : Nat} {cap : Array Value} {ao : Option Addr} {len cp n : Nat} {flt : Int} {w : World} {T : Nat → Prop} {P : World → Prop} (older : List PanicEntry) (TT : TypeId) (pv : Value) (ok : Bool) (q : Nat)
    (ha : ∀ w, (Instr.typeAssert (.iface TT pv) 20 82 true).run Try.prog w = .ok (.tuple #[.agg #[.pointer (if ok then some ⟨q, 0, none⟩ else none)], .bool ok]) w) (hq : ok = true → q < w.heap.size)
    (hQ : ∀ w1, P w1 → ok = true → ∃ cq tq, w1.heap[q]? = some (.cells cq tq (0, 0))) (hT : ∀ k, T k → k < w.heap.size) (hK : ∀ args w, (callFunc K args).run Try.prog w = .ok (.enter K args) w)
    (hcall : Calls Try.prog K (#[.pointer (some ⟨w.heap.size + 1, 0, none⟩)] ++ cap) (readWorld w (.slice ao len cp)) fun e w1 => e = .panicked ({ v := .iface TT pv, recovered := false } :: older) ∧ FLeft w (.slice ao len cp) T n flt w1 ∧ P w1) :
    Calls Try.prog 20 #[.slice ao len cp, .func (.func K) #[] cap] w fun e w' => e = .panicked ({ v := .iface TT pv, recovered := false } :: { v := .iface TT pv, recovered := true } :: older) ∧ ∃ w1, P w1 ∧ RLeft w T w1 w' := by
  have hmf : ∀ (fn : Fn) (first cap : Array Value) (w : World), (Instr.makeFunc fn first cap).run Try.prog w = .ok (.func fn first cap) w := fun _ _ _ _ => rfl
  have hqq := neq47_func K cap
  go_enter_defers Try.func20, Try.ntmps20
  go_wp2_with fail
  refine Calls.mono hcall ?_
  rintro e w1 ⟨rfl, hf, hP⟩
  go_wp2
  refine leaves_cons (f := 54) (args := #[.pointer (some ⟨w.heap.size + 1 + 1, 0, none⟩), .pointer (some ⟨w.heap.size, 0, none⟩)]) (by simp) (by simp [go_sem]) ?_
  obtain ⟨f1, f2⟩ := fleft_facts hf hT
  obtain ⟨⟨ao', m, cp', hR, hm⟩, hch⟩ := id hf
  refine (deferred_throws _ _ _ _ _ _ _ _ _ w1 hR f1 f2 (by omega) (by omega) (by omega) older TT pv ok q ha ?_).mono ?_
  · intro h
    have := hq h
    exact ⟨by omega, by omega, hQ w1 hP h⟩
  rintro e u' w2 ⟨rfl, rfl, hl⟩
  have hL := rleft_mk hf hl
  simp [Leaves, raised]
  exact ⟨w1, hP, hL⟩

set_option maxRecDepth 100000 in
/-- No f. -/
theorem read_none {ao : Option Addr} {len cp : Nat} {w : World} :
    Calls Try.prog 20 #[.slice ao len cp, .nilFunc] w fun e w' => e = .returned (.int .i64 (endOf 0 len)) ∧ Chg (fun _ => False) w w' := by
  have hmf : ∀ (fn : Fn) (first cap : Array Value) (w : World), (Instr.makeFunc fn first cap).run Try.prog w = .ok (.func fn first cap) w := fun _ _ _ _ => rfl
  have hqq := neq47_nil
  go_enter_defers Try.func20, Try.ntmps20
  go_wp2
  refine leaves_cons (f := 54) (args := #[.pointer (some ⟨w.heap.size + 1 + 1, 0, none⟩), .pointer (some ⟨w.heap.size, 0, none⟩)]) (by simp) (by simp [go_sem]) ?_
  have hf : FLeft w (.slice ao len cp) (fun _ => False) len 0 (readWorld w (.slice ao len cp)) := ⟨⟨ao, len, cp, readWorld_R w _, fun _ => rfl⟩, Chg.refl _ _⟩
  refine (deferred_idle _ _ _ _ _ _ _ _ _ _ (readWorld_R w _) (readWorld_V w _) (readWorld_E w _) (by omega)).mono ?_
  rintro e u' w2 ⟨rfl, rfl, hl⟩
  have hc := cell_blk hl.2.1 0
  simp only [List.getElem?_toArray, List.getElem?_cons_zero] at hc
  have hL := rleft_mk hf hl
  simp [Leaves, settle, results, Try.results20, go_sem, hc]
  exact hL.2.2

end Go.Proofs.Ytjohiggfjpfbeaa

/- Functions that are values. -/
namespace Go.Proofs.Ytjohiggfjpfbeaa
open Go.RowKit

/-- A function with a body is entered. -/
theorem enters {K : Nat} {fn : Func} (hf : Try.prog.funcs[K]? = some fn) (hn : (fn.name == "runtime.NumGoroutine") = false) (hb : fn.body.isNone = false) (args : Array Value) (w : World) :
    (callFunc K args).run Try.prog w = .ok (.enter K args) w := by
  have h1 : fn.name ≠ "runtime.NumGoroutine" := by simpa using hn
  have h2 : fn.body ≠ none := by
    intro h
    rw [h] at hb
    simp at hb
  unfold callFunc
  simp [program, Sem.run, hf, h1, h2]

end Go.Proofs.Ytjohiggfjpfbeaa

/- Reads of a credential, through Read, by the functions that the laws hand over. -/
namespace Go.Proofs.Ytjohiggfjpfbeaa
open Go.RowKit

theorem getEnd_ne {c l n} (h : getEnd c l = .bad n) : ¬ ((n : Int) = 0) := by
  unfold getEnd at h
  split at h
  · cases h
  · cases h; decide
theorem getWord_ne {c l n} (h : getWord c l = .bad n) : ¬ ((n : Int) = 0) := by
  unfold getWord at h
  split at h
  · exact getEnd_ne h
  · cases h; exact nameBad_ne _
theorem getC_ne {c l n} (h : getC c l = .bad n) : ¬ ((n : Int) = 0) := by
  unfold getC at h
  split at h
  · exact getEnd_ne h
  · cases h; exact roleBad_ne _
theorem getWho_ne {c l n} (h : getWho c l = .bad n) : ¬ ((n : Int) = 0) := by
  unfold getWho at h
  split at h
  · exact getEnd_ne h
  · cases h; exact nameBad_ne _
theorem getB_ne {c l n} (h : getB c l = .bad n) : ¬ ((n : Int) = 0) := by
  unfold getB at h
  split at h
  · split at h
    · exact getWord_ne h
    · split at h
      · exact getC_ne h
      · exact getEnd_ne h
  · cases h; exact roleBad_ne _
theorem credGet_ne {l n} (h : credGet l = .bad n) : ¬ ((n : Int) = 0) := by
  unfold credGet at h
  split at h
  · split at h
    · unfold getHead at h
      split at h
      · split at h
        · exact getWho_ne h
        · exact getB_ne h
      · cases h; exact roleBad_ne _
    · cases h; decide
  · cases h; omega

def CredRead (X : Nat) (l : List UInt8) (z : CredB) (w : World) (e : Ending) (w' : World) : Prop :=
  e = .returned (.int .i64 (credErr l)) ∧ w'.heap[X]? = some (.cells (credBox (credGot l z)) 25 (0, 0)) ∧ Chg (· = X) w w'

set_option maxRecDepth 100000 in
theorem cclosG_reads {D : Nat → Prop} {R X : Nat} {v : Value} {l rest : List UInt8} {z c : CredB} {w : World} (hl : l.length ≤ 140737488355328) (hv : BytesAt D w v l) (hDR : ¬ D R) (_ : ¬ D X) (hXR : X ≠ R) (hDl : ∀ i, D i → i < w.heap.size) (hR : ReaderAt w R true v 0) (hX : w.heap[X]? = some (.cells (credBox z) 25 (0, 0))) (hok : credGet l = .ok c rest) :
    Calls Try.prog 21 #[.pointer (some ⟨R, 0, none⟩), .pointer (some ⟨X, 0, none⟩)] w fun e w' => e = .returned (.tuple #[]) ∧
      (∃ ao cp, ReaderAt w' R true (.slice ao rest.length cp) 0) ∧ Chg (fun k => k = R ∨ k = X) w w' ∧ w'.heap[X]? = some (.cells (credBox c) 25 (0, 0)) := by
  have h1 := pcget_reads hl hv hDR hDl hR hok
  go_enter Try.func21, Try.ntmps21
  go_wp2_with fail
  refine h1.mono ?_
  rintro e w1 ⟨rfl, v1, hv1, hR1, hch1⟩
  have hX1 := blk_keep hX hch1 hXR
  obtain ⟨n0, n1, n2, n3, n4, n5, n6, n7, n8⟩ := cred_at_blk hX1
  simp only [Nat.zero_add] at n0 n1 n2 n3 n4 n5 n6 n7 n8
  have f0 := froz_blk hX1 0
  have f1 := froz_blk hX1 1
  have f2 := froz_blk hX1 2
  have f3 := froz_blk hX1 3
  have f4 := froz_blk hX1 4
  have f5 := froz_blk hX1 5
  have f6 := froz_blk hX1 6
  have f7 := froz_blk hX1 7
  have f8 := froz_blk hX1 8
  obtain ⟨ao6, cap6, rfl⟩ := hv1.shape
  rw [show credV c = .agg #[.int .i64 c.kind, .string ⟨c.head.1.toArray⟩, .string ⟨c.head.2.toArray⟩, .string ⟨c.who.toArray⟩, .string ⟨c.b.1.toArray⟩, .string ⟨c.b.2.toArray⟩, .string ⟨c.c.1.toArray⟩, .string ⟨c.c.2.toArray⟩, .string ⟨c.w2.toArray⟩] from rfl]
  have cg := setCred_chg w1 X c
  have hR2 : ReaderAt (setCred w1 X c) R true (.slice ao6 rest.length cap6) 0 := blk_keep hR1 cg (fun h => hXR h.symm)
  have hX2 := setCred_blk c hX1
  have hch2 : Chg (fun k => k = R ∨ k = X) w (setCred w1 X c) := (hch1.mono (fun _ _ h => .inl h)).trans cg (fun _ _ h => .inr h)
  have HH := hid (And.intro hR2 (And.intro hX2 hch2))
  clear h1 hv hR hok hv1 hR1 hch1 hX1 cg hR2 hX2 hch2 hX
  go_wp2
  go_end0
  exact ⟨rfl, ⟨_, _, HH.out.1⟩, HH.out.2.2, HH.out.2.1⟩

theorem centerG : ∀ args w, (callFunc 21 args).run Try.prog w = .ok (.enter 21 args) w := enters Try.func21 (by kernel_rfl) (by kernel_rfl)

set_option maxRecDepth 100000 in
theorem cclosG_stops {D : Nat → Prop} {R bad : Nat} {v x : Value} {l : List UInt8} {w : World} (hl : l.length ≤ 140737488355328) (hv : BytesAt D w v l) (hDR : ¬ D R) (hDl : ∀ i, D i → i < w.heap.size) (hR : ReaderAt w R true v 0) (hok : credGet l = .bad bad) :
    Calls Try.prog 21 #[.pointer (some ⟨R, 0, none⟩), x] w (Stops R bad w) := by
  have h1 := pcget_stops hl hv hDR hDl hR hok
  clear hok
  go_enter Try.func21, Try.ntmps21
  go_wp2_with fail
  refine h1.mono ?_
  rintro e w1 ⟨rfl, hs⟩
  exact ⟨rfl, rfl, hs⟩

theorem creadG_any {D : Nat → Prop} {ao : Option Addr} {cp X : Nat} {l : List UInt8} {z : CredB} {w : World} (hl : l.length ≤ 140737488355328) (hv : BytesAt D w (.slice ao l.length cp) l) (dD : ∀ i, D i → i < w.heap.size) (hDX : ¬ D X) (hX : w.heap[X]? = some (.cells (credBox z) 25 (0, 0))) :
    Calls Try.prog 20 #[.slice ao l.length cp, .func (.func 21) #[] #[.pointer (some ⟨X, 0, none⟩)]] w (CredRead X l z w) := by
  have lX := lt_blk hX
  have hrw := readWorld_chg w (.slice ao l.length cp) (fun _ => False)
  have hv' := hv.keep hrw (fun _ _ h => h)
  have hdr : ¬ D (w.heap.size + 1) := fun h => by have := dD _ h; omega
  have hdl : ∀ i, D i → i < (readWorld w (.slice ao l.length cp)).heap.size := fun i hi => by have := dD i hi; rw [readWorld_size]; omega
  cases hok : credGet l with
  | ok c rest =>
    refine (read_returns (T := fun k => k = X) (P := fun w1 => w1.heap[X]? = some (.cells (credBox c) 25 (0, 0))) (n := rest.length) (by rintro k rfl; omega) centerG ?_).mono ?_
    · refine (cclosG_reads (R := w.heap.size + 1) hl hv' hdr hDX (by omega) hdl (readWorld_R w _) (blk_keep hX hrw id) hok).mono ?_
      rintro e w1 ⟨rfl, ⟨ao1, cp1, hr⟩, hc, h1⟩
      exact ⟨rfl, ⟨⟨ao1, _, cp1, hr, fun _ => rfl⟩, hc⟩, h1⟩
    · rintro e w' ⟨rfl, w1, h1, hle⟩
      refine ⟨by rw [credErr, hok], ?_, hle.2.2⟩
      rw [credGot, hok]
      exact blk_keep h1 hle.2.1 (by omega)
  | bad bad =>
    have hne := credGet_ne hok
    refine (read_stops (T := fun k => k = X) (P := fun w1 => w1.heap[X]? = some (.cells (credBox z) 25 (0, 0))) (n := l.length) (flt := bad) [] rfl (by rintro k rfl; omega) centerG ?_).mono ?_
    · refine (cclosG_stops (R := w.heap.size + 1) hl hv' hdr hdl (readWorld_R w _) hok).mono ?_
      rintro e w1 ⟨rfl, ao1, m, cp1, hr, hc⟩
      exact ⟨rfl, ⟨⟨ao1, m, cp1, hr, fun h => absurd h hne⟩, hc.mono (fun _ _ h => .inl h)⟩, blk_keep (blk_keep hX hrw id) hc (by omega)⟩
    · rintro e w' ⟨rfl, w1, h1, hle⟩
      refine ⟨by rw [credErr, hok, endOf, if_neg hne], ?_, hle.2.2⟩
      rw [credGot, hok]
      exact blk_keep h1 hle.2.1 (by omega)

set_option maxRecDepth 100000 in
theorem cclosF_reads {D : Nat → Prop} {R X : Nat} {v : Value} {l rest : List UInt8} {z c : CredB} {w : World} (hl : l.length ≤ 140737488355328) (hv : BytesAt D w v l) (hDR : ¬ D R) (_ : ¬ D X) (hXR : X ≠ R) (hDl : ∀ i, D i → i < w.heap.size) (hR : ReaderAt w R true v 0) (hX : w.heap[X]? = some (.cells (credBox z) 25 (0, 0))) (hok : credGet l = .ok c rest) :
    Calls Try.prog 33 #[.pointer (some ⟨R, 0, none⟩), .pointer (some ⟨X, 0, none⟩)] w fun e w' => e = .returned (.tuple #[]) ∧
      (∃ ao cp, ReaderAt w' R true (.slice ao rest.length cp) 0) ∧ Chg (fun k => k = R ∨ k = X) w w' ∧ w'.heap[X]? = some (.cells (credBox c) 25 (0, 0)) := by
  have h1 := pcget_reads hl hv hDR hDl hR hok
  go_enter Try.func33, Try.ntmps33
  go_wp2_with fail
  refine h1.mono ?_
  rintro e w1 ⟨rfl, v1, hv1, hR1, hch1⟩
  have hX1 := blk_keep hX hch1 hXR
  obtain ⟨n0, n1, n2, n3, n4, n5, n6, n7, n8⟩ := cred_at_blk hX1
  simp only [Nat.zero_add] at n0 n1 n2 n3 n4 n5 n6 n7 n8
  have f0 := froz_blk hX1 0
  have f1 := froz_blk hX1 1
  have f2 := froz_blk hX1 2
  have f3 := froz_blk hX1 3
  have f4 := froz_blk hX1 4
  have f5 := froz_blk hX1 5
  have f6 := froz_blk hX1 6
  have f7 := froz_blk hX1 7
  have f8 := froz_blk hX1 8
  obtain ⟨ao6, cap6, rfl⟩ := hv1.shape
  rw [show credV c = .agg #[.int .i64 c.kind, .string ⟨c.head.1.toArray⟩, .string ⟨c.head.2.toArray⟩, .string ⟨c.who.toArray⟩, .string ⟨c.b.1.toArray⟩, .string ⟨c.b.2.toArray⟩, .string ⟨c.c.1.toArray⟩, .string ⟨c.c.2.toArray⟩, .string ⟨c.w2.toArray⟩] from rfl]
  have cg := setCred_chg w1 X c
  have hR2 : ReaderAt (setCred w1 X c) R true (.slice ao6 rest.length cap6) 0 := blk_keep hR1 cg (fun h => hXR h.symm)
  have hX2 := setCred_blk c hX1
  have hch2 : Chg (fun k => k = R ∨ k = X) w (setCred w1 X c) := (hch1.mono (fun _ _ h => .inl h)).trans cg (fun _ _ h => .inr h)
  have HH := hid (And.intro hR2 (And.intro hX2 hch2))
  clear h1 hv hR hok hv1 hR1 hch1 hX1 cg hR2 hX2 hch2 hX
  go_wp2
  go_end0
  exact ⟨rfl, ⟨_, _, HH.out.1⟩, HH.out.2.2, HH.out.2.1⟩

theorem centerF : ∀ args w, (callFunc 33 args).run Try.prog w = .ok (.enter 33 args) w := enters Try.func33 (by kernel_rfl) (by kernel_rfl)

set_option maxRecDepth 100000 in
theorem cclosF_stops {D : Nat → Prop} {R bad : Nat} {v x : Value} {l : List UInt8} {w : World} (hl : l.length ≤ 140737488355328) (hv : BytesAt D w v l) (hDR : ¬ D R) (hDl : ∀ i, D i → i < w.heap.size) (hR : ReaderAt w R true v 0) (hok : credGet l = .bad bad) :
    Calls Try.prog 33 #[.pointer (some ⟨R, 0, none⟩), x] w (Stops R bad w) := by
  have h1 := pcget_stops hl hv hDR hDl hR hok
  clear hok
  go_enter Try.func33, Try.ntmps33
  go_wp2_with fail
  refine h1.mono ?_
  rintro e w1 ⟨rfl, hs⟩
  exact ⟨rfl, rfl, hs⟩

theorem creadF_any {D : Nat → Prop} {ao : Option Addr} {cp X : Nat} {l : List UInt8} {z : CredB} {w : World} (hl : l.length ≤ 140737488355328) (hv : BytesAt D w (.slice ao l.length cp) l) (dD : ∀ i, D i → i < w.heap.size) (hDX : ¬ D X) (hX : w.heap[X]? = some (.cells (credBox z) 25 (0, 0))) :
    Calls Try.prog 20 #[.slice ao l.length cp, .func (.func 33) #[] #[.pointer (some ⟨X, 0, none⟩)]] w (CredRead X l z w) := by
  have lX := lt_blk hX
  have hrw := readWorld_chg w (.slice ao l.length cp) (fun _ => False)
  have hv' := hv.keep hrw (fun _ _ h => h)
  have hdr : ¬ D (w.heap.size + 1) := fun h => by have := dD _ h; omega
  have hdl : ∀ i, D i → i < (readWorld w (.slice ao l.length cp)).heap.size := fun i hi => by have := dD i hi; rw [readWorld_size]; omega
  cases hok : credGet l with
  | ok c rest =>
    refine (read_returns (T := fun k => k = X) (P := fun w1 => w1.heap[X]? = some (.cells (credBox c) 25 (0, 0))) (n := rest.length) (by rintro k rfl; omega) centerF ?_).mono ?_
    · refine (cclosF_reads (R := w.heap.size + 1) hl hv' hdr hDX (by omega) hdl (readWorld_R w _) (blk_keep hX hrw id) hok).mono ?_
      rintro e w1 ⟨rfl, ⟨ao1, cp1, hr⟩, hc, h1⟩
      exact ⟨rfl, ⟨⟨ao1, _, cp1, hr, fun _ => rfl⟩, hc⟩, h1⟩
    · rintro e w' ⟨rfl, w1, h1, hle⟩
      refine ⟨by rw [credErr, hok], ?_, hle.2.2⟩
      rw [credGot, hok]
      exact blk_keep h1 hle.2.1 (by omega)
  | bad bad =>
    have hne := credGet_ne hok
    refine (read_stops (T := fun k => k = X) (P := fun w1 => w1.heap[X]? = some (.cells (credBox z) 25 (0, 0))) (n := l.length) (flt := bad) [] rfl (by rintro k rfl; omega) centerF ?_).mono ?_
    · refine (cclosF_stops (R := w.heap.size + 1) hl hv' hdr hdl (readWorld_R w _) hok).mono ?_
      rintro e w1 ⟨rfl, ao1, m, cp1, hr, hc⟩
      exact ⟨rfl, ⟨⟨ao1, m, cp1, hr, fun h => absurd h hne⟩, hc.mono (fun _ _ h => .inl h)⟩, blk_keep (blk_keep hX hrw id) hc (by omega)⟩
    · rintro e w' ⟨rfl, w1, h1, hle⟩
      refine ⟨by rw [credErr, hok, endOf, if_neg hne], ?_, hle.2.2⟩
      rw [credGot, hok]
      exact blk_keep h1 hle.2.1 (by omega)

set_option maxRecDepth 100000 in
theorem cclosB_reads {D : Nat → Prop} {R X : Nat} {v : Value} {l rest : List UInt8} {z c : CredB} {w : World} (hl : l.length ≤ 140737488355328) (hv : BytesAt D w v l) (hDR : ¬ D R) (_ : ¬ D X) (hXR : X ≠ R) (hDl : ∀ i, D i → i < w.heap.size) (hR : ReaderAt w R true v 0) (hX : w.heap[X]? = some (.cells (credBox z) 25 (0, 0))) (hok : credGet l = .ok c rest) :
    Calls Try.prog 32 #[.pointer (some ⟨R, 0, none⟩), .pointer (some ⟨X, 0, none⟩)] w fun e w' => e = .returned (.tuple #[]) ∧
      (∃ ao cp, ReaderAt w' R true (.slice ao rest.length cp) 0) ∧ Chg (fun k => k = R ∨ k = X) w w' ∧ w'.heap[X]? = some (.cells (credBox c) 25 (0, 0)) := by
  have h1 := pcget_reads hl hv hDR hDl hR hok
  go_enter Try.func32, Try.ntmps32
  go_wp2_with fail
  refine h1.mono ?_
  rintro e w1 ⟨rfl, v1, hv1, hR1, hch1⟩
  have hX1 := blk_keep hX hch1 hXR
  obtain ⟨n0, n1, n2, n3, n4, n5, n6, n7, n8⟩ := cred_at_blk hX1
  simp only [Nat.zero_add] at n0 n1 n2 n3 n4 n5 n6 n7 n8
  have f0 := froz_blk hX1 0
  have f1 := froz_blk hX1 1
  have f2 := froz_blk hX1 2
  have f3 := froz_blk hX1 3
  have f4 := froz_blk hX1 4
  have f5 := froz_blk hX1 5
  have f6 := froz_blk hX1 6
  have f7 := froz_blk hX1 7
  have f8 := froz_blk hX1 8
  obtain ⟨ao6, cap6, rfl⟩ := hv1.shape
  rw [show credV c = .agg #[.int .i64 c.kind, .string ⟨c.head.1.toArray⟩, .string ⟨c.head.2.toArray⟩, .string ⟨c.who.toArray⟩, .string ⟨c.b.1.toArray⟩, .string ⟨c.b.2.toArray⟩, .string ⟨c.c.1.toArray⟩, .string ⟨c.c.2.toArray⟩, .string ⟨c.w2.toArray⟩] from rfl]
  have cg := setCred_chg w1 X c
  have hR2 : ReaderAt (setCred w1 X c) R true (.slice ao6 rest.length cap6) 0 := blk_keep hR1 cg (fun h => hXR h.symm)
  have hX2 := setCred_blk c hX1
  have hch2 : Chg (fun k => k = R ∨ k = X) w (setCred w1 X c) := (hch1.mono (fun _ _ h => .inl h)).trans cg (fun _ _ h => .inr h)
  have HH := hid (And.intro hR2 (And.intro hX2 hch2))
  clear h1 hv hR hok hv1 hR1 hch1 hX1 cg hR2 hX2 hch2 hX
  go_wp2
  go_end0
  exact ⟨rfl, ⟨_, _, HH.out.1⟩, HH.out.2.2, HH.out.2.1⟩

theorem centerB : ∀ args w, (callFunc 32 args).run Try.prog w = .ok (.enter 32 args) w := enters Try.func32 (by kernel_rfl) (by kernel_rfl)

set_option maxRecDepth 100000 in
theorem cclosB_stops {D : Nat → Prop} {R bad : Nat} {v x : Value} {l : List UInt8} {w : World} (hl : l.length ≤ 140737488355328) (hv : BytesAt D w v l) (hDR : ¬ D R) (hDl : ∀ i, D i → i < w.heap.size) (hR : ReaderAt w R true v 0) (hok : credGet l = .bad bad) :
    Calls Try.prog 32 #[.pointer (some ⟨R, 0, none⟩), x] w (Stops R bad w) := by
  have h1 := pcget_stops hl hv hDR hDl hR hok
  clear hok
  go_enter Try.func32, Try.ntmps32
  go_wp2_with fail
  refine h1.mono ?_
  rintro e w1 ⟨rfl, hs⟩
  exact ⟨rfl, rfl, hs⟩

theorem creadB_any {D : Nat → Prop} {ao : Option Addr} {cp X : Nat} {l : List UInt8} {z : CredB} {w : World} (hl : l.length ≤ 140737488355328) (hv : BytesAt D w (.slice ao l.length cp) l) (dD : ∀ i, D i → i < w.heap.size) (hDX : ¬ D X) (hX : w.heap[X]? = some (.cells (credBox z) 25 (0, 0))) :
    Calls Try.prog 20 #[.slice ao l.length cp, .func (.func 32) #[] #[.pointer (some ⟨X, 0, none⟩)]] w (CredRead X l z w) := by
  have lX := lt_blk hX
  have hrw := readWorld_chg w (.slice ao l.length cp) (fun _ => False)
  have hv' := hv.keep hrw (fun _ _ h => h)
  have hdr : ¬ D (w.heap.size + 1) := fun h => by have := dD _ h; omega
  have hdl : ∀ i, D i → i < (readWorld w (.slice ao l.length cp)).heap.size := fun i hi => by have := dD i hi; rw [readWorld_size]; omega
  cases hok : credGet l with
  | ok c rest =>
    refine (read_returns (T := fun k => k = X) (P := fun w1 => w1.heap[X]? = some (.cells (credBox c) 25 (0, 0))) (n := rest.length) (by rintro k rfl; omega) centerB ?_).mono ?_
    · refine (cclosB_reads (R := w.heap.size + 1) hl hv' hdr hDX (by omega) hdl (readWorld_R w _) (blk_keep hX hrw id) hok).mono ?_
      rintro e w1 ⟨rfl, ⟨ao1, cp1, hr⟩, hc, h1⟩
      exact ⟨rfl, ⟨⟨ao1, _, cp1, hr, fun _ => rfl⟩, hc⟩, h1⟩
    · rintro e w' ⟨rfl, w1, h1, hle⟩
      refine ⟨by rw [credErr, hok], ?_, hle.2.2⟩
      rw [credGot, hok]
      exact blk_keep h1 hle.2.1 (by omega)
  | bad bad =>
    have hne := credGet_ne hok
    refine (read_stops (T := fun k => k = X) (P := fun w1 => w1.heap[X]? = some (.cells (credBox z) 25 (0, 0))) (n := l.length) (flt := bad) [] rfl (by rintro k rfl; omega) centerB ?_).mono ?_
    · refine (cclosB_stops (R := w.heap.size + 1) hl hv' hdr hdl (readWorld_R w _) hok).mono ?_
      rintro e w1 ⟨rfl, ao1, m, cp1, hr, hc⟩
      exact ⟨rfl, ⟨⟨ao1, m, cp1, hr, fun h => absurd h hne⟩, hc.mono (fun _ _ h => .inl h)⟩, blk_keep (blk_keep hX hrw id) hc (by omega)⟩
    · rintro e w' ⟨rfl, w1, h1, hle⟩
      refine ⟨by rw [credErr, hok, endOf, if_neg hne], ?_, hle.2.2⟩
      rw [credGot, hok]
      exact blk_keep h1 hle.2.1 (by omega)
end Go.Proofs.Ytjohiggfjpfbeaa

/- Roles in slots. -/
namespace Go.Proofs.Ytjohiggfjpfbeaa
open Go.RowKit

/-- A pointer to a role. -/
def Spec.roleP (r : RoleB) : Spec :=
  ⟨fun v w => ∃ b off, v = .pointer (some ⟨b, off, none⟩) ∧ RoleAt w b off r, fun _ _ _ hc ⟨b, off, h1, h2⟩ => ⟨b, off, h1, h2.keep hc id⟩⟩

/-- An operation whose guard was not run. -/
theorem Ob.und {P : Program} {Q : Exit → Act → World → Prop} {R : World → World → Prop} {G : Tmp → Value → World → Prop} {w0 : World} {o : Oper} {t : Tmp} {b : Bool}
    (hb : ∀ v w, G t v w → v = undef) (hrefl : ∀ w, R w w) (hd : ∀ w, R w0 w → Gd G o.dst undef w) : Ob P Q R G w0 (some (t, b)) o := by
  intro a w hR hk K hK
  obtain ⟨v, hv, hg⟩ := hk t (by simp [looks, gTmps])
  have := hb v w hg
  subst this
  have hne : ¬ (says b a.tmps[t]? = true) := by
    rw [hv]
    simp [says, undef]
  simp only [if_neg hne]
  exact hK _ _ (hrefl w) (hd w hR)

theorem name_len' {s : List UInt8} (hn : isName s = true) : 0 < s.length ∧ s.length ≤ 16 := isName_len hn
end Go.Proofs.Ytjohiggfjpfbeaa

/- The contracts of the document's Bytes, bytes and Compare of layer 5. -/
namespace Go.Proofs.Ytjohiggfjpfbeaa
open Go.RowKit

def cbytesSpecs (A n : Nat) (ho hw : List UInt8) : List Spec :=
  [.any, .eq (.pointer (some ⟨A, 0, none⟩)), .any, .eq (.string ⟨(enc n ++ roleEnc (ho, hw)).toArray⟩), .eq (.pointer (some ⟨A, 0, none⟩)), .eq (.int .i64 n), .eq (.string ⟨(enc n).toArray⟩), .eq (.pointer (some ⟨A, 1, none⟩)), .eq (roleV (ho, hw)), .eq (.string ⟨(roleEnc (ho, hw)).toArray⟩), .eq (.string ⟨(enc n ++ roleEnc (ho, hw)).toArray⟩)]

theorem roleEnc_len (r : RoleB) (h1 : r.1.length ≤ 1048576) (h2 : r.2.length ≤ 1048576) : (roleEnc r).length ≤ 2097200 := by
  have l1 := enc_length9 (n := r.1.length) (by omega)
  have l2 := enc_length9 (n := r.2.length) (by omega)
  simp only [roleEnc, List.length_append]
  omega

theorem encS_len (s : List UInt8) (h1 : s.length ≤ 1048576) : (encS s).length ≤ 1048600 := by
  have l1 := enc_length9 (n := s.length) (by omega)
  simp only [encS, List.length_append]
  omega

set_option maxRecDepth 100000 in
set_option maxHeartbeats 2000000 in
theorem cbytes_ref (c : CredB) (w : World) (n : Nat) (hk : c.kind = n) (hn : n < 9223372036854775808) (hs : credShort c 1048576) :
    Calls Try.prog 11 #[credV c] w fun e w' => e = .returned (.string ⟨(credEnc c).toArray⟩) ∧ Chg (fun _ => False) w w' := by
  have hc0 : Chg (fun _ => False) w (w.alloc (.cells (credBox c) 25)) := (Chg.refl _ w).alloc _
  have hd := cred_at_blk (heap_alloc_new w (.cells (credBox c) 25))
  obtain ⟨k, ⟨ho, hw⟩, who, ⟨bo, bw⟩, ⟨co, cw⟩, w2⟩ := c
  obtain ⟨s1, s2, s3, s4, s5, s6, s7, s8⟩ := hs
  dsimp only at s1 s2 s3 s4 s5 s6 s7 s8 hk
  subst hk
  obtain ⟨a0, a1, a2, a3, a4, a5, a6, a7, a8⟩ := hd
  simp only [Nat.zero_add, credBox] at a0 a1 a2 a3 a4 a5 a6 a7 a8
  simp only [credBox] at hc0
  have hE : Hid (credEnc ⟨(n : Int), (ho, hw), who, (bo, bw), (co, cw), w2⟩ = (enc n ++ roleEnc (ho, hw)) ++ credTail ⟨(n : Int), (ho, hw), who, (bo, bw), (co, cw), w2⟩) := hid (by simp [credEnc])
  have l1 := enc_length9 (n := n) (by omega)
  have l2 := roleEnc_len (ho, hw) s1 s2
  have l3 := roleEnc_len (bo, bw) s4 s5
  have l4 := roleEnc_len (co, cw) s6 s7
  have l5 := encS_len who s3
  have l6 := encS_len w2 s8
  show Calls Try.prog 11 #[.agg #[.int .i64 n, .string ⟨ho.toArray⟩, .string ⟨hw.toArray⟩, .string ⟨who.toArray⟩, .string ⟨bo.toArray⟩, .string ⟨bw.toArray⟩, .string ⟨co.toArray⟩, .string ⟨cw.toArray⟩, .string ⟨w2.toArray⟩]] w _
  go_enter Try.func11, Try.ntmps11
  go_wp2_with fail
  generalize w.alloc (.cells #[.int .i64 (n : Int), .string ⟨ho.toArray⟩, .string ⟨hw.toArray⟩, .string ⟨who.toArray⟩, .string ⟨bo.toArray⟩, .string ⟨bw.toArray⟩, .string ⟨co.toArray⟩, .string ⟨cw.toArray⟩, .string ⟨w2.toArray⟩] 25) = w1 at *
  generalize w.heap.size = A at *
  refine wp_region_specs (cbytesSpecs A n ho hw) [4, 5, 6, 7, 8, 9, 10, 3] [1] (by kernel_rfl) (by kernel_rfl) (by rfl) (by kernel_rfl) ?start ?obs ?fin
  case start =>
    simp only [List.forall_mem_cons]
    exact ⟨⟨_, rfl, rfl⟩, fun _ h => by cases h⟩
  case obs =>
    clear hc0 hE
    refine Obs.cons none (by kernel_rfl) ?_ ?_
    · refine Ob.plain fun a w hR hk K k => ?_
      obtain ⟨_, e1, rfl⟩ := hk 1 (by decide)
      clear hk
      go_simp
      exact k _ _ (Chg.refl _ _) rfl
    refine Obs.cons none (by kernel_rfl) ?_ ?_
    · refine Ob.plain fun a w hR hk K k => ?_
      obtain ⟨_, e4, rfl⟩ := hk 4 (by decide)
      clear hk
      have q0 := hR.cell a0 id
      go_simp
      exact k _ _ (Chg.refl _ _) rfl
    refine Obs.cons none (by kernel_rfl) ?_ ?_
    · refine Ob.plain fun a w hR hk K k => ?_
      obtain ⟨_, e5, rfl⟩ := hk 5 (by decide)
      clear hk
      go_simp
      refine (refnum_any n _ hn).mono ?_
      rintro e w2 ⟨rfl, hc⟩
      exact k _ _ hc rfl
    refine Obs.cons none (by kernel_rfl) ?_ ?_
    · refine Ob.plain fun a w hR hk K k => ?_
      obtain ⟨_, e1, rfl⟩ := hk 1 (by decide)
      clear hk
      go_simp
      exact k _ _ (Chg.refl _ _) rfl
    refine Obs.cons none (by kernel_rfl) ?_ ?_
    · refine Ob.plain fun a w hR hk K k => ?_
      obtain ⟨_, e7, rfl⟩ := hk 7 (by decide)
      clear hk
      have q0 := hR.cell a1 id
      have q1 := hR.cell a2 id
      go_simp
      exact k _ _ (Chg.refl _ _) rfl
    refine Obs.cons none (by kernel_rfl) ?_ ?_
    · refine Ob.plain fun a w hR hk K k => ?_
      obtain ⟨_, e8, rfl⟩ := hk 8 (by decide)
      clear hk
      go_simp
      refine (rbytes_ref (ho, hw) _ s1 s2).mono ?_
      rintro e w2 ⟨rfl, hc⟩
      exact k _ _ hc rfl
    refine Obs.cons none (by kernel_rfl) ?_ ?_
    · refine Ob.plain fun a w hR hk K k => ?_
      obtain ⟨_, e6, rfl⟩ := hk 6 (by decide)
      obtain ⟨_, e9, rfl⟩ := hk 9 (by decide)
      clear hk
      obtain ⟨u, hu⟩ : ∃ u, u = enc n := ⟨_, rfl⟩
      obtain ⟨v, hv⟩ : ∃ v, v = roleEnc (ho, hw) := ⟨_, rfl⟩
      have hb : ¬ 9223372036854775807 < u.length + v.length := by rw [hu, hv]; omega
      rw [← hu] at e6
      rw [← hv] at e9
      have HU := hid (And.intro hu hv)
      clear hu hv
      go_simp
      exact k _ _ (Chg.refl _ _) (congrArg Value.string ((ByteArray.mk_append_mk u v).trans (by rw [HU.out.1, HU.out.2])))
    refine Obs.cons none (by kernel_rfl) ?_ Obs.nil
    · refine Ob.plain fun a w hR hk K k => ?_
      obtain ⟨_, e10, rfl⟩ := hk 10 (by decide)
      clear hk
      go_simp
      exact k _ _ (Chg.refl _ _) rfl
  case fin =>
    intro vals w3 hc3 hv
    have h3 : vals 3 = .string ⟨(enc n ++ roleEnc (ho, hw)).toArray⟩ := hv 3 (by decide)
    replace a0 := hc3.cell a0 id
    replace a3 := hc3.cell a3 id
    replace a4 := hc3.cell a4 id
    replace a5 := hc3.cell a5 id
    replace a6 := hc3.cell a6 id
    replace a7 := hc3.cell a7 id
    replace a8 := hc3.cell a8 id
    have HC := hid (hc0.trans hc3 (fun _ _ h => h))
    clear hc0 hc3 hv a1 a2
    simp only [putAll, List.setIfInBounds_toArray, List.set_cons_zero, List.set_cons_succ, h3]
    clear h3
    have l7 : (enc n ++ roleEnc (ho, hw)).length ≤ 2097300 := by rw [List.length_append]; omega
    generalize enc n ++ roleEnc (ho, hw) = eh at *
    clear l1 l2
    by_cases k1 : n = 1
    · subst k1
      go_wp2_with fail
      refine (reftext_any who _ (by omega)).mono ?_
      rintro e w4 ⟨rfl, hc4⟩
      have HC2 := hid (HC.out.trans hc4 (fun _ _ h => h))
      clear HC hc4
      have hT : Hid (credTail ⟨((1 : Nat) : Int), (ho, hw), who, (bo, bw), (co, cw), w2⟩ = encS who) := hid rfl
      rw [show enc who.length ++ who = encS who from rfl]
      generalize encS who = t at *
      have b1 : ¬ 9223372036854775807 < eh.length + t.length := by omega
      go_wp2
      go_ret
      exact ⟨congrArg (fun b => Ending.returned (.string b)) ((ByteArray.mk_append_mk eh t).trans (by rw [hE.out, hT.out])), HC2.out⟩
    · have z1 : ((n : Int) == 1) = false := beq_eq_false_iff_ne.2 (by omega)
      go_wp2_with fail
      refine (rbytes_ref (bo, bw) _ s4 s5).mono ?_
      rintro e w4 ⟨rfl, hc4⟩
      replace a0 := hc4.cell a0 id
      replace a6 := hc4.cell a6 id
      replace a7 := hc4.cell a7 id
      replace a8 := hc4.cell a8 id
      have HC2 := hid (HC.out.trans hc4 (fun _ _ h => h))
      clear HC hc4 a3 a4 a5
      have hT : Hid (credTail ⟨(n : Int), (ho, hw), who, (bo, bw), (co, cw), w2⟩ = (if (n : Int) = 3 then roleEnc (bo, bw) ++ encS w2 else if (n : Int) = 4 then roleEnc (bo, bw) ++ roleEnc (co, cw) else roleEnc (bo, bw))) := hid (by rw [credTail, if_neg (by show ¬ (n : Int) = 1; omega)])
      generalize roleEnc (bo, bw) = tb at *
      have b1 : ¬ 9223372036854775807 < eh.length + tb.length := by omega
      by_cases k3 : n = 3
      · subst k3
        rw [if_pos (by decide)] at hT
        go_wp2_with fail
        refine (reftext_any w2 _ (by omega)).mono ?_
        rintro e w5 ⟨rfl, hc5⟩
        replace a0 := hc5.cell a0 id
        have HC3 := hid (HC2.out.trans hc5 (fun _ _ h => h))
        clear HC2 hc5
        rw [show enc w2.length ++ w2 = encS w2 from rfl]
        generalize encS w2 = t at *
        have b2 : ¬ 9223372036854775807 < eh.length + tb.length + t.length := by omega
        go_wp2
        go_ret
        refine ⟨congrArg (fun b => Ending.returned (.string b)) ?_, HC3.out⟩
        show (⟨eh.toArray⟩ : ByteArray) ++ ⟨tb.toArray⟩ ++ ⟨t.toArray⟩ = _
        rw [ByteArray.mk_append_mk, ByteArray.mk_append_mk, hE.out, hT.out, List.append_assoc]
      · have z3 : ((n : Int) == 3) = false := beq_eq_false_iff_ne.2 (by omega)
        rw [if_neg (by omega)] at hT
        by_cases k4 : n = 4
        · subst k4
          rw [if_pos (by decide)] at hT
          go_wp2_with fail
          refine (rbytes_ref (co, cw) _ s6 s7).mono ?_
          rintro e w5 ⟨rfl, hc5⟩
          have HC3 := hid (HC2.out.trans hc5 (fun _ _ h => h))
          clear HC2 hc5
          generalize roleEnc (co, cw) = t at *
          have b2 : ¬ 9223372036854775807 < eh.length + tb.length + t.length := by omega
          go_wp2
          go_ret
          refine ⟨congrArg (fun b => Ending.returned (.string b)) ?_, HC3.out⟩
          show (⟨eh.toArray⟩ : ByteArray) ++ ⟨tb.toArray⟩ ++ ⟨t.toArray⟩ = _
          rw [ByteArray.mk_append_mk, ByteArray.mk_append_mk, hE.out, hT.out, List.append_assoc]
        · have z4 : ((n : Int) == 4) = false := beq_eq_false_iff_ne.2 (by omega)
          rw [if_neg (by omega)] at hT
          go_wp2
          go_ret
          exact ⟨congrArg (fun b => Ending.returned (.string b)) ((ByteArray.mk_append_mk eh tb).trans (by rw [hE.out, hT.out])), HC2.out⟩

theorem isCred_nat {c : CredB} (h : isCred c = true) : ∃ n : Nat, c.kind = n ∧ n < 9223372036854775808 := by
  refine ⟨c.kind.toNat, ?_, ?_⟩
  · unfold isCred at h
    by_cases h1 : c.kind = 1
    · omega
    · by_cases h2 : c.kind = 2
      · omega
      · by_cases h3 : c.kind = 3
        · omega
        · rw [if_neg h1, if_neg h2, if_neg h3] at h
          simp only [Bool.and_eq_true, beq_iff_eq] at h
          omega
  · unfold isCred at h
    by_cases h1 : c.kind = 1
    · omega
    · by_cases h2 : c.kind = 2
      · omega
      · by_cases h3 : c.kind = 3
        · omega
        · rw [if_neg h1, if_neg h2, if_neg h3] at h
          simp only [Bool.and_eq_true, beq_iff_eq] at h
          omega

theorem credShort.mono {c : CredB} {m n : Nat} (h : credShort c m) (hm : m ≤ n) : credShort c n := by
  obtain ⟨s1, s2, s3, s4, s5, s6, s7, s8⟩ := h
  exact ⟨by omega, by omega, by omega, by omega, by omega, by omega, by omega, by omega⟩

set_option maxRecDepth 100000 in
theorem cbytesof_ref (c : CredB) (w : World) (hs : credShort c 1048576) :
    Calls Try.prog 64 #[credV c] w fun e w' => e = .returned (.string ⟨(credBytes c).toArray⟩) ∧ Chg (fun _ => False) w w' := by
  have hc0 : Chg (fun _ => False) w (w.alloc (.cells (credBox c) 25)) := (Chg.refl _ w).alloc _
  have hA := heap_alloc_new w (.cells (credBox c) 25)
  have hr := fun w1 => cright_ref c w1 (hs.mono (by omega))
  cases hi : isCred c with
  | false =>
    have hB : Hid (credBytes c = []) := hid (by simp [credBytes, hi])
    rw [hi] at hr
    obtain ⟨k, ⟨ho, hw⟩, who, ⟨bo, bw⟩, ⟨co, cw⟩, w2⟩ := c
    show Calls Try.prog 64 #[.agg #[.int .i64 k, .string ⟨ho.toArray⟩, .string ⟨hw.toArray⟩, .string ⟨who.toArray⟩, .string ⟨bo.toArray⟩, .string ⟨bw.toArray⟩, .string ⟨co.toArray⟩, .string ⟨cw.toArray⟩, .string ⟨w2.toArray⟩]] w _
    clear hA
    have HH := hid (And.intro hr hc0)
    clear hr hc0
    go_enter Try.func64, Try.ntmps64
    go_wp2_with fail
    refine (HH.out.1 _).mono ?_
    rintro e w1 ⟨rfl, hc1⟩
    have HC := hid (HH.out.2.trans hc1 (fun _ _ h => h))
    clear HH hc1
    go_wp2
    go_ret
    exact ⟨by rw [hB.out]; rfl, HC.out⟩
  | true =>
    have hB : Hid (credBytes c = credEnc c) := hid (by simp [credBytes, hi])
    rw [hi] at hr
    obtain ⟨n, hn1, hn2⟩ := isCred_nat hi
    have hb := fun w1 => cbytes_ref c w1 n hn1 hn2 hs
    clear hn1 hi
    obtain ⟨k, ⟨ho, hw⟩, who, ⟨bo, bw⟩, ⟨co, cw⟩, w2⟩ := c
    show Calls Try.prog 64 #[.agg #[.int .i64 k, .string ⟨ho.toArray⟩, .string ⟨hw.toArray⟩, .string ⟨who.toArray⟩, .string ⟨bo.toArray⟩, .string ⟨bw.toArray⟩, .string ⟨co.toArray⟩, .string ⟨cw.toArray⟩, .string ⟨w2.toArray⟩]] w _
    have HH := hid (And.intro hr (And.intro hb (And.intro hc0 hA)))
    clear hr hc0 hA hb
    go_enter Try.func64, Try.ntmps64
    go_wp2_with fail
    obtain ⟨hr, hb, hc0, hA⟩ := HH.out
    refine (hr _).mono ?_
    rintro e w1 ⟨rfl, hc1⟩
    obtain ⟨a0, a1, a2, a3, a4, a5, a6, a7, a8⟩ := cred_at_blk (blk_keep hA hc1 id)
    simp only [Nat.zero_add] at a0 a1 a2 a3 a4 a5 a6 a7 a8
    have HH2 := hid (And.intro hb (hc0.trans hc1 (fun _ _ h => h)))
    clear HH hr hb hc0 hA hc1
    go_wp2_with fail
    refine (HH2.out.1 _).mono ?_
    rintro e w3 ⟨rfl, hc3⟩
    have HC := hid (HH2.out.2.trans hc3 (fun _ _ h => h))
    clear HH2 hc3
    generalize credEnc _ = u at *
    go_wp2
    go_ret
    exact ⟨by rw [hB.out]; rfl, HC.out⟩

set_option maxRecDepth 100000 in
theorem ccompare_ref (a b : CredB) (w : World) (ha : credShort a 1048576) (hb : credShort b 1048576) :
    Calls Try.prog 26 #[credV a, credV b] w fun e w' => e = .returned (.int .i64 (cmpC a b)) ∧ Chg (fun _ => False) w w' := by
  have hc0 : Chg (fun _ => False) w ((w.alloc (.cells (credBox a) 25)).alloc (.cells (credBox b) 25)) := ((Chg.refl _ w).alloc _).alloc _
  have hA := blk_keep (heap_alloc_new w (.cells (credBox a) 25)) ((Chg.refl (fun _ => False) _).alloc (.cells (credBox b) 25)) id
  have hB := heap_alloc_new (w.alloc (.cells (credBox a) 25)) (.cells (credBox b) 25)
  rw [show (w.alloc (.cells (credBox a) 25)).heap.size = w.heap.size + 1 by simp] at hB
  have hx := fun w1 => cbytesof_ref a w1 ha
  have hy := fun w1 => cbytesof_ref b w1 hb
  have hD : Hid (cmpC a b = if ltS (credBytes a) (credBytes b) then -1 else if ltS (credBytes b) (credBytes a) then 1 else 0) := hid rfl
  generalize credBytes a = x at *
  generalize credBytes b = y at *
  obtain ⟨k, ⟨ho, hw⟩, who, ⟨bo, bw⟩, ⟨co, cw⟩, w2⟩ := a
  obtain ⟨k', ⟨ho', hw'⟩, who', ⟨bo', bw'⟩, ⟨co', cw'⟩, w2'⟩ := b
  clear ha hb
  show Calls Try.prog 26 #[.agg #[.int .i64 k, .string ⟨ho.toArray⟩, .string ⟨hw.toArray⟩, .string ⟨who.toArray⟩, .string ⟨bo.toArray⟩, .string ⟨bw.toArray⟩, .string ⟨co.toArray⟩, .string ⟨cw.toArray⟩, .string ⟨w2.toArray⟩], .agg #[.int .i64 k', .string ⟨ho'.toArray⟩, .string ⟨hw'.toArray⟩, .string ⟨who'.toArray⟩, .string ⟨bo'.toArray⟩, .string ⟨bw'.toArray⟩, .string ⟨co'.toArray⟩, .string ⟨cw'.toArray⟩, .string ⟨w2'.toArray⟩]] w _
  have HH := hid (And.intro hx (And.intro hy (And.intro hc0 (And.intro hA hB))))
  clear hx hy hc0 hA hB
  go_enter Try.func26, Try.ntmps26
  go_wp2_with fail
  obtain ⟨hx, hy, hc0, hA, hB⟩ := HH.out
  refine (hx _).mono ?_
  rintro e w3 ⟨rfl, hc1⟩
  obtain ⟨b0, b1, b2, b3, b4, b5, b6, b7, b8⟩ := cred_at_blk (blk_keep hB hc1 id)
  simp only [Nat.zero_add] at b0 b1 b2 b3 b4 b5 b6 b7 b8
  have H2 := hid (And.intro hy (hc0.trans hc1 (fun _ _ h => h)))
  clear HH hx hy hc0 hA hB hc1
  go_wp2_with fail
  refine (H2.out.1 _).mono ?_
  rintro e w4 ⟨rfl, hc4⟩
  have HC := hid (H2.out.2.trans hc4 (fun _ _ h => h))
  clear H2 hc4 b0 b1 b2 b3 b4 b5 b6 b7 b8
  cases h1 : Op.bytesLess x y with
  | true =>
    have hh : Hid (cmpC ⟨k, (ho, hw), who, (bo, bw), (co, cw), w2⟩ ⟨k', (ho', hw'), who', (bo', bw'), (co', cw'), w2'⟩ = -1) := hid (by rw [hD.out, show ltS x y = true from h1]; rfl)
    go_wp2
    go_ret
    exact ⟨by rw [hh.out]; rfl, HC.out⟩
  | false =>
    cases h2 : (x == y) with
    | false =>
      have hne : x ≠ y := by simpa using h2
      have h3 : ltS y x = true := by
        rcases ltS_ord.tri x y with q | q | q
        · rw [show ltS x y = false from h1] at q; cases q
        · exact absurd q hne
        · exact q
      have hh : Hid (cmpC ⟨k, (ho, hw), who, (bo, bw), (co, cw), w2⟩ ⟨k', (ho', hw'), who', (bo', bw'), (co', cw'), w2'⟩ = 1) := hid (by rw [hD.out, show ltS x y = false from h1, h3]; rfl)
      clear h3 hne
      go_wp2
      go_ret
      exact ⟨by rw [hh.out]; rfl, HC.out⟩
    | true =>
      have he : x = y := by simpa using h2
      have hh : Hid (cmpC ⟨k, (ho, hw), who, (bo, bw), (co, cw), w2⟩ ⟨k', (ho', hw'), who', (bo', bw'), (co', cw'), w2'⟩ = 0) := hid (by rw [hD.out, ← he, ltS_ord.irrefl]; rfl)
      clear he
      go_wp2
      go_ret
      exact ⟨by rw [hh.out]; rfl, HC.out⟩
end Go.Proofs.Ytjohiggfjpfbeaa
