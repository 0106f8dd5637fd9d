/- Texts that the proof leans on, in one: Defer, Read, Enters, SignRead. -/
import Derived.Test.YtjflmhncgkbdmaaGreatKb20
import Derived.LaidEqlPtr
import Derived.Test.YtjflmhncgkbdmaaGreatKb2
/- The three contracts of the function that Read defers. -/
namespace Go.Proofs.YtjflmhncgkbdmaaGreat
open Go.RowKit

theorem assert_nil (w : World) : (Instr.typeAssert .nilIface 20 103 true).run Tryz.prog w = .ok (.tuple #[.agg #[.pointer none], .bool false]) w := by kernel_rfl
theorem assert_stop (a : Option Addr) (w : World) : (Instr.typeAssert (.iface 103 (.agg #[.pointer a])) 20 103 true).run Tryz.prog w = .ok (.tuple #[.agg #[.pointer a], .bool true]) w := by kernel_rfl
theorem assert_string (s : ByteArray) (w : World) : (Instr.typeAssert (.iface 9 (.string s)) 20 103 true).run Tryz.prog w = .ok (.tuple #[.agg #[.pointer none], .bool false]) w := by kernel_rfl

theorem neq_ptr_same {P : Program} (w : World) {tp te : TypeId} {j : TypeInfo} (a : Addr) (hp : P.underlying tp = some (.pointer te)) (hte : P.info? te = some j) :
    (binOp .neq tp (.pointer (some a)) (.pointer (some a))).run P w = .ok (.bool false) w := by
  have h : ∀ d : Nat, (Op.equalIn (d + 1) tp (.pointer (some a)) (.pointer (some a))).run P w = .ok true w := fun d => by
    simp [Op.equalIn, run_underlying hp, sizeOf, typeInfo, hte, run_sameAddr_same]
  simp only [binOp]
  simp [Op.equal, Op.maxDepth, h 9999]

theorem neq_ptr_other {P : Program} (w : World) {tp te : TypeId} {j : TypeInfo} {a b : Addr} {ca cb : Array Value} {ta tb : TypeId} (hp : P.underlying tp = some (.pointer te)) (hte : P.info? te = some j) (hsz : j.size ≠ 0)
    (hne : a ≠ b) (ha : w.heap[a.block]? = some (.cells ca ta (0, 0))) (hb : w.heap[b.block]? = some (.cells cb tb (0, 0))) :
    (binOp .neq tp (.pointer (some a)) (.pointer (some b))).run P w = .ok (.bool true) w := by
  have h : ∀ d : Nat, (Op.equalIn (d + 1) tp (.pointer (some a)) (.pointer (some b))).run P w = .ok false w := fun d => by
    simp [Op.equalIn, run_underlying hp, sizeOf, typeInfo, hte, hsz, run_sameAddr_other w hne ha hb]
  simp only [binOp]
  simp [Op.equal, Op.maxDepth, h 9999]

theorem Tryz.info100 : (Tryz.prog.info? 100).map (fun i => i.size) = some 3 := by kernel_rfl

theorem info54_of : ∃ j, Tryz.prog.info? 100 = some j ∧ j.size ≠ 0 := by
  have h := Tryz.info100
  cases e : Tryz.prog.info? 100 with
  | none => rw [e] at h; simp at h
  | some j =>
    rw [e] at h
    simp at h
    exact ⟨j, rfl, by omega⟩

theorem neq39_same (a : Addr) (w : World) : (binOp .neq 65 (.pointer (some a)) (.pointer (some a))).run Tryz.prog w = .ok (.bool false) w := by
  obtain ⟨j, hj, _⟩ := info54_of
  exact neq_ptr_same w a Tryz.underlying65 hj

/-- What the function that Read defers leaves of memory. -/
def ReadLeft (R E : Nat) (r : Int) (w w' : World) : Prop :=
  ReaderAt w' R false (.slice none 0 0) 0 ∧ w'.heap[E]? = some (.cells #[.int .i64 r] 27 (0, 0)) ∧ Chg (fun k => k = R ∨ k = E) w w'

theorem readLeft_mk {R E : Nat} {r : Int} {ev : Int} {w w1 : World} {o : Obj} (hER : E ≠ R) (hR : ReaderAt w1 R false (.slice none 0 0) 0) (hE : w1.heap[E]? = some (.cells #[.int .i64 ev] 27 (0, 0))) (hch : Chg (· = R) w w1) :
    ReadLeft R E r w ((w1.setCell ⟨E, 0, none⟩ (.int .i64 r)).alloc o) := by
  have h1 := set_blk hE 0 (.int .i64 r)
  have h2 : (w1.setCell ⟨E, 0, none⟩ (.int .i64 r)).heap[R]? = w1.heap[R]? := set_blk_ne (by show R ≠ E; omega)
  refine ⟨?_, ?_, ?_⟩
  · exact (Below.heap_alloc _ _ _ (lt_blk (h2.trans hR))).trans (h2.trans hR)
  · exact (Below.heap_alloc _ _ _ (lt_blk h1)).trans h1
  · exact (((hch.mono (fun _ _ h => .inl h)).setCell (p := ⟨E, 0, none⟩) (fun _ => .inr rfl) _).alloc o)

theorem postS_end {fn : Func} {c₀ : Frame} {cs : List Frame} {R : Ending → FrameMode → World → Prop} {u : FrameMode} {t : Array Value} {w : World} (hr : fn.results = #[]) (h : R (.returned (.tuple #[])) u w) :
    bodyPostS Tryz.prog fn c₀ cs R .normal { tmps := t, defers := [] } ({ c₀ with mode := u } :: cs) w :=
  ⟨rfl, u, rfl, .tuple #[], results_none hr _ _ _, h⟩

theorem postS_panic {fn : Func} {c₀ : Frame} {cs : List Frame} {R : Ending → FrameMode → World → Prop} {u : FrameMode} {t : Array Value} {w : World} {chain : List PanicEntry} (h : R (.panicked chain) u w) :
    bodyPostS Tryz.prog fn c₀ cs R (.panic chain) { tmps := t, defers := [] } ({ c₀ with mode := u } :: cs) w :=
  ⟨rfl, u, rfl, h⟩

theorem neq39_other {a b : Addr} {ca cb : Array Value} {ta tb : TypeId} {w : World} (hne : a ≠ b) (ha : w.heap[a.block]? = some (.cells ca ta (0, 0))) (hb : w.heap[b.block]? = some (.cells cb tb (0, 0))) :
    (binOp .neq 65 (.pointer (some a)) (.pointer (some b))).run Tryz.prog w = .ok (.bool true) w := by
  obtain ⟨j, hj, h0⟩ := info54_of
  exact neq_ptr_other w Tryz.underlying65 hj h0 hne ha hb

/-- A block that is neither written nor new. -/
theorem blk_far {w w1 : World} {S : Nat → Prop} {b : Nat} {x o : Obj} {a : Addr} {u : Value} (h : w.heap[b]? = some x) (hc : Chg S w w1) (hs : ¬ S b) (hne : b ≠ a.block) : ((w1.setCell a u).alloc o).heap[b]? = some x := by
  have h1 : w1.heap[b]? = some x := (hc.block b (lt_blk h) hs).trans h
  have h2 : (w1.setCell a u).heap[b]? = some x := (set_blk_ne hne).trans h1
  exact (Below.heap_alloc _ _ _ (lt_blk h2)).trans h2

theorem mode_self {c : Frame} {u : FrameMode} (h : c.mode = u) : ({ c with mode := u } : Frame) = c := by
  subst h
  rfl

set_option maxRecDepth 100000 in
/-- f has ended by itself. -/
theorem deferred_idle (V R E n cap : Nat) (flt : Int) (ao : Option Addr) (op : Bool) (ev : Int) (w : World) (hR : ReaderAt w R op (.slice ao n cap) flt)
    (hV : w.heap[V]? = some (.cells #[.pointer (some ⟨R, 0, none⟩)] 65 (0, 0))) (hE : w.heap[E]? = some (.cells #[.int .i64 ev] 27 (0, 0))) (hER : E ≠ R) :
    CallsD Tryz.prog 51 #[.pointer (some ⟨V, 0, none⟩), .pointer (some ⟨E, 0, none⟩)] .returning w fun e u' w' =>
      e = .returned (.tuple #[]) ∧ u' = .returning ∧ ReadLeft R E (endOf flt n) w w' := by
  have v0 := cell_blk hV 0
  simp only [List.getElem?_toArray, List.getElem?_cons_zero, List.getElem?_cons_succ] at v0
  refine callsD_of_wpS Tryz.func51 rfl fun c₀ cs hu => ?_
  simp only [Tryz.ntmps51, List.size_toArray, List.length_cons, List.length_nil, Nat.reduceAdd, Nat.reduceSub, Array.replicate_succ, Array.replicate_zero, List.push_toArray, List.append_toArray, List.nil_append, List.cons_append]
  apply wpS_seq
  refine wpS_of_wp ?_
  go_wp2_with (go_at_call 52; refine (end_any R n cap flt ao op _ hR).mono ?_; rintro e w1 ⟨rfl, hR1, hch⟩; have hE1 := (hch.block E (lt_blk hE) hER).trans hE; have e0 := cell_blk hE1 0; have fe0 := froz_blk hE1 0; simp only [List.getElem?_toArray, List.getElem?_cons_zero] at e0)
  apply wpS_seq
  apply wpS_region
  simp [wpOpsS, go_sem, recoverD, hu, Exit.thenS]
  refine wpS_of_wp ?_
  have ha := assert_nil
  have HL := fun o => hid (readLeft_mk (r := endOf flt n) (o := o) hER hR1 hE1 hch)
  have HU := hid (mode_self hu)
  clear hch hR1 hE1 e0 fe0 v0 hV hE hR hu
  go_wp2
  rw [← HU.out]
  exact postS_end rfl ⟨rfl, rfl, (HL _).out⟩

set_option maxRecDepth 100000 in
/-- f was ended by this reader's error. -/
theorem deferred_stops (V R E n cap : Nat) (flt : Int) (ao : Option Addr) (op : Bool) (ev : Int) (w : World) (hR : ReaderAt w R op (.slice ao n cap) flt)
    (hV : w.heap[V]? = some (.cells #[.pointer (some ⟨R, 0, none⟩)] 65 (0, 0))) (hE : w.heap[E]? = some (.cells #[.int .i64 ev] 27 (0, 0))) (hER : E ≠ R) (hVR : V ≠ R) (hVE : V ≠ E) (older : List PanicEntry) :
    CallsD Tryz.prog 51 #[.pointer (some ⟨V, 0, none⟩), .pointer (some ⟨E, 0, none⟩)] (.panicking ({ v := stopOf R, recovered := false } :: older)) w fun e u' w' =>
      e = .returned (.tuple #[]) ∧ u' = .panicking ({ v := stopOf R, recovered := true } :: older) ∧ ReadLeft R E (endOf flt n) w w' := by
  unfold stopOf
  have v0 := cell_blk hV 0
  simp only [List.getElem?_toArray, List.getElem?_cons_zero, List.getElem?_cons_succ] at v0
  refine callsD_of_wpS Tryz.func51 rfl fun c₀ cs hu => ?_
  simp only [Tryz.ntmps51, List.size_toArray, List.length_cons, List.length_nil, Nat.reduceAdd, Nat.reduceSub, Array.replicate_succ, Array.replicate_zero, List.push_toArray, List.append_toArray, List.nil_append, List.cons_append]
  apply wpS_seq
  refine wpS_of_wp ?_
  go_wp2_with (go_at_call 52; refine (end_any R n cap flt ao op _ hR).mono ?_; rintro e w1 ⟨rfl, hR1, hch⟩; have hE1 := (hch.block E (lt_blk hE) hER).trans hE; have e0 := cell_blk hE1 0; have fe0 := froz_blk hE1 0; simp only [List.getElem?_toArray, List.getElem?_cons_zero] at e0)
  apply wpS_seq
  apply wpS_region
  simp [wpOpsS, go_sem, recoverD, hu, Exit.thenS]
  refine wpS_of_wp ?_
  have ha := assert_stop (some ⟨R, 0, none⟩)
  have hq := neq39_same ⟨R, 0, none⟩
  have HL := fun o => hid (readLeft_mk (r := endOf flt n) (o := o) hER hR1 hE1 hch)
  have v1 := hch.cell v0 hVR
  have hb := World.block_lt_of_cell? w1 _ v1
  simp only [] at hb
  clear hch hR1 hE1 e0 fe0 v0 hV hE hR hu
  go_wp2
  exact postS_end rfl ⟨rfl, rfl, (HL _).out⟩

set_option maxRecDepth 100000 in
/-- f panics by itself, or another reader's error goes through: on it goes. -/
theorem deferred_throws (V R E n cap : Nat) (flt : Int) (ao : Option Addr) (op : Bool) (ev : Int) (w : World) (hR : ReaderAt w R op (.slice ao n cap) flt)
    (hV : w.heap[V]? = some (.cells #[.pointer (some ⟨R, 0, none⟩)] 65 (0, 0))) (hE : w.heap[E]? = some (.cells #[.int .i64 ev] 27 (0, 0))) (hER : E ≠ R) (hVR : V ≠ R) (hVE : V ≠ E) (older : List PanicEntry)
    (T : TypeId) (pv : Value) (ok : Bool) (q : Nat) (ha : ∀ w, (Instr.typeAssert (.iface T pv) 20 103 true).run Tryz.prog w = .ok (.tuple #[.agg #[.pointer (if ok then some ⟨q, 0, none⟩ else none)], .bool ok]) w) (hq : ok = true → q ≠ R ∧ q ≠ E ∧ ∃ cq tq, w.heap[q]? = some (.cells cq tq (0, 0))) :
    CallsD Tryz.prog 51 #[.pointer (some ⟨V, 0, none⟩), .pointer (some ⟨E, 0, none⟩)] (.panicking ({ v := .iface T pv, recovered := false } :: older)) w fun e u' w' =>
      e = .panicked [{ v := .iface T pv, recovered := false }] ∧ u' = .panicking ({ v := .iface T pv, recovered := true } :: older) ∧ ReadLeft R E (endOf flt n) w w' := by
  have v0 := cell_blk hV 0
  simp only [List.getElem?_toArray, List.getElem?_cons_zero, List.getElem?_cons_succ] at v0
  cases ok with
  | false =>
    simp only [Bool.false_eq_true, if_false] at ha
    refine callsD_of_wpS Tryz.func51 rfl fun c₀ cs hu => ?_
    simp only [Tryz.ntmps51, List.size_toArray, List.length_cons, List.length_nil, Nat.reduceAdd, Nat.reduceSub, Array.replicate_succ, Array.replicate_zero, List.push_toArray, List.append_toArray, List.nil_append, List.cons_append]
    apply wpS_seq
    refine wpS_of_wp ?_
    go_wp2_with (go_at_call 52; refine (end_any R n cap flt ao op _ hR).mono ?_; rintro e w1 ⟨rfl, hR1, hch⟩; have hE1 := (hch.block E (lt_blk hE) hER).trans hE; have e0 := cell_blk hE1 0; have fe0 := froz_blk hE1 0; simp only [List.getElem?_toArray, List.getElem?_cons_zero] at e0)
    apply wpS_seq
    apply wpS_region
    simp [wpOpsS, go_sem, recoverD, hu, Exit.thenS]
    refine wpS_of_wp ?_
    have HL := fun o => hid (readLeft_mk (r := endOf flt n) (o := o) hER hR1 hE1 hch)
    clear hch hR1 hE1 e0 fe0 v0 hV hE hR hu
    go_wp2
    exact postS_panic ⟨rfl, rfl, (HL _).out⟩
  | true =>
    simp only [if_true] at ha
    obtain ⟨q1, q2, cq, tq, q3⟩ := hq rfl
    refine callsD_of_wpS Tryz.func51 rfl fun c₀ cs hu => ?_
    simp only [Tryz.ntmps51, List.size_toArray, List.length_cons, List.length_nil, Nat.reduceAdd, Nat.reduceSub, Array.replicate_succ, Array.replicate_zero, List.push_toArray, List.append_toArray, List.nil_append, List.cons_append]
    apply wpS_seq
    refine wpS_of_wp ?_
    go_wp2_with (go_at_call 52; refine (end_any R n cap flt ao op _ hR).mono ?_; rintro e w1 ⟨rfl, hR1, hch⟩; have hE1 := (hch.block E (lt_blk hE) hER).trans hE; have e0 := cell_blk hE1 0; have fe0 := froz_blk hE1 0; simp only [List.getElem?_toArray, List.getElem?_cons_zero] at e0)
    apply wpS_seq
    apply wpS_region
    simp [wpOpsS, go_sem, recoverD, hu, Exit.thenS]
    refine wpS_of_wp ?_
    have HL := fun o => hid (readLeft_mk (r := endOf flt n) (o := o) hER hR1 hE1 hch)
    have v1 := hch.cell v0 hVR
    have hb := World.block_lt_of_cell? w1 _ v1
    simp only [] at hb
    have hne := neq39_other (a := ⟨q, 0, none⟩) (b := ⟨R, 0, none⟩) (w := (w1.setCell ⟨E, 0, none⟩ (.int .i64 (endOf flt n))).alloc (.cells #[.pointer (some ⟨q, 0, none⟩)] 103)) (fun h => q1 (congrArg Addr.block h)) (blk_far q3 hch q1 q2) (blk_far hR1 (Chg.refl (fun _ => False) _) id (fun h => hER h.symm))
    clear hch hR1 hE1 e0 fe0 v0 hV hE hR hu q3
    go_wp2
    exact postS_panic ⟨rfl, rfl, (HL _).out⟩

end Go.Proofs.YtjflmhncgkbdmaaGreat

/- The four contracts of Read, by how f ends. -/
namespace Go.Proofs.YtjflmhncgkbdmaaGreat
open Go.RowKit

theorem neq47_func (K : Nat) (cap : Array Value) (w : World) : (binOp .neq 67 (.func (.func K) #[] cap) .nilFunc).run Tryz.prog w = .ok (.bool true) w := by kernel_rfl
theorem neq47_nil (w : World) : (binOp .neq 67 .nilFunc .nilFunc).run Tryz.prog w = .ok (.bool false) w := by kernel_rfl

theorem dropWhile_all {α : Type} (p : α → Bool) : ∀ l : List α, l.all p = true → l.dropWhile p = []
  | [], _ => rfl
  | x :: l, h => by
    simp only [List.all_cons, Bool.and_eq_true] at h
    rw [List.dropWhile_cons, if_pos h.1]
    exact dropWhile_all p l h.2

/-- The world in which Read calls f. -/
def readWorld (w : World) (sv : Value) : World :=
  ((w.alloc (.cells #[.int .i64 0] 27)).alloc (.cells #[.bool true, sv, .int .i64 0] 100)).alloc (.cells #[.pointer (some ⟨w.heap.size + 1, 0, none⟩)] 65)

theorem readWorld_size (w : World) (sv : Value) : (readWorld w sv).heap.size = w.heap.size + 3 := by simp [readWorld]

theorem readWorld_chg (w : World) (sv : Value) (S : Nat → Prop) : Chg S w (readWorld w sv) := (((Chg.refl S w).alloc _).alloc _).alloc _

theorem readWorld_E (w : World) (sv : Value) : (readWorld w sv).heap[w.heap.size]? = some (.cells #[.int .i64 0] 27 (0, 0)) := by
  unfold readWorld
  rw [Below.heap_alloc _ _ _ (by simp; omega), Below.heap_alloc _ _ _ (by simp)]
  exact heap_alloc_new w _

theorem readWorld_R (w : World) (sv : Value) : ReaderAt (readWorld w sv) (w.heap.size + 1) true sv 0 := by
  unfold readWorld ReaderAt
  rw [Below.heap_alloc _ _ _ (by simp)]
  have := heap_alloc_new (w.alloc (.cells #[.int .i64 0] 27)) (.cells #[.bool true, sv, .int .i64 0] 100)
  simpa using this

theorem readWorld_V (w : World) (sv : Value) : (readWorld w sv).heap[w.heap.size + 2]? = some (.cells #[.pointer (some ⟨w.heap.size + 1, 0, none⟩)] 65 (0, 0)) := by
  unfold readWorld
  have := heap_alloc_new ((w.alloc (.cells #[.int .i64 0] 27)).alloc (.cells #[.bool true, sv, .int .i64 0] 100)) (.cells #[.pointer (some ⟨w.heap.size + 1, 0, none⟩)] 65)
  simpa using this

/-- What f leaves of memory: its reader; else the blocks of T alone, which were there ahead of Read. -/
def FLeft (w : World) (sv : Value) (T : Nat → Prop) (n : Nat) (flt : Int) (w1 : World) : Prop :=
  (∃ ao m cp, ReaderAt w1 (w.heap.size + 1) true (.slice ao m cp) flt ∧ (flt = 0 → m = n)) ∧ Chg (fun k => k = w.heap.size + 1 ∨ T k) (readWorld w sv) w1

/-- What Read leaves of it. -/
def RLeft (w : World) (T : Nat → Prop) (w1 w' : World) : Prop :=
  ReaderAt w' (w.heap.size + 1) false (.slice none 0 0) 0 ∧ Chg (fun k => k = w.heap.size + 1 ∨ k = w.heap.size) w1 w' ∧ Chg T w w'

theorem fleft_facts {w : World} {sv : Value} {T : Nat → Prop} {n : Nat} {flt : Int} {w1 : World} (h : FLeft w sv T n flt w1) (hT : ∀ k, T k → k < w.heap.size) :
    w1.heap[w.heap.size + 2]? = some (.cells #[.pointer (some ⟨w.heap.size + 1, 0, none⟩)] 65 (0, 0)) ∧ w1.heap[w.heap.size]? = some (.cells #[.int .i64 0] 27 (0, 0)) := by
  refine ⟨(h.2.block _ (by rw [readWorld_size]; omega) ?_).trans (readWorld_V w sv), (h.2.block _ (by rw [readWorld_size]; omega) ?_).trans (readWorld_E w sv)⟩
  · rintro (e | e)
    · omega
    · have := hT _ e; omega
  · rintro (e | e)
    · omega
    · have := hT _ e; omega

theorem rleft_mk {w : World} {sv : Value} {T : Nat → Prop} {n : Nat} {flt r : Int} {w1 w' : World} (h : FLeft w sv T n flt w1) (hl : ReadLeft (w.heap.size + 1) w.heap.size r w1 w') : RLeft w T w1 w' := by
  obtain ⟨h1, h2, h3⟩ := hl
  refine ⟨h1, h3, ?_⟩
  refine ((readWorld_chg w sv T).trans h.2 ?_).trans h3 ?_
  · rintro i hi (e | e)
    · omega
    · exact e
  · rintro i hi (e | e) <;> omega

set_option maxRecDepth 100000 in
/-- f ends by itself. -/
theorem read_returns {K : Nat} {cap : Array Value} {ao : Option Addr} {len cp n : Nat} {w : World} {T : Nat → Prop} {P : World → Prop} (hT : ∀ k, T k → k < w.heap.size) (hK : ∀ args w, (callFunc K args).run Tryz.prog w = .ok (.enter K args) w)
    (hcall : Calls Tryz.prog K (#[.pointer (some ⟨w.heap.size + 1, 0, none⟩)] ++ cap) (readWorld w (.slice ao len cp)) fun e w1 => e = .returned (.tuple #[]) ∧ FLeft w (.slice ao len cp) T n 0 w1 ∧ P w1) :
    Calls Tryz.prog 24 #[.slice ao len cp, .func (.func K) #[] cap] w fun e w' => e = .returned (.int .i64 (endOf 0 n)) ∧ ∃ w1, P w1 ∧ RLeft w T w1 w' := by
  have hmf : ∀ (fn : Fn) (first cap : Array Value) (w : World), (Instr.makeFunc fn first cap).run Tryz.prog w = .ok (.func fn first cap) w := fun _ _ _ _ => rfl
  have hq := neq47_func K cap
  go_enter_defers Tryz.func24, Tryz.ntmps24
  go_wp2_with fail
  refine Calls.mono hcall ?_
  rintro e w1 ⟨rfl, hf, hP⟩
  go_wp2
  refine leaves_cons (f := 51) (args := #[.pointer (some ⟨w.heap.size + 1 + 1, 0, none⟩), .pointer (some ⟨w.heap.size, 0, none⟩)]) (by simp) (by simp [go_sem]) ?_
  obtain ⟨f1, f2⟩ := fleft_facts hf hT
  obtain ⟨⟨ao', m, cp', hR, hm⟩, hch⟩ := id hf
  obtain rfl : m = n := hm rfl
  refine (deferred_idle _ _ _ _ _ _ _ _ _ w1 hR f1 f2 (by omega)).mono ?_
  rintro e u' w2 ⟨rfl, rfl, hl⟩
  have hc := cell_blk hl.2.1 0
  simp only [List.getElem?_toArray, List.getElem?_cons_zero] at hc
  have hL := rleft_mk hf hl
  simp [Leaves, settle, results, Tryz.results24, go_sem, hc]
  exact ⟨w1, hP, hL⟩

set_option maxRecDepth 100000 in
/-- f is ended by its reader's error. -/
theorem read_stops {K : Nat} {cap : Array Value} {ao : Option Addr} {len cp n : Nat} {flt : Int} {w : World} {T : Nat → Prop} {P : World → Prop} (older : List PanicEntry) (hold : older.all (!·.goexit) = true) (hT : ∀ k, T k → k < w.heap.size) (hK : ∀ args w, (callFunc K args).run Tryz.prog w = .ok (.enter K args) w)
    (hcall : Calls Tryz.prog K (#[.pointer (some ⟨w.heap.size + 1, 0, none⟩)] ++ cap) (readWorld w (.slice ao len cp)) fun e w1 => e = .panicked ({ v := stopOf (w.heap.size + 1), recovered := false } :: older) ∧ FLeft w (.slice ao len cp) T n flt w1 ∧ P w1) :
    Calls Tryz.prog 24 #[.slice ao len cp, .func (.func K) #[] cap] w fun e w' => e = .returned (.int .i64 (endOf flt n)) ∧ ∃ w1, P w1 ∧ RLeft w T w1 w' := by
  have hmf : ∀ (fn : Fn) (first cap : Array Value) (w : World), (Instr.makeFunc fn first cap).run Tryz.prog w = .ok (.func fn first cap) w := fun _ _ _ _ => rfl
  have hq := neq47_func K cap
  go_enter_defers Tryz.func24, Tryz.ntmps24
  go_wp2_with fail
  refine Calls.mono hcall ?_
  rintro e w1 ⟨rfl, hf, hP⟩
  go_wp2
  refine leaves_cons (f := 51) (args := #[.pointer (some ⟨w.heap.size + 1 + 1, 0, none⟩), .pointer (some ⟨w.heap.size, 0, none⟩)]) (by simp) (by simp [go_sem]) ?_
  obtain ⟨f1, f2⟩ := fleft_facts hf hT
  obtain ⟨⟨ao', m, cp', hR, hm⟩, hch⟩ := id hf
  have hen : endOf flt m = endOf flt n := by
    unfold endOf
    by_cases h : flt = 0
    · rw [hm h]
    · rw [if_neg h, if_neg h]
  refine (deferred_stops _ _ _ _ _ _ _ _ _ w1 hR f1 f2 (by omega) (by omega) (by omega) older).mono ?_
  rintro e u' w2 ⟨rfl, rfl, hl⟩
  have hc := cell_blk hl.2.1 0
  simp only [List.getElem?_toArray, List.getElem?_cons_zero] at hc
  have hL := rleft_mk hf hl
  rw [hen] at hc
  have hd : older.dropWhile (!·.goexit) = [] := dropWhile_all _ _ hold
  simp [Leaves, settle, results, Tryz.results24, go_sem, hc, hd]
  exact ⟨w1, hP, hL⟩

set_option maxRecDepth 100000 in
/-- f panics by itself, or another reader's error goes through. -/
theorem read_throws {K : Nat} {cap : Array Value} {ao : Option Addr} {len cp n : Nat} {flt : Int} {w : World} {T : Nat → Prop} {P : World → Prop} (older : List PanicEntry) (TT : TypeId) (pv : Value) (ok : Bool) (q : Nat)
    (ha : ∀ w, (Instr.typeAssert (.iface TT pv) 20 103 true).run Tryz.prog w = .ok (.tuple #[.agg #[.pointer (if ok then some ⟨q, 0, none⟩ else none)], .bool ok]) w) (hq : ok = true → q < w.heap.size)
    (hQ : ∀ w1, P w1 → ok = true → ∃ cq tq, w1.heap[q]? = some (.cells cq tq (0, 0))) (hT : ∀ k, T k → k < w.heap.size) (hK : ∀ args w, (callFunc K args).run Tryz.prog w = .ok (.enter K args) w)
    (hcall : Calls Tryz.prog K (#[.pointer (some ⟨w.heap.size + 1, 0, none⟩)] ++ cap) (readWorld w (.slice ao len cp)) fun e w1 => e = .panicked ({ v := .iface TT pv, recovered := false } :: older) ∧ FLeft w (.slice ao len cp) T n flt w1 ∧ P w1) :
    Calls Tryz.prog 24 #[.slice ao len cp, .func (.func K) #[] cap] w fun e w' => e = .panicked ({ v := .iface TT pv, recovered := false } :: { v := .iface TT pv, recovered := true } :: older) ∧ ∃ w1, P w1 ∧ RLeft w T w1 w' := by
  have hmf : ∀ (fn : Fn) (first cap : Array Value) (w : World), (Instr.makeFunc fn first cap).run Tryz.prog w = .ok (.func fn first cap) w := fun _ _ _ _ => rfl
  have hqq := neq47_func K cap
  go_enter_defers Tryz.func24, Tryz.ntmps24
  go_wp2_with fail
  refine Calls.mono hcall ?_
  rintro e w1 ⟨rfl, hf, hP⟩
  go_wp2
  refine leaves_cons (f := 51) (args := #[.pointer (some ⟨w.heap.size + 1 + 1, 0, none⟩), .pointer (some ⟨w.heap.size, 0, none⟩)]) (by simp) (by simp [go_sem]) ?_
  obtain ⟨f1, f2⟩ := fleft_facts hf hT
  obtain ⟨⟨ao', m, cp', hR, hm⟩, hch⟩ := id hf
  refine (deferred_throws _ _ _ _ _ _ _ _ _ w1 hR f1 f2 (by omega) (by omega) (by omega) older TT pv ok q ha ?_).mono ?_
  · intro h
    have := hq h
    exact ⟨by omega, by omega, hQ w1 hP h⟩
  rintro e u' w2 ⟨rfl, rfl, hl⟩
  have hL := rleft_mk hf hl
  simp [Leaves, raised]
  exact ⟨w1, hP, hL⟩

set_option maxRecDepth 100000 in
/-- No f. -/
theorem read_none {ao : Option Addr} {len cp : Nat} {w : World} :
    Calls Tryz.prog 24 #[.slice ao len cp, .nilFunc] w fun e w' => e = .returned (.int .i64 (endOf 0 len)) ∧ Chg (fun _ => False) w w' := by
  have hmf : ∀ (fn : Fn) (first cap : Array Value) (w : World), (Instr.makeFunc fn first cap).run Tryz.prog w = .ok (.func fn first cap) w := fun _ _ _ _ => rfl
  have hqq := neq47_nil
  go_enter_defers Tryz.func24, Tryz.ntmps24
  go_wp2
  refine leaves_cons (f := 51) (args := #[.pointer (some ⟨w.heap.size + 1 + 1, 0, none⟩), .pointer (some ⟨w.heap.size, 0, none⟩)]) (by simp) (by simp [go_sem]) ?_
  have hf : FLeft w (.slice ao len cp) (fun _ => False) len 0 (readWorld w (.slice ao len cp)) := ⟨⟨ao, len, cp, readWorld_R w _, fun _ => rfl⟩, Chg.refl _ _⟩
  refine (deferred_idle _ _ _ _ _ _ _ _ _ _ (readWorld_R w _) (readWorld_V w _) (readWorld_E w _) (by omega)).mono ?_
  rintro e u' w2 ⟨rfl, rfl, hl⟩
  have hc := cell_blk hl.2.1 0
  simp only [List.getElem?_toArray, List.getElem?_cons_zero] at hc
  have hL := rleft_mk hf hl
  simp [Leaves, settle, results, Tryz.results24, go_sem, hc]
  exact hL.2.2

end Go.Proofs.YtjflmhncgkbdmaaGreat

/- Functions that are values. -/
namespace Go.Proofs.YtjflmhncgkbdmaaGreat
open Go.RowKit

/-- A function with a body is entered. -/
theorem enters {K : Nat} {fn : Func} (hf : Tryz.prog.funcs[K]? = some fn) (hn : (fn.name == "runtime.NumGoroutine") = false) (hb : fn.body.isNone = false) (args : Array Value) (w : World) :
    (callFunc K args).run Tryz.prog w = .ok (.enter K args) w := by
  have h1 : fn.name ≠ "runtime.NumGoroutine" := by simpa using hn
  have h2 : fn.body ≠ none := by
    intro h
    rw [h] at hb
    simp at hb
  unfold callFunc
  simp [program, Sem.run, hf, h1, h2]

end Go.Proofs.YtjflmhncgkbdmaaGreat

/- Reads of a signed credential, through Read, by the functions that the laws hand over. -/
namespace Go.Proofs.YtjflmhncgkbdmaaGreat
open Go.RowKit

theorem getEnd_ne {c l n} (h : getEnd c l = .bad n) : ¬ ((n : Int) = 0) := by
  unfold getEnd at h
  split at h
  · cases h
  · cases h; decide
theorem getWord_ne {c l n} (h : getWord c l = .bad n) : ¬ ((n : Int) = 0) := by
  unfold getWord at h
  split at h
  · exact getEnd_ne h
  · cases h; exact nameBad_ne _
theorem getC_ne {c l n} (h : getC c l = .bad n) : ¬ ((n : Int) = 0) := by
  unfold getC at h
  split at h
  · exact getEnd_ne h
  · cases h; exact roleBad_ne _
theorem getWho_ne {c l n} (h : getWho c l = .bad n) : ¬ ((n : Int) = 0) := by
  unfold getWho at h
  split at h
  · exact getEnd_ne h
  · cases h; exact nameBad_ne _
theorem getB_ne {c l n} (h : getB c l = .bad n) : ¬ ((n : Int) = 0) := by
  unfold getB at h
  split at h
  · split at h
    · exact getWord_ne h
    · split at h
      · exact getC_ne h
      · exact getEnd_ne h
  · cases h; exact roleBad_ne _
theorem credGet_ne {l n} (h : credGet l = .bad n) : ¬ ((n : Int) = 0) := by
  unfold credGet at h
  split at h
  · split at h
    · unfold getHead at h
      split at h
      · split at h
        · exact getWho_ne h
        · exact getB_ne h
      · cases h; exact roleBad_ne _
    · cases h; decide
  · cases h; omega


theorem signGet_ne {l n} (h : signGet l = .bad n) : ¬ ((n : Int) = 0) := by
  unfold signGet at h
  split at h
  · rename_i m hm
    cases h
    exact credGet_ne hm
  · unfold signEnd at h
    split at h
    · split at h
      · cases h
      · cases h; decide
    · cases h; omega

/-- How Read ends. -/
def sgErr (l : List UInt8) : Int := match signGet l with
  | .bad e => e
  | .ok _ rest => endOf 0 rest.length

def SClos (D : Nat → Prop) (R X : Nat) (l : List UInt8) (w : World) (e : Ending) (w' : World) : Prop :=
  (∃ b, signGet l = .bad b ∧ Stops R b w e w') ∨
  (∃ s rest, signGet l = .ok s rest ∧ e = .returned (.tuple #[]) ∧ (∃ ao cp, ReaderAt w' R true (.slice ao rest.length cp) 0) ∧ Chg (fun k => k = R ∨ k = X) w w' ∧
    ∃ ta cap, w'.heap[X]? = some (.cells (signBox s.c (.slice ta s.tag.length cap)) 38 (0, 0)) ∧ BytesAt (fun k => w.heap.size ≤ k ∧ k < w'.heap.size) w' (.slice ta s.tag.length cap) s.tag)

def SignRead (X : Nat) (l : List UInt8) (w : World) (e : Ending) (w' : World) : Prop :=
  e = .returned (.int .i64 (sgErr l)) ∧ (∃ ta cap, w'.heap[X]? = some (.cells (signBox (signGot l).c (.slice ta (signGot l).tag.length cap)) 38 (0, 0)) ∧ BytesAt (fun k => w.heap.size ≤ k ∧ k < w'.heap.size) w' (.slice ta (signGot l).tag.length cap) (signGot l).tag) ∧ Chg (· = X) w w'

set_option maxRecDepth 100000 in
set_option maxHeartbeats 2000000 in
theorem sclosF {D : Nat → Prop} {R X : Nat} {v : Value} {l : List UInt8} {w : World} (hl : l.length ≤ 140737488355328) (hv : BytesAt D w v l) (hDR : ¬ D R) (hDX : ¬ D X) (hXR : X ≠ R) (hDl : ∀ i, D i → i < w.heap.size) (hR : ReaderAt w R true v 0) (hX : w.heap[X]? = some (.cells (signBox noCred (.slice none 0 0)) 38 (0, 0))) :
    Calls Tryz.prog 29 #[.pointer (some ⟨R, 0, none⟩), .pointer (some ⟨X, 0, none⟩)] w (SClos D R X l w) := by
  have h1 := pkget hl hv hDR hDl hR
  go_enter Tryz.func29, Tryz.ntmps29
  go_wp2_with fail
  refine h1.mono ?_
  rintro e w1 (⟨b, hb, hst⟩ | ⟨s, rest, sv, hb, rfl, ⟨ta, cap, rfl, hbt⟩, vb, hv1, hR1, hch1⟩)
  · have HS := hid (show SClos D R X l w e w1 from .inl ⟨b, hb, hst⟩)
    obtain ⟨rfl, _⟩ := hst
    exact ⟨rfl, HS.out⟩
  · obtain ⟨c, tag⟩ := s
    dsimp only at hbt
    have hX1 := blk_keep hX hch1 hXR
    have hXl := lt_blk hX
    obtain ⟨⟨y0, y1, y2, y3, y4, y5, y6, y7, y8⟩, y9⟩ := cred_at_sign hX1
    simp only [Nat.zero_add, noCred, noneR] at y0 y1 y2 y3 y4 y5 y6 y7 y8
    have g0 := froz_blk hX1 0
    have g1 := froz_blk hX1 1
    have g2 := froz_blk hX1 2
    have g3 := froz_blk hX1 3
    have g4 := froz_blk hX1 4
    have g5 := froz_blk hX1 5
    have g6 := froz_blk hX1 6
    have g7 := froz_blk hX1 7
    have g8 := froz_blk hX1 8
    have g9 := froz_blk hX1 9
    obtain ⟨ao6, cap6, rfl⟩ := hv1.shape
    have cg := setSign_chg w1 X c (.slice ta tag.length cap)
    have hR2 : ReaderAt (setSign w1 X c (.slice ta tag.length cap)) R true (.slice ao6 rest.length cap6) 0 := blk_keep hR1 cg (fun h => hXR h.symm)
    have hX2 := setSign_blk c (.slice ta tag.length cap) hX1
    have hch2 : Chg (fun k => k = R ∨ k = X) w (setSign w1 X c (.slice ta tag.length cap)) := (hch1.mono (fun _ _ h => .inl h)).trans cg (fun _ _ h => .inr h)
    have hbt2 := (hbt.keep cg (fun i hi e => by have h1 := hi.1; have h2 : i = X := e; omega)).mono (D' := fun k => w.heap.size ≤ k ∧ k < (setSign w1 X c (.slice ta tag.length cap)).heap.size) (fun i hi => ⟨hi.1, Nat.lt_of_lt_of_le hi.2 cg.size⟩)
    have HH := hid (show SClos D R X l w (.returned (.tuple #[])) (setSign w1 X c (.slice ta tag.length cap)) from .inr ⟨⟨c, tag⟩, rest, hb, rfl, ⟨_, _, hR2⟩, hch2, ta, cap, hX2, hbt2⟩)
    clear h1 hv hR hv1 hR1 hch1 hX1 cg hR2 hX2 hch2 hX hbt hbt2 hb
    unfold signV signBox
    go_wp2
    go_end0
    exact HH.out

theorem scenterF : ∀ args w, (callFunc 29 args).run Tryz.prog w = .ok (.enter 29 args) w := enters Tryz.func29 (by kernel_rfl) (by kernel_rfl)

set_option maxRecDepth 100000 in
theorem sreadF {D : Nat → Prop} {ao : Option Addr} {cp X : Nat} {l : List UInt8} {w : World} (hl : l.length ≤ 140737488355328) (hv : BytesAt D w (.slice ao l.length cp) l) (dD : ∀ i, D i → i < w.heap.size) (hDX : ¬ D X) (hX : w.heap[X]? = some (.cells (signBox noCred (.slice none 0 0)) 38 (0, 0))) :
    Calls Tryz.prog 24 #[.slice ao l.length cp, .func (.func 29) #[] #[.pointer (some ⟨X, 0, none⟩)]] w (SignRead X l w) := by
  have lX := lt_blk hX
  have hrw := readWorld_chg w (.slice ao l.length cp) (fun _ => False)
  have hv' := hv.keep hrw (fun _ _ h => h)
  have hdr : ¬ D (w.heap.size + 1) := fun h => by have := dD _ h; omega
  have hdl : ∀ i, D i → i < (readWorld w (.slice ao l.length cp)).heap.size := fun i hi => by have := dD i hi; rw [readWorld_size]; omega
  have hcl := sclosF (R := w.heap.size + 1) hl hv' hdr hDX (by omega) hdl (readWorld_R w _) (blk_keep hX hrw id)
  cases hok : signGet l with
  | ok s rest =>
    refine (read_returns (T := fun k => k = X) (P := fun w1 => ∃ ta cap, w1.heap[X]? = some (.cells (signBox s.c (.slice ta s.tag.length cap)) 38 (0, 0)) ∧ BytesAt (fun k => w.heap.size + 3 ≤ k ∧ k < w1.heap.size) w1 (.slice ta s.tag.length cap) s.tag) (n := rest.length) (by rintro k rfl; omega) scenterF ?_).mono ?_
    · refine hcl.mono ?_
      rintro e w1 (⟨b, hb, _⟩ | ⟨s', rest', hb, rfl, ⟨ao1, cp1, hr⟩, hc, ta, cap, h1, h2⟩)
      · rw [hok] at hb; cases hb
      · rw [hok] at hb
        cases hb
        exact ⟨rfl, ⟨⟨ao1, _, cp1, hr, fun _ => rfl⟩, hc⟩, ta, cap, h1, h2.mono (fun i hi => ⟨by have := hi.1; rw [readWorld_size] at this; exact this, hi.2⟩)⟩
    · rintro e w' ⟨rfl, w1, ⟨ta, cap, h1, h2⟩, hle⟩
      refine ⟨by rw [sgErr, hok], ?_, hle.2.2⟩
      rw [signGot, hok]
      exact ⟨ta, cap, blk_keep h1 hle.2.1 (by omega), (h2.keep hle.2.1 (fun i hi e => by have := hi.1; omega)).mono (fun i hi => ⟨by have := hi.1; omega, Nat.lt_of_lt_of_le hi.2 hle.2.1.size⟩)⟩
  | bad bad =>
    have hne := signGet_ne hok
    refine (read_stops (T := fun k => k = X) (P := fun w1 => w1.heap[X]? = some (.cells (signBox noCred (.slice none 0 0)) 38 (0, 0))) (n := l.length) (flt := bad) [] rfl (by rintro k rfl; omega) scenterF ?_).mono ?_
    · refine hcl.mono ?_
      rintro e w1 (⟨b, hb, rfl, ao1, m, cp1, hr, hc⟩ | ⟨s', rest', hb, _⟩)
      · rw [hok] at hb
        cases hb
        exact ⟨rfl, ⟨⟨ao1, m, cp1, hr, fun h => absurd h hne⟩, hc.mono (fun _ _ h => .inl h)⟩, blk_keep (blk_keep hX hrw id) hc (by omega)⟩
      · rw [hok] at hb; cases hb
    · rintro e w' ⟨rfl, w1, h1, hle⟩
      refine ⟨by rw [sgErr, hok, endOf, if_neg hne], ?_, hle.2.2⟩
      rw [signGot, hok]
      exact ⟨none, 0, blk_keep h1 hle.2.1 (by omega), BytesAt.nil _ _⟩

set_option maxRecDepth 100000 in
set_option maxHeartbeats 2000000 in
theorem sclosG {D : Nat → Prop} {R X : Nat} {v : Value} {l : List UInt8} {w : World} (hl : l.length ≤ 140737488355328) (hv : BytesAt D w v l) (hDR : ¬ D R) (hDX : ¬ D X) (hXR : X ≠ R) (hDl : ∀ i, D i → i < w.heap.size) (hR : ReaderAt w R true v 0) (hX : w.heap[X]? = some (.cells (signBox noCred (.slice none 0 0)) 38 (0, 0))) :
    Calls Tryz.prog 25 #[.pointer (some ⟨R, 0, none⟩), .pointer (some ⟨X, 0, none⟩)] w (SClos D R X l w) := by
  have h1 := pkget hl hv hDR hDl hR
  go_enter Tryz.func25, Tryz.ntmps25
  go_wp2_with fail
  refine h1.mono ?_
  rintro e w1 (⟨b, hb, hst⟩ | ⟨s, rest, sv, hb, rfl, ⟨ta, cap, rfl, hbt⟩, vb, hv1, hR1, hch1⟩)
  · have HS := hid (show SClos D R X l w e w1 from .inl ⟨b, hb, hst⟩)
    obtain ⟨rfl, _⟩ := hst
    exact ⟨rfl, HS.out⟩
  · obtain ⟨c, tag⟩ := s
    dsimp only at hbt
    have hX1 := blk_keep hX hch1 hXR
    have hXl := lt_blk hX
    obtain ⟨⟨y0, y1, y2, y3, y4, y5, y6, y7, y8⟩, y9⟩ := cred_at_sign hX1
    simp only [Nat.zero_add, noCred, noneR] at y0 y1 y2 y3 y4 y5 y6 y7 y8
    have g0 := froz_blk hX1 0
    have g1 := froz_blk hX1 1
    have g2 := froz_blk hX1 2
    have g3 := froz_blk hX1 3
    have g4 := froz_blk hX1 4
    have g5 := froz_blk hX1 5
    have g6 := froz_blk hX1 6
    have g7 := froz_blk hX1 7
    have g8 := froz_blk hX1 8
    have g9 := froz_blk hX1 9
    obtain ⟨ao6, cap6, rfl⟩ := hv1.shape
    have cg := setSign_chg w1 X c (.slice ta tag.length cap)
    have hR2 : ReaderAt (setSign w1 X c (.slice ta tag.length cap)) R true (.slice ao6 rest.length cap6) 0 := blk_keep hR1 cg (fun h => hXR h.symm)
    have hX2 := setSign_blk c (.slice ta tag.length cap) hX1
    have hch2 : Chg (fun k => k = R ∨ k = X) w (setSign w1 X c (.slice ta tag.length cap)) := (hch1.mono (fun _ _ h => .inl h)).trans cg (fun _ _ h => .inr h)
    have hbt2 := (hbt.keep cg (fun i hi e => by have h1 := hi.1; have h2 : i = X := e; omega)).mono (D' := fun k => w.heap.size ≤ k ∧ k < (setSign w1 X c (.slice ta tag.length cap)).heap.size) (fun i hi => ⟨hi.1, Nat.lt_of_lt_of_le hi.2 cg.size⟩)
    have HH := hid (show SClos D R X l w (.returned (.tuple #[])) (setSign w1 X c (.slice ta tag.length cap)) from .inr ⟨⟨c, tag⟩, rest, hb, rfl, ⟨_, _, hR2⟩, hch2, ta, cap, hX2, hbt2⟩)
    clear h1 hv hR hv1 hR1 hch1 hX1 cg hR2 hX2 hch2 hX hbt hbt2 hb
    unfold signV signBox
    go_wp2
    go_end0
    exact HH.out

theorem scenterG : ∀ args w, (callFunc 25 args).run Tryz.prog w = .ok (.enter 25 args) w := enters Tryz.func25 (by kernel_rfl) (by kernel_rfl)

set_option maxRecDepth 100000 in
theorem sreadG {D : Nat → Prop} {ao : Option Addr} {cp X : Nat} {l : List UInt8} {w : World} (hl : l.length ≤ 140737488355328) (hv : BytesAt D w (.slice ao l.length cp) l) (dD : ∀ i, D i → i < w.heap.size) (hDX : ¬ D X) (hX : w.heap[X]? = some (.cells (signBox noCred (.slice none 0 0)) 38 (0, 0))) :
    Calls Tryz.prog 24 #[.slice ao l.length cp, .func (.func 25) #[] #[.pointer (some ⟨X, 0, none⟩)]] w (SignRead X l w) := by
  have lX := lt_blk hX
  have hrw := readWorld_chg w (.slice ao l.length cp) (fun _ => False)
  have hv' := hv.keep hrw (fun _ _ h => h)
  have hdr : ¬ D (w.heap.size + 1) := fun h => by have := dD _ h; omega
  have hdl : ∀ i, D i → i < (readWorld w (.slice ao l.length cp)).heap.size := fun i hi => by have := dD i hi; rw [readWorld_size]; omega
  have hcl := sclosG (R := w.heap.size + 1) hl hv' hdr hDX (by omega) hdl (readWorld_R w _) (blk_keep hX hrw id)
  cases hok : signGet l with
  | ok s rest =>
    refine (read_returns (T := fun k => k = X) (P := fun w1 => ∃ ta cap, w1.heap[X]? = some (.cells (signBox s.c (.slice ta s.tag.length cap)) 38 (0, 0)) ∧ BytesAt (fun k => w.heap.size + 3 ≤ k ∧ k < w1.heap.size) w1 (.slice ta s.tag.length cap) s.tag) (n := rest.length) (by rintro k rfl; omega) scenterG ?_).mono ?_
    · refine hcl.mono ?_
      rintro e w1 (⟨b, hb, _⟩ | ⟨s', rest', hb, rfl, ⟨ao1, cp1, hr⟩, hc, ta, cap, h1, h2⟩)
      · rw [hok] at hb; cases hb
      · rw [hok] at hb
        cases hb
        exact ⟨rfl, ⟨⟨ao1, _, cp1, hr, fun _ => rfl⟩, hc⟩, ta, cap, h1, h2.mono (fun i hi => ⟨by have := hi.1; rw [readWorld_size] at this; exact this, hi.2⟩)⟩
    · rintro e w' ⟨rfl, w1, ⟨ta, cap, h1, h2⟩, hle⟩
      refine ⟨by rw [sgErr, hok], ?_, hle.2.2⟩
      rw [signGot, hok]
      exact ⟨ta, cap, blk_keep h1 hle.2.1 (by omega), (h2.keep hle.2.1 (fun i hi e => by have := hi.1; omega)).mono (fun i hi => ⟨by have := hi.1; omega, Nat.lt_of_lt_of_le hi.2 hle.2.1.size⟩)⟩
  | bad bad =>
    have hne := signGet_ne hok
    refine (read_stops (T := fun k => k = X) (P := fun w1 => w1.heap[X]? = some (.cells (signBox noCred (.slice none 0 0)) 38 (0, 0))) (n := l.length) (flt := bad) [] rfl (by rintro k rfl; omega) scenterG ?_).mono ?_
    · refine hcl.mono ?_
      rintro e w1 (⟨b, hb, rfl, ao1, m, cp1, hr, hc⟩ | ⟨s', rest', hb, _⟩)
      · rw [hok] at hb
        cases hb
        exact ⟨rfl, ⟨⟨ao1, m, cp1, hr, fun h => absurd h hne⟩, hc.mono (fun _ _ h => .inl h)⟩, blk_keep (blk_keep hX hrw id) hc (by omega)⟩
      · rw [hok] at hb; cases hb
    · rintro e w' ⟨rfl, w1, h1, hle⟩
      refine ⟨by rw [sgErr, hok, endOf, if_neg hne], ?_, hle.2.2⟩
      rw [signGot, hok]
      exact ⟨none, 0, blk_keep h1 hle.2.1 (by omega), BytesAt.nil _ _⟩

end Go.Proofs.YtjflmhncgkbdmaaGreat
