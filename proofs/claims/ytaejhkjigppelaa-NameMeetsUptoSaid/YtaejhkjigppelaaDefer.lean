/- The three contracts of the function that Read defers. -/
import Derived.Test.YtaejhkjigppelaaEnd
import Derived.LaidEqlPtr
namespace Go.Proofs.Ytaejhkjigppelaa
open Go.RowKit

theorem assert_nil (w : World) : (Instr.typeAssert .nilIface 20 78 true).run Try.prog w = .ok (.tuple #[.agg #[.pointer none], .bool false]) w := by kernel_rfl
theorem assert_stop (a : Option Addr) (w : World) : (Instr.typeAssert (.iface 78 (.agg #[.pointer a])) 20 78 true).run Try.prog w = .ok (.tuple #[.agg #[.pointer a], .bool true]) w := by kernel_rfl
theorem assert_string (s : ByteArray) (w : World) : (Instr.typeAssert (.iface 9 (.string s)) 20 78 true).run Try.prog w = .ok (.tuple #[.agg #[.pointer none], .bool false]) w := by kernel_rfl

theorem neq_ptr_same {P : Program} (w : World) {tp te : TypeId} {j : TypeInfo} (a : Addr) (hp : P.underlying tp = some (.pointer te)) (hte : P.info? te = some j) :
    (binOp .neq tp (.pointer (some a)) (.pointer (some a))).run P w = .ok (.bool false) w := by
  have h : ∀ d : Nat, (Op.equalIn (d + 1) tp (.pointer (some a)) (.pointer (some a))).run P w = .ok true w := fun d => by
    simp [Op.equalIn, run_underlying hp, sizeOf, typeInfo, hte, run_sameAddr_same]
  simp only [binOp]
  simp [Op.equal, Op.maxDepth, h 9999]

theorem neq_ptr_other {P : Program} (w : World) {tp te : TypeId} {j : TypeInfo} {a b : Addr} {ca cb : Array Value} {ta tb : TypeId} (hp : P.underlying tp = some (.pointer te)) (hte : P.info? te = some j) (hsz : j.size ≠ 0)
    (hne : a ≠ b) (ha : w.heap[a.block]? = some (.cells ca ta (0, 0))) (hb : w.heap[b.block]? = some (.cells cb tb (0, 0))) :
    (binOp .neq tp (.pointer (some a)) (.pointer (some b))).run P w = .ok (.bool true) w := by
  have h : ∀ d : Nat, (Op.equalIn (d + 1) tp (.pointer (some a)) (.pointer (some b))).run P w = .ok false w := fun d => by
    simp [Op.equalIn, run_underlying hp, sizeOf, typeInfo, hte, hsz, run_sameAddr_other w hne ha hb]
  simp only [binOp]
  simp [Op.equal, Op.maxDepth, h 9999]

theorem Try.info75 : (Try.prog.info? 75).map (fun i => i.size) = some 3 := by kernel_rfl

theorem info54_of : ∃ j, Try.prog.info? 75 = some j ∧ j.size ≠ 0 := by
  have h := Try.info75
  cases e : Try.prog.info? 75 with
  | none => rw [e] at h; simp at h
  | some j =>
    rw [e] at h
    simp at h
    exact ⟨j, rfl, by omega⟩

theorem neq39_same (a : Addr) (w : World) : (binOp .neq 39 (.pointer (some a)) (.pointer (some a))).run Try.prog w = .ok (.bool false) w := by
  obtain ⟨j, hj, _⟩ := info54_of
  exact neq_ptr_same w a Try.underlying39 hj

/-- What the function that Read defers leaves of memory. -/
def ReadLeft (R E : Nat) (r : Int) (w w' : World) : Prop :=
  ReaderAt w' R false (.slice none 0 0) 0 ∧ w'.heap[E]? = some (.cells #[.int .i64 r] 40 (0, 0)) ∧ Chg (fun k => k = R ∨ k = E) w w'

theorem readLeft_mk {R E : Nat} {r : Int} {ev : Int} {w w1 : World} {o : Obj} (hER : E ≠ R) (hR : ReaderAt w1 R false (.slice none 0 0) 0) (hE : w1.heap[E]? = some (.cells #[.int .i64 ev] 40 (0, 0))) (hch : Chg (· = R) w w1) :
    ReadLeft R E r w ((w1.setCell ⟨E, 0, none⟩ (.int .i64 r)).alloc o) := by
  have h1 := set_blk hE 0 (.int .i64 r)
  have h2 : (w1.setCell ⟨E, 0, none⟩ (.int .i64 r)).heap[R]? = w1.heap[R]? := set_blk_ne (by show R ≠ E; omega)
  refine ⟨?_, ?_, ?_⟩
  · exact (Below.heap_alloc _ _ _ (lt_blk (h2.trans hR))).trans (h2.trans hR)
  · exact (Below.heap_alloc _ _ _ (lt_blk h1)).trans h1
  · exact (((hch.mono (fun _ _ h => .inl h)).setCell (p := ⟨E, 0, none⟩) (fun _ => .inr rfl) _).alloc o)

theorem postS_end {fn : Func} {c₀ : Frame} {cs : List Frame} {R : Ending → FrameMode → World → Prop} {u : FrameMode} {t : Array Value} {w : World} (hr : fn.results = #[]) (h : R (.returned (.tuple #[])) u w) :
    bodyPostS Try.prog fn c₀ cs R .normal { tmps := t, defers := [] } ({ c₀ with mode := u } :: cs) w :=
  ⟨rfl, u, rfl, .tuple #[], results_none hr _ _ _, h⟩

theorem postS_panic {fn : Func} {c₀ : Frame} {cs : List Frame} {R : Ending → FrameMode → World → Prop} {u : FrameMode} {t : Array Value} {w : World} {chain : List PanicEntry} (h : R (.panicked chain) u w) :
    bodyPostS Try.prog fn c₀ cs R (.panic chain) { tmps := t, defers := [] } ({ c₀ with mode := u } :: cs) w :=
  ⟨rfl, u, rfl, h⟩

theorem neq39_other {a b : Addr} {ca cb : Array Value} {ta tb : TypeId} {w : World} (hne : a ≠ b) (ha : w.heap[a.block]? = some (.cells ca ta (0, 0))) (hb : w.heap[b.block]? = some (.cells cb tb (0, 0))) :
    (binOp .neq 39 (.pointer (some a)) (.pointer (some b))).run Try.prog w = .ok (.bool true) w := by
  obtain ⟨j, hj, h0⟩ := info54_of
  exact neq_ptr_other w Try.underlying39 hj h0 hne ha hb

/-- A block that is neither written nor new. -/
theorem blk_far {w w1 : World} {S : Nat → Prop} {b : Nat} {x o : Obj} {a : Addr} {u : Value} (h : w.heap[b]? = some x) (hc : Chg S w w1) (hs : ¬ S b) (hne : b ≠ a.block) : ((w1.setCell a u).alloc o).heap[b]? = some x := by
  have h1 : w1.heap[b]? = some x := (hc.block b (lt_blk h) hs).trans h
  have h2 : (w1.setCell a u).heap[b]? = some x := (set_blk_ne hne).trans h1
  exact (Below.heap_alloc _ _ _ (lt_blk h2)).trans h2

theorem mode_self {c : Frame} {u : FrameMode} (h : c.mode = u) : ({ c with mode := u } : Frame) = c := by
  subst h
  rfl

set_option maxRecDepth 100000 in
/-- f has ended by itself. -/
theorem deferred_idle (V R E n cap : Nat) (flt : Int) (ao : Option Addr) (op : Bool) (ev : Int) (w : World) (hR : ReaderAt w R op (.slice ao n cap) flt)
    (hV : w.heap[V]? = some (.cells #[.pointer (some ⟨R, 0, none⟩)] 39 (0, 0))) (hE : w.heap[E]? = some (.cells #[.int .i64 ev] 40 (0, 0))) (hER : E ≠ R) :
    CallsD Try.prog 64 #[.pointer (some ⟨V, 0, none⟩), .pointer (some ⟨E, 0, none⟩)] .returning w fun e u' w' =>
      e = .returned (.tuple #[]) ∧ u' = .returning ∧ ReadLeft R E (endOf flt n) w w' := by
  have v0 := cell_blk hV 0
  simp only [List.getElem?_toArray, List.getElem?_cons_zero, List.getElem?_cons_succ] at v0
  refine callsD_of_wpS Try.func64 rfl fun c₀ cs hu => ?_
  simp only [Try.ntmps64, List.size_toArray, List.length_cons, List.length_nil, Nat.reduceAdd, Nat.reduceSub, Array.replicate_succ, Array.replicate_zero, List.push_toArray, List.append_toArray, List.nil_append, List.cons_append]
  apply wpS_seq
  refine wpS_of_wp ?_
  go_wp2_with (go_at_call 65; refine (end_any R n cap flt ao op _ hR).mono ?_; rintro e w1 ⟨rfl, hR1, hch⟩; have hE1 := (hch.block E (lt_blk hE) hER).trans hE; have e0 := cell_blk hE1 0; have fe0 := froz_blk hE1 0; simp only [List.getElem?_toArray, List.getElem?_cons_zero] at e0)
  apply wpS_seq
  apply wpS_region
  simp [wpOpsS, go_sem, recoverD, hu, Exit.thenS]
  refine wpS_of_wp ?_
  have ha := assert_nil
  have HL := fun o => hid (readLeft_mk (r := endOf flt n) (o := o) hER hR1 hE1 hch)
  have HU := hid (mode_self hu)
  clear hch hR1 hE1 e0 fe0 v0 hV hE hR hu
  go_wp2
  rw [← HU.out]
  exact postS_end rfl ⟨rfl, rfl, (HL _).out⟩

set_option maxRecDepth 100000 in
/-- f was ended by this reader's error. -/
theorem deferred_stops (V R E n cap : Nat) (flt : Int) (ao : Option Addr) (op : Bool) (ev : Int) (w : World) (hR : ReaderAt w R op (.slice ao n cap) flt)
    (hV : w.heap[V]? = some (.cells #[.pointer (some ⟨R, 0, none⟩)] 39 (0, 0))) (hE : w.heap[E]? = some (.cells #[.int .i64 ev] 40 (0, 0))) (hER : E ≠ R) (hVR : V ≠ R) (hVE : V ≠ E) (older : List PanicEntry) :
    CallsD Try.prog 64 #[.pointer (some ⟨V, 0, none⟩), .pointer (some ⟨E, 0, none⟩)] (.panicking ({ v := stopOf R, recovered := false } :: older)) w fun e u' w' =>
      e = .returned (.tuple #[]) ∧ u' = .panicking ({ v := stopOf R, recovered := true } :: older) ∧ ReadLeft R E (endOf flt n) w w' := by
  unfold stopOf
  have v0 := cell_blk hV 0
  simp only [List.getElem?_toArray, List.getElem?_cons_zero, List.getElem?_cons_succ] at v0
  refine callsD_of_wpS Try.func64 rfl fun c₀ cs hu => ?_
  simp only [Try.ntmps64, List.size_toArray, List.length_cons, List.length_nil, Nat.reduceAdd, Nat.reduceSub, Array.replicate_succ, Array.replicate_zero, List.push_toArray, List.append_toArray, List.nil_append, List.cons_append]
  apply wpS_seq
  refine wpS_of_wp ?_
  go_wp2_with (go_at_call 65; refine (end_any R n cap flt ao op _ hR).mono ?_; rintro e w1 ⟨rfl, hR1, hch⟩; have hE1 := (hch.block E (lt_blk hE) hER).trans hE; have e0 := cell_blk hE1 0; have fe0 := froz_blk hE1 0; simp only [List.getElem?_toArray, List.getElem?_cons_zero] at e0)
  apply wpS_seq
  apply wpS_region
  simp [wpOpsS, go_sem, recoverD, hu, Exit.thenS]
  refine wpS_of_wp ?_
  have ha := assert_stop (some ⟨R, 0, none⟩)
  have hq := neq39_same ⟨R, 0, none⟩
  have HL := fun o => hid (readLeft_mk (r := endOf flt n) (o := o) hER hR1 hE1 hch)
  have v1 := hch.cell v0 hVR
  have hb := World.block_lt_of_cell? w1 _ v1
  simp only [] at hb
  clear hch hR1 hE1 e0 fe0 v0 hV hE hR hu
  go_wp2
  exact postS_end rfl ⟨rfl, rfl, (HL _).out⟩

set_option maxRecDepth 100000 in
/-- f panics by itself, or another reader's error goes through: on it goes. -/
theorem deferred_throws (V R E n cap : Nat) (flt : Int) (ao : Option Addr) (op : Bool) (ev : Int) (w : World) (hR : ReaderAt w R op (.slice ao n cap) flt)
    (hV : w.heap[V]? = some (.cells #[.pointer (some ⟨R, 0, none⟩)] 39 (0, 0))) (hE : w.heap[E]? = some (.cells #[.int .i64 ev] 40 (0, 0))) (hER : E ≠ R) (hVR : V ≠ R) (hVE : V ≠ E) (older : List PanicEntry)
    (T : TypeId) (pv : Value) (ok : Bool) (q : Nat) (ha : ∀ w, (Instr.typeAssert (.iface T pv) 20 78 true).run Try.prog w = .ok (.tuple #[.agg #[.pointer (if ok then some ⟨q, 0, none⟩ else none)], .bool ok]) w) (hq : ok = true → q ≠ R ∧ q ≠ E ∧ ∃ cq tq, w.heap[q]? = some (.cells cq tq (0, 0))) :
    CallsD Try.prog 64 #[.pointer (some ⟨V, 0, none⟩), .pointer (some ⟨E, 0, none⟩)] (.panicking ({ v := .iface T pv, recovered := false } :: older)) w fun e u' w' =>
      e = .panicked [{ v := .iface T pv, recovered := false }] ∧ u' = .panicking ({ v := .iface T pv, recovered := true } :: older) ∧ ReadLeft R E (endOf flt n) w w' := by
  have v0 := cell_blk hV 0
  simp only [List.getElem?_toArray, List.getElem?_cons_zero, List.getElem?_cons_succ] at v0
  cases ok with
  | false =>
    simp only [Bool.false_eq_true, if_false] at ha
    refine callsD_of_wpS Try.func64 rfl fun c₀ cs hu => ?_
    simp only [Try.ntmps64, List.size_toArray, List.length_cons, List.length_nil, Nat.reduceAdd, Nat.reduceSub, Array.replicate_succ, Array.replicate_zero, List.push_toArray, List.append_toArray, List.nil_append, List.cons_append]
    apply wpS_seq
    refine wpS_of_wp ?_
    go_wp2_with (go_at_call 65; refine (end_any R n cap flt ao op _ hR).mono ?_; rintro e w1 ⟨rfl, hR1, hch⟩; have hE1 := (hch.block E (lt_blk hE) hER).trans hE; have e0 := cell_blk hE1 0; have fe0 := froz_blk hE1 0; simp only [List.getElem?_toArray, List.getElem?_cons_zero] at e0)
    apply wpS_seq
    apply wpS_region
    simp [wpOpsS, go_sem, recoverD, hu, Exit.thenS]
    refine wpS_of_wp ?_
    have HL := fun o => hid (readLeft_mk (r := endOf flt n) (o := o) hER hR1 hE1 hch)
    clear hch hR1 hE1 e0 fe0 v0 hV hE hR hu
    go_wp2
    exact postS_panic ⟨rfl, rfl, (HL _).out⟩
  | true =>
    simp only [if_true] at ha
    obtain ⟨q1, q2, cq, tq, q3⟩ := hq rfl
    refine callsD_of_wpS Try.func64 rfl fun c₀ cs hu => ?_
    simp only [Try.ntmps64, List.size_toArray, List.length_cons, List.length_nil, Nat.reduceAdd, Nat.reduceSub, Array.replicate_succ, Array.replicate_zero, List.push_toArray, List.append_toArray, List.nil_append, List.cons_append]
    apply wpS_seq
    refine wpS_of_wp ?_
    go_wp2_with (go_at_call 65; refine (end_any R n cap flt ao op _ hR).mono ?_; rintro e w1 ⟨rfl, hR1, hch⟩; have hE1 := (hch.block E (lt_blk hE) hER).trans hE; have e0 := cell_blk hE1 0; have fe0 := froz_blk hE1 0; simp only [List.getElem?_toArray, List.getElem?_cons_zero] at e0)
    apply wpS_seq
    apply wpS_region
    simp [wpOpsS, go_sem, recoverD, hu, Exit.thenS]
    refine wpS_of_wp ?_
    have HL := fun o => hid (readLeft_mk (r := endOf flt n) (o := o) hER hR1 hE1 hch)
    have v1 := hch.cell v0 hVR
    have hb := World.block_lt_of_cell? w1 _ v1
    simp only [] at hb
    have hne := neq39_other (a := ⟨q, 0, none⟩) (b := ⟨R, 0, none⟩) (w := (w1.setCell ⟨E, 0, none⟩ (.int .i64 (endOf flt n))).alloc (.cells #[.pointer (some ⟨q, 0, none⟩)] 78)) (fun h => q1 (congrArg Addr.block h)) (blk_far q3 hch q1 q2) (blk_far hR1 (Chg.refl (fun _ => False) _) id (fun h => hER h.symm))
    clear hch hR1 hE1 e0 fe0 v0 hV hE hR hu q3
    go_wp2
    exact postS_panic ⟨rfl, rfl, (HL _).out⟩

end Go.Proofs.Ytaejhkjigppelaa
