/- True: is a formula true, of the roles that a function tells? -/
import Derived.Test.YtjaplnainlbldaaFr22
import Derived.Test.YtjaplnainlbldaaFr21
namespace Go.Proofs.Ytjaplnainlbldaa
open Go.RowKit

theorem equalIn_in_nilR (w : World) (d : Nat) (f : Fn) (bs lb : Array Value) : (Op.equalIn (d + 1) 63 (.func f bs lb) .nilFunc).run Try.prog w = .ok false w := by
  simp [Op.equalIn, run_underlying Try.underlying63]
theorem equal_in_nilR (w : World) (f : Fn) (bs lb : Array Value) : (Op.equal 63 (.func f bs lb) .nilFunc).run Try.prog w = .ok false w := equalIn_in_nilR w 9999 f bs lb
theorem eql_in_nilR (w : World) (f : Fn) (bs lb : Array Value) : (binOp .eql 63 (.func f bs lb) .nilFunc).run Try.prog w = .ok (.bool false) w := by
  simp only [binOp]
  simp [equal_in_nilR w f bs lb]

theorem neq20_nilR (w : World) : (binOp .neq 20 .nilIface .nilIface).run Try.prog w = .ok (.bool false) w := by kernel_rfl
theorem postS_endR {fn : Func} {c₀ : Frame} {cs : List Frame} {R : Ending → FrameMode → World → Prop} {u : FrameMode} {t : Array Value} {w : World} (hr : fn.results = #[]) (h : R (.returned (.tuple #[])) u w) :
    bodyPostS Try.prog fn c₀ cs R .normal { tmps := t, defers := [] } ({ c₀ with mode := u } :: cs) w :=
  ⟨rfl, u, rfl, .tuple #[], results_none hr _ _ _, h⟩
theorem mode_selfR {c : Frame} {u : FrameMode} (h : c.mode = u) : ({ c with mode := u } : Frame) = c := by
  subst h
  rfl

set_option maxRecDepth 100000 in
theorem fm_true1_idle (R : Nat) (w : World) :
    CallsD Try.prog 59 #[.pointer (some ⟨R, 0, none⟩)] .returning w fun e u' w' => e = .returned (.tuple #[]) ∧ u' = .returning ∧ w' = w := by
  refine callsD_of_wpS Try.func59 rfl fun c₀ cs hu => ?_
  simp only [Try.ntmps59, List.size_toArray, List.length_cons, List.length_nil, Nat.reduceAdd, Nat.reduceSub, Array.replicate_succ, Array.replicate_zero, List.push_toArray, List.append_toArray, List.nil_append, List.cons_append]
  have hq := neq20_nilR
  apply wpS_seq
  apply wpS_region
  simp [wpOpsS, go_sem, recoverD, hu, Exit.thenS, hq]
  refine wpS_of_wp ?_
  have HU := hid (mode_selfR hu)
  clear hu
  go_wp2
  rw [← HU.out]
  exact postS_endR rfl ⟨rfl, rfl, rfl⟩

set_option maxRecDepth 100000 in
set_option maxHeartbeats 4000000 in
theorem fm_true {D : Nat → Prop} (gf : Nat) (fi cap : Array Value) (T : RoleB → Bool) (eg : ∀ args w, (callFunc gf args).run Try.prog w = .ok (.enter gf args) w) (n : Nat) (f : FmB) (ao : Option Addr) (cp : Nat) (w : World) (h : FmsAt D w n ao f.kids) (hD : ∀ i, D i → i < w.heap.size) (hok : FmOk f) (hN : nodesF f ≤ 4096) (hask : AskR gf fi cap T w) :
    Calls Try.prog 25 #[.agg #[.int .i64 f.op, .int .i64 f.k, .string ⟨f.r.1.toArray⟩, .string ⟨f.r.2.toArray⟩, .slice ao f.kids.length cp], .func (.func gf) fi cap] w fun e w' => e = .returned (.bool (isF f && holdsF T f)) ∧ Chg (fun _ => False) w w' := by
  have hmf : ∀ (fn : Fn) (first cap : Array Value) (w : World), (Instr.makeFunc fn first cap).run Try.prog w = .ok (.func fn first cap) w := fun _ _ _ _ => rfl
  have hq := fun w => eql_in_nilR w (.func gf) fi cap
  have hc1 : Chg (fun _ => False) w (w.alloc (.cells #[.int .i64 f.op, .int .i64 f.k, .string ⟨f.r.1.toArray⟩, .string ⟨f.r.2.toArray⟩, .slice ao f.kids.length cp] 58)) := (Chg.refl _ w).alloc _
  have hc2 : Chg (fun _ => False) w ((w.alloc (.cells #[.int .i64 f.op, .int .i64 f.k, .string ⟨f.r.1.toArray⟩, .string ⟨f.r.2.toArray⟩, .slice ao f.kids.length cp] 58)).alloc (.cells #[.bool false] 4)) := hc1.alloc _
  have hsz : (w.alloc (.cells #[.int .i64 f.op, .int .i64 f.k, .string ⟨f.r.1.toArray⟩, .string ⟨f.r.2.toArray⟩, .slice ao f.kids.length cp] 58)).heap.size = w.heap.size + 1 := by simp
  have hb := blk_keep (heap_alloc_new w (.cells #[.int .i64 f.op, .int .i64 f.k, .string ⟨f.r.1.toArray⟩, .string ⟨f.r.2.toArray⟩, .slice ao f.kids.length cp] 58)) ((Chg.refl (fun _ => False) (w.alloc (.cells #[.int .i64 f.op, .int .i64 f.k, .string ⟨f.r.1.toArray⟩, .string ⟨f.r.2.toArray⟩, .slice ao f.kids.length cp] 58))).alloc (.cells #[.bool false] 4)) id
  have hbR := heap_alloc_new (w.alloc (.cells #[.int .i64 f.op, .int .i64 f.k, .string ⟨f.r.1.toArray⟩, .string ⟨f.r.2.toArray⟩, .slice ao f.kids.length cp] 58)) (.cells #[.bool false] 4)
  rw [hsz] at hbR
  have s0 := cell_blk hb 0
  have s1 := cell_blk hb 1
  have s2 := cell_blk hb 2
  have s3 := cell_blk hb 3
  have s4 := cell_blk hb 4
  simp only [List.getElem?_toArray, List.getElem?_cons_zero, List.getElem?_cons_succ] at s0 s1 s2 s3 s4
  have HRT := hid (fm_right n f ao cp ((w.alloc (.cells #[.int .i64 f.op, .int .i64 f.k, .string ⟨f.r.1.toArray⟩, .string ⟨f.r.2.toArray⟩, .slice ao f.kids.length cp] 58)).alloc (.cells #[.bool false] 4)) (h.keep hc2 (fun _ _ => id)) (fun i hi => Nat.lt_of_lt_of_le (hD i hi) hc2.size) hok hN)
  have HHO := hid (fun w' (hc : Chg (fun _ => False) w w') => fm_holds gf fi cap T eg n f ao cp w' (h.keep hc (fun _ _ => id)) hok (by omega) (hask.later hc))
  have HC0 := hid hc2
  have HB0 := hid (And.intro hb hbR)
  clear hc1 hc2 hsz hb hbR h hD hok hask
  go_enter_defers Try.func25, Try.ntmps25
  go_wp2_with fail
  refine HRT.out.mono ?_
  rintro e w3 ⟨rfl, hc3⟩
  have HC := hid (HC0.out.trans hc3 (fun _ _ h => h))
  obtain ⟨A, hAe⟩ : ∃ A, w.heap.size = A := ⟨_, rfl⟩
  have hb := blk_keep HB0.out.1 hc3 id
  have hbR := blk_keep HB0.out.2 hc3 id
  rw [hAe] at hb hbR
  have HAE := hid hAe
  simp only [hAe]
  clear s0 s1 s2 s3 s4 HRT HC0 HB0 hc3 hAe
  cases hf : isF f with
  | false =>
    have z6 := cell_blk hbR 0
    have f6 := froz_blk hbR 0
    simp only [List.getElem?_toArray, List.getElem?_cons_zero] at z6
    have hset : (w3.setCell ⟨A + 1, 0, none⟩ (.bool false)).cell? ⟨A + 1, 0, none⟩ = some (.bool false) := by
      have := cell_blk (set_blk hbR 0 (.bool false)) 0
      simpa using this
    have hsc := setCell_chg w3 (A + 1) 0 (.bool false)
    have HEND : Hid (Chg (fun _ => False) w (w3.setCell ⟨A + 1, 0, none⟩ (.bool false))) := hid (HC.out.trans hsc (fun i hi e => by have : i = A + 1 := e; have := HAE.out; omega))
    have HS := hid hset
    have HFF := hid hf
    clear hset hsc hbR hb hf HHO
    go_wp2
    have hc := HS.out
    simp [bodyPostD, Leaves, results, Try.results25, go_sem, hc]
    exact ⟨fun h => (by rw [HFF.out] at h; cases h), HEND.out⟩
  | true =>
    have HFF := hid hf
    have HHO2 := hid (HHO.out w3 HC.out)
    have s0 := cell_blk hb 0
    have s1 := cell_blk hb 1
    have s2 := cell_blk hb 2
    have s3 := cell_blk hb 3
    have s4 := cell_blk hb 4
    simp only [List.getElem?_toArray, List.getElem?_cons_zero, List.getElem?_cons_succ] at s0 s1 s2 s3 s4
    clear HHO hf
    have HBR := hid hbR
    clear hbR hb
    go_wp2_with fail
    refine HHO2.out.mono ?_
    rintro e w4 ⟨rfl, hc4⟩
    have hbR := blk_keep HBR.out hc4 id
    have HC5 := hid (HC.out.trans hc4 (fun _ _ h => h))
    clear HHO2 hc4 HBR HC
    have HC := HC5
    have z6 := cell_blk hbR 0
    have f6 := froz_blk hbR 0
    simp only [List.getElem?_toArray, List.getElem?_cons_zero] at z6
    have hset : (w4.setCell ⟨A + 1, 0, none⟩ (.bool (holdsF T f))).cell? ⟨A + 1, 0, none⟩ = some (.bool (holdsF T f)) := by
      have := cell_blk (set_blk hbR 0 (.bool (holdsF T f))) 0
      simpa using this
    have hsc := setCell_chg w4 (A + 1) 0 (.bool (holdsF T f))
    have HEND : Hid (Chg (fun _ => False) w (w4.setCell ⟨A + 1, 0, none⟩ (.bool (holdsF T f)))) := hid (HC.out.trans hsc (fun i hi e => by have : i = A + 1 := e; have := HAE.out; omega))
    have HS := hid hset
    clear hset hsc hbR s0 s1 s2 s3 s4
    go_wp2
    refine leaves_cons (f := 59) (args := #[.pointer (some ⟨A + 1, 0, none⟩)]) (by simp) (by simp [go_sem]) ?_
    refine (fm_true1_idle _ _).mono ?_
    rintro e u' w5 ⟨rfl, rfl, rfl⟩
    have hc := HS.out
    simp [Leaves, settle, results, Try.results25, go_sem, hc]
    exact ⟨fun _ => HFF.out, HEND.out⟩
end Go.Proofs.Ytjaplnainlbldaa
