/- The closures of TapePanics, and thrown. -/
import Derived.Test.YtjipfbggoeiakaaRefTape
namespace Go.Proofs.Ytjipfbggoeiakaa
open Go.RowKit

theorem fail_any {R : Nat} {ao : Option Addr} {m cp : Nat} {err : Int} {w : World} (hR : ReaderAt w R true (.slice ao m cp) 0) (he : err ≠ 0) : Calls Try.prog 23 #[.pointer (some ⟨R, 0, none⟩), .int .i64 err] w (Stops R err w) := by
  have h0 := cell_blk hR 0
  have h2 := cell_blk hR 2
  have f2 := froz_blk hR 2
  simp only [List.getElem?_toArray, List.getElem?_cons_zero, List.getElem?_cons_succ] at h0 h2
  refine (fail_stops R err undef w (by simpa using he) h0 h2 f2).mono ?_
  rintro e w' ⟨rfl, rfl⟩
  exact reader_stop hR err

theorem c25_any {R E ev m cp : Nat} {ao : Option Addr} {w : World} (hR : ReaderAt w R true (.slice ao m cp) 0) (hE : w.cell? ⟨E, 0, none⟩ = some (.int .u8 (ev : Int))) (hev : ev < 256) :
    Calls Try.prog 27 #[.pointer (some ⟨R, 0, none⟩), .pointer (some ⟨E, 0, none⟩)] w (Stops R (1 + ev) w) := by
  have h1 := fail_any (err := 1 + (ev : Int)) hR (by omega)
  go_enter Try.func27, Try.ntmps27
  go_wp2_with fail
  refine h1.mono ?_
  rintro e w1 ⟨rfl, hs⟩
  exact ⟨rfl, rfl, hs⟩

theorem enters24 : ∀ args w, (callFunc 26 args).run Try.prog w = .ok (.enter 26 args) w := enters Try.func26 (by kernel_rfl) (by kernel_rfl)
theorem enters25 : ∀ args w, (callFunc 27 args).run Try.prog w = .ok (.enter 27 args) w := enters Try.func27 (by kernel_rfl) (by kernel_rfl)
theorem enters26 : ∀ args w, (callFunc 28 args).run Try.prog w = .ok (.enter 28 args) w := enters Try.func28 (by kernel_rfl) (by kernel_rfl)
theorem enters27 : ∀ args w, (callFunc 29 args).run Try.prog w = .ok (.enter 29 args) w := enters Try.func29 (by kernel_rfl) (by kernel_rfl)
theorem enters39 : ∀ args w, (callFunc 47 args).run Try.prog w = .ok (.enter 47 args) w := enters Try.func47 (by kernel_rfl) (by kernel_rfl)

theorem endOf_pos {flt : Int} {n : Nat} (h : flt ≠ 0) : endOf flt n = flt := by
  unfold endOf
  rw [if_neg h]

/-- A Read within an f, whose own f fails. -/
theorem inner_any {E ev len cp : Nat} {ao : Option Addr} {w : World} (hE : w.cell? ⟨E, 0, none⟩ = some (.int .u8 (ev : Int))) (hev : ev < 256) :
    Calls Try.prog 16 #[.slice ao len cp, .func (.func 27) #[] #[.pointer (some ⟨E, 0, none⟩)]] w fun e w' => e = .returned (.int .i64 (1 + (ev : Int))) ∧ Chg (fun _ => False) w w' := by
  have hrw := readWorld_chg w (.slice ao len cp) (fun _ => False)
  refine (read_stops (T := fun _ => False) (P := fun _ => True) (n := len) (flt := 1 + ev) [] rfl (fun _ h => h.elim) enters25 ?_).mono ?_
  · refine (c25_any (readWorld_R w _) (hrw.cell hE id) hev).mono ?_
    rintro e w1 ⟨rfl, ao1, m, cp1, hr, hc⟩
    exact ⟨rfl, ⟨⟨ao1, m, cp1, hr, fun h => by omega⟩, hc.mono (fun _ _ h => .inl h)⟩, trivial⟩
  · rintro e w' ⟨rfl, w1, _, hl⟩
    rw [endOf_pos (by omega)]
    exact ⟨rfl, hl.2.2⟩

/-- What the blocks of the caller's hold behind f24. -/
def After24 (I H ev : Nat) (w : World) : Prop := w.heap[I]? = some (.cells #[.int .i64 (1 + (ev : Int))] 40 (0, 0)) ∧ w.heap[H]? = some (.cells #[.bool true] 4 (0, 0))

def F24 (D : Nat → Prop) (R I H ev : Nat) (l : List UInt8) (w : World) (e : Ending) (w' : World) : Prop :=
  After24 I H ev w' ∧ Chg (fun k => k = R ∨ k = I ∨ k = H) w w' ∧
  ((errText l 0 = 0 ∧ e = .returned (.tuple #[]) ∧ ∃ v, BytesAt D w' v (l.drop ((numN 9 l 0 0).2.1 + (numN 9 l 0 0).1)) ∧ ReaderAt w' R true v 0) ∨
   (errText l 0 ≠ 0 ∧ e = .panicked [{ v := stopOf R, recovered := false }] ∧ ∃ ao m cp, ReaderAt w' R true (.slice ao m cp) (errText l 0)))

set_option maxRecDepth 100000 in
theorem c24_any {D : Nat → Prop} {R B E I H ev len cp : Nat} {ao : Option Addr} {iv : Int} {hv0 : Bool} {v : Value} {l : List UInt8} {w : World} (hl : l.length ≤ 140737488355328) (hR : ReaderAt w R true v 0) (hv : BytesAt D w v l) (dR : ¬ D R) (dI : ¬ D I) (dH : ¬ D H)
    (hB : w.cell? ⟨B, 0, none⟩ = some (.slice ao len cp)) (hE : w.cell? ⟨E, 0, none⟩ = some (.int .u8 (ev : Int))) (hev : ev < 256)
    (hI : w.heap[I]? = some (.cells #[.int .i64 iv] 40 (0, 0))) (hH : w.heap[H]? = some (.cells #[.bool hv0] 4 (0, 0))) (hIR : I ≠ R) (hHR : H ≠ R) (hIH : I ≠ H) :
    Calls Try.prog 26 #[.pointer (some ⟨R, 0, none⟩), .pointer (some ⟨B, 0, none⟩), .pointer (some ⟨E, 0, none⟩), .pointer (some ⟨I, 0, none⟩), .pointer (some ⟨H, 0, none⟩)] w (F24 D R I H ev l w) := by
  have hin := inner_any (ao := ao) (len := len) (cp := cp) hE hev
  go_enter Try.func26, Try.ntmps26
  go_wp2_with (go_at_call 16; ((with_reducible refine hin.mono ?_); rintro e w1 ⟨rfl, hc1⟩; have hI1 := blk_keep hI hc1 id; have i0 := cell_blk hI1 0; have i1 := froz_blk hI1 0; have hH1 := blk_keep hH hc1 id; have j0 := cell_blk hH1 0; have j1 := froz_blk hH1 0; simp only [List.getElem?_toArray, List.getElem?_cons_zero] at i0 j0))
  have c2 := setCell_chg w1 I 0 (.int .i64 (1 + (ev : Int)))
  have c3 := setCell_chg (w1.setCell ⟨I, 0, none⟩ (.int .i64 (1 + (ev : Int)))) H 0 (.bool true)
  have hR3 : ReaderAt _ R true v 0 := blk_keep (blk_keep (blk_keep hR hc1 id) c2 (fun h => hIR h.symm)) c3 (fun h => hHR h.symm)
  have hv3 := ((hv.keep hc1 (fun _ _ => id)).keep c2 (fun i hi h => dI (h ▸ hi))).keep c3 (fun i hi h => dH (h ▸ hi))
  have hA3 : After24 I H ev _ := ⟨blk_keep (set_blk hI1 0 (.int .i64 (1 + (ev : Int)))) c3 (fun h => hIH h), set_blk (blk_keep hH1 c2 (fun h => hIH h.symm)) 0 (.bool true)⟩
  have hc3 : Chg (fun k => k = R ∨ k = I ∨ k = H) w _ := ((hc1.mono (fun _ _ h => h.elim)).trans c2 (fun _ _ h => .inr (.inl h))).trans c3 (fun _ _ h => .inr (.inr h))
  clear hin hR hv hB hE hI hH hc1 hI1 i0 i1 hH1 j0 j1 c2 c3
  generalize (w1.setCell ⟨I, 0, none⟩ (.int .i64 (1 + (ev : Int)))).setCell ⟨H, 0, none⟩ (.bool true) = w3 at *
  have keepA : ∀ w4, Chg (· = R) w3 w4 → After24 I H ev w4 := fun w4 h => ⟨blk_keep hA3.1 h hIR, blk_keep hA3.2 h hHR⟩
  by_cases he : errText l 0 = 0
  · refine (rtext_reads hl hv3 dR hR3 he).mono ?_
    rintro e w4 ⟨ao4, cp4, rfl, _, v4, hv4, hR4, hc4⟩
    have hF : F24 D R I H ev l w (.returned (.tuple #[])) w4 := ⟨keepA _ hc4, hc3.trans hc4 (fun _ _ h => .inl h), .inl ⟨he, rfl, v4, hv4, hR4⟩⟩
    have HF := hid hF
    clear hF keepA hA3 hc3 hR3 hv3 hv4 hR4 hc4
    go_wp2
    go_end0
    exact HF.out
  · refine (rtext_stops hl hv3 hR3 he).mono ?_
    rintro e w4 ⟨rfl, ao4, m4, cp4, hR4, hc4⟩
    exact ⟨rfl, keepA _ hc4, hc3.trans hc4 (fun _ _ h => .inl h), .inr ⟨he, rfl, ao4, m4, cp4, hR4⟩⟩

theorem c27_any {R B E ev m cp : Nat} {ao : Option Addr} {r : Value} {w : World} (hR : ReaderAt w R true (.slice ao m cp) 0) (hB : w.cell? ⟨B, 0, none⟩ = some (.pointer (some ⟨R, 0, none⟩))) (hE : w.cell? ⟨E, 0, none⟩ = some (.int .u8 (ev : Int))) (hev : ev < 256) :
    Calls Try.prog 29 #[r, .pointer (some ⟨B, 0, none⟩), .pointer (some ⟨E, 0, none⟩)] w (Stops R (1 + ev) w) := by
  have h1 := fail_any (err := 1 + (ev : Int)) hR (by omega)
  go_enter Try.func29, Try.ntmps29
  go_wp2_with fail
  refine h1.mono ?_
  rintro e w1 ⟨rfl, hs⟩
  exact ⟨rfl, rfl, hs⟩

/-- Another reader's error goes through a Read. -/
theorem through_any {R B E ev m cm len cp : Nat} {am ao : Option Addr} {w : World} (hR : ReaderAt w R true (.slice am m cm) 0) (hB : w.cell? ⟨B, 0, none⟩ = some (.pointer (some ⟨R, 0, none⟩))) (hE : w.cell? ⟨E, 0, none⟩ = some (.int .u8 (ev : Int))) (hev : ev < 256) :
    Calls Try.prog 16 #[.slice ao len cp, .func (.func 29) #[] #[.pointer (some ⟨B, 0, none⟩), .pointer (some ⟨E, 0, none⟩)]] w fun e w' =>
      e = .panicked [{ v := stopOf R, recovered := false }, { v := stopOf R, recovered := true }] ∧ (∃ ao1 m1 cp1, ReaderAt w' R true (.slice ao1 m1 cp1) (1 + (ev : Int))) ∧ Chg (· = R) w w' := by
  have hrw := readWorld_chg w (.slice ao len cp) (fun _ => False)
  have lR := lt_blk hR
  refine (read_throws (T := fun k => k = R) (P := fun w1 => ∃ ao1 m1 cp1, ReaderAt w1 R true (.slice ao1 m1 cp1) (1 + (ev : Int))) (n := len) (flt := 0) [] 65 (.agg #[.pointer (some ⟨R, 0, none⟩)]) true R (assert_stop (some ⟨R, 0, none⟩)) (fun _ => lR) ?_ (fun k h => by omega) enters27 ?_).mono ?_
  · rintro w1 ⟨ao1, m1, cp1, h⟩ _
    exact ⟨_, _, h⟩
  · refine (c27_any (blk_keep hR hrw id) (hrw.cell hB id) (hrw.cell hE id) hev).mono ?_
    rintro e w1 ⟨rfl, ao1, m1, cp1, hr, hc⟩
    exact ⟨rfl, ⟨⟨ao, len, cp, blk_keep (readWorld_R w _) hc (by omega), fun _ => rfl⟩, hc.mono (fun _ _ h => .inr h)⟩, ⟨ao1, m1, cp1, hr⟩⟩
  · rintro e w' ⟨rfl, w1, ⟨ao1, m1, cp1, h⟩, hl⟩
    exact ⟨rfl, ⟨ao1, m1, cp1, blk_keep h hl.2.1 (by rintro (h | h) <;> omega)⟩, hl.2.2⟩

set_option maxRecDepth 100000 in
theorem c26_any {R B E ev m cm len cp : Nat} {am ao : Option Addr} {h0 : Value} {w : World} (hR : ReaderAt w R true (.slice am m cm) 0)
    (hB : w.cell? ⟨B, 0, none⟩ = some (.slice ao len cp)) (hE : w.cell? ⟨E, 0, none⟩ = some (.int .u8 (ev : Int))) (hev : ev < 256) :
    Calls Try.prog 28 #[.pointer (some ⟨R, 0, none⟩), .pointer (some ⟨B, 0, none⟩), .pointer (some ⟨E, 0, none⟩), h0] w fun e w' =>
      e = .panicked [{ v := stopOf R, recovered := false }, { v := stopOf R, recovered := true }] ∧ (∃ ao1 m1 cp1, ReaderAt w' R true (.slice ao1 m1 cp1) (1 + (ev : Int))) ∧ Chg (· = R) w w' := by
  have hc1 : Chg (fun _ => False) w (w.alloc (.cells #[.pointer (some ⟨R, 0, none⟩)] 39)) := (Chg.refl _ w).alloc _
  have hnew : (w.alloc (.cells #[.pointer (some ⟨R, 0, none⟩)] 39)).cell? ⟨w.heap.size, 0, none⟩ = some (.pointer (some ⟨R, 0, none⟩)) := cell_blk (heap_alloc_new w _) 0
  have hth := through_any (len := len) (cp := cp) (ao := ao) (blk_keep hR hc1 id) hnew (hc1.cell hE id) hev
  have hbw := World.block_lt_of_cell? w _ hB
  go_enter Try.func28, Try.ntmps28
  go_wp2_with (go_at_call 16; ((with_reducible refine hth.mono ?_); rintro e w1 ⟨rfl, hr, hc⟩))
  exact ⟨rfl, rfl, hr, (hc1.mono (fun _ _ h => h.elim)).trans hc (fun _ _ h => h)⟩

theorem c39_any {r : Value} {W : Nat} {s : ByteArray} {w : World} (hW : w.cell? ⟨W, 0, none⟩ = some (.string s)) :
    Calls Try.prog 47 #[r, .pointer (some ⟨W, 0, none⟩)] w fun e w' => e = .panicked [{ v := .iface 9 (.string s), recovered := false }] ∧ w = w' := by
  go_enter Try.func47, Try.ntmps47
  go_wp2
  exact ⟨rfl, rfl, rfl⟩

theorem assert9 (s : ByteArray) (w : World) : (Instr.typeAssert (.iface 9 (.string s)) 20 9 true).run Try.prog w = .ok (.tuple #[.string s, .bool true]) w := by kernel_rfl

set_option maxRecDepth 100000 in
theorem c38_any {G W : Nat} {s : ByteArray} {g0 : Value} {w : World} (hG : w.heap[G]? = some (.cells #[g0] 9 (0, 0))) (older : List PanicEntry) :
    CallsD Try.prog 46 #[.pointer (some ⟨G, 0, none⟩), .pointer (some ⟨W, 0, none⟩)] (.panicking ({ v := .iface 9 (.string s), recovered := false } :: older)) w fun e u' w' =>
      e = .returned (.tuple #[]) ∧ u' = .panicking ({ v := .iface 9 (.string s), recovered := true } :: older) ∧ w' = w.setCell ⟨G, 0, none⟩ (.string s) := by
  have g0' := cell_blk hG 0
  have g1 := froz_blk hG 0
  simp only [List.getElem?_toArray, List.getElem?_cons_zero] at g0'
  have ha := assert9 s
  refine callsD_of_wpS Try.func46 rfl fun c₀ cs hu => ?_
  simp only [Try.ntmps46, List.size_toArray, List.length_cons, List.length_nil, Nat.reduceAdd, Nat.reduceSub, Array.replicate_succ, Array.replicate_zero, List.push_toArray, List.append_toArray, List.nil_append, List.cons_append]
  apply wpS_seq
  apply wpS_region
  simp [wpOpsS, go_sem, recoverD, hu, Exit.thenS, ha]
  refine wpS_of_wp ?_
  clear hu ha
  go_wp2
  exact postS_end rfl ⟨rfl, rfl, rfl⟩

/-- What f panics by itself goes on beyond Read. -/
theorem throws_any {W len cp : Nat} {ao : Option Addr} {s : ByteArray} {w : World} (hW : w.cell? ⟨W, 0, none⟩ = some (.string s)) :
    Calls Try.prog 16 #[.slice ao len cp, .func (.func 47) #[] #[.pointer (some ⟨W, 0, none⟩)]] w fun e w' =>
      e = .panicked [{ v := .iface 9 (.string s), recovered := false }, { v := .iface 9 (.string s), recovered := true }] ∧ Chg (fun _ => False) w w' := by
  have hrw := readWorld_chg w (.slice ao len cp) (fun _ => False)
  refine (read_throws (T := fun _ => False) (P := fun _ => True) (n := len) (flt := 0) [] 9 (.string s) false 0 (assert_string s) (fun h => by cases h) (fun _ _ h => by cases h) (fun _ h => h.elim) enters39 ?_).mono ?_
  · refine (c39_any (hrw.cell hW id)).mono ?_
    rintro e w1 ⟨rfl, rfl⟩
    exact ⟨rfl, ⟨⟨ao, len, cp, readWorld_R w _, fun _ => rfl⟩, Chg.refl _ _⟩, trivial⟩
  · rintro e w' ⟨rfl, w1, _, hl⟩
    exact ⟨rfl, hl.2.2⟩

set_option maxRecDepth 100000 in
theorem thrown_any {len cp : Nat} {ao : Option Addr} {s : ByteArray} {w : World} :
    Calls Try.prog 30 #[.slice ao len cp, .string s] w fun e w' => e = .returned (.string s) ∧ Chg (fun _ => False) w w' := by
  have hmf : ∀ (fn : Fn) (first cap : Array Value) (w : World), (Instr.makeFunc fn first cap).run Try.prog w = .ok (.func fn first cap) w := fun _ _ _ _ => rfl
  have hc1 : Chg (fun _ => False) w ((w.alloc (.cells #[.string s] 9)).alloc (.cells #[.string ⟨#[]⟩] 9)) := ((Chg.refl _ w).alloc _).alloc _
  have hW : ((w.alloc (.cells #[.string s] 9)).alloc (.cells #[.string ⟨#[]⟩] 9)).heap[w.heap.size]? = some (.cells #[.string s] 9 (0, 0)) := by
    rw [Below.heap_alloc _ _ _ (by simp)]
    exact heap_alloc_new w _
  have hG : ((w.alloc (.cells #[.string s] 9)).alloc (.cells #[.string ⟨#[]⟩] 9)).heap[w.heap.size + 1]? = some (.cells #[.string ⟨#[]⟩] 9 (0, 0)) := by
    have := heap_alloc_new (w.alloc (.cells #[.string s] 9)) (.cells #[.string ⟨#[]⟩] 9)
    simpa using this
  have hth := throws_any (len := len) (cp := cp) (ao := ao) (cell_blk hW 0)
  go_enter_defers Try.func30, Try.ntmps30
  go_wp2_with (go_at_call 16; ((with_reducible refine hth.mono ?_); rintro e w1 ⟨rfl, hc⟩))
  refine leaves_cons (f := 46) (args := #[.pointer (some ⟨w.heap.size + 1, 0, none⟩), .pointer (some ⟨w.heap.size, 0, none⟩)]) (by simp) (by simp [go_sem]) ?_
  have hG1 := blk_keep hG hc id
  refine (c38_any hG1 _).mono ?_
  rintro e u' w2 ⟨rfl, rfl, rfl⟩
  have hcell := cell_blk (set_blk hG1 0 (.string s)) 0
  have hlast : Chg (fun _ => False) w (w1.setCell ⟨w.heap.size + 1, 0, none⟩ (.string s)) := (hc1.trans hc (fun _ _ h => h)).setCell (p := ⟨w.heap.size + 1, 0, none⟩) (fun h => by simp at h; omega) _
  simp only [List.getElem?_toArray, List.getElem?_cons_zero, Array.setIfInBounds] at hcell
  simp [Leaves, settle, results, Try.results30, go_sem, hcell]
  exact hlast

end Go.Proofs.Ytjipfbggoeiakaa
