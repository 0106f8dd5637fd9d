/- Texts that the proof leans on, in one: ChMerge, RefCredGreat, RefCredHas, RefKCheck, RegE, GreatK, CheckK. -/
import Derived.Test.YtjaplnainlbldaaSc40
import Derived.Test.YtjaplnainlbldaaSc1
import Derived.Test.YtjaplnainlbldaaProg
import Derived.Test.YtjaplnainlbldaaChecked
import Derived.Deep.QuietTactic
import Derived.BigQuiet
import Derived.Test.YtjaplnainlbldaaSc6
import Derived.Test.YtjaplnainlbldaaSc4
import Derived.Test.YtjaplnainlbldaaSc10
/- Merge: the program's, and the document's. -/
namespace Go.Proofs.Ytjaplnainlbldaa
open Go.RowKit Go.Maps

/-- One step more, unless its fact was had. -/
def addSt (out : List StepB) (s : StepB) : List StepB := if s.f ∈ out.map (·.f) then out else out ++ [s]
def addsSt (out l : List StepB) : List StepB := l.foldl addSt out
/-- What chains are merged to. -/
def mergeL (lss : List (List StepB)) : List StepB := lss.foldl addsSt []
theorem addsSt_snoc (out l : List StepB) (s : StepB) : addsSt out (l ++ [s]) = addSt (addsSt out l) s := by simp [addsSt]
theorem mergeL_snoc (lss : List (List StepB)) (l : List StepB) : mergeL (lss ++ [l]) = addsSt (mergeL lss) l := by simp [mergeL]
theorem addSt_len (out : List StepB) (s : StepB) : (addSt out s).length ≤ out.length + 1 := by unfold addSt; split <;> simp
theorem addsSt_len (out l : List StepB) : (addsSt out l).length ≤ out.length + l.length := by
  induction l generalizing out with
  | nil => simp [addsSt]
  | cons s l ih =>
    have h1 := ih (addSt out s)
    have h2 := addSt_len out s
    have h3 : addsSt out (s :: l) = addsSt (addSt out s) l := rfl
    rw [h3, List.length_cons]
    omega
theorem mergeL_len (lss : List (List StepB)) : (mergeL lss).length ≤ (lss.map List.length).sum := by
  have key : ∀ (ls : List (List StepB)) (out : List StepB), (ls.foldl addsSt out).length ≤ out.length + (ls.map List.length).sum := by
    intro ls
    induction ls with
    | nil => simp
    | cons l ls ih =>
      intro out
      have h1 := ih (addsSt out l)
      have h2 := addsSt_len out l
      rw [List.foldl_cons, List.map_cons, List.sum_cons]
      omega
  have := key lss []
  simpa [mergeL] using this
theorem addSt_mem (out : List StepB) (s x : StepB) (h : x ∈ addSt out s) : x ∈ out ∨ x = s := by
  unfold addSt at h
  split at h
  · exact .inl h
  · simpa using h
theorem addsSt_mem (out l : List StepB) (x : StepB) (h : x ∈ addsSt out l) : x ∈ out ∨ x ∈ l := by
  induction l generalizing out with
  | nil => exact .inl h
  | cons s l ih =>
    rcases ih (addSt out s) h with h1 | h1
    · rcases addSt_mem out s x h1 with h2 | h2
      · exact .inl h2
      · exact .inr (by simp [h2])
    · exact .inr (by simp [h1])
/-- Rows of steps, in a row. -/
def RowsAt (D : Nat → Prop) (w : World) (ao : Option Addr) (lss : List (List StepB)) : Prop :=
  ∀ j (h : j < lss.length), ∃ b off ai ci, ao = some ⟨b, off, none⟩ ∧ D b ∧ w.cell? ⟨b, off + j, none⟩ = some (.slice ai (lss[j].length : Nat) ci) ∧ StepsAt D w ai lss[j] ∧ (ai = none → ci = 0)
theorem RowsAt.keep {S D : Nat → Prop} {w w' : World} {ao : Option Addr} {lss : List (List StepB)} (h : RowsAt D w ao lss) (hc : Chg S w w') (hS : ∀ i, D i → ¬ S i) : RowsAt D w' ao lss := fun j hj => by
  obtain ⟨b, off, ai, ci, h1, h2, h3, h4, h5⟩ := h j hj
  exact ⟨b, off, ai, ci, h1, h2, hc.cell h3 (hS b h2), h4.keep hc hS, h5⟩

/-- The map of the facts had. -/
def memF (out : List StepB) : FactB → Option Value := fun f => if f ∈ out.map (·.f) then some (.agg #[]) else none
theorem memF_snoc (out : List StepB) (s : StepB) : putF (memF out) s.f (.agg #[]) = memF (out ++ [s]) := by
  funext d
  unfold putF memF
  by_cases e : d = s.f
  · rw [if_pos e, if_pos (by simp [e])]
  · rw [if_neg e]
    by_cases h : d ∈ out.map (·.f)
    · rw [if_pos h, if_pos (by simp only [List.map_append, List.mem_append]; exact .inl h)]
    · rw [if_neg h, if_neg (by simp only [List.map_append, List.mem_append]; intro h2; rcases h2 with h2 | h2; exact h h2; simp at h2; exact e h2)]
theorem memF_some (out : List StepB) (f : FactB) : (memF out f).isSome = decide (f ∈ out.map (·.f)) := by
  unfold memF
  split <;> simp_all
theorem memF_val (out : List StepB) (f : FactB) : (memF out f).getD (.agg #[]) = .agg #[] := by unfold memF; split <;> rfl

theorem fZeroUn (w : World) : (zeroValue 99).run Try.prog w = .ok (.agg #[]) w := by kernel_rfl
theorem run_makeMapFs (w : World) : (Instr.makeMap 98 none).run Try.prog w = .ok (.map (some w.heap.size)) (w.alloc (.map #[] 0)) := by
  simp [Instr.makeMap, Result.andThen]

theorem wpList_append_run {P : Program} {w w' : World} {ops : Array Oper} {rest : List Oper} {o : Oper} {a : Act} {Q : Exit → Act → World → Prop} (hgd : o.guard = none) (s x : Operand) (t : TypeId)
    (ho : o.op = .call { callee := .builtin .append, args := #[s, x], argTypes := #[t, t] }) {v y v' : Value} (hs : a.eval s = v) (hx : a.eval x = y) (hr : (Builtin.append_ #[t, t] o.type #[v, y]).run P w = .ok v' w')
    (h : wpList P ops Q rest (a.put o.dst v') w') : wpList P ops Q (o :: rest) a w := by
  refine wpList_plain hgd fun K hK => ?_
  unfold Oper.wp execOp
  simp only [ho, resolve, invoke, builtin, Sem.run_bind, Sem.run_pure, Result.andThen_ok, List.map_toArray, List.map_cons, List.map_nil, hs, hx, hr]
  exact hK _ _ h

def MergePost (lss : List (List StepB)) (w : World) (e : Ending) (w' : World) : Prop :=
  ∃ v, e = .returned v ∧ OwnSt w.heap.size w' v (mergeL lss) ∧ Chg (fun _ => False) w w'

set_option maxRecDepth 100000 in
set_option maxHeartbeats 2000000 in
theorem ch_merge {D : Nat → Prop} (ao : Option Addr) (cp : Nat) (lss : List (List StepB)) (w : World) (hn : lss.length ≤ 1048576) (hs : (lss.map List.length).sum ≤ 1048576) (h : RowsAt D w ao lss) :
    Calls Try.prog 20 #[.slice ao lss.length cp] w (MergePost lss w) := by
  have HX := hid h
  have hmm := run_makeMapFs
  have hca : Chg (fun _ => False) w (w.alloc (.map #[] 0)) := (Chg.refl _ _).alloc _
  have HM := hid (And.intro ((kv_made ktF w).cong (F' := memF []) (fun c _ => by simp [memF])) hca)
  have HSUM := hid hs
  clear h hca hs
  go_enter Try.func20, Try.ntmps20
  go_wp2
  clear hmm
  generalize w.alloc (.map #[] 0) = w1 at *
  obtain ⟨mb, hmb⟩ : ∃ mb, w.heap.size = mb := ⟨_, rfl⟩
  have HMB := hid hmb
  have HM2 : Hid (KV ktF w1 mb 0 (memF []) ∧ Chg (fun _ => False) w w1) := hid (by rw [← hmb]; exact HM.out)
  rw [hmb]
  clear hmb HM
  go_loopw [3, 14] (fun v i wr => ∃ (j : Nat) (o : Value), j ≤ lss.length ∧ i = .int .i64 j ∧ v = o ∧ Hid (OwnSt w.heap.size wr o (mergeL (lss.take j)) ∧ KV ktF wr mb (mergeL (lss.take j)).length (memF (mergeL (lss.take j))) ∧ (o).ownBlock ≠ some mb ∧ Chg (fun _ => False) w wr)) (fun _ i _ => lss.length - (intOf i).toNat)
  case atStart => exact ⟨0, _, Nat.zero_le _, rfl, rfl, hid ⟨World.ownsRow_nil _ _ _ _, HM2.out.1, by simp [Value.ownBlock], HM2.out.2⟩⟩
  case round =>
    obtain ⟨j, o, hj, rfl, rfl, hrel⟩ := hrel
    by_cases hlt : j < lss.length
    · obtain ⟨b, off, ai, ci, hao, hD, hcell0, hst, _⟩ := HX.out j hlt
      have hcell := hrel.out.2.2.2.cell hcell0 id
      have htk : mergeL (lss.take (j + 1)) = addsSt (mergeL (lss.take j)) lss[j] := by rw [List.take_succ_eq_append_getElem hlt, mergeL_snoc]
      have hsum : (mergeL (lss.take j)).length + lss[j].length ≤ 1048576 := by
        have h1 := mergeL_len (lss.take j)
        have h2 : ((lss.take (j + 1)).map List.length).sum ≤ (lss.map List.length).sum := by
          conv => rhs; rw [← List.take_append_drop (j + 1) lss]
          rw [List.map_append, List.sum_append]
          omega
        rw [List.take_succ_eq_append_getElem hlt, List.map_append, List.sum_append] at h2
        simp only [List.map_cons, List.map_nil, List.sum_cons, List.sum_nil] at h2
        have := HSUM.out
        omega
      generalize lss[j] = l at *
      have HTK := hid htk
      have HSM := hid hsum
      have HREL := hid hrel.out
      have HST := hid hst
      obtain ⟨O0, hO⟩ : ∃ O0, O0 = mergeL (lss.take j) := ⟨_, rfl⟩
      have HO := hid hO
      rw [← hO] at HREL HTK HSM
      subst hao
      clear htk hsum hrel hst hO hcell0
      go_wp2
      go_loopw [3, 20] (fun v i wr => ∃ (k : Nat) (o : Value), k ≤ l.length ∧ i = .int .i64 k ∧ v = o ∧ Hid (OwnSt w.heap.size wr o (addsSt O0 (l.take k)) ∧ KV ktF wr mb (addsSt O0 (l.take k)).length (memF (addsSt O0 (l.take k))) ∧ (o).ownBlock ≠ some mb ∧ Chg (fun _ => False) w wr)) (fun _ i _ => l.length - (intOf i).toNat)
      case atStart => exact ⟨0, _, Nat.zero_le _, rfl, rfl, hid HREL.out⟩
      case round =>
        obtain ⟨k, o2, hk, rfl, rfl, hin⟩ := hrel
        by_cases hlk : k < l.length
        · obtain ⟨b2, off2, hao2, hD2, ⟨⟨a0, a1, a2, a3, a4, a5, a6, a7, a8⟩, ⟨c0, c1, c2⟩⟩, hss⟩ := (HST.out.keep hin.out.2.2.2 (fun _ _ => id)) k hlk
          change World.cell? _ ⟨b2, off2 + k * 12 + 10, none⟩ = _ at c1
          change World.cell? _ ⟨b2, off2 + k * 12 + 11, none⟩ = _ at c2
          have HTL : Hid (addsSt O0 (l.take (k + 1)) = addSt (addsSt O0 (l.take k)) l[k]) := hid (by rw [List.take_succ_eq_append_getElem hlk, addsSt_snoc])
          generalize l[k] = s at *
          have hkb : k < 1048576 := by have := HSM.out; omega
          have hal : Chg (fun _ => False) wr (wr.alloc (.cells #[.int .i64 s.c.kind, .string ⟨s.c.head.1.toArray⟩, .string ⟨s.c.head.2.toArray⟩, .string ⟨s.c.who.toArray⟩, .string ⟨s.c.b.1.toArray⟩, .string ⟨s.c.b.2.toArray⟩, .string ⟨s.c.c.1.toArray⟩, .string ⟨s.c.c.2.toArray⟩, .string ⟨s.c.w2.toArray⟩, .string ⟨s.f.1.1.toArray⟩, .string ⟨s.f.1.2.toArray⟩, .string ⟨s.f.2.toArray⟩] 43)) := (Chg.refl _ _).alloc _
          have hSb : (wr.alloc (.cells #[.int .i64 s.c.kind, .string ⟨s.c.head.1.toArray⟩, .string ⟨s.c.head.2.toArray⟩, .string ⟨s.c.who.toArray⟩, .string ⟨s.c.b.1.toArray⟩, .string ⟨s.c.b.2.toArray⟩, .string ⟨s.c.c.1.toArray⟩, .string ⟨s.c.c.2.toArray⟩, .string ⟨s.c.w2.toArray⟩, .string ⟨s.f.1.1.toArray⟩, .string ⟨s.f.1.2.toArray⟩, .string ⟨s.f.2.toArray⟩] 43)).heap[wr.heap.size]? = some (.cells (stepBox s) 43 (0, 0)) := heap_alloc_new wr _
          obtain ⟨⟨r0, r1, r2, r3, r4, r5, r6, r7, r8⟩, ⟨r9, r10, r11⟩⟩ := step_at_blk hSb
          change World.cell? _ ⟨wr.heap.size, 0 + 10, none⟩ = _ at r10
          change World.cell? _ ⟨wr.heap.size, 0 + 11, none⟩ = _ at r11
          simp only [Nat.zero_add] at r0 r1 r2 r3 r4 r5 r6 r7 r8 r9 r10 r11
          have hal2 : Chg (fun _ => False) wr ((wr.alloc (.cells #[.int .i64 s.c.kind, .string ⟨s.c.head.1.toArray⟩, .string ⟨s.c.head.2.toArray⟩, .string ⟨s.c.who.toArray⟩, .string ⟨s.c.b.1.toArray⟩, .string ⟨s.c.b.2.toArray⟩, .string ⟨s.c.c.1.toArray⟩, .string ⟨s.c.c.2.toArray⟩, .string ⟨s.c.w2.toArray⟩, .string ⟨s.f.1.1.toArray⟩, .string ⟨s.f.1.2.toArray⟩, .string ⟨s.f.2.toArray⟩] 43)).alloc (.cells #[] 99)) := hal.alloc _
          have hlook1 := (hin.out.2.1.keep hal id).look_ok (t := 98) (e := 99) Try.underlying98 (fZeroUn _) (a := s.f) hss.2
          have hlook2 := (hin.out.2.1.keep hal2 id).look_ok (t := 98) (e := 99) Try.underlying98 (fZeroUn _) (a := s.f) hss.2
          rw [memF_some, memF_val] at hlook1 hlook2
          obtain ⟨had, hhad⟩ : ∃ had, had = decide (s.f ∈ (addsSt O0 (l.take k)).map (·.f)) := ⟨_, rfl⟩
          rw [← hhad] at hlook1 hlook2
          have hl1 : (Instr.lookup 98 (.map (some mb)) (.agg #[.string ⟨s.f.1.1.toArray⟩, .string ⟨s.f.1.2.toArray⟩, .string ⟨s.f.2.toArray⟩]) true).run Try.prog (wr.alloc (.cells #[.int .i64 s.c.kind, .string ⟨s.c.head.1.toArray⟩, .string ⟨s.c.head.2.toArray⟩, .string ⟨s.c.who.toArray⟩, .string ⟨s.c.b.1.toArray⟩, .string ⟨s.c.b.2.toArray⟩, .string ⟨s.c.c.1.toArray⟩, .string ⟨s.c.c.2.toArray⟩, .string ⟨s.c.w2.toArray⟩, .string ⟨s.f.1.1.toArray⟩, .string ⟨s.f.1.2.toArray⟩, .string ⟨s.f.2.toArray⟩] 43)) = .ok (.tuple #[.agg #[], .bool had]) (wr.alloc (.cells #[.int .i64 s.c.kind, .string ⟨s.c.head.1.toArray⟩, .string ⟨s.c.head.2.toArray⟩, .string ⟨s.c.who.toArray⟩, .string ⟨s.c.b.1.toArray⟩, .string ⟨s.c.b.2.toArray⟩, .string ⟨s.c.c.1.toArray⟩, .string ⟨s.c.c.2.toArray⟩, .string ⟨s.c.w2.toArray⟩, .string ⟨s.f.1.1.toArray⟩, .string ⟨s.f.1.2.toArray⟩, .string ⟨s.f.2.toArray⟩] 43)) := hlook1
          have hl2 : (Instr.lookup 98 (.map (some mb)) (.agg #[.string ⟨s.f.1.1.toArray⟩, .string ⟨s.f.1.2.toArray⟩, .string ⟨s.f.2.toArray⟩]) true).run Try.prog ((wr.alloc (.cells #[.int .i64 s.c.kind, .string ⟨s.c.head.1.toArray⟩, .string ⟨s.c.head.2.toArray⟩, .string ⟨s.c.who.toArray⟩, .string ⟨s.c.b.1.toArray⟩, .string ⟨s.c.b.2.toArray⟩, .string ⟨s.c.c.1.toArray⟩, .string ⟨s.c.c.2.toArray⟩, .string ⟨s.c.w2.toArray⟩, .string ⟨s.f.1.1.toArray⟩, .string ⟨s.f.1.2.toArray⟩, .string ⟨s.f.2.toArray⟩] 43)).alloc (.cells #[] 99)) = .ok (.tuple #[.agg #[], .bool had]) ((wr.alloc (.cells #[.int .i64 s.c.kind, .string ⟨s.c.head.1.toArray⟩, .string ⟨s.c.head.2.toArray⟩, .string ⟨s.c.who.toArray⟩, .string ⟨s.c.b.1.toArray⟩, .string ⟨s.c.b.2.toArray⟩, .string ⟨s.c.c.1.toArray⟩, .string ⟨s.c.c.2.toArray⟩, .string ⟨s.c.w2.toArray⟩, .string ⟨s.f.1.1.toArray⟩, .string ⟨s.f.1.2.toArray⟩, .string ⟨s.f.2.toArray⟩] 43)).alloc (.cells #[] 99)) := hlook2
          have HAD := hid hhad
          have HAL := hid (And.intro hal hal2)
          have HIN := hid (And.intro hin.out hss)
          have HSB := hid hSb
          subst hao2
          clear hlook1 hlook2 hhad hal hal2 hin hss hSb
          cases had with
          | true =>
            have hin2 : s.f ∈ (addsSt O0 (l.take k)).map (·.f) := by have := HAD.out; simpa using this.symm
            have HNX : Hid (OwnSt w.heap.size wr u3 (addsSt O0 (l.take (k + 1))) ∧ KV ktF wr mb (addsSt O0 (l.take (k + 1))).length (memF (addsSt O0 (l.take (k + 1)))) ∧ (u3).ownBlock ≠ some mb ∧ Chg (fun _ => False) w wr) := hid (by
              rw [HTL.out, addSt, if_pos hin2]
              exact HIN.out.1)
            have HHX : Hid (OwnSt w.heap.size ((wr.alloc (.cells #[.int .i64 s.c.kind, .string ⟨s.c.head.1.toArray⟩, .string ⟨s.c.head.2.toArray⟩, .string ⟨s.c.who.toArray⟩, .string ⟨s.c.b.1.toArray⟩, .string ⟨s.c.b.2.toArray⟩, .string ⟨s.c.c.1.toArray⟩, .string ⟨s.c.c.2.toArray⟩, .string ⟨s.c.w2.toArray⟩, .string ⟨s.f.1.1.toArray⟩, .string ⟨s.f.1.2.toArray⟩, .string ⟨s.f.2.toArray⟩] 43)).alloc (.cells #[] 99)) u3 (addsSt O0 (l.take (k + 1))) ∧ KV ktF ((wr.alloc (.cells #[.int .i64 s.c.kind, .string ⟨s.c.head.1.toArray⟩, .string ⟨s.c.head.2.toArray⟩, .string ⟨s.c.who.toArray⟩, .string ⟨s.c.b.1.toArray⟩, .string ⟨s.c.b.2.toArray⟩, .string ⟨s.c.c.1.toArray⟩, .string ⟨s.c.c.2.toArray⟩, .string ⟨s.c.w2.toArray⟩, .string ⟨s.f.1.1.toArray⟩, .string ⟨s.f.1.2.toArray⟩, .string ⟨s.f.2.toArray⟩] 43)).alloc (.cells #[] 99)) mb (addsSt O0 (l.take (k + 1))).length (memF (addsSt O0 (l.take (k + 1)))) ∧ (u3).ownBlock ≠ some mb ∧ Chg (fun _ => False) w ((wr.alloc (.cells #[.int .i64 s.c.kind, .string ⟨s.c.head.1.toArray⟩, .string ⟨s.c.head.2.toArray⟩, .string ⟨s.c.who.toArray⟩, .string ⟨s.c.b.1.toArray⟩, .string ⟨s.c.b.2.toArray⟩, .string ⟨s.c.c.1.toArray⟩, .string ⟨s.c.c.2.toArray⟩, .string ⟨s.c.w2.toArray⟩, .string ⟨s.f.1.1.toArray⟩, .string ⟨s.f.1.2.toArray⟩, .string ⟨s.f.2.toArray⟩] 43)).alloc (.cells #[] 99))) := hid ⟨HNX.out.1.keep HAL.out.2 (fun _ _ => id), HNX.out.2.1.keep HAL.out.2 id, HNX.out.2.2.1, HNX.out.2.2.2.trans HAL.out.2 (fun _ _ h => h)⟩
            have HKL := hid hlk
            clear hin2
            go_wp2
            go_roundw
            case rel => exact ⟨k + 1, u3, HKL.out, by go_num, rfl, HHX⟩
            case measure => have := HKL.out; simp [intOf]; omega
          | false =>
            have hno : ¬ s.f ∈ (addsSt O0 (l.take k)).map (·.f) := by have := HAD.out; simpa using this.symm
            have hlen : (addsSt O0 (l.take k)).length ≤ 1048576 := by
              have h1 := addsSt_len O0 (l.take k)
              have h2 : (l.take k).length ≤ k := List.length_take_le _ _
              have := HSM.out
              omega
            obtain ⟨w3, hset0, hkv3, hc3, hsz3⟩ := (HIN.out.1.2.1.keep HAL.out.2 id).set (t := 98) (e := 99) Try.underlying98 (by omega) (a := s.f) HIN.out.2.2 (.agg #[])
            have hset : (Instr.mapUpdate 98 (.map (some mb)) (.agg #[.string ⟨s.f.1.1.toArray⟩, .string ⟨s.f.1.2.toArray⟩, .string ⟨s.f.2.toArray⟩]) (.agg #[])).run Try.prog ((wr.alloc (.cells #[.int .i64 s.c.kind, .string ⟨s.c.head.1.toArray⟩, .string ⟨s.c.head.2.toArray⟩, .string ⟨s.c.who.toArray⟩, .string ⟨s.c.b.1.toArray⟩, .string ⟨s.c.b.2.toArray⟩, .string ⟨s.c.c.1.toArray⟩, .string ⟨s.c.c.2.toArray⟩, .string ⟨s.c.w2.toArray⟩, .string ⟨s.f.1.1.toArray⟩, .string ⟨s.f.1.2.toArray⟩, .string ⟨s.f.2.toArray⟩] 43)).alloc (.cells #[] 99)) = .ok () w3 := hset0
            have hmlt := HIN.out.1.2.1.lt
            have hmb := HMB.out
            have ho3 := (HIN.out.1.1.keep HAL.out.2 (fun _ _ => id)).keep hc3 (fun b hb h => HIN.out.1.2.2.1 (by rw [hb, h]))
            have hb3 := blk_keep (blk_keep HSB.out ((Chg.refl (fun _ => False) _).alloc (.cells #[] 99)) id) hc3 (fun h => by omega)
            have hc03 : Chg (fun _ => False) w w3 := (HIN.out.1.2.2.2.trans HAL.out.2 (fun _ _ h => h)).trans hc3 (fun i hi h => by omega)
            have ho4 := ho3.keep ((Chg.refl (fun _ => False) w3).alloc (.cells #[.int .i64 s.c.kind, .string ⟨s.c.head.1.toArray⟩, .string ⟨s.c.head.2.toArray⟩, .string ⟨s.c.who.toArray⟩, .string ⟨s.c.b.1.toArray⟩, .string ⟨s.c.b.2.toArray⟩, .string ⟨s.c.c.1.toArray⟩, .string ⟨s.c.c.2.toArray⟩, .string ⟨s.c.w2.toArray⟩, .string ⟨s.f.1.1.toArray⟩, .string ⟨s.f.1.2.toArray⟩, .string ⟨s.f.2.toArray⟩] 43)) (fun _ _ => id)
            obtain ⟨v5, w5, hap0, ho5, hc5, hbb⟩ := run_append_step 29 ho4 (heap_alloc_new w3 (.cells #[.int .i64 s.c.kind, .string ⟨s.c.head.1.toArray⟩, .string ⟨s.c.head.2.toArray⟩, .string ⟨s.c.who.toArray⟩, .string ⟨s.c.b.1.toArray⟩, .string ⟨s.c.b.2.toArray⟩, .string ⟨s.c.c.1.toArray⟩, .string ⟨s.c.c.2.toArray⟩, .string ⟨s.c.w2.toArray⟩, .string ⟨s.f.1.1.toArray⟩, .string ⟨s.f.1.2.toArray⟩, .string ⟨s.f.2.toArray⟩] 43)) (by omega) (by have := hc03.size; have := ((Chg.refl (fun _ => False) w3).alloc (.cells #[.int .i64 s.c.kind, .string ⟨s.c.head.1.toArray⟩, .string ⟨s.c.head.2.toArray⟩, .string ⟨s.c.who.toArray⟩, .string ⟨s.c.b.1.toArray⟩, .string ⟨s.c.b.2.toArray⟩, .string ⟨s.c.c.1.toArray⟩, .string ⟨s.c.c.2.toArray⟩, .string ⟨s.c.w2.toArray⟩, .string ⟨s.f.1.1.toArray⟩, .string ⟨s.f.1.2.toArray⟩, .string ⟨s.f.2.toArray⟩] 43)).size; omega)
            have hap : (Builtin.append_ #[29, 29] 29 #[u3, .slice (some ⟨w3.heap.size, 0, none⟩) 1 1]).run Try.prog (w3.alloc (.cells #[.int .i64 s.c.kind, .string ⟨s.c.head.1.toArray⟩, .string ⟨s.c.head.2.toArray⟩, .string ⟨s.c.who.toArray⟩, .string ⟨s.c.b.1.toArray⟩, .string ⟨s.c.b.2.toArray⟩, .string ⟨s.c.c.1.toArray⟩, .string ⟨s.c.c.2.toArray⟩, .string ⟨s.c.w2.toArray⟩, .string ⟨s.f.1.1.toArray⟩, .string ⟨s.f.1.2.toArray⟩, .string ⟨s.f.2.toArray⟩] 43)) = .ok v5 w5 := hap0
            have hkv4 := hkv3.keep ((Chg.refl (fun _ => False) w3).alloc (.cells #[.int .i64 s.c.kind, .string ⟨s.c.head.1.toArray⟩, .string ⟨s.c.head.2.toArray⟩, .string ⟨s.c.who.toArray⟩, .string ⟨s.c.b.1.toArray⟩, .string ⟨s.c.b.2.toArray⟩, .string ⟨s.c.c.1.toArray⟩, .string ⟨s.c.c.2.toArray⟩, .string ⟨s.c.w2.toArray⟩, .string ⟨s.f.1.1.toArray⟩, .string ⟨s.f.1.2.toArray⟩, .string ⟨s.f.2.toArray⟩] 43)) id
            have HHX : Hid (OwnSt w.heap.size w5 v5 (addsSt O0 (l.take (k + 1))) ∧ KV ktF w5 mb (addsSt O0 (l.take (k + 1))).length (memF (addsSt O0 (l.take (k + 1)))) ∧ (v5).ownBlock ≠ some mb ∧ Chg (fun _ => False) w w5) := hid (by
              have hmw : mb < w3.heap.size := hkv3.lt
              have hsz4 := ((Chg.refl (fun _ => False) w3).alloc (.cells #[.int .i64 s.c.kind, .string ⟨s.c.head.1.toArray⟩, .string ⟨s.c.head.2.toArray⟩, .string ⟨s.c.who.toArray⟩, .string ⟨s.c.b.1.toArray⟩, .string ⟨s.c.b.2.toArray⟩, .string ⟨s.c.c.1.toArray⟩, .string ⟨s.c.c.2.toArray⟩, .string ⟨s.c.w2.toArray⟩, .string ⟨s.f.1.1.toArray⟩, .string ⟨s.f.1.2.toArray⟩, .string ⟨s.f.2.toArray⟩] 43)).size
              have hblt : ∀ b, u3.ownBlock = some b → w.heap.size ≤ b := fun b hb => (ho4.blt hb).1
              rw [HTL.out, addSt, if_neg hno, ← memF_snoc]
              refine ⟨ho5, ?_, fun h => ?_, (hc03.alloc _).trans hc5 (fun i hi h => by have := hblt i h; omega)⟩
              · rw [List.length_append]
                exact hkv4.keep hc5 (fun h => HIN.out.1.2.2.1 h)
              · rcases hbb with h1 | h1
                · rw [h1] at h
                  exact HIN.out.1.2.2.1 h
                · rw [h1] at h
                  injection h with h
                  omega)
            obtain ⟨⟨q0, q1, q2, q3, q4, q5, q6, q7, q8⟩, ⟨q9, q10, q11⟩⟩ := step_at_blk hb3
            change World.cell? _ ⟨wr.heap.size, 0 + 10, none⟩ = _ at q10
            change World.cell? _ ⟨wr.heap.size, 0 + 11, none⟩ = _ at q11
            simp only [Nat.zero_add] at q0 q1 q2 q3 q4 q5 q6 q7 q8 q9 q10 q11
            have HKL := hid hlk
            clear hset0 hap0 hkv3 hkv4 hc3 hsz3 hmlt hmb ho3 hb3 hc03 ho4 ho5 hc5 hbb hno hlen HTL
            go_wp2_with (at_builtin; refine wpList_append_run rfl (.tmp 36) (.tmp 38) 29 rfl rfl rfl hap ?_)
            go_roundw
            case rel => exact ⟨k + 1, v5, HKL.out, by go_num, rfl, HHX⟩
            case measure => have := HKL.out; simp [intOf]; omega
        · have hke : k = l.length := by omega
          have HHX : Hid (OwnSt w.heap.size wr u3 (mergeL (lss.take (j + 1))) ∧ KV ktF wr mb (mergeL (lss.take (j + 1))).length (memF (mergeL (lss.take (j + 1)))) ∧ (u3).ownBlock ≠ some mb ∧ Chg (fun _ => False) w wr) := hid (by
            have h1 := hin.out
            rw [hke, List.take_length] at h1
            rw [HTK.out]
            exact h1)
          have HLT := hid hlt
          clear hin hke
          go_wp2
          go_roundw
          case rel => exact ⟨j + 1, _, HLT.out, by go_num, rfl, HHX⟩
          case measure => have := HLT.out; simp [intOf]; omega
    · have hje : j = lss.length := by omega
      have h1 := hrel.out
      rw [hje, List.take_length] at h1
      have HP := hid (show MergePost lss w (.returned u3) wr from ⟨_, rfl, h1.1, h1.2.2.2⟩)
      clear hrel h1 hje
      go_wp2
      go_ret
      exact HP.out
end Go.Proofs.Ytjaplnainlbldaa

/- How great credentials are: the contract of the law's Great. -/
namespace Go.Proofs.Ytjaplnainlbldaa
open Go.RowKit

/-- How great credentials are. -/
def sizeC (c : CredB) : Nat := 20 + c.head.1.length + c.head.2.length + c.who.length + c.b.1.length + c.b.2.length + c.c.1.length + c.c.2.length + c.w2.length
def totalC : List CredB → Nat
  | [] => 0
  | c :: l => sizeC c + totalC l

theorem totalC_append (a b : List CredB) : totalC (a ++ b) = totalC a + totalC b := by
  induction a with
  | nil => simp [totalC]
  | cons x l ih => rw [List.cons_append, totalC, totalC, ih]; omega

theorem totalC_len (a : List CredB) : a.length ≤ totalC a := by
  induction a with
  | nil => simp [totalC]
  | cons x l ih => rw [totalC, List.length_cons, sizeC]; omega

theorem totalC_take (ls : List CredB) (k : Nat) (h : k < ls.length) : totalC (ls.take (k + 1)) = totalC (ls.take k) + sizeC ls[k] := by
  rw [List.take_succ_eq_append_getElem h, totalC_append]; simp [totalC]

theorem totalC_take_le (ls : List CredB) (k : Nat) : totalC (ls.take k) ≤ totalC ls := by
  conv => rhs; rw [← List.take_append_drop k ls]
  rw [totalC_append]; omega

set_option maxRecDepth 100000 in
set_option maxHeartbeats 2000000 in
theorem great_any {D : Nat → Prop} (ao : Option Addr) (cp : Nat) (ls : List CredB) (w : World) (hn : totalC ls ≤ 4503599627370496) (h : CredsAt D w ao ls) :
    Calls Try.prog 8 #[.slice ao ls.length cp] w fun e w' => e = .returned (.int .i64 (totalC ls)) ∧ Chg (fun _ => False) w w' := by
  have hl := totalC_len ls
  go_enter Try.func8, Try.ntmps8
  go_wp2
  go_loopw [3, 8] (fun n i wr => ∃ k m : Nat, k ≤ ls.length ∧ i = .int .i64 k ∧ n = .int .i64 m ∧ Hid (m = totalC (ls.take k)) ∧ m ≤ 4503599627370496 ∧ Chg (fun _ => False) w wr) (fun _ i _ => ls.length - (intOf i).toNat)
  case atStart => exact ⟨0, 0, Nat.zero_le _, rfl, rfl, rfl, by omega, Chg.refl _ _⟩
  case round =>
    obtain ⟨k, m, hk, rfl, rfl, hm, hml, hc⟩ := hrel
    by_cases hlt : k < ls.length
    · obtain ⟨b, off, rfl, _, hat, hs⟩ := (h.keep hc (fun _ _ => id)) k hlt
      have ht := totalC_take ls k hlt
      have hle := totalC_take_le ls (k + 1)
      rw [ht, ← hm.out] at hle
      have hx : Hid (m + sizeC ls[k] = totalC (ls.take (k + 1))) := hid (by rw [ht, hm.out])
      clear h ht
      have hsl2 : m + sizeC ls[k] ≤ 4503599627370496 := by omega
      clear hle
      generalize ls[k] = s at *
      obtain ⟨kk, ⟨ho, hw⟩, who, ⟨bo, bw⟩, ⟨co, cw⟩, w2⟩ := s
      obtain ⟨a0, a1, a2, a3, a4, a5, a6, a7, a8⟩ := hat
      obtain ⟨s1, s2, s3, s4, s5, s6, s7, s8⟩ := hs
      simp only [sizeC] at a0 a1 a2 a3 a4 a5 a6 a7 a8 s1 s2 s3 s4 s5 s6 s7 s8 hx hsl2
      have HC := hid hc
      clear hc
      go_wp2
      go_roundw
      case rel => exact ⟨k + 1, m + (20 + ho.length + hw.length + who.length + bo.length + bw.length + co.length + cw.length + w2.length), by omega, by go_num, by go_num, hx, hsl2, HC.out.alloc _⟩
      case measure => simp [intOf]; omega
    · have hk2 : k = ls.length := by omega
      have hx : m = totalC ls := by have := hm.out; rwa [List.take_of_length_le (by omega)] at this
      subst hx
      have HC := hid hc
      clear h hc
      go_wp2
      go_ret
      exact ⟨rfl, HC.out⟩

end Go.Proofs.Ytjaplnainlbldaa

/- The contract of the document's Has of layer 5. -/
namespace Go.Proofs.Ytjaplnainlbldaa
open Go.RowKit

end Go.Proofs.Ytjaplnainlbldaa

/- The contract of the document's Check, of layer 9. -/
namespace Go.Proofs.Ytjaplnainlbldaa
open Go.RowKit

/-- Does the step at i follow those ahead, and is its credential told? -/
def goodK (ls : List StepB) (cs : List CredB) (i : Nat) : Prop := ∀ h : i < ls.length, hasC cs ls[i].c = true ∧ followsK ls[i] (factsK (ls.take i)) = true

/-- What Check tells. -/
def CheckIs (ls : List StepB) (cs : List CredB) (wf : FactB) (n : Nat) (e : Int) : Prop :=
  (n < ls.length ∧ (∀ i, i < n → goodK ls cs i) ∧ ¬ goodK ls cs n ∧ e = 50) ∨ (n = ls.length ∧ (∀ i, i < n → goodK ls cs i) ∧ e = if inF (factsK ls) wf.1 wf.2 then 0 else 42)

theorem CheckIs.one {ls : List StepB} {cs : List CredB} {wf : FactB} {n m : Nat} {e f : Int} (h : CheckIs ls cs wf n e) (k : CheckIs ls cs wf m f) : n = m ∧ e = f := by
  rcases h with ⟨h1, h2, h3, h4⟩ | ⟨h1, h2, h4⟩ <;> rcases k with ⟨k1, k2, k3, k4⟩ | ⟨k1, k2, k4⟩
  · have e1 : n = m := by
      rcases Nat.lt_trichotomy n m with h | h | h
      · exact absurd (k2 n h) h3
      · exact h
      · exact absurd (h2 m h) k3
    exact ⟨e1, by rw [h4, k4]⟩
  · exact absurd (k2 n (by omega)) h3
  · exact absurd (h2 m (by omega)) k3
  · exact ⟨by omega, by rw [h4, k4]⟩

end Go.Proofs.Ytjaplnainlbldaa

/- A rule for a region that draws its order, where one slot is read before the one operation that writes it. -/
namespace Go.Proofs.Ytjaplnainlbldaa
open Go.RowKit

section
variable {P : Program} {ops : Array Oper} {Q : Exit → Act → World → Prop} {R : World → World → Prop} {G : Tmp → Value → World → Prop} {w0 : World} {a0 : Act} {ds : List Tmp} {te : Tmp} {ve : Value}

end

end Go.Proofs.Ytjaplnainlbldaa

/- Law 9's Great, and the document's Same, of layer 9. -/
namespace Go.Proofs.Ytjaplnainlbldaa
open Go.RowKit

end Go.Proofs.Ytjaplnainlbldaa

/- What the laws of layer 9 ask of the program's check: its contracts, as the fields of a structure. -/
namespace Go.Proofs.Ytjaplnainlbldaa
open Go.RowKit

end Go.Proofs.Ytjaplnainlbldaa
