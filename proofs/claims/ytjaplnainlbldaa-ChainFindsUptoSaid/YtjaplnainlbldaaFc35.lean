/- Texts that the proof leans on, in one: ChUsed, ChMerge, RefCredGreat, RefCredHas. -/
import Derived.Test.YtjaplnainlbldaaFc33
import Derived.Test.YtjaplnainlbldaaFc34
import Derived.Test.YtjaplnainlbldaaFc2
import Derived.Test.YtjaplnainlbldaaProg
import Derived.Test.YtjaplnainlbldaaChecked
import Derived.Deep.QuietTactic
import Derived.BigQuiet
/- Used: the program's, and the document's. -/
namespace Go.Proofs.Ytjaplnainlbldaa
open Go.RowKit

/-- The set of what steps use. -/
def UsedPost (ls : List StepB) (w : World) (e : Ending) (w' : World) : Prop :=
 ∃ out ao cap, e = .returned (.slice ao out.length cap) ∧ SetC (ls.map (·.c)) out ∧ CredsAt (fun k => w.heap.size ≤ k ∧ k < w'.heap.size) w' ao out ∧ Chg (fun _ => False) w w' ∧ (ao = none → cap = 0)

set_option maxRecDepth 100000 in
set_option maxHeartbeats 2000000 in
theorem ch_used {D : Nat → Prop} (ao : Option Addr) (cp : Nat) (ls : List StepB) (w : World) (hn : ls.length ≤ 1048576) (h : StepsAt D w ao ls) :
  Calls Try.prog 18 #[.slice ao ls.length cp] w (UsedPost ls w) := by
 obtain ⟨i0, hi, hz0, hz1, hz2⟩ := info_parts Try.info36
 have HI := hid (And.intro hi (And.intro hz0 (And.intro hz1 hz2)))
 have HX := hid h
 have HSH := hid (steps_short h)
 clear hi hz0 hz1 hz2 h
 go_enter Try.func18, Try.ntmps18
 go_wp2
 go_loopw [3, 8] (fun v i wr => ∃ (k : Nat) (out : List CredB) (ao' : Option Addr) (cap' : Nat), k ≤ ls.length ∧ i = .int .i64 k ∧ v = .slice ao' out.length cap' ∧ Hid (out = (ls.take k).map (·.c)) ∧ out.length ≤ k ∧ OwnC w.heap.size wr (.slice ao' out.length cap') out ∧ Chg (fun _ => False) w wr) (fun _ i _ => ls.length - (intOf i).toNat)
 case atStart => exact ⟨0, [], none, 0, Nat.zero_le _, rfl, rfl, hid rfl, Nat.zero_le _, World.ownsRow_nil _ _ _ _, Chg.refl _ _⟩
 case round =>
  obtain ⟨k, out, ao', cap', hk, rfl, rfl, hout, hol, ho, hc1⟩ := hrel
  by_cases hlt : k < ls.length
  ·obtain ⟨b, off, hao, hD, ⟨⟨a0, a1, a2, a3, a4, a5, a6, a7, a8⟩, ⟨b0, b1, b2⟩⟩, hss⟩ := (HX.out.keep hc1 (fun _ _ => id)) k hlt
   have HT : Hid (out ++ [ls[k].c] = (ls.take (k + 1)).map (·.c)) := hid (by rw [List.take_succ_eq_append_getElem hlt, List.map_append, hout.out]; rfl)
   have HKL := hid hlt
   generalize ls[k] = s at *
   change wr.cell? ⟨b, off + k * 12 + 10, none⟩ = _ at b1
   change wr.cell? ⟨b, off + k * 12 + 11, none⟩ = _ at b2
   have hSb : (wr.alloc (.cells #[.int .i64 s.c.kind, .string ⟨s.c.head.1.toArray⟩, .string ⟨s.c.head.2.toArray⟩, .string ⟨s.c.who.toArray⟩, .string ⟨s.c.b.1.toArray⟩, .string ⟨s.c.b.2.toArray⟩, .string ⟨s.c.c.1.toArray⟩, .string ⟨s.c.c.2.toArray⟩, .string ⟨s.c.w2.toArray⟩, .string ⟨s.f.1.1.toArray⟩, .string ⟨s.f.1.2.toArray⟩, .string ⟨s.f.2.toArray⟩] 43)).heap[wr.heap.size]? = some (.cells (stepBox s) 43 (0, 0)) := heap_alloc_new wr _
   have hcA : Chg (fun _ => False) wr (wr.alloc (.cells #[.int .i64 s.c.kind, .string ⟨s.c.head.1.toArray⟩, .string ⟨s.c.head.2.toArray⟩, .string ⟨s.c.who.toArray⟩, .string ⟨s.c.b.1.toArray⟩, .string ⟨s.c.b.2.toArray⟩, .string ⟨s.c.c.1.toArray⟩, .string ⟨s.c.c.2.toArray⟩, .string ⟨s.c.w2.toArray⟩, .string ⟨s.f.1.1.toArray⟩, .string ⟨s.f.1.2.toArray⟩, .string ⟨s.f.2.toArray⟩] 43)) := (Chg.refl _ wr).alloc _
   obtain ⟨r0, r1, r2, r3, r4, r5, r6, r7, r8⟩ := (step_at_blk hSb).c
   simp only [Nat.zero_add] at r0 r1 r2 r3 r4 r5 r6 r7 r8
   have HO := hid (And.intro (World.ownsRow.alloc ho (.cells #[.int .i64 s.c.kind, .string ⟨s.c.head.1.toArray⟩, .string ⟨s.c.head.2.toArray⟩, .string ⟨s.c.who.toArray⟩, .string ⟨s.c.b.1.toArray⟩, .string ⟨s.c.b.2.toArray⟩, .string ⟨s.c.c.1.toArray⟩, .string ⟨s.c.c.2.toArray⟩, .string ⟨s.c.w2.toArray⟩, .string ⟨s.f.1.1.toArray⟩, .string ⟨s.f.1.2.toArray⟩, .string ⟨s.f.2.toArray⟩] 43)) (And.intro (hc1.trans hcA (fun _ _ h => h)) hc1.size))
   subst hao
   clear hSb hcA ho hc1 hout hss hD
   go_wp2_with (at_builtin; refine wpList_append_own_at _ rfl (.tmp 12) (.tmp 15) 22 rfl w.heap.size 36 i0 (.agg #[.int .i64 0, .string ⟨#[]⟩, .string ⟨#[]⟩, .string ⟨#[]⟩, .string ⟨#[]⟩, .string ⟨#[]⟩, .string ⟨#[]⟩, .string ⟨#[]⟩, .string ⟨#[]⟩]) 9 136 Try.underlying22 HI.out.1 HI.out.2.1 HI.out.2.2.1 HI.out.2.2.2 rfl (by decide) _ _ _ rfl (World.ownsRow.alloc HO.out.1 _) ⟨wr.heap.size + 1, 0, none⟩ 1 1 (credCells s.c) rfl rfl ?c1 ?c2 ?c3 ?c4 ?c5 ?_)
   case c1 =>
    intro j u hj
    have hq := cred_cells_new (wr.alloc (.cells #[.int .i64 s.c.kind, .string ⟨s.c.head.1.toArray⟩, .string ⟨s.c.head.2.toArray⟩, .string ⟨s.c.who.toArray⟩, .string ⟨s.c.b.1.toArray⟩, .string ⟨s.c.b.2.toArray⟩, .string ⟨s.c.c.1.toArray⟩, .string ⟨s.c.c.2.toArray⟩, .string ⟨s.c.w2.toArray⟩, .string ⟨s.f.1.1.toArray⟩, .string ⟨s.f.1.2.toArray⟩, .string ⟨s.f.2.toArray⟩] 43)) s.c j u hj
    rw [World.size_alloc] at hq
    exact hq
   case c2 => exact cred_one8 s.c
   case c3 => unfold maxLen; omega
   case c4 => omega
   case c5 => have := HO.out.2.2; simp; omega
   clear a0 a1 a2 a3 a4 a5 a6 a7 a8 b0 b1 b2 r0 r1 r2 r3 r4 r5 r6 r7 r8
   intro v' w3 hown hgrow _ _
   have ho2 : OwnC w.heap.size w3 v' (out ++ [s.c]) := by
    unfold OwnC
    rw [credRow_snoc, List.length_append]
    exact hown
   have hc7 : Chg (fun _ => False) w w3 := (HO.out.2.1.alloc _).grown hgrow (fun k e hk => by have := (ownsRow_lt HO.out.1 k e).1; omega)
   have hl : (out ++ [s.c]).length = out.length + 1 := by simp
   obtain ⟨zs, HZ⟩ : ∃ zs, Hid (zs = out ++ [s.c]) := ⟨_, hid rfl⟩
   rw [← HZ.out] at ho2 hl HT
   obtain ⟨ao5, cap5, hv5⟩ := ho2.shape
   subst hv5
   have HY := hid (And.intro ho2 hc7)
   clear hown hgrow ho2 hc7 HO HZ
   go_wp2
   go_roundw
   case rel => exact ⟨k + 1, zs, ao5, cap5, by have := HKL.out; omega, by go_num, rfl, HT, by omega, HY.out.1, HY.out.2⟩
   case measure => have := HKL.out; simp [intOf]; omega
  ·have hk2 : k = ls.length := by omega
   have hh : out = ls.map (·.c) := by have := hout.out; rwa [hk2, List.take_length] at this
   obtain ⟨ao6, cap6, he6, hst6, hz6⟩ := ho.creds (fun x hx => by
    rw [hh] at hx
    obtain ⟨s, hs, rfl⟩ := List.mem_map.1 hx
    exact (HSH.out s hs).1)
   injection he6 with e1 _ e3
   have hq := pcset (D := fun k => w.heap.size ≤ k ∧ k < wr.heap.size) ao' cap' out wr (by omega) (by rw [e1]; exact hst6) (fun i hi => hi.2) (by rw [e1, e3]; exact hz6)
   have HQ := hid hq
   have HC := hid hc1
   have HH := hid hh
   clear hq hc1 hk2 hout ho hst6 hz6 e1 e3 hh
   go_wp2_with fail
   refine HQ.out.mono ?_
   rintro e w5 ⟨o5, ao5, cap5, rfl, h1, h2, h3, h4⟩
   have HRES : Hid (UsedPost ls w (.returned (.slice ao5 o5.length cap5)) w5) := hid ⟨o5, ao5, cap5, rfl, by rw [← HH.out]; exact h1, h2.mono (fun i hi => ⟨Nat.le_trans HC.out.size hi.1, hi.2⟩), HC.out.trans h3 (fun _ _ h => h), h4⟩
   clear h1 h2 h3 h4 HQ
   obtain ⟨ol, hol5⟩ : ∃ ol, ol = o5.length := ⟨_, rfl⟩
   simp only [← hol5] at HRES ⊢
   go_wp2
   go_ret
   exact HRES.out

end Go.Proofs.Ytjaplnainlbldaa

/- Merge: the program's, and the document's. -/
namespace Go.Proofs.Ytjaplnainlbldaa
open Go.RowKit Go.Maps

/-- One step more, unless its fact was had. -/
def addSt (out : List StepB) (s : StepB) : List StepB := if s.f ∈ out.map (·.f) then out else out ++ [s]
def addsSt (out l : List StepB) : List StepB := l.foldl addSt out
/-- What chains are merged to. -/
def mergeL (lss : List (List StepB)) : List StepB := lss.foldl addsSt []
theorem addsSt_snoc (out l : List StepB) (s : StepB) : addsSt out (l ++ [s]) = addSt (addsSt out l) s := by simp [addsSt]
theorem mergeL_snoc (lss : List (List StepB)) (l : List StepB) : mergeL (lss ++ [l]) = addsSt (mergeL lss) l := by simp [mergeL]
theorem addSt_len (out : List StepB) (s : StepB) : (addSt out s).length ≤ out.length + 1 := by unfold addSt; split <;> simp
theorem addsSt_len (out l : List StepB) : (addsSt out l).length ≤ out.length + l.length := by
 induction l generalizing out with
 | nil => simp [addsSt]
 | cons s l ih =>
  have h1 := ih (addSt out s)
  have h2 := addSt_len out s
  have h3 : addsSt out (s :: l) = addsSt (addSt out s) l := rfl
  rw [h3, List.length_cons]
  omega
theorem mergeL_len (lss : List (List StepB)) : (mergeL lss).length ≤ (lss.map List.length).sum := by
 have key : ∀ (ls : List (List StepB)) (out : List StepB), (ls.foldl addsSt out).length ≤ out.length + (ls.map List.length).sum := by
  intro ls
  induction ls with
  | nil => simp
  | cons l ls ih =>
   intro out
   have h1 := ih (addsSt out l)
   have h2 := addsSt_len out l
   rw [List.foldl_cons, List.map_cons, List.sum_cons]
   omega
 have := key lss []
 simpa [mergeL] using this
/-- Rows of steps, in a row. -/
def RowsAt (D : Nat → Prop) (w : World) (ao : Option Addr) (lss : List (List StepB)) : Prop :=
 ∀ j (h : j < lss.length), ∃ b off ai ci, ao = some ⟨b, off, none⟩ ∧ D b ∧ w.cell? ⟨b, off + j, none⟩ = some (.slice ai (lss[j].length : Nat) ci) ∧ StepsAt D w ai lss[j] ∧ (ai = none → ci = 0)
theorem RowsAt.keep {S D : Nat → Prop} {w w' : World} {ao : Option Addr} {lss : List (List StepB)} (h : RowsAt D w ao lss) (hc : Chg S w w') (hS : ∀ i, D i → ¬ S i) : RowsAt D w' ao lss := fun j hj => by
 obtain ⟨b, off, ai, ci, h1, h2, h3, h4, h5⟩ := h j hj
 exact ⟨b, off, ai, ci, h1, h2, hc.cell h3 (hS b h2), h4.keep hc hS, h5⟩

/-- The map of the facts had. -/
def memF (out : List StepB) : FactB → Option Value := fun f => if f ∈ out.map (·.f) then some (.agg #[]) else none
theorem memF_snoc (out : List StepB) (s : StepB) : putF (memF out) s.f (.agg #[]) = memF (out ++ [s]) := by
 funext d
 unfold putF memF
 by_cases e : d = s.f
 ·rw [if_pos e, if_pos (by simp [e])]
 ·rw [if_neg e]
  by_cases h : d ∈ out.map (·.f)
  ·rw [if_pos h, if_pos (by simp only [List.map_append, List.mem_append]; exact .inl h)]
  ·rw [if_neg h, if_neg (by simp only [List.map_append, List.mem_append]; intro h2; rcases h2 with h2 | h2; exact h h2; simp at h2; exact e h2)]
theorem memF_some (out : List StepB) (f : FactB) : (memF out f).isSome = decide (f ∈ out.map (·.f)) := by
 unfold memF
 split <;> simp_all
theorem memF_val (out : List StepB) (f : FactB) : (memF out f).getD (.agg #[]) = .agg #[] := by unfold memF; split <;> rfl

theorem fZeroUn (w : World) : (zeroValue 99).run Try.prog w = .ok (.agg #[]) w := by kernel_rfl
theorem run_makeMapFs (w : World) : (Instr.makeMap 98 none).run Try.prog w = .ok (.map (some w.heap.size)) (w.alloc (.map #[] 0)) := by
 simp [Instr.makeMap, Result.andThen]

theorem wpList_append_run {P : Program} {w w' : World} {ops : Array Oper} {rest : List Oper} {o : Oper} {a : Act} {Q : Exit → Act → World → Prop} (hgd : o.guard = none) (s x : Operand) (t : TypeId)
  (ho : o.op = .call { callee := .builtin .append, args := #[s, x], argTypes := #[t, t] }) {v y v' : Value} (hs : a.eval s = v) (hx : a.eval x = y) (hr : (Builtin.append_ #[t, t] o.type #[v, y]).run P w = .ok v' w')
  (h : wpList P ops Q rest (a.put o.dst v') w') : wpList P ops Q (o :: rest) a w := by
 refine wpList_plain hgd fun K hK => ?_
 unfold Oper.wp execOp
 simp only [ho, resolve, invoke, builtin, Sem.run_bind, Sem.run_pure, Result.andThen_ok, List.map_toArray, List.map_cons, List.map_nil, hs, hx, hr]
 exact hK _ _ h

def MergePost (lss : List (List StepB)) (w : World) (e : Ending) (w' : World) : Prop :=
 ∃ v, e = .returned v ∧ OwnSt w.heap.size w' v (mergeL lss) ∧ Chg (fun _ => False) w w'

set_option maxRecDepth 100000 in
set_option maxHeartbeats 2000000 in
theorem ch_merge {D : Nat → Prop} (ao : Option Addr) (cp : Nat) (lss : List (List StepB)) (w : World) (hn : lss.length ≤ 1048576) (hs : (lss.map List.length).sum ≤ 1048576) (h : RowsAt D w ao lss) :
  Calls Try.prog 20 #[.slice ao lss.length cp] w (MergePost lss w) := by
 have HX := hid h
 have hmm := run_makeMapFs
 have hca : Chg (fun _ => False) w (w.alloc (.map #[] 0)) := (Chg.refl _ _).alloc _
 have HM := hid (And.intro ((kv_made ktF w).cong (F' := memF []) (fun c _ => by simp [memF])) hca)
 have HSUM := hid hs
 clear h hca hs
 go_enter Try.func20, Try.ntmps20
 go_wp2
 clear hmm
 generalize w.alloc (.map #[] 0) = w1 at *
 obtain ⟨mb, hmb⟩ : ∃ mb, w.heap.size = mb := ⟨_, rfl⟩
 have HMB := hid hmb
 have HM2 : Hid (KV ktF w1 mb 0 (memF []) ∧ Chg (fun _ => False) w w1) := hid (by rw [← hmb]; exact HM.out)
 rw [hmb]
 clear hmb HM
 go_loopw [3, 14] (fun v i wr => ∃ (j : Nat) (o : Value), j ≤ lss.length ∧ i = .int .i64 j ∧ v = o ∧ Hid (OwnSt w.heap.size wr o (mergeL (lss.take j)) ∧ KV ktF wr mb (mergeL (lss.take j)).length (memF (mergeL (lss.take j))) ∧ (o).ownBlock ≠ some mb ∧ Chg (fun _ => False) w wr)) (fun _ i _ => lss.length - (intOf i).toNat)
 case atStart => exact ⟨0, _, Nat.zero_le _, rfl, rfl, hid ⟨World.ownsRow_nil _ _ _ _, HM2.out.1, by simp [Value.ownBlock], HM2.out.2⟩⟩
 case round =>
  obtain ⟨j, o, hj, rfl, rfl, hrel⟩ := hrel
  by_cases hlt : j < lss.length
  ·obtain ⟨b, off, ai, ci, hao, hD, hcell0, hst, _⟩ := HX.out j hlt
   have hcell := hrel.out.2.2.2.cell hcell0 id
   have htk : mergeL (lss.take (j + 1)) = addsSt (mergeL (lss.take j)) lss[j] := by rw [List.take_succ_eq_append_getElem hlt, mergeL_snoc]
   have hsum : (mergeL (lss.take j)).length + lss[j].length ≤ 1048576 := by
    have h1 := mergeL_len (lss.take j)
    have h2 : ((lss.take (j + 1)).map List.length).sum ≤ (lss.map List.length).sum := by
     conv => rhs; rw [← List.take_append_drop (j + 1) lss]
     rw [List.map_append, List.sum_append]
     omega
    rw [List.take_succ_eq_append_getElem hlt, List.map_append, List.sum_append] at h2
    simp only [List.map_cons, List.map_nil, List.sum_cons, List.sum_nil] at h2
    have := HSUM.out
    omega
   generalize lss[j] = l at *
   have HTK := hid htk
   have HSM := hid hsum
   have HREL := hid hrel.out
   have HST := hid hst
   obtain ⟨O0, hO⟩ : ∃ O0, O0 = mergeL (lss.take j) := ⟨_, rfl⟩
   have HO := hid hO
   rw [← hO] at HREL HTK HSM
   subst hao
   clear htk hsum hrel hst hO hcell0
   go_wp2
   go_loopw [3, 20] (fun v i wr => ∃ (k : Nat) (o : Value), k ≤ l.length ∧ i = .int .i64 k ∧ v = o ∧ Hid (OwnSt w.heap.size wr o (addsSt O0 (l.take k)) ∧ KV ktF wr mb (addsSt O0 (l.take k)).length (memF (addsSt O0 (l.take k))) ∧ (o).ownBlock ≠ some mb ∧ Chg (fun _ => False) w wr)) (fun _ i _ => l.length - (intOf i).toNat)
   case atStart => exact ⟨0, _, Nat.zero_le _, rfl, rfl, hid HREL.out⟩
   case round =>
    obtain ⟨k, o2, hk, rfl, rfl, hin⟩ := hrel
    by_cases hlk : k < l.length
    ·obtain ⟨b2, off2, hao2, hD2, ⟨⟨a0, a1, a2, a3, a4, a5, a6, a7, a8⟩, ⟨c0, c1, c2⟩⟩, hss⟩ := (HST.out.keep hin.out.2.2.2 (fun _ _ => id)) k hlk
     change World.cell? _ ⟨b2, off2 + k * 12 + 10, none⟩ = _ at c1
     change World.cell? _ ⟨b2, off2 + k * 12 + 11, none⟩ = _ at c2
     have HTL : Hid (addsSt O0 (l.take (k + 1)) = addSt (addsSt O0 (l.take k)) l[k]) := hid (by rw [List.take_succ_eq_append_getElem hlk, addsSt_snoc])
     generalize l[k] = s at *
     have hkb : k < 1048576 := by have := HSM.out; omega
     have hal : Chg (fun _ => False) wr (wr.alloc (.cells #[.int .i64 s.c.kind, .string ⟨s.c.head.1.toArray⟩, .string ⟨s.c.head.2.toArray⟩, .string ⟨s.c.who.toArray⟩, .string ⟨s.c.b.1.toArray⟩, .string ⟨s.c.b.2.toArray⟩, .string ⟨s.c.c.1.toArray⟩, .string ⟨s.c.c.2.toArray⟩, .string ⟨s.c.w2.toArray⟩, .string ⟨s.f.1.1.toArray⟩, .string ⟨s.f.1.2.toArray⟩, .string ⟨s.f.2.toArray⟩] 43)) := (Chg.refl _ _).alloc _
     have hSb : (wr.alloc (.cells #[.int .i64 s.c.kind, .string ⟨s.c.head.1.toArray⟩, .string ⟨s.c.head.2.toArray⟩, .string ⟨s.c.who.toArray⟩, .string ⟨s.c.b.1.toArray⟩, .string ⟨s.c.b.2.toArray⟩, .string ⟨s.c.c.1.toArray⟩, .string ⟨s.c.c.2.toArray⟩, .string ⟨s.c.w2.toArray⟩, .string ⟨s.f.1.1.toArray⟩, .string ⟨s.f.1.2.toArray⟩, .string ⟨s.f.2.toArray⟩] 43)).heap[wr.heap.size]? = some (.cells (stepBox s) 43 (0, 0)) := heap_alloc_new wr _
     obtain ⟨⟨r0, r1, r2, r3, r4, r5, r6, r7, r8⟩, ⟨r9, r10, r11⟩⟩ := step_at_blk hSb
     change World.cell? _ ⟨wr.heap.size, 0 + 10, none⟩ = _ at r10
     change World.cell? _ ⟨wr.heap.size, 0 + 11, none⟩ = _ at r11
     simp only [Nat.zero_add] at r0 r1 r2 r3 r4 r5 r6 r7 r8 r9 r10 r11
     have hal2 : Chg (fun _ => False) wr ((wr.alloc (.cells #[.int .i64 s.c.kind, .string ⟨s.c.head.1.toArray⟩, .string ⟨s.c.head.2.toArray⟩, .string ⟨s.c.who.toArray⟩, .string ⟨s.c.b.1.toArray⟩, .string ⟨s.c.b.2.toArray⟩, .string ⟨s.c.c.1.toArray⟩, .string ⟨s.c.c.2.toArray⟩, .string ⟨s.c.w2.toArray⟩, .string ⟨s.f.1.1.toArray⟩, .string ⟨s.f.1.2.toArray⟩, .string ⟨s.f.2.toArray⟩] 43)).alloc (.cells #[] 99)) := hal.alloc _
     have hlook1 := (hin.out.2.1.keep hal id).look_ok (t := 98) (e := 99) Try.underlying98 (fZeroUn _) (a := s.f) hss.2
     have hlook2 := (hin.out.2.1.keep hal2 id).look_ok (t := 98) (e := 99) Try.underlying98 (fZeroUn _) (a := s.f) hss.2
     rw [memF_some, memF_val] at hlook1 hlook2
     obtain ⟨had, hhad⟩ : ∃ had, had = decide (s.f ∈ (addsSt O0 (l.take k)).map (·.f)) := ⟨_, rfl⟩
     rw [← hhad] at hlook1 hlook2
     have hl1 : (Instr.lookup 98 (.map (some mb)) (.agg #[.string ⟨s.f.1.1.toArray⟩, .string ⟨s.f.1.2.toArray⟩, .string ⟨s.f.2.toArray⟩]) true).run Try.prog (wr.alloc (.cells #[.int .i64 s.c.kind, .string ⟨s.c.head.1.toArray⟩, .string ⟨s.c.head.2.toArray⟩, .string ⟨s.c.who.toArray⟩, .string ⟨s.c.b.1.toArray⟩, .string ⟨s.c.b.2.toArray⟩, .string ⟨s.c.c.1.toArray⟩, .string ⟨s.c.c.2.toArray⟩, .string ⟨s.c.w2.toArray⟩, .string ⟨s.f.1.1.toArray⟩, .string ⟨s.f.1.2.toArray⟩, .string ⟨s.f.2.toArray⟩] 43)) = .ok (.tuple #[.agg #[], .bool had]) (wr.alloc (.cells #[.int .i64 s.c.kind, .string ⟨s.c.head.1.toArray⟩, .string ⟨s.c.head.2.toArray⟩, .string ⟨s.c.who.toArray⟩, .string ⟨s.c.b.1.toArray⟩, .string ⟨s.c.b.2.toArray⟩, .string ⟨s.c.c.1.toArray⟩, .string ⟨s.c.c.2.toArray⟩, .string ⟨s.c.w2.toArray⟩, .string ⟨s.f.1.1.toArray⟩, .string ⟨s.f.1.2.toArray⟩, .string ⟨s.f.2.toArray⟩] 43)) := hlook1
     have hl2 : (Instr.lookup 98 (.map (some mb)) (.agg #[.string ⟨s.f.1.1.toArray⟩, .string ⟨s.f.1.2.toArray⟩, .string ⟨s.f.2.toArray⟩]) true).run Try.prog ((wr.alloc (.cells #[.int .i64 s.c.kind, .string ⟨s.c.head.1.toArray⟩, .string ⟨s.c.head.2.toArray⟩, .string ⟨s.c.who.toArray⟩, .string ⟨s.c.b.1.toArray⟩, .string ⟨s.c.b.2.toArray⟩, .string ⟨s.c.c.1.toArray⟩, .string ⟨s.c.c.2.toArray⟩, .string ⟨s.c.w2.toArray⟩, .string ⟨s.f.1.1.toArray⟩, .string ⟨s.f.1.2.toArray⟩, .string ⟨s.f.2.toArray⟩] 43)).alloc (.cells #[] 99)) = .ok (.tuple #[.agg #[], .bool had]) ((wr.alloc (.cells #[.int .i64 s.c.kind, .string ⟨s.c.head.1.toArray⟩, .string ⟨s.c.head.2.toArray⟩, .string ⟨s.c.who.toArray⟩, .string ⟨s.c.b.1.toArray⟩, .string ⟨s.c.b.2.toArray⟩, .string ⟨s.c.c.1.toArray⟩, .string ⟨s.c.c.2.toArray⟩, .string ⟨s.c.w2.toArray⟩, .string ⟨s.f.1.1.toArray⟩, .string ⟨s.f.1.2.toArray⟩, .string ⟨s.f.2.toArray⟩] 43)).alloc (.cells #[] 99)) := hlook2
     have HAD := hid hhad
     have HAL := hid (And.intro hal hal2)
     have HIN := hid (And.intro hin.out hss)
     have HSB := hid hSb
     subst hao2
     clear hlook1 hlook2 hhad hal hal2 hin hss hSb
     cases had with
     | true =>
      have hin2 : s.f ∈ (addsSt O0 (l.take k)).map (·.f) := by have := HAD.out; simpa using this.symm
      have HNX : Hid (OwnSt w.heap.size wr u3 (addsSt O0 (l.take (k + 1))) ∧ KV ktF wr mb (addsSt O0 (l.take (k + 1))).length (memF (addsSt O0 (l.take (k + 1)))) ∧ (u3).ownBlock ≠ some mb ∧ Chg (fun _ => False) w wr) := hid (by
       rw [HTL.out, addSt, if_pos hin2]
       exact HIN.out.1)
      have HHX : Hid (OwnSt w.heap.size ((wr.alloc (.cells #[.int .i64 s.c.kind, .string ⟨s.c.head.1.toArray⟩, .string ⟨s.c.head.2.toArray⟩, .string ⟨s.c.who.toArray⟩, .string ⟨s.c.b.1.toArray⟩, .string ⟨s.c.b.2.toArray⟩, .string ⟨s.c.c.1.toArray⟩, .string ⟨s.c.c.2.toArray⟩, .string ⟨s.c.w2.toArray⟩, .string ⟨s.f.1.1.toArray⟩, .string ⟨s.f.1.2.toArray⟩, .string ⟨s.f.2.toArray⟩] 43)).alloc (.cells #[] 99)) u3 (addsSt O0 (l.take (k + 1))) ∧ KV ktF ((wr.alloc (.cells #[.int .i64 s.c.kind, .string ⟨s.c.head.1.toArray⟩, .string ⟨s.c.head.2.toArray⟩, .string ⟨s.c.who.toArray⟩, .string ⟨s.c.b.1.toArray⟩, .string ⟨s.c.b.2.toArray⟩, .string ⟨s.c.c.1.toArray⟩, .string ⟨s.c.c.2.toArray⟩, .string ⟨s.c.w2.toArray⟩, .string ⟨s.f.1.1.toArray⟩, .string ⟨s.f.1.2.toArray⟩, .string ⟨s.f.2.toArray⟩] 43)).alloc (.cells #[] 99)) mb (addsSt O0 (l.take (k + 1))).length (memF (addsSt O0 (l.take (k + 1)))) ∧ (u3).ownBlock ≠ some mb ∧ Chg (fun _ => False) w ((wr.alloc (.cells #[.int .i64 s.c.kind, .string ⟨s.c.head.1.toArray⟩, .string ⟨s.c.head.2.toArray⟩, .string ⟨s.c.who.toArray⟩, .string ⟨s.c.b.1.toArray⟩, .string ⟨s.c.b.2.toArray⟩, .string ⟨s.c.c.1.toArray⟩, .string ⟨s.c.c.2.toArray⟩, .string ⟨s.c.w2.toArray⟩, .string ⟨s.f.1.1.toArray⟩, .string ⟨s.f.1.2.toArray⟩, .string ⟨s.f.2.toArray⟩] 43)).alloc (.cells #[] 99))) := hid ⟨HNX.out.1.keep HAL.out.2 (fun _ _ => id), HNX.out.2.1.keep HAL.out.2 id, HNX.out.2.2.1, HNX.out.2.2.2.trans HAL.out.2 (fun _ _ h => h)⟩
      have HKL := hid hlk
      clear hin2
      go_wp2
      go_roundw
      case rel => exact ⟨k + 1, u3, HKL.out, by go_num, rfl, HHX⟩
      case measure => have := HKL.out; simp [intOf]; omega
     | false =>
      have hno : ¬ s.f ∈ (addsSt O0 (l.take k)).map (·.f) := by have := HAD.out; simpa using this.symm
      have hlen : (addsSt O0 (l.take k)).length ≤ 1048576 := by
       have h1 := addsSt_len O0 (l.take k)
       have h2 : (l.take k).length ≤ k := List.length_take_le _ _
       have := HSM.out
       omega
      obtain ⟨w3, hset0, hkv3, hc3, hsz3⟩ := (HIN.out.1.2.1.keep HAL.out.2 id).set (t := 98) (e := 99) Try.underlying98 (by omega) (a := s.f) HIN.out.2.2 (.agg #[])
      have hset : (Instr.mapUpdate 98 (.map (some mb)) (.agg #[.string ⟨s.f.1.1.toArray⟩, .string ⟨s.f.1.2.toArray⟩, .string ⟨s.f.2.toArray⟩]) (.agg #[])).run Try.prog ((wr.alloc (.cells #[.int .i64 s.c.kind, .string ⟨s.c.head.1.toArray⟩, .string ⟨s.c.head.2.toArray⟩, .string ⟨s.c.who.toArray⟩, .string ⟨s.c.b.1.toArray⟩, .string ⟨s.c.b.2.toArray⟩, .string ⟨s.c.c.1.toArray⟩, .string ⟨s.c.c.2.toArray⟩, .string ⟨s.c.w2.toArray⟩, .string ⟨s.f.1.1.toArray⟩, .string ⟨s.f.1.2.toArray⟩, .string ⟨s.f.2.toArray⟩] 43)).alloc (.cells #[] 99)) = .ok () w3 := hset0
      have hmlt := HIN.out.1.2.1.lt
      have hmb := HMB.out
      have ho3 := (HIN.out.1.1.keep HAL.out.2 (fun _ _ => id)).keep hc3 (fun b hb h => HIN.out.1.2.2.1 (by rw [hb, h]))
      have hb3 := blk_keep (blk_keep HSB.out ((Chg.refl (fun _ => False) _).alloc (.cells #[] 99)) id) hc3 (fun h => by omega)
      have hc03 : Chg (fun _ => False) w w3 := (HIN.out.1.2.2.2.trans HAL.out.2 (fun _ _ h => h)).trans hc3 (fun i hi h => by omega)
      have ho4 := ho3.keep ((Chg.refl (fun _ => False) w3).alloc (.cells #[.int .i64 s.c.kind, .string ⟨s.c.head.1.toArray⟩, .string ⟨s.c.head.2.toArray⟩, .string ⟨s.c.who.toArray⟩, .string ⟨s.c.b.1.toArray⟩, .string ⟨s.c.b.2.toArray⟩, .string ⟨s.c.c.1.toArray⟩, .string ⟨s.c.c.2.toArray⟩, .string ⟨s.c.w2.toArray⟩, .string ⟨s.f.1.1.toArray⟩, .string ⟨s.f.1.2.toArray⟩, .string ⟨s.f.2.toArray⟩] 43)) (fun _ _ => id)
      obtain ⟨v5, w5, hap0, ho5, hc5, hbb⟩ := run_append_step 29 ho4 (heap_alloc_new w3 (.cells #[.int .i64 s.c.kind, .string ⟨s.c.head.1.toArray⟩, .string ⟨s.c.head.2.toArray⟩, .string ⟨s.c.who.toArray⟩, .string ⟨s.c.b.1.toArray⟩, .string ⟨s.c.b.2.toArray⟩, .string ⟨s.c.c.1.toArray⟩, .string ⟨s.c.c.2.toArray⟩, .string ⟨s.c.w2.toArray⟩, .string ⟨s.f.1.1.toArray⟩, .string ⟨s.f.1.2.toArray⟩, .string ⟨s.f.2.toArray⟩] 43)) (by omega) (by have := hc03.size; have := ((Chg.refl (fun _ => False) w3).alloc (.cells #[.int .i64 s.c.kind, .string ⟨s.c.head.1.toArray⟩, .string ⟨s.c.head.2.toArray⟩, .string ⟨s.c.who.toArray⟩, .string ⟨s.c.b.1.toArray⟩, .string ⟨s.c.b.2.toArray⟩, .string ⟨s.c.c.1.toArray⟩, .string ⟨s.c.c.2.toArray⟩, .string ⟨s.c.w2.toArray⟩, .string ⟨s.f.1.1.toArray⟩, .string ⟨s.f.1.2.toArray⟩, .string ⟨s.f.2.toArray⟩] 43)).size; omega)
      have hap : (Builtin.append_ #[29, 29] 29 #[u3, .slice (some ⟨w3.heap.size, 0, none⟩) 1 1]).run Try.prog (w3.alloc (.cells #[.int .i64 s.c.kind, .string ⟨s.c.head.1.toArray⟩, .string ⟨s.c.head.2.toArray⟩, .string ⟨s.c.who.toArray⟩, .string ⟨s.c.b.1.toArray⟩, .string ⟨s.c.b.2.toArray⟩, .string ⟨s.c.c.1.toArray⟩, .string ⟨s.c.c.2.toArray⟩, .string ⟨s.c.w2.toArray⟩, .string ⟨s.f.1.1.toArray⟩, .string ⟨s.f.1.2.toArray⟩, .string ⟨s.f.2.toArray⟩] 43)) = .ok v5 w5 := hap0
      have hkv4 := hkv3.keep ((Chg.refl (fun _ => False) w3).alloc (.cells #[.int .i64 s.c.kind, .string ⟨s.c.head.1.toArray⟩, .string ⟨s.c.head.2.toArray⟩, .string ⟨s.c.who.toArray⟩, .string ⟨s.c.b.1.toArray⟩, .string ⟨s.c.b.2.toArray⟩, .string ⟨s.c.c.1.toArray⟩, .string ⟨s.c.c.2.toArray⟩, .string ⟨s.c.w2.toArray⟩, .string ⟨s.f.1.1.toArray⟩, .string ⟨s.f.1.2.toArray⟩, .string ⟨s.f.2.toArray⟩] 43)) id
      have HHX : Hid (OwnSt w.heap.size w5 v5 (addsSt O0 (l.take (k + 1))) ∧ KV ktF w5 mb (addsSt O0 (l.take (k + 1))).length (memF (addsSt O0 (l.take (k + 1)))) ∧ (v5).ownBlock ≠ some mb ∧ Chg (fun _ => False) w w5) := hid (by
       have hmw : mb < w3.heap.size := hkv3.lt
       have hsz4 := ((Chg.refl (fun _ => False) w3).alloc (.cells #[.int .i64 s.c.kind, .string ⟨s.c.head.1.toArray⟩, .string ⟨s.c.head.2.toArray⟩, .string ⟨s.c.who.toArray⟩, .string ⟨s.c.b.1.toArray⟩, .string ⟨s.c.b.2.toArray⟩, .string ⟨s.c.c.1.toArray⟩, .string ⟨s.c.c.2.toArray⟩, .string ⟨s.c.w2.toArray⟩, .string ⟨s.f.1.1.toArray⟩, .string ⟨s.f.1.2.toArray⟩, .string ⟨s.f.2.toArray⟩] 43)).size
       have hblt : ∀ b, u3.ownBlock = some b → w.heap.size ≤ b := fun b hb => (ho4.blt hb).1
       rw [HTL.out, addSt, if_neg hno, ← memF_snoc]
       refine ⟨ho5, ?_, fun h => ?_, (hc03.alloc _).trans hc5 (fun i hi h => by have := hblt i h; omega)⟩
       ·rw [List.length_append]
        exact hkv4.keep hc5 (fun h => HIN.out.1.2.2.1 h)
       ·rcases hbb with h1 | h1
        ·rw [h1] at h
         exact HIN.out.1.2.2.1 h
        ·rw [h1] at h
         injection h with h
         omega)
      obtain ⟨⟨q0, q1, q2, q3, q4, q5, q6, q7, q8⟩, ⟨q9, q10, q11⟩⟩ := step_at_blk hb3
      change World.cell? _ ⟨wr.heap.size, 0 + 10, none⟩ = _ at q10
      change World.cell? _ ⟨wr.heap.size, 0 + 11, none⟩ = _ at q11
      simp only [Nat.zero_add] at q0 q1 q2 q3 q4 q5 q6 q7 q8 q9 q10 q11
      have HKL := hid hlk
      clear hset0 hap0 hkv3 hkv4 hc3 hsz3 hmlt hmb ho3 hb3 hc03 ho4 ho5 hc5 hbb hno hlen HTL
      go_wp2_with (at_builtin; refine wpList_append_run rfl (.tmp 36) (.tmp 38) 29 rfl rfl rfl hap ?_)
      go_roundw
      case rel => exact ⟨k + 1, v5, HKL.out, by go_num, rfl, HHX⟩
      case measure => have := HKL.out; simp [intOf]; omega
    ·have hke : k = l.length := by omega
     have HHX : Hid (OwnSt w.heap.size wr u3 (mergeL (lss.take (j + 1))) ∧ KV ktF wr mb (mergeL (lss.take (j + 1))).length (memF (mergeL (lss.take (j + 1)))) ∧ (u3).ownBlock ≠ some mb ∧ Chg (fun _ => False) w wr) := hid (by
      have h1 := hin.out
      rw [hke, List.take_length] at h1
      rw [HTK.out]
      exact h1)
     have HLT := hid hlt
     clear hin hke
     go_wp2
     go_roundw
     case rel => exact ⟨j + 1, _, HLT.out, by go_num, rfl, HHX⟩
     case measure => have := HLT.out; simp [intOf]; omega
  ·have hje : j = lss.length := by omega
   have h1 := hrel.out
   rw [hje, List.take_length] at h1
   have HP := hid (show MergePost lss w (.returned u3) wr from ⟨_, rfl, h1.1, h1.2.2.2⟩)
   clear hrel h1 hje
   go_wp2
   go_ret
   exact HP.out
end Go.Proofs.Ytjaplnainlbldaa

/- How great credentials are: the contract of the law's Great. -/
namespace Go.Proofs.Ytjaplnainlbldaa
open Go.RowKit

/-- How great credentials are. -/
def sizeC (c : CredB) : Nat := 20 + c.head.1.length + c.head.2.length + c.who.length + c.b.1.length + c.b.2.length + c.c.1.length + c.c.2.length + c.w2.length
def totalC : List CredB → Nat
 | [] => 0
 | c :: l => sizeC c + totalC l

theorem totalC_append (a b : List CredB) : totalC (a ++ b) = totalC a + totalC b := by
 induction a with
 | nil => simp [totalC]
 | cons x l ih => rw [List.cons_append, totalC, totalC, ih]; omega

theorem totalC_len (a : List CredB) : a.length ≤ totalC a := by
 induction a with
 | nil => simp [totalC]
 | cons x l ih => rw [totalC, List.length_cons, sizeC]; omega

theorem totalC_mem {a : List CredB} {x : CredB} (h : x ∈ a) : sizeC x ≤ totalC a := by
 induction a with
 | nil => simp at h
 | cons y l ih =>
  rw [totalC]
  rcases List.mem_cons.1 h with rfl | h
  ·omega
  ·have := ih h; omega

theorem totalC_take (ls : List CredB) (k : Nat) (h : k < ls.length) : totalC (ls.take (k + 1)) = totalC (ls.take k) + sizeC ls[k] := by
 rw [List.take_succ_eq_append_getElem h, totalC_append]; simp [totalC]

theorem totalC_take_le (ls : List CredB) (k : Nat) : totalC (ls.take k) ≤ totalC ls := by
 conv => rhs; rw [← List.take_append_drop k ls]
 rw [totalC_append]; omega

theorem sizeC_short {c : CredB} {n : Nat} (h : sizeC c ≤ n) : credShort c n := by
 unfold sizeC at h
 exact ⟨by omega, by omega, by omega, by omega, by omega, by omega, by omega, by omega⟩

set_option maxRecDepth 100000 in
set_option maxHeartbeats 2000000 in
theorem great_any {D : Nat → Prop} (ao : Option Addr) (cp : Nat) (ls : List CredB) (w : World) (hn : totalC ls ≤ 4503599627370496) (h : CredsAt D w ao ls) :
  Calls Try.prog 8 #[.slice ao ls.length cp] w fun e w' => e = .returned (.int .i64 (totalC ls)) ∧ Chg (fun _ => False) w w' := by
 have hl := totalC_len ls
 go_enter Try.func8, Try.ntmps8
 go_wp2
 go_loopw [3, 8] (fun n i wr => ∃ k m : Nat, k ≤ ls.length ∧ i = .int .i64 k ∧ n = .int .i64 m ∧ Hid (m = totalC (ls.take k)) ∧ m ≤ 4503599627370496 ∧ Chg (fun _ => False) w wr) (fun _ i _ => ls.length - (intOf i).toNat)
 case atStart => exact ⟨0, 0, Nat.zero_le _, rfl, rfl, rfl, by omega, Chg.refl _ _⟩
 case round =>
  obtain ⟨k, m, hk, rfl, rfl, hm, hml, hc⟩ := hrel
  by_cases hlt : k < ls.length
  ·obtain ⟨b, off, rfl, _, hat, hs⟩ := (h.keep hc (fun _ _ => id)) k hlt
   have ht := totalC_take ls k hlt
   have hle := totalC_take_le ls (k + 1)
   rw [ht, ← hm.out] at hle
   have hx : Hid (m + sizeC ls[k] = totalC (ls.take (k + 1))) := hid (by rw [ht, hm.out])
   clear h ht
   have hsl2 : m + sizeC ls[k] ≤ 4503599627370496 := by omega
   clear hle
   generalize ls[k] = s at *
   obtain ⟨kk, ⟨ho, hw⟩, who, ⟨bo, bw⟩, ⟨co, cw⟩, w2⟩ := s
   obtain ⟨a0, a1, a2, a3, a4, a5, a6, a7, a8⟩ := hat
   obtain ⟨s1, s2, s3, s4, s5, s6, s7, s8⟩ := hs
   simp only [sizeC] at a0 a1 a2 a3 a4 a5 a6 a7 a8 s1 s2 s3 s4 s5 s6 s7 s8 hx hsl2
   have HC := hid hc
   clear hc
   go_wp2
   go_roundw
   case rel => exact ⟨k + 1, m + (20 + ho.length + hw.length + who.length + bo.length + bw.length + co.length + cw.length + w2.length), by omega, by go_num, by go_num, hx, hsl2, HC.out.alloc _⟩
   case measure => simp [intOf]; omega
  ·have hk2 : k = ls.length := by omega
   have hx : m = totalC ls := by have := hm.out; rwa [List.take_of_length_le (by omega)] at this
   subst hx
   have HC := hid hc
   clear h hc
   go_wp2
   go_ret
   exact ⟨rfl, HC.out⟩

end Go.Proofs.Ytjaplnainlbldaa

/- The contract of the document's Has of layer 5. -/
namespace Go.Proofs.Ytjaplnainlbldaa
open Go.RowKit

set_option maxRecDepth 100000 in
set_option maxHeartbeats 2000000 in
theorem chas_ref {D : Nat → Prop} (ao : Option Addr) (cp : Nat) (ls : List CredB) (c : CredB) (w : World) (hn : ls.length ≤ 9223372036854775807) (h : CredsAt D w ao ls) :
  Calls Try.prog 43 #[.slice ao ls.length cp, credV c] w fun e w' => e = .returned (.bool (hasC ls c)) ∧ Chg (fun _ => False) w w' := by
 have hc : Chg (fun _ => False) w (w.alloc (.cells (credBox c) 36)) := (Chg.refl _ w).alloc _
 have hA := heap_alloc_new w (.cells (credBox c) 36)
 have h' := h.keep hc (fun _ _ => id)
 obtain ⟨k', ⟨ho', hw'⟩, who', ⟨bo', bw'⟩, ⟨co', cw'⟩, w2'⟩ := c
 show Calls Try.prog 43 #[.slice ao ls.length cp, .agg #[.int .i64 k', .string ⟨ho'.toArray⟩, .string ⟨hw'.toArray⟩, .string ⟨who'.toArray⟩, .string ⟨bo'.toArray⟩, .string ⟨bw'.toArray⟩, .string ⟨co'.toArray⟩, .string ⟨cw'.toArray⟩, .string ⟨w2'.toArray⟩]] w _
 simp only [credBox] at hc hA h'
 go_enter Try.func43, Try.ntmps43
 go_wp2
 generalize hw1 : w.alloc (.cells #[.int .i64 k', .string ⟨ho'.toArray⟩, .string ⟨hw'.toArray⟩, .string ⟨who'.toArray⟩, .string ⟨bo'.toArray⟩, .string ⟨bw'.toArray⟩, .string ⟨co'.toArray⟩, .string ⟨cw'.toArray⟩, .string ⟨w2'.toArray⟩] 36) = w1 at *
 generalize w.heap.size = A at *
 clear h hw1
 go_loopw [9] (fun i wr => ∃ k : Nat, k ≤ ls.length ∧ i = .int .i64 k ∧ Hid (hasC (ls.take k) ⟨k', (ho', hw'), who', (bo', bw'), (co', cw'), w2'⟩ = false) ∧ Chg (fun _ => False) w1 wr) (fun i _ => ls.length - (intOf i).toNat)
 case atStart => exact ⟨0, Nat.zero_le _, rfl, by rw [List.take_zero]; rfl, Chg.refl _ _⟩
 case round =>
  obtain ⟨k, hk, rfl, hf, hc1⟩ := hrel
  have hA1 := cred_at_blk (c := ⟨k', (ho', hw'), who', (bo', bw'), (co', cw'), w2'⟩) (blk_keep hA hc1 id)
  by_cases hlt : k < ls.length
  ·obtain ⟨b, off, rfl, _, hat, _⟩ := (h'.keep hc1 (fun _ _ => id)) k hlt
   have HFT := hid (hasC_take ls _ k hlt hf.out)
   clear h'
   have hmem : Hid (ls[k] ∈ ls) := hid (List.getElem_mem hlt)
   generalize ls[k] = q at *
   by_cases e : q = ⟨k', (ho', hw'), who', (bo', bw'), (co', cw'), w2'⟩
   ·subst e
    have hh : Hid (hasC ls ⟨k', (ho', hw'), who', (bo', bw'), (co', cw'), w2'⟩ = true) := hid (by simpa [hasC] using hmem.out)
    have hal : Chg (fun _ => False) wr (wr.alloc (.cells (credBox ⟨k', (ho', hw'), who', (bo', bw'), (co', cw'), w2'⟩) 36)) := (Chg.refl _ wr).alloc _
    have hA2 := hA1.keep hal id
    obtain ⟨a0, a1, a2, a3, a4, a5, a6, a7, a8⟩ := hat
    obtain ⟨b0, b1, b2, b3, b4, b5, b6, b7, b8⟩ := hA2
    simp only [Nat.zero_add, credBox] at b0 b1 b2 b3 b4 b5 b6 b7 b8 a0 a1 a2 a3 a4 a5 a6 a7 a8
    have HC := hid (hc.trans (hc1.trans hal (fun _ _ h => h)) (fun _ _ h => h))
    clear hc hc1 hA hA1 hal HFT hf
    go_wp2
    go_ret
    exact ⟨by rw [hh.out]; rfl, HC.out⟩
   ·have hx := hid (HFT.out e)
    obtain ⟨k0, ⟨ho, hw⟩, who, ⟨bo, bw⟩, ⟨co, cw⟩, w2⟩ := q
    have hal : Chg (fun _ => False) wr (wr.alloc (.cells (credBox ⟨k0, (ho, hw), who, (bo, bw), (co, cw), w2⟩) 36)) := (Chg.refl _ wr).alloc _
    have hA2 := hA1.keep hal id
    obtain ⟨a0, a1, a2, a3, a4, a5, a6, a7, a8⟩ := hat
    obtain ⟨b0, b1, b2, b3, b4, b5, b6, b7, b8⟩ := hA2
    simp only [Nat.zero_add, credBox] at b0 b1 b2 b3 b4 b5 b6 b7 b8 a0 a1 a2 a3 a4 a5 a6 a7 a8
    have HC := hid hc1
    have HE := hid e
    clear hc hc1 hA hA1 hal HFT hf e hmem
    go_wp2
    all_goals first
     | (refine (HE.out ?_).elim; simp only [CredB.mk.injEq, Prod.mk.injEq]; refine ⟨?_, ⟨?_, ?_⟩, ?_, ⟨?_, ?_⟩, ⟨?_, ?_⟩, ?_⟩ <;> assumption)
     | (go_roundw <;> first | exact ⟨k + 1, by omega, by go_num, hx, HC.out.alloc _⟩ | (simp [intOf]; omega))
  ·have hk2 : k = ls.length := by omega
   have hh : Hid (hasC ls ⟨k', (ho', hw'), who', (bo', bw'), (co', cw'), w2'⟩ = false) := by have := hf.out; rwa [List.take_of_length_le (by omega)] at this
   have HC := hid (hc.trans hc1 (fun _ _ h => h))
   clear h' hc hc1 hA hA1
   go_wp2
   go_ret
   exact ⟨by rw [hh.out]; rfl, HC.out⟩
end Go.Proofs.Ytjaplnainlbldaa
