/- Texts that the proof leans on, in one: PbNum, PbApp, Enters. -/
import Derived.Test.YtojbhlbknjnioaaGreatDoorPa10
import Derived.Test.YtojbhlbknjnioaaGreatDoorPa12
import Derived.Test.YtojbhlbknjnioaaGreatDoorPa1
import Derived.Test.YtojbhlbknjnioaaGreatDoorPa7
import Derived.Maps.AppendAt
/- parse.number, parse.atom. -/
namespace Go.Proofs.YtojbhlbknjnioaaGreatDoor
open Go.RowKit

/-- strconv's two errors lie where they were laid. -/
structure VarsAt (w : World) : Prop where
  a : ∃ ev, w.cell? ⟨4, 0, none⟩ = some ev ∧ (ev = .nilIface ∨ ∃ te pe, ev = .iface te pe)
  b : ∃ ev, w.cell? ⟨5, 0, none⟩ = some ev ∧ (ev = .nilIface ∨ ∃ te pe, ev = .iface te pe)
/-- No variable's block. -/
def OffV (S : Nat → Prop) : Prop := ¬ S 4 ∧ ¬ S 5
theorem VarsAt.keep {S : Nat → Prop} {w w' : World} (h : VarsAt w) (hc : Chg S w w') (hS : OffV S) : VarsAt w' := by
  obtain ⟨⟨e1, a1, a2⟩, e2, b1, b2⟩ := h
  exact ⟨⟨e1, hc.cell a1 hS.1, a2⟩, e2, hc.cell b1 hS.2, b2⟩

/-- How strconv.Atoi ends: a number, or an error. -/
theorem patoi (k : Tok) (hl : k.length ≤ 2048) (w : World) (hv : VarsAt w) :
    Calls Tryz.prog 82 #[.string ⟨k.toArray⟩] w fun e w' => Chg (fun _ => False) w w' ∧ ((∃ v, Lib.atoiAll k = .ok v ∧ e = .returned (.tuple #[.int .i64 v, .nilIface])) ∨ ((∀ v, Lib.atoiAll k ≠ .ok v) ∧ ∃ x T p, e = .returned (.tuple #[.int .i64 x, .iface T (.pointer (some p))]))) := by
  obtain ⟨⟨e1, a1, a2⟩, e2, b1, b2⟩ := hv
  cases h : Lib.atoiAll k with
  | ok v =>
    refine (Tryz.strconv_Atoi_ok ⟨k.toArray⟩ (by simp [ByteArray.size]; omega) v (by simpa using h) w).mono ?_
    rintro e w' ⟨rfl, hw⟩
    refine ⟨?_, .inl ⟨v, rfl, rfl⟩⟩
    rcases hw with rfl | ⟨t, rfl⟩
    · exact Chg.refl _ _
    · exact chg_of_below (Lib.bytesWorld_below _ _ _)
  | «syntax» =>
    refine (Tryz.strconv_Atoi_syntax ⟨k.toArray⟩ (by simp [ByteArray.size]; omega) (by simpa using h) e1 w a1 a2).mono ?_
    rintro e w' ⟨N, rfl, _, _, hb⟩
    exact ⟨chg_of_below hb, .inr ⟨fun v e => (by cases e), _, _, _, rfl⟩⟩
  | range =>
    refine (Tryz.strconv_Atoi_range ⟨k.toArray⟩ (by simp [ByteArray.size]; omega) (by simpa using h) e2 w b1 b2).mono ?_
    rintro e w' ⟨N, rfl, _, _, hb⟩
    exact ⟨chg_of_below hb, .inr ⟨fun v e => (by cases e), _, _, _, rfl⟩⟩

def NumE (k : Tok) (e : Ending) : Prop := match numW k with | some x => e = .returned (.int .i64 x) | none => FaultE e
theorem NumE.no {k : Tok} {e : Ending} (h : numW k = none) (he : FaultE e) : NumE k e := by unfold NumE; rw [h]; exact he
theorem NumE.yes {k : Tok} {e : Ending} {x : Int} (h : numW k = some x) (he : e = .returned (.int .i64 x)) : NumE k e := by unfold NumE; rw [h]; exact he
def AtomE (k : Tok) (e : Ending) : Prop := match parseR k with | some r => e = .returned (.agg #[.int .i64 1, .int .i64 0, .string ⟨r.1.toArray⟩, .string ⟨r.2.toArray⟩, .slice none 0 0]) | none => FaultE e
theorem AtomE.no {k : Tok} {e : Ending} (h : parseR k = none) (he : FaultE e) : AtomE k e := by unfold AtomE; rw [h]; exact he
theorem AtomE.yes {k : Tok} {e : Ending} {r : RoleB} (h : parseR k = some r) (he : e = .returned (.agg #[.int .i64 1, .int .i64 0, .string ⟨r.1.toArray⟩, .string ⟨r.2.toArray⟩, .slice none 0 0])) : AtomE k e := by unfold AtomE; rw [h]; exact he

set_option maxRecDepth 100000 in
set_option maxHeartbeats 1000000 in
theorem pnumber (k : Tok) (hl : k.length ≤ 2048) (w : World) (hv : VarsAt w) :
    Calls Tryz.prog 73 #[.string ⟨k.toArray⟩] w fun e w' => NumE k e ∧ Chg (fun _ => False) w w' := by
  have HA := hid (patoi k hl w hv)
  clear hv
  go_enter Tryz.func73, Tryz.ntmps73
  go_wp2_with fail
  refine HA.out.mono ?_
  rintro e w1 ⟨hc1, ⟨v, h1, rfl⟩ | ⟨h1, x, T, p, rfl⟩⟩
  · by_cases h0 : v < 0
    · have HM := hid (num_no (k := k) (fun u hu => by rw [h1] at hu; injection hu with hu; omega))
      have z := decide_eq_true h0
      have HE := hid hc1
      clear hc1 HA h1
      go_wp2
      exact ⟨rfl, .no HM.out rfl, HE.out⟩
    · have z := decide_eq_false h0
      by_cases h9 : 99 < v
      · have HM := hid (num_no (k := k) (fun u hu => by rw [h1] at hu; injection hu with hu; omega))
        have z2 := decide_eq_true h9
        have HE := hid hc1
        clear hc1 HA h1
        go_wp2
        exact ⟨rfl, .no HM.out rfl, HE.out⟩
      · have z2 := decide_eq_false h9
        have hm := num_ok h1 (by omega) (by omega)
        obtain ⟨m, rfl⟩ : ∃ m : Nat, v = (m : Int) := ⟨v.toNat, by omega⟩
        rw [Int.toNat_natCast] at hm
        have HI := hid (Tryz.strconv_Itoa_small m (by omega) w1)
        have HE := hid hc1
        clear hc1 HA h1 h0 h9
        go_wp2_with fail
        refine HI.out.mono ?_
        rintro e w2 ⟨rfl, rfl⟩
        clear HI
        by_cases hd : Lib.decDigits m = k
        · rw [if_pos hd] at hm
          have HM := hid hm
          clear hm
          have z3 : (Lib.decDigits m == k) = true := by simpa using hd
          clear hd
          go_wp2
          go_ret
          exact ⟨.yes HM.out rfl, HE.out⟩
        · rw [if_neg hd] at hm
          have HM := hid hm
          clear hm
          have z3 : (Lib.decDigits m == k) = false := by simpa using hd
          clear hd
          go_wp2
          exact ⟨rfl, .no HM.out rfl, HE.out⟩
  · have HM := hid (num_no (k := k) (fun u hu => absurd hu (h1 u)))
    have HE := hid hc1
    clear hc1 HA h1
    go_wp2
    exact ⟨rfl, .no HM.out rfl, HE.out⟩

theorem st5 {w : World} {Z : Nat} {x0 x1 x2 x3 x4 : Value} {T : TypeId} (hz : w.heap[Z]? = some (.cells #[x0, x1, x2, x3, x4] T (0, 0))) (a0 a1 a2 a3 a4 : Value) :
    (((((w.setCell ⟨Z, 0, none⟩ a0).setCell ⟨Z, 1, none⟩ a1).setCell ⟨Z, 2, none⟩ a2).setCell ⟨Z, 3, none⟩ a3).setCell ⟨Z, 4, none⟩ a4).heap[Z]? = some (.cells #[a0, a1, a2, a3, a4] T (0, 0)) ∧
    Chg (· = Z) w (((((w.setCell ⟨Z, 0, none⟩ a0).setCell ⟨Z, 1, none⟩ a1).setCell ⟨Z, 2, none⟩ a2).setCell ⟨Z, 3, none⟩ a3).setCell ⟨Z, 4, none⟩ a4) := by
  refine ⟨?_, ((((setCell_chg w Z 0 a0).trans (setCell_chg _ Z 1 a1) (fun _ _ h => h)).trans (setCell_chg _ Z 2 a2) (fun _ _ h => h)).trans (setCell_chg _ Z 3 a3) (fun _ _ h => h)).trans (setCell_chg _ Z 4 a4) (fun _ _ h => h)⟩
  have h0 := set_blk hz 0 a0
  have h1 := set_blk h0 1 a1
  have h2 := set_blk h1 2 a2
  have h3 := set_blk h2 3 a3
  have h4 := set_blk h3 4 a4
  simpa using h4

set_option maxRecDepth 100000 in
set_option maxHeartbeats 1000000 in
theorem patom (k : Tok) (hl : k.length ≤ 2048) (w : World) :
    Calls Tryz.prog 74 #[.string ⟨k.toArray⟩] w fun e w' => AtomE k e ∧ Chg (fun _ => False) w w' := by
  have hcA : Chg (fun _ => False) w (w.alloc (.cells #[.int .i64 0, .int .i64 0, .string ⟨#[]⟩, .string ⟨#[]⟩, .slice none 0 0] 26)) := (Chg.refl _ w).alloc _
  have hZ := heap_alloc_new w (.cells #[.int .i64 0, .int .i64 0, .string ⟨#[]⟩, .string ⟨#[]⟩, .slice none 0 0] 26)
  have HP := hid (pparse k (w.alloc (.cells #[.int .i64 0, .int .i64 0, .string ⟨#[]⟩, .string ⟨#[]⟩, .slice none 0 0] 26)) (by omega))
  have HC := hid hcA
  have HZ := hid hZ
  clear hcA hZ
  go_enter Tryz.func74, Tryz.ntmps74
  go_wp2_with fail
  refine HP.out.mono ?_
  rintro e w1 ⟨rfl, hc1⟩
  have hc2 := HC.out.trans hc1 (fun _ _ h => h)
  have hZ1 := blk_keep HZ.out hc1 id
  clear hc1 HP HC HZ
  cases hr : parseR k with
  | none =>
    simp only [Option.getD_none, Option.isSome_none]
    have HM := hid hr
    have HE := hid (And.intro hc2 hZ1)
    clear hc2 hZ1 hr
    unfold roleV noRole
    go_wp2
    exact ⟨rfl, .no HM.out rfl, HE.out.1.alloc _⟩
  | some r =>
    simp only [Option.getD_some, Option.isSome_some]
    have HM := hid hr
    have HE := hid (And.intro hc2 hZ1)
    have hal : Chg (fun _ => False) w1 (w1.alloc (.cells #[.string ⟨r.1.toArray⟩, .string ⟨r.2.toArray⟩] 23)) := (Chg.refl _ w1).alloc _
    have hZ2 := blk_keep hZ1 hal id
    have r0 := cell_blk hZ2 0
    have r1 := cell_blk hZ2 1
    have r2 := cell_blk hZ2 2
    have r3 := cell_blk hZ2 3
    have r4 := cell_blk hZ2 4
    have g0 := froz_blk hZ2 0
    have g1 := froz_blk hZ2 1
    have g2 := froz_blk hZ2 2
    have g3 := froz_blk hZ2 3
    have g4 := froz_blk hZ2 4
    simp only [List.getElem?_toArray, List.getElem?_cons_zero, List.getElem?_cons_succ] at r0 r1 r2 r3 r4
    have HZ2 := hid (And.intro hZ2 (hc2.trans hal (fun _ _ h => h)))
    clear hc2 hr hal hZ2 hZ1
    unfold roleV
    go_wp2
    obtain ⟨hend, hcz⟩ := st5 HZ2.out.1 (.int .i64 1) (.int .i64 0) (.string ⟨r.1.toArray⟩) (.string ⟨r.2.toArray⟩) (.slice none 0 0)
    refine bodyPost_ret (results_cell_row (P := Tryz.prog) rfl _ _ w.heap.size 26 _ (0, 0) _ rfl hend Tryz.underlying26 rfl (by kernel_rfl)) rfl ?_
    exact ⟨.yes HM.out rfl, HZ2.out.2.trans (hcz.mono (T := fun k => k = w.heap.size) (fun _ _ h => h)) (fun i hi e => by have : i = w.heap.size := e; omega)⟩
end Go.Proofs.YtojbhlbknjnioaaGreatDoor

/- Rows of formulas of the call's own: one, and one more. -/
namespace Go.Proofs.YtojbhlbknjnioaaGreatDoor
open Go.RowKit

theorem Tryz.underlying24b : Tryz.prog.underlying 24 = some (.slice 26) := by kernel_rfl
theorem wpList_append_runb {P : Program} {w w' : World} {ops : Array Oper} {rest : List Oper} {o : Oper} {a : Act} {Q : Exit → Act → World → Prop} (hgd : o.guard = none) (s x : Operand) (t : TypeId)
    (ho : o.op = .call { callee := .builtin .append, args := #[s, x], argTypes := #[t, t] }) {v y v' : Value} (hs : a.eval s = v) (hx : a.eval x = y) (hr : (Builtin.append_ #[t, t] o.type #[v, y]).run P w = .ok v' w')
    (h : wpList P ops Q rest (a.put o.dst v') w') : wpList P ops Q (o :: rest) a w := by
  refine wpList_plain hgd fun K hK => ?_
  unfold Oper.wp execOp
  simp only [ho, resolve, invoke, builtin, Sem.run_bind, Sem.run_pure, Result.andThen_ok, List.map_toArray, List.map_cons, List.map_nil, hs, hx, hr]
  exact hK _ _ h

/-- One formula more in a row of the call's own. -/
theorem run_append_fmb {B : Nat} {w : World} {v : Value} {ts : List AT} {t : AT} (ty : TypeId) (hown : w.ownsRow B 26 5 v ts.length (rowA ts)) {b : Nat} (hb : w.heap[b]? = some (.cells (cellsA t).toArray 26 (0, 0))) (h1 : t.v.oneCell' = true) (hlen : ts.length ≤ 1048576) (hB : B ≤ w.heap.size) :
    ∃ v' w', (Builtin.append_ #[24, 24] ty #[v, .slice (some ⟨b, 0, none⟩) 1 1]).run Tryz.prog w = .ok v' w' ∧ w'.ownsRow B 26 5 v' (ts ++ [t]).length (rowA (ts ++ [t])) ∧ Chg (fun k => v.ownBlock = some k) w w' ∧ (v'.ownBlock = v.ownBlock ∨ v'.ownBlock = some w.heap.size) := by
  obtain ⟨i0, hi, hz0, hz1, hz2⟩ := info_parts Tryz.info26
  obtain ⟨v', w', k1, k2, k3, k4⟩ := run_append_own_at (P := Tryz.prog) w B 24 ty 26 i0 (.agg #[.int .i64 0, .int .i64 0, .string ⟨#[]⟩, .string ⟨#[]⟩, .slice none 0 0]) 5 72 Tryz.underlying24b hi hz0 hz1 hz2 rfl (by decide) v _ _ hown ⟨b, 0, none⟩ 1 1 (cellsA t) rfl
    (fun j u hj => by
      have h := cell_blk hb j
      rw [List.getElem?_toArray, hj] at h
      rw [add_off, Nat.zero_add]
      exact h) (fun u hu => by
      simp only [cellsA, List.mem_cons, List.not_mem_nil, or_false] at hu
      rcases hu with rfl | rfl | rfl | rfl | rfl
      · rfl
      · rfl
      · rfl
      · rfl
      · exact h1) (by unfold maxLen; omega) (by omega) hB
  exact ⟨v', w', k1, by rw [List.length_append, List.length_singleton, rowA_snoc]; exact k2, (Chg.refl _ w).grown k3 fun k e _ => e, k4.2⟩

/-- A row of formulas of the call's own. -/
structure OwnRw (B : Nat) (w : World) (v : Value) (ts : List AT) : Prop where
  row : w.ownsRow B 26 5 v ts.length (rowA ts)
  own : OwnL B w ts
  nd : (v.ownBlock.toList ++ blksL ts).Nodup
theorem OwnRw.nil (B : Nat) (w : World) : OwnRw B w (.slice none 0 0) [] := ⟨World.ownsRow_nil _ _ _ _, trivial, by simp [Value.ownBlock, blksL]⟩
theorem OwnRw.keep {S : Nat → Prop} {B : Nat} {w w' : World} {v : Value} {ts : List AT} (h : OwnRw B w v ts) (hc : Chg S w w') (hS : ∀ k, B ≤ k → k < w.heap.size → ¬ S k) : OwnRw B w' v ts :=
  ⟨ownsRow_keep h.row hc (fun k hk => hS k (h.row.lt k hk).1 (h.row.lt k hk).2), ownL_keep hc h.own (fun k hk => hS k (ownL_lt h.own k hk).1 (ownL_lt h.own k hk).2), h.nd⟩
theorem OwnRw.low {A B : Nat} {w : World} {v : Value} {ts : List AT} (h : OwnRw B w v ts) (hA : A ≤ B) : OwnRw A w v ts := ⟨ownsRow_lowK h.row hA, ownL_low hA h.own, h.nd⟩
/-- A formula whose row of Kids it is. -/
theorem OwnRw.fm {B : Nat} {w : World} {v : Value} {ts : List AT} (h : OwnRw B w v ts) (op k : Int) : OwnA B w (.mk op k ([], []) v ts) ∧ (blksA (.mk op k ([], []) v ts)).Nodup := by
  refine ⟨?_, h.nd⟩
  rw [ownA_eq]
  exact ⟨⟨by simp [AT.r], by simp [AT.r]⟩, h.row, h.own⟩
theorem own_one {t : AT} {B : Nat} {w : World} (h : OwnA B w t) : t.v.oneCell' = true := by
  obtain ⟨ao, cp, hv, _⟩ := own_fms h
  rw [hv]
  rfl
theorem OwnRw.one {B : Nat} {w : World} {t : AT} (hB : B ≤ w.heap.size) (h : OwnA B w t) (hnd : (blksA t).Nodup) : OwnRw B (w.alloc (.cells (cellsA t).toArray 26)) (.slice (some ⟨w.heap.size, 0, none⟩) 1 1) [t] := by
  have hal : Chg (fun _ => False) w (w.alloc (.cells (cellsA t).toArray 26)) := (Chg.refl _ w).alloc _
  have hr : rowA [t] = cellsA t := by simp [rowA]
  have hlt := ownA_lt t h
  refine ⟨⟨by rw [hr]; rfl, .inr ⟨w.heap.size, 1, (cellsA t).toArray, rfl, hB, heap_alloc_new w _, Nat.le_refl _, by unfold maxLen; omega, rfl, by rw [hr]; rfl⟩⟩, ⟨ownA_keep hal t h (fun _ _ => id), trivial⟩, ?_⟩
  have e : blksL [t] = blksA t := by rw [blksL_flat]; simp
  rw [e]
  refine List.nodup_append.2 ⟨by simp [Value.ownBlock], hnd, fun a ha b hb e => ?_⟩
  have ha2 : a = w.heap.size := by simpa [Value.ownBlock] using ha
  have := (hlt b hb).2
  omega
theorem OwnRw.app {B : Nat} {w w' : World} {v v' : Value} {ts : List AT} {t : AT} (h : OwnRw B w v ts) {B1 : Nat} (hB1 : B ≤ B1 ∧ (∀ k, v.ownBlock = some k → k < B1) ∧ ∀ k ∈ blksL ts, k < B1) (ht : OwnA B1 w t) (hnd : (blksA t).Nodup) (hrow : w'.ownsRow B 26 5 v' (ts ++ [t]).length (rowA (ts ++ [t]))) (hc : Chg (fun k => v.ownBlock = some k) w w') (hv : v'.ownBlock = v.ownBlock ∨ v'.ownBlock = some w.heap.size) : OwnRw B w' v' (ts ++ [t]) := by
  have hnd0 := List.nodup_append.1 h.nd
  have hts : ∀ k ∈ blksL ts, ¬ v.ownBlock = some k := fun k hk e => hnd0.2.2 k (by simp [e]) k hk rfl
  have htl := ownA_lt t ht
  have l5 := ownL_lt h.own
  have htn : ∀ k ∈ blksA t, ¬ v.ownBlock = some k := fun k hk e => by have := (htl k hk).1; have := hB1.2.1 k e; omega
  have ebl : blksL (ts ++ [t]) = blksL ts ++ blksA t := by rw [blksL_flat, blksL_flat, List.flatMap_append]; simp
  refine ⟨hrow, ?_, ?_⟩
  · refine (ownL_all _ _ _).2 fun s hs => ?_
    rcases List.mem_append.1 hs with hs | hs
    · exact (ownL_all _ _ _).1 (ownL_keep hc h.own hts) s hs
    · rw [List.mem_singleton.1 hs]
      exact ownA_low hB1.1 t (ownA_keep hc t ht htn)
  · rw [ebl, List.nodup_append]
    have hdis : ∀ a ∈ blksL ts, ∀ b ∈ blksA t, a ≠ b := fun a ha b hb2 e => by have := hB1.2.2 a ha; have := (htl b hb2).1; omega
    refine ⟨by cases v'.ownBlock <;> simp, List.nodup_append.2 ⟨hnd0.2.1, hnd, hdis⟩, fun a ha b hb2 e => ?_⟩
    have ha2 : v'.ownBlock = some a := by simpa using ha
    subst e
    rcases hv with hv | hv
    · rw [hv] at ha2
      rcases List.mem_append.1 hb2 with h2 | h2
      · exact hts a h2 ha2
      · exact htn a h2 ha2
    · rw [hv] at ha2
      cases ha2
      rcases List.mem_append.1 hb2 with h2 | h2
      · have := (l5 _ h2).2; omega
      · have := (htl _ h2).2; omega
end Go.Proofs.YtojbhlbknjnioaaGreatDoor

/- Functions that are values. -/
namespace Go.Proofs.YtojbhlbknjnioaaGreatDoor
open Go.RowKit

/-- A function with a body is entered. -/
theorem enters {K : Nat} {fn : Func} (hf : Tryz.prog.funcs[K]? = some fn) (hn : (fn.name == "runtime.NumGoroutine") = false) (hb : fn.body.isNone = false) (args : Array Value) (w : World) :
    (callFunc K args).run Tryz.prog w = .ok (.enter K args) w := by
  have h1 : fn.name ≠ "runtime.NumGoroutine" := by simpa using hn
  have h2 : fn.body ≠ none := by
    intro h
    rw [h] at hb
    simp at hb
  unfold callFunc
  simp [program, Sem.run, hf, h1, h2]

end Go.Proofs.YtojbhlbknjnioaaGreatDoor
