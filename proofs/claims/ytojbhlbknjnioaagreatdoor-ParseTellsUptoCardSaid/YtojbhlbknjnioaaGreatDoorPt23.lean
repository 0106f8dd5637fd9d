/- Texts that the proof leans on, in one: PbRead, PbParse. -/
import Derived.Test.YtojbhlbknjnioaaGreatDoorPt17
import Derived.Test.YtojbhlbknjnioaaGreatDoorPt22
import Derived.Test.YtojbhlbknjnioaaGreatDoorPt7
/- parse.read. -/
namespace Go.Proofs.YtojbhlbknjnioaaGreatDoor
open Go.RowKit

theorem assert_fault (w : World) : (Instr.typeAssert faultV 20 61 true).run Tryz.prog w = .ok (.tuple #[.agg #[], .bool true]) w := by kernel_rfl
theorem eql20_nil (w : World) : (binOp .eql 20 .nilIface .nilIface).run Tryz.prog w = .ok (.bool true) w := by kernel_rfl
theorem eql20_fault (w : World) : (binOp .eql 20 faultV .nilIface).run Tryz.prog w = .ok (.bool false) w := by kernel_rfl

set_option maxRecDepth 100000 in
theorem pread1_idle (F E : Nat) (w : World) :
    CallsD Tryz.prog 31 #[.pointer (some ⟨F, 0, none⟩), .pointer (some ⟨E, 0, none⟩)] .returning w fun e u' w' => e = .returned (.tuple #[]) ∧ u' = .returning ∧ w' = w := by
  refine callsD_of_wpS Tryz.func31 rfl fun c₀ cs hu => ?_
  simp only [Tryz.ntmps31, List.size_toArray, List.length_cons, List.length_nil, Nat.reduceAdd, Nat.reduceSub, Array.replicate_succ, Array.replicate_zero, List.push_toArray, List.append_toArray, List.nil_append, List.cons_append]
  have hq := eql20_nil
  apply wpS_seq
  apply wpS_region
  simp [wpOpsS, go_sem, recoverD, hu, Exit.thenS]
  refine wpS_of_wp ?_
  have HU := hid (mode_selfR hu)
  clear hu
  go_wp2
  rw [← HU.out]
  exact postS_endR rfl ⟨rfl, rfl, rfl⟩

set_option maxRecDepth 100000 in
set_option maxHeartbeats 1000000 in
theorem pread1_fault (F E : Nat) (x0 x1 x2 x3 x4 ev : Value) (w : World) (hF : w.heap[F]? = some (.cells #[x0, x1, x2, x3, x4] 26 (0, 0))) (hE : w.heap[E]? = some (.cells #[ev] 31 (0, 0))) (hFE : F ≠ E) :
    CallsD Tryz.prog 31 #[.pointer (some ⟨F, 0, none⟩), .pointer (some ⟨E, 0, none⟩)] (.panicking [{ v := faultV, recovered := false }]) w fun e u' w' => e = .returned (.tuple #[]) ∧ u' = .panicking [{ v := faultV, recovered := true }] ∧ w'.heap[F]? = some (.cells #[.int .i64 0, .int .i64 0, .string ⟨#[]⟩, .string ⟨#[]⟩, .slice none 0 0] 26 (0, 0)) ∧ w'.heap[E]? = some (.cells #[.int .i64 11] 31 (0, 0)) ∧ Chg (fun k => k = F ∨ k = E) w w' := by
  have hal : Chg (fun _ => False) w (w.alloc (.cells #[] 61)) := (Chg.refl _ w).alloc _
  have hF1 := blk_keep hF hal id
  have hE1 := blk_keep hE hal id
  have g0 := froz_blk hF1 0
  have g1 := froz_blk hF1 1
  have g2 := froz_blk hF1 2
  have g3 := froz_blk hF1 3
  have g4 := froz_blk hF1 4
  have r0 := cell_blk hF1 0
  have r1 := cell_blk hF1 1
  have r2 := cell_blk hF1 2
  have r3 := cell_blk hF1 3
  have r4 := cell_blk hF1 4
  simp only [List.getElem?_toArray, List.getElem?_cons_zero, List.getElem?_cons_succ] at r0 r1 r2 r3 r4
  obtain ⟨hend, hcz⟩ := st5 hF1 (.int .i64 0) (.int .i64 0) (.string ⟨#[]⟩) (.string ⟨#[]⟩) (.slice none 0 0)
  have hE2 := blk_keep hE1 hcz (fun e => hFE e.symm)
  have k0 := cell_blk hE2 0
  have k1 := froz_blk hE2 0
  simp only [List.getElem?_toArray, List.getElem?_cons_zero] at k0
  have hE3 := set_blk hE2 0 (.int .i64 11)
  have HE := hid (And.intro (blk_keep hend (setCell_chg _ E 0 (.int .i64 11)) (fun e => hFE e)) (And.intro (show _ = some (Obj.cells #[.int .i64 11] 31 (0, 0)) from (by simpa using hE3)) ((((hal.mono (T := fun k => k = F ∨ k = E) (fun _ _ h => h.elim)).trans hcz (fun _ _ h => .inl h)).trans (setCell_chg _ E 0 (.int .i64 11)) (fun _ _ h => .inr h)))))
  clear hal hF1 hE1 hend hcz hE2 hE3 hF hE
  refine callsD_of_wpS Tryz.func31 rfl fun c₀ cs hu => ?_
  simp only [Tryz.ntmps31, List.size_toArray, List.length_cons, List.length_nil, Nat.reduceAdd, Nat.reduceSub, Array.replicate_succ, Array.replicate_zero, List.push_toArray, List.append_toArray, List.nil_append, List.cons_append]
  have hq := eql20_fault
  have ha := assert_fault
  unfold faultV at *
  apply wpS_seq
  apply wpS_region
  simp [wpOpsS, go_sem, recoverD, hu, Exit.thenS]
  refine wpS_of_wp ?_
  clear hu
  go_wp2
  clear g0 g1 g2 g3 g4 r0 r1 r2 r3 r4 k0 k1 hq ha
  obtain ⟨h1, h2, h3⟩ := HE.out
  refine postS_endR (u := .panicking [{ v := .iface 61 (.agg #[]), recovered := true }]) rfl ?_
  exact ⟨rfl, rfl, h1, h2, h3⟩

def ZeroV : Value := .agg #[.int .i64 0, .int .i64 0, .string ⟨#[]⟩, .string ⟨#[]⟩, .slice none 0 0]
/-- What a text says. -/
def GramPost (o : Option FmB) (w : World) (e : Ending) (w' : World) : Prop := Chg (fun _ => False) w w' ∧ match o with
  | none => e = .returned (.tuple #[ZeroV, .int .i64 11])
  | some f => ∃ (t : AT) (ao : Option Addr) (q cp : Nat), eraseA t = f ∧ t.v = .slice ao q cp ∧ e = .returned (.tuple #[FmVal t ao q cp, .int .i64 0]) ∧ OwnA w.heap.size w' t ∧ (blksA t).Nodup
theorem VarsAt.lt {w : World} (h : VarsAt w) {R : Nat} (hR : w.heap.size ≤ R) : OffV (· = R) := by
  obtain ⟨⟨e1, a1, a2⟩, e2, b1, b2⟩ := h
  have h1 := World.block_lt_of_cell? w _ a1
  have h2 := World.block_lt_of_cell? w _ b1
  simp only at h1 h2
  refine ⟨fun e => ?_, fun e => ?_⟩
  · have : 4 = R := e
    omega
  · have : 5 = R := e
    omega

set_option maxRecDepth 100000 in
set_option maxHeartbeats 4000000 in
theorem pread (s : List UInt8) (ts : List Tok) (hl : s.length ≤ 2048) (hx : Lexes s ts) (htl : ts.length ≤ s.length) (w : World) (hv : VarsAt w) :
    Calls Tryz.prog 21 #[.string ⟨s.toArray⟩] w (GramPost (gramP ts) w) := by
  have hmf : ∀ (fn : Fn) (first cap : Array Value) (w : World), (Instr.makeFunc fn first cap).run Tryz.prog w = .ok (.func fn first cap) w := fun _ _ _ _ => rfl
  have hc3 : Chg (fun _ => False) w (((w.alloc (.cells #[.int .i64 0, .int .i64 0, .string ⟨#[]⟩, .string ⟨#[]⟩, .slice none 0 0] 26)).alloc (.cells #[.int .i64 0] 31)).alloc (.cells #[.string ⟨#[]⟩, .string ⟨s.toArray⟩] 63)) := (((Chg.refl _ w).alloc _).alloc _).alloc _
  have hs1 : (w.alloc (.cells #[.int .i64 0, .int .i64 0, .string ⟨#[]⟩, .string ⟨#[]⟩, .slice none 0 0] 26)).heap.size = w.heap.size + 1 := by simp
  have hs2 : ((w.alloc (.cells #[.int .i64 0, .int .i64 0, .string ⟨#[]⟩, .string ⟨#[]⟩, .slice none 0 0] 26)).alloc (.cells #[.int .i64 0] 31)).heap.size = w.heap.size + 2 := by simp
  have hs3 : (((w.alloc (.cells #[.int .i64 0, .int .i64 0, .string ⟨#[]⟩, .string ⟨#[]⟩, .slice none 0 0] 26)).alloc (.cells #[.int .i64 0] 31)).alloc (.cells #[.string ⟨#[]⟩, .string ⟨s.toArray⟩] 63)).heap.size = w.heap.size + 3 := by simp
  have hF : (((w.alloc (.cells #[.int .i64 0, .int .i64 0, .string ⟨#[]⟩, .string ⟨#[]⟩, .slice none 0 0] 26)).alloc (.cells #[.int .i64 0] 31)).alloc (.cells #[.string ⟨#[]⟩, .string ⟨s.toArray⟩] 63)).heap[w.heap.size]? = some (.cells #[.int .i64 0, .int .i64 0, .string ⟨#[]⟩, .string ⟨#[]⟩, .slice none 0 0] 26 (0, 0)) := blk_keep (heap_alloc_new w (.cells #[.int .i64 0, .int .i64 0, .string ⟨#[]⟩, .string ⟨#[]⟩, .slice none 0 0] 26)) (((Chg.refl (fun _ => False) (w.alloc (.cells #[.int .i64 0, .int .i64 0, .string ⟨#[]⟩, .string ⟨#[]⟩, .slice none 0 0] 26))).alloc _).alloc _) id
  have hE : (((w.alloc (.cells #[.int .i64 0, .int .i64 0, .string ⟨#[]⟩, .string ⟨#[]⟩, .slice none 0 0] 26)).alloc (.cells #[.int .i64 0] 31)).alloc (.cells #[.string ⟨#[]⟩, .string ⟨s.toArray⟩] 63)).heap[w.heap.size + 1]? = some (.cells #[.int .i64 0] 31 (0, 0)) := by
    have := blk_keep (heap_alloc_new (w.alloc (.cells #[.int .i64 0, .int .i64 0, .string ⟨#[]⟩, .string ⟨#[]⟩, .slice none 0 0] 26)) (.cells #[.int .i64 0] 31)) ((Chg.refl (fun _ => False) _).alloc (.cells #[.string ⟨#[]⟩, .string ⟨s.toArray⟩] 63)) id
    rw [hs1] at this
    exact this
  have hR : PRd (w.heap.size + 2) [] s (((w.alloc (.cells #[.int .i64 0, .int .i64 0, .string ⟨#[]⟩, .string ⟨#[]⟩, .slice none 0 0] 26)).alloc (.cells #[.int .i64 0] 31)).alloc (.cells #[.string ⟨#[]⟩, .string ⟨s.toArray⟩] 63)) := by
    have := heap_alloc_new ((w.alloc (.cells #[.int .i64 0, .int .i64 0, .string ⟨#[]⟩, .string ⟨#[]⟩, .slice none 0 0] 26)).alloc (.cells #[.int .i64 0] 31)) (.cells #[.string ⟨#[]⟩, .string ⟨s.toArray⟩] 63)
    rw [hs2] at this
    exact this
  have hoff := hv.lt (show w.heap.size ≤ w.heap.size + 2 by omega)
  have HN := hid (pnext_lex (w.heap.size + 2) [] s ts hl hx (((w.alloc (.cells #[.int .i64 0, .int .i64 0, .string ⟨#[]⟩, .string ⟨#[]⟩, .slice none 0 0] 26)).alloc (.cells #[.int .i64 0] 31)).alloc (.cells #[.string ⟨#[]⟩, .string ⟨s.toArray⟩] 63)) hR)
  have HV := hid (And.intro (hv.keep hc3 ⟨id, id⟩) hoff)
  have H0 := hid (And.intro hF (And.intro hE (And.intro hc3 hs3)))
  clear hc3 hs1 hs2 hs3 hF hE hR hoff hv hx
  go_enter_defers Tryz.func21, Tryz.ntmps21
  go_wp2_with fail
  refine HN.out.mono ?_
  rintro e w4 ⟨rfl, hrd, hc4⟩
  generalize hA : w.heap.size = A at *
  have HA := hid hA
  clear hA
  have hF4 := blk_keep H0.out.1 hc4 (fun e => by have : A = A + 2 := e; omega)
  have hE4 := blk_keep H0.out.2.1 hc4 (fun e => by have : A + 1 = A + 2 := e; omega)
  have hc04 : Chg (fun _ => False) w w4 := H0.out.2.2.1.trans hc4 (fun i hi e => by have := HA.out; have : i = A + 2 := e; omega)
  have hs4 : A + 3 ≤ w4.heap.size := by have := hc4.size; rw [H0.out.2.2.2] at this; exact this
  have HP := hid (pread_all (A + 2) HV.out.2 ts.length (by omega) ts w4 (Nat.le_refl _) hrd (HV.out.1.keep hc4 HV.out.2))
  have H4 := hid (And.intro hF4 (And.intro hE4 (And.intro hc04 hs4)))
  clear hF4 hE4 hc04 hs4 hc4 hrd HN H0 HV
  go_wp2_with fail
  refine HP.out.mono ?_
  rintro e w5 hpost
  cases hq : anyG ts with
  | none =>
    rw [hq] at hpost
    obtain ⟨he, hc5⟩ := hpost
    have HG : Hid (gramP ts = none) := hid (by unfold gramP; rw [hq])
    have hF5 := blk_keep H4.out.1 hc5 (fun e => by have : A = A + 2 := e; omega)
    have hE5 := blk_keep H4.out.2.1 hc5 (fun e => by have : A + 1 = A + 2 := e; omega)
    have HC5 : Hid (Chg (fun _ => False) w w5) := hid (H4.out.2.2.1.trans hc5 (fun i hi e => by have := HA.out; have : i = A + 2 := e; omega))
    clear hc5 hq HP H4
    unfold FaultE at he
    subst he
    go_wp2
    refine leaves_cons (f := 31) (args := #[.pointer (some ⟨A, 0, none⟩), .pointer (some ⟨A + 1, 0, none⟩)]) (by simp) (by simp [go_sem]) ?_
    refine (pread1_fault A (A + 1) _ _ _ _ _ _ w5 hF5 hE5 (by omega)).mono ?_
    rintro e u' w6 ⟨rfl, rfl, h1, h2, h3⟩
    have q0 := cell_blk h1 0
    have q1 := cell_blk h1 1
    have q2 := cell_blk h1 2
    have q3 := cell_blk h1 3
    have q4 := cell_blk h1 4
    have q5 := cell_blk h2 0
    simp only [List.getElem?_toArray, List.getElem?_cons_zero, List.getElem?_cons_succ] at q0 q1 q2 q3 q4 q5

    have HEND : Hid (Chg (fun _ => False) w w6) := hid (HC5.out.trans h3 (fun i hi e => by have := HA.out; rcases e with e | e <;> omega))
    clear h1 h2 h3 hF5 hE5
    simp [Leaves, settle, results, Tryz.results21, go_sem, q0, q1, q2, q3, q4, q5]
    refine ⟨HEND.out, ?_⟩
    rw [HG.out]
    rfl
  | some p =>
    obtain ⟨f, r⟩ := p
    rw [hq] at hpost
    obtain ⟨t, ao, q, cp, a1, a2, rfl, a3, a4, a5, a6⟩ := hpost
    have hF5 := blk_keep H4.out.1 a6 (fun e => by have : A = A + 2 := e; omega)
    have hE5 := blk_keep H4.out.2.1 a6 (fun e => by have : A + 1 = A + 2 := e; omega)
    have hc05 : Chg (fun _ => False) w w5 := H4.out.2.2.1.trans a6 (fun i hi e => by have := HA.out; have : i = A + 2 := e; omega)
    have hs5 : A + 3 ≤ w4.heap.size := H4.out.2.2.2
    have g0 := froz_blk hF5 0
    have g1 := froz_blk hF5 1
    have g2 := froz_blk hF5 2
    have g3 := froz_blk hF5 3
    have g4 := froz_blk hF5 4
    have r0 := cell_blk hF5 0
    have r1 := cell_blk hF5 1
    have r2 := cell_blk hF5 2
    have r3 := cell_blk hF5 3
    have r4 := cell_blk hF5 4
    simp only [List.getElem?_toArray, List.getElem?_cons_zero, List.getElem?_cons_succ] at r0 r1 r2 r3 r4
    obtain ⟨hend, hcz⟩ := st5 hF5 (.int .i64 t.op) (.int .i64 t.k) (.string ⟨t.r.1.toArray⟩) (.string ⟨t.r.2.toArray⟩) (.slice ao q cp)
    have hE6 := blk_keep hE5 hcz (fun e => by have : A + 1 = A := e; omega)
    have hrd6 := a5.keep hcz (fun e => by have : A + 2 = A := e; omega)
    have hc06 : Chg (fun _ => False) w _ := hc05.trans hcz (fun i hi e => by have := HA.out; have : i = A := e; omega)
    have hown6 := ownA_keep hcz t a3 (fun b hb e => by have := (ownA_lt t a3 b hb).1; have : b = A := e; omega)
    have hM := pmust (A + 2) r [] _ hrd6
    have htk := (rd_tok hrd6).2
    have HS6 := hid (And.intro hend (And.intro hE6 (And.intro hc06 (And.intro hown6 (And.intro a4 (And.intro a1 (And.intro a2 hs5)))))))
    clear a1 a2 a3 a4 a5 a6 hF5 hE5 hc05 hs5 hend hcz hE6 hrd6 hc06 hown6 H4 HP
    unfold FmVal
    by_cases hr : r = []
    · have HG : Hid (gramP ts = some f) := hid (by unfold gramP; rw [hq, hr])
      simp only [if_pos (htk.2 hr)] at hM
      have HM := hid hM
      clear hM htk hr hq
      go_wp2_with fail
      refine HM.out.mono ?_
      rintro e w7 ⟨rfl, _, hc7⟩
      have hF7 := blk_keep HS6.out.1 hc7 (fun e => by have : A = A + 2 := e; omega)
      have hE7 := blk_keep HS6.out.2.1 hc7 (fun e => by have : A + 1 = A + 2 := e; omega)
      have hc07 := HS6.out.2.2.1.trans hc7 (fun i hi e => by have := HA.out; have : i = A + 2 := e; omega)
      have hown7 := ownA_keep hc7 t HS6.out.2.2.2.1 (fun b hb e => by have := (ownA_lt t HS6.out.2.2.2.1 b hb).1; have := HS6.out.2.2.2.2.2.2.2; have : b = A + 2 := e; omega)
      clear g0 g1 g2 g3 g4 r0 r1 r2 r3 r4 hc7 HM
      have g0 := froz_blk hF7 0
      have g1 := froz_blk hF7 1
      have g2 := froz_blk hF7 2
      have g3 := froz_blk hF7 3
      have g4 := froz_blk hF7 4
      have r0 := cell_blk hF7 0
      have r1 := cell_blk hF7 1
      have r2 := cell_blk hF7 2
      have r3 := cell_blk hF7 3
      have r4 := cell_blk hF7 4
      simp only [List.getElem?_toArray, List.getElem?_cons_zero, List.getElem?_cons_succ] at r0 r1 r2 r3 r4
      obtain ⟨hend, hcz⟩ := st5 hF7 (.int .i64 t.op) (.int .i64 t.k) (.string ⟨t.r.1.toArray⟩) (.string ⟨t.r.2.toArray⟩) (.slice ao q cp)
      have hE8 := blk_keep hE7 hcz (fun e => by have : A + 1 = A := e; omega)
      have k0 := cell_blk hE8 0
      have k1 := froz_blk hE8 0
      simp only [List.getElem?_toArray, List.getElem?_cons_zero] at k0
      have h2 := set_blk hE8 0 (.int .i64 0)
      have h1 := blk_keep hend (setCell_chg _ (A + 1) 0 (.int .i64 0)) (fun e => by have : A = A + 1 := e; omega)
      have hc08 := (hc07.trans hcz (fun i hi e => by have := HA.out; have : i = A := e; omega)).trans (setCell_chg _ (A + 1) 0 (.int .i64 0)) (fun i hi e => by have := HA.out; have : i = A + 1 := e; omega)
      have hsz := HS6.out.2.2.2.2.2.2.2
      have hown8a := ownA_keep hcz t hown7 (fun b hb e => by have := (ownA_lt t hown7 b hb).1; have : b = A := e; omega)
      have hown8 := ownA_keep (setCell_chg _ (A + 1) 0 (.int .i64 0)) t hown8a (fun b hb e => by have := (ownA_lt t hown8a b hb).1; have : b = A + 1 := e; omega)
      have HQ : Hid _ := hid (And.intro h1 (And.intro h2 (And.intro hc08 hown8)))
      clear h1 h2 hc08 hown8 hown8a hcz hend hE8 hF7 hE7 hc07 hown7
      go_wp2
      refine leaves_cons (f := 31) (args := #[.pointer (some ⟨A, 0, none⟩), .pointer (some ⟨A + 1, 0, none⟩)]) (by simp) (by simp [go_sem]) ?_
      refine (pread1_idle _ _ _).mono ?_
      rintro e u' w8 ⟨rfl, rfl, hw8⟩
      obtain ⟨h1, h2, h3, h4⟩ := HQ.out
      rw [← hw8] at h1 h2 h3 h4
      clear g0 g1 g2 g3 g4 r0 r1 r2 r3 r4 k0 k1
      have q0 := cell_blk h1 0
      have q1 := cell_blk h1 1
      have q2 := cell_blk h1 2
      have q3 := cell_blk h1 3
      have q4 := cell_blk h1 4
      have q5 := cell_blk h2 0
      simp only [List.getElem?_toArray, List.getElem?_cons_zero, List.getElem?_cons_succ] at q0 q1 q2 q3 q4 q5

      simp only [List.setIfInBounds_toArray, List.set_cons_zero, List.getElem?_toArray, List.getElem?_cons_zero] at q5
      have HEND := hid (And.intro h3 h4)
      clear h1 h2 h3 h4 HQ hw8
      simp [Leaves, settle, results, Tryz.results21, go_sem, q0, q1, q2, q3, q4, q5]
      refine ⟨HEND.out.1, ?_⟩
      rw [HG.out]
      have hA9 := HA.out
      exact ⟨t, ao, q, cp, HS6.out.2.2.2.2.2.1, HS6.out.2.2.2.2.2.2.1, rfl, ownA_low (by omega) t HEND.out.2, HS6.out.2.2.2.2.1⟩
    · have HG : Hid (gramP ts = none) := hid (by
        unfold gramP
        rw [hq]
        cases r with
        | nil => exact absurd rfl hr
        | cons y r => rfl)
      simp only [if_neg (fun e => hr (htk.1 e))] at hM
      have HM := hid hM
      clear hM htk hr hq
      go_wp2_with fail
      refine HM.out.mono ?_
      rintro e w7 ⟨he, hc7⟩
      have hF7 := blk_keep HS6.out.1 hc7 (fun e => by have : A = A + 2 := e; omega)
      have hE7 := blk_keep HS6.out.2.1 hc7 (fun e => by have : A + 1 = A + 2 := e; omega)
      have HC5 := hid (HS6.out.2.2.1.trans hc7 (fun i hi e => by have := HA.out; have : i = A + 2 := e; omega))
      clear g0 g1 g2 g3 g4 r0 r1 r2 r3 r4 hc7 HM HS6
      unfold FaultE at he
      subst he
      go_wp2
      refine leaves_cons (f := 31) (args := #[.pointer (some ⟨A, 0, none⟩), .pointer (some ⟨A + 1, 0, none⟩)]) (by simp) (by simp [go_sem]) ?_
      refine (pread1_fault A (A + 1) _ _ _ _ _ _ w7 hF7 hE7 (by omega)).mono ?_
      rintro e u' w6 ⟨rfl, rfl, h1, h2, h3⟩
      have q0 := cell_blk h1 0
      have q1 := cell_blk h1 1
      have q2 := cell_blk h1 2
      have q3 := cell_blk h1 3
      have q4 := cell_blk h1 4
      have q5 := cell_blk h2 0
      simp only [List.getElem?_toArray, List.getElem?_cons_zero, List.getElem?_cons_succ] at q0 q1 q2 q3 q4 q5

      have HEND : Hid (Chg (fun _ => False) w w6) := hid (HC5.out.trans h3 (fun i hi e => by have := HA.out; rcases e with e | e <;> omega))
      clear h1 h2 h3 hF7 hE7
      simp [Leaves, settle, results, Tryz.results21, go_sem, q0, q1, q2, q3, q4, q5]
      refine ⟨HEND.out, ?_⟩
      rw [HG.out]
      rfl
end Go.Proofs.YtojbhlbknjnioaaGreatDoor

/- parse.Parse. -/
namespace Go.Proofs.YtojbhlbknjnioaaGreatDoor
open Go.RowKit

def zeroT : AT := .mk 0 0 ([], []) (.slice none 0 0) []
theorem zeroT_own (B : Nat) (w : World) : OwnA B w zeroT := by
  unfold zeroT
  rw [ownA_eq]
  exact ⟨⟨by simp [AT.r], by simp [AT.r]⟩, World.ownsRow_nil _ _ _ _, trivial⟩
theorem zeroT_nd : (blksA zeroT).Nodup := by simp [zeroT, blksA, blksL, Value.ownBlock]

/-- What Parse answers. -/
def ParsedPost (s : List UInt8) (w : World) (e : Ending) (w' : World) : Prop := Chg (fun _ => False) w w' ∧ ∃ (t : AT) (ao : Option Addr) (q cp : Nat), eraseA t = (parseF s).1 ∧ t.v = .slice ao q cp ∧ e = .returned (.tuple #[FmVal t ao q cp, .int .i64 ((parseF s).2 : Nat)]) ∧ OwnA w.heap.size w' t ∧ (blksA t).Nodup
theorem ParsedPost.zero {s : List UInt8} {w w' : World} {n : Nat} (h : parseF s = (zeroF, n)) (hc : Chg (fun _ => False) w w') : ParsedPost s w (.returned (.tuple #[ZeroV, .int .i64 (n : Nat)])) w' := by
  refine ⟨hc, zeroT, none, 0, 0, ?_, rfl, ?_, zeroT_own _ _, zeroT_nd⟩
  · rw [h]; rfl
  · rw [h]; rfl
theorem gram_len {ts : List Tok} {f : FmB} (h : gramP ts = some f) : nodesF f ≤ ts.length := by
  unfold gramP at h
  cases hq : anyG ts with
  | none => rw [hq] at h; cases h
  | some p =>
    obtain ⟨g, r⟩ := p
    rw [hq] at h
    cases r with
    | nil =>
      have := any_len hq
      rw [← Option.some.inj h]
      omega
    | cons y r => cases h

set_option maxRecDepth 100000 in
set_option maxHeartbeats 4000000 in
theorem pparseF (s : List UInt8) (hs : s.length ≤ 9223372036854775807) (w : World) (hv : VarsAt w) :
    Calls Tryz.prog 9 #[.string ⟨s.toArray⟩] w (ParsedPost s w) := by
  have hcA : Chg (fun _ => False) w (w.alloc (.cells #[.int .i64 0, .int .i64 0, .string ⟨#[]⟩, .string ⟨#[]⟩, .slice none 0 0] 26)) := (Chg.refl _ w).alloc _
  have hZ := heap_alloc_new w (.cells #[.int .i64 0, .int .i64 0, .string ⟨#[]⟩, .string ⟨#[]⟩, .slice none 0 0] 26)
  have hsz : (w.alloc (.cells #[.int .i64 0, .int .i64 0, .string ⟨#[]⟩, .string ⟨#[]⟩, .slice none 0 0] 26)).heap.size = w.heap.size + 1 := by simp
  obtain ⟨ts, hx, htl⟩ := lex_all s.length s (Nat.le_refl _)
  have hpg := parse_gram hx
  by_cases hl : 2048 < s.length
  · rw [if_pos hl] at hpg
    have z : decide ((2048 : Int) < (s.length : Int)) = true := decide_eq_true (by omega)
    have HG := hid hpg
    have HZ := hid (And.intro hZ hcA)
    have g0 := froz_blk hZ 0
    have g1 := froz_blk hZ 1
    have g2 := froz_blk hZ 2
    have g3 := froz_blk hZ 3
    have g4 := froz_blk hZ 4
    have r0 := cell_blk hZ 0
    have r1 := cell_blk hZ 1
    have r2 := cell_blk hZ 2
    have r3 := cell_blk hZ 3
    have r4 := cell_blk hZ 4
    simp only [List.getElem?_toArray, List.getElem?_cons_zero, List.getElem?_cons_succ] at r0 r1 r2 r3 r4
    clear hZ hcA hpg hx htl hv hl
    go_enter Tryz.func9, Tryz.ntmps9
    go_wp2
    have hend := HZ.out.1
    refine bodyPost_ret (results_row_tmp Tryz.results9 _ _ w.heap.size _ rfl (run_loadVar_row (P := Tryz.prog) _ w.heap.size 26 26 _ (0, 0) _ hend Tryz.underlying26 rfl (by kernel_rfl))) rfl ?_
    exact .zero HG.out HZ.out.2
  · rw [if_neg hl] at hpg
    have z : decide ((2048 : Int) < (s.length : Int)) = false := decide_eq_false (by omega)
    have HR := hid (pread s ts (by omega) hx htl (w.alloc (.cells #[.int .i64 0, .int .i64 0, .string ⟨#[]⟩, .string ⟨#[]⟩, .slice none 0 0] 26)) (hv.keep hcA ⟨id, id⟩))
    have HZ := hid (And.intro hZ (And.intro hcA (And.intro hsz (show ts.length ≤ 2048 by omega))))
    have HG := hid hpg
    clear hZ hcA hpg hx htl hv hl hsz
    go_enter Tryz.func9, Tryz.ntmps9
    go_wp2_with fail
    refine HR.out.mono ?_
    rintro e w1 ⟨hc1, hpost⟩
    have hts := HZ.out.2.2.2
    have hZ1 := blk_keep HZ.out.1 hc1 id
    have hcw1 := HZ.out.2.1.trans hc1 (fun _ _ h => h)
    cases hq : gramP ts with
    | none =>
      rw [hq] at hpost
      have he : e = .returned (.tuple #[ZeroV, .int .i64 11]) := hpost
      subst he
      have hal : Chg (fun _ => False) w1 (w1.alloc (.cells #[.int .i64 0, .int .i64 0, .string ⟨#[]⟩, .string ⟨#[]⟩, .slice none 0 0] 26)) := (Chg.refl _ w1).alloc _
      have hbn := heap_alloc_new w1 (.cells #[.int .i64 0, .int .i64 0, .string ⟨#[]⟩, .string ⟨#[]⟩, .slice none 0 0] 26)
      have hZ2 := blk_keep hZ1 hal id
      have g0 := froz_blk hZ2 0
      have g1 := froz_blk hZ2 1
      have g2 := froz_blk hZ2 2
      have g3 := froz_blk hZ2 3
      have g4 := froz_blk hZ2 4
      have r0 := cell_blk hZ2 0
      have r1 := cell_blk hZ2 1
      have r2 := cell_blk hZ2 2
      have r3 := cell_blk hZ2 3
      have r4 := cell_blk hZ2 4
      simp only [List.getElem?_toArray, List.getElem?_cons_zero, List.getElem?_cons_succ] at r0 r1 r2 r3 r4
      have s0 := cell_blk hbn 0
      have s1 := cell_blk hbn 1
      have s2 := cell_blk hbn 2
      have s3 := cell_blk hbn 3
      have s4 := cell_blk hbn 4
      simp only [List.getElem?_toArray, List.getElem?_cons_zero, List.getElem?_cons_succ] at s0 s1 s2 s3 s4
      have HP : Hid (parseF s = (zeroF, 11)) := hid (by rw [HG.out, hq])
      have HC := hid (And.intro hZ2 (hcw1.trans hal (fun _ _ h => h)))
      clear hal hbn hZ2 hZ1 hcw1 hc1 hq hpost HR HZ
      unfold ZeroV
      go_wp2
      obtain ⟨hend, hcz⟩ := st5 HC.out.1 (.int .i64 0) (.int .i64 0) (.string ⟨#[]⟩) (.string ⟨#[]⟩) (.slice none 0 0)
      refine bodyPost_ret (results_row_tmp Tryz.results9 _ _ w.heap.size _ rfl (run_loadVar_row (P := Tryz.prog) _ w.heap.size 26 26 _ (0, 0) _ hend Tryz.underlying26 rfl (by kernel_rfl))) rfl ?_
      exact .zero HP.out (HC.out.2.trans hcz (fun i hi e => by have : i = w.heap.size := e; omega))
    | some f =>
      rw [hq] at hpost
      obtain ⟨t, ao, q, cp, h1, h2, rfl, h3, h4⟩ := hpost
      have hal : Chg (fun _ => False) w1 (w1.alloc (.cells #[.int .i64 t.op, .int .i64 t.k, .string ⟨t.r.1.toArray⟩, .string ⟨t.r.2.toArray⟩, .slice ao q cp] 26)) := (Chg.refl _ w1).alloc _
      have hbn := heap_alloc_new w1 (.cells #[.int .i64 t.op, .int .i64 t.k, .string ⟨t.r.1.toArray⟩, .string ⟨t.r.2.toArray⟩, .slice ao q cp] 26)
      have hnd := gram_len hq
      obtain ⟨ao2, cp2, k1, k2, k3, k4⟩ := own_fms h3
      rw [h2] at k1
      injection k1 with k1 k5 k6
      subst k1 k6
      have hrt := fm_right (D := fun k => (w.alloc (.cells #[.int .i64 0, .int .i64 0, .string ⟨#[]⟩, .string ⟨#[]⟩, .slice none 0 0] 26)).heap.size ≤ k ∧ k < w1.heap.size) _ (eraseA t) ao cp (w1.alloc (.cells #[.int .i64 t.op, .int .i64 t.k, .string ⟨t.r.1.toArray⟩, .string ⟨t.r.2.toArray⟩, .slice ao q cp] 26)) (by rw [eraseA_eq]; exact k3.keep hal (fun _ _ => id)) (fun i hi => Nat.lt_of_lt_of_le hi.2 hal.size) k4 (by rw [h1]; omega)
      have hq2 : (eraseA t).kids.length = q := by rw [eraseA_eq]; simp only [FmB.kids, eraseL_len]; exact k5.symm
      have e1 : (eraseA t).op = t.op := by rw [eraseA_eq]; rfl
      have e2 : (eraseA t).k = t.k := by rw [eraseA_eq]; rfl
      have e3 : (eraseA t).r = t.r := by rw [eraseA_eq]; rfl
      rw [hq2, e1, e2, e3] at hrt
      rw [h1] at hrt
      have HRT := hid hrt
      have HZ2 := hid (And.intro (blk_keep hZ1 hal id) (And.intro (hcw1.trans hal (fun _ _ h => h)) (And.intro hbn (And.intro (ownA_keep hal t h3 (fun _ _ => id)) (And.intro h4 (And.intro h1 (And.intro h2 (show w.heap.size + 1 ≤ w1.heap.size by have := hc1.size; rw [HZ.out.2.2.1] at this; exact this))))))))
      have s0 := cell_blk hbn 0
      have s1 := cell_blk hbn 1
      have s2 := cell_blk hbn 2
      have s3 := cell_blk hbn 3
      have s4 := cell_blk hbn 4
      simp only [List.getElem?_toArray, List.getElem?_cons_zero, List.getElem?_cons_succ] at s0 s1 s2 s3 s4
      have HQ := hid hq
      have HSZ := hid HZ.out.2.2.1
      clear hal hbn hnd k2 k3 k4 k5 hrt hq2 e1 e2 e3 h1 h2 h3 h4 hZ1 hcw1 hc1 hq HR HZ
      unfold FmVal
      go_wp2_with fail
      refine HRT.out.mono ?_
      rintro e w3 ⟨rfl, hc3⟩
      have hZ3 := blk_keep HZ2.out.1 hc3 id
      have hB3 := blk_keep HZ2.out.2.2.1 hc3 id
      have hown3 := ownA_keep hc3 t HZ2.out.2.2.2.1 (fun _ _ => id)
      rw [HSZ.out] at hown3
      have HC := hid (And.intro hZ3 (And.intro (HZ2.out.2.1.trans hc3 (fun _ _ h => h)) hown3))
      clear s0 s1 s2 s3 s4
      have g0 := froz_blk hZ3 0
      have g1 := froz_blk hZ3 1
      have g2 := froz_blk hZ3 2
      have g3 := froz_blk hZ3 3
      have g4 := froz_blk hZ3 4
      have r0 := cell_blk hZ3 0
      have r1 := cell_blk hZ3 1
      have r2 := cell_blk hZ3 2
      have r3 := cell_blk hZ3 3
      have r4 := cell_blk hZ3 4
      simp only [List.getElem?_toArray, List.getElem?_cons_zero, List.getElem?_cons_succ] at r0 r1 r2 r3 r4
      have s0 := cell_blk hB3 0
      have s1 := cell_blk hB3 1
      have s2 := cell_blk hB3 2
      have s3 := cell_blk hB3 3
      have s4 := cell_blk hB3 4
      simp only [List.getElem?_toArray, List.getElem?_cons_zero, List.getElem?_cons_succ] at s0 s1 s2 s3 s4
      clear hZ3 hB3 hc3 hown3 HRT
      cases hf : isF f with
      | false =>
        have HP : Hid (parseF s = (zeroF, 12)) := hid (by rw [HG.out, HQ.out]; simp only [hf]; rfl)
        clear hf
        go_wp2
        obtain ⟨hend, hcz⟩ := st5 HC.out.1 (.int .i64 0) (.int .i64 0) (.string ⟨#[]⟩) (.string ⟨#[]⟩) (.slice none 0 0)
        refine bodyPost_ret (results_row_tmp Tryz.results9 _ _ w.heap.size _ rfl (run_loadVar_row (P := Tryz.prog) _ w.heap.size 26 26 _ (0, 0) _ hend Tryz.underlying26 rfl (by kernel_rfl))) rfl ?_
        exact .zero HP.out (HC.out.2.1.trans hcz (fun i hi e => by have : i = w.heap.size := e; omega))
      | true =>
        have HP : Hid (parseF s = (f, 0)) := hid (by rw [HG.out, HQ.out]; simp only [hf, if_true])
        clear hf
        go_wp2
        obtain ⟨hend, hcz⟩ := st5 HC.out.1 (.int .i64 t.op) (.int .i64 t.k) (.string ⟨t.r.1.toArray⟩) (.string ⟨t.r.2.toArray⟩) (.slice ao q cp)
        refine bodyPost_ret (results_row_tmp Tryz.results9 _ _ w.heap.size _ rfl (run_loadVar_row (P := Tryz.prog) _ w.heap.size 26 26 _ (0, 0) _ hend Tryz.underlying26 rfl (by kernel_rfl))) rfl ?_
        have hown := HC.out.2.2
        refine ⟨HC.out.2.1.trans hcz (fun i hi e => by have : i = w.heap.size := e; omega), t, ao, q, cp, by rw [HP.out]; exact HZ2.out.2.2.2.2.2.1, HZ2.out.2.2.2.2.2.2.1, by rw [HP.out]; rfl, ownA_low (Nat.le_succ _) t (ownA_keep hcz t hown (fun b hb e => by have := (ownA_lt t hown b hb).1; have : b = w.heap.size := e; omega)), HZ2.out.2.2.2.2.1⟩
end Go.Proofs.YtojbhlbknjnioaaGreatDoor
