/- Same of two formulas: any that came in, and one of the call's own. -/
import Derived.Test.YtcbfieodjbfjdaaNc37
import Derived.Test.YtcbfieodjbfjdaaNc18
import Derived.StillTailTactics
namespace Go.Proofs.Ytcbfieodjbfjdaa
open Go.RowKit

theorem alike_swap (a a' b b' : Int) (r r' : RoleB) (n n' : Nat) : decide (a' = a ∧ b' = b ∧ r' = r ∧ n' = n) = decide (a = a' ∧ b = b' ∧ r = r' ∧ n = n') := decide_eq_decide.2 ⟨fun h => ⟨h.1.symm, h.2.1.symm, h.2.2.1.symm, h.2.2.2.symm⟩, fun h => ⟨h.1.symm, h.2.1.symm, h.2.2.1.symm, h.2.2.2.symm⟩⟩

def ks11z (Q : Nat) (p : It) (gK gB oB nK cp3 bp3 j : Nat) {n : Nat} : List (SpecR (Chg (fun b => n ≤ b))) := [.any, .any, .any, .any, .any, .any, .any, .eq (.pointer (some ⟨Q, 0, none⟩)), .eq (.int .i64 (j : Nat)), .any, .any, .any, .any, .any, .any, .any, .any, .any, .any, .any, .any, .any, .any, .any, .any, .any, .any, .any, .any, .any, .any, .any, .any, .any, .any, .any, .any, .any, .any, .any, .any, .eq (.pointer (some ⟨Q, 0, none⟩)), .eq (.pointer (some ⟨p.b.1, p.b.2, none⟩)), .eq (.pointer (some ⟨p.b.1, p.b.2, none⟩)), .eq (.pointer (some ⟨p.b.1, p.b.2 + 4, none⟩)), .eq (.slice (some ⟨gB, oB, none⟩) nK bp3), .eq (.int .i64 (j : Nat)), .eq (.pointer (some ⟨gB, oB + j * 5, none⟩)), .eq (.pointer (some ⟨Q, 1, none⟩)), .eq (.pointer (some ⟨p.a.1, p.a.2, none⟩)), .eq (.pointer (some ⟨p.a.1, p.a.2, none⟩)), .eq (.pointer (some ⟨p.a.1, p.a.2 + 4, none⟩)), .eq (.slice (some ⟨gK, 0, none⟩) nK cp3), .eq (.int .i64 (j : Nat)), .eq (.pointer (some ⟨gK, j * 5, none⟩)), .eq (.agg #[.pointer (some ⟨gB, oB + j * 5, none⟩), .pointer (some ⟨gK, j * 5, none⟩)]), .any, .any, .any, .any, .any, .any, .any, .any, .any, .any, .any, .any, .any, .any, .any, .any]

set_option maxRecDepth 100000 in
set_option maxHeartbeats 8000000 in
theorem fm_samez {D : Nat → Prop} (B : Nat) (op k : Int) (r : RoleB) (ao : Option Addr) (q cp : Nat) (kids : List AT) (f : FmB) (n : Nat) (bo : Option Addr) (bp : Nat) (w : World) (hq : q = kids.length) (hown : OwnA B w (.mk op k r (.slice ao q cp) kids)) (hnd : (blksA (.mk op k r (.slice ao q cp) kids)).Nodup) (hN : nodesF (eraseA (.mk op k r (.slice ao q cp) kids)) ≤ 90000) (hf : FmsAt D w n bo f.kids) (hD : ∀ i, D i → i < w.heap.size) (hok : FmOk f) (hz : bo = none → bp = 0) (_ : f.kids.length ≤ 90000) (hfz : ∀ n, ∀ i (h : i < f.kids.length) b' off, bo = some ⟨b', off, none⟩ → FzAt w n b' (off + i * 5) f.kids[i]) :
    Calls Try.prog 21 #[.agg #[.int .i64 f.op, .int .i64 f.k, .string ⟨f.r.1.toArray⟩, .string ⟨f.r.2.toArray⟩, .slice bo f.kids.length bp], .agg #[.int .i64 op, .int .i64 k, .string ⟨r.1.toArray⟩, .string ⟨r.2.toArray⟩, .slice ao q cp]] w fun e w' => ∃ b : Bool, e = .returned (.bool b) ∧ (b = true ↔ eraseA (.mk op k r (.slice ao q cp) kids) = f) ∧ Chg (fun _ => False) w w' := by
  have hs1 : (w.alloc (.cells #[.int .i64 f.op, .int .i64 f.k, .string ⟨f.r.1.toArray⟩, .string ⟨f.r.2.toArray⟩, .slice bo f.kids.length bp] 26)).heap.size = w.heap.size + 1 := by simp
  have hs2 : ((w.alloc (.cells #[.int .i64 f.op, .int .i64 f.k, .string ⟨f.r.1.toArray⟩, .string ⟨f.r.2.toArray⟩, .slice bo f.kids.length bp] 26)).alloc (.cells #[.int .i64 op, .int .i64 k, .string ⟨r.1.toArray⟩, .string ⟨r.2.toArray⟩, .slice ao q cp] 26)).heap.size = w.heap.size + 1 + 1 := by simp
  have hs3 : (((w.alloc (.cells #[.int .i64 f.op, .int .i64 f.k, .string ⟨f.r.1.toArray⟩, .string ⟨f.r.2.toArray⟩, .slice bo f.kids.length bp] 26)).alloc (.cells #[.int .i64 op, .int .i64 k, .string ⟨r.1.toArray⟩, .string ⟨r.2.toArray⟩, .slice ao q cp] 26)).alloc (.cells #[.pointer (some ⟨w.heap.size, 0, none⟩), .pointer (some ⟨w.heap.size + 1, 0, none⟩)] 69)).heap.size = w.heap.size + 1 + 1 + 1 := by simp
  have hc1 : Chg (fun _ => False) w (w.alloc (.cells #[.int .i64 f.op, .int .i64 f.k, .string ⟨f.r.1.toArray⟩, .string ⟨f.r.2.toArray⟩, .slice bo f.kids.length bp] 26)) := (Chg.refl _ w).alloc _
  have hc2 : Chg (fun _ => False) w ((w.alloc (.cells #[.int .i64 f.op, .int .i64 f.k, .string ⟨f.r.1.toArray⟩, .string ⟨f.r.2.toArray⟩, .slice bo f.kids.length bp] 26)).alloc (.cells #[.int .i64 op, .int .i64 k, .string ⟨r.1.toArray⟩, .string ⟨r.2.toArray⟩, .slice ao q cp] 26)) := hc1.alloc _
  have hc3 : Chg (fun _ => False) w (((w.alloc (.cells #[.int .i64 f.op, .int .i64 f.k, .string ⟨f.r.1.toArray⟩, .string ⟨f.r.2.toArray⟩, .slice bo f.kids.length bp] 26)).alloc (.cells #[.int .i64 op, .int .i64 k, .string ⟨r.1.toArray⟩, .string ⟨r.2.toArray⟩, .slice ao q cp] 26)).alloc (.cells #[.pointer (some ⟨w.heap.size, 0, none⟩), .pointer (some ⟨w.heap.size + 1, 0, none⟩)] 69)) := hc2.alloc _
  have hc4 : Chg (fun _ => False) w ((((w.alloc (.cells #[.int .i64 f.op, .int .i64 f.k, .string ⟨f.r.1.toArray⟩, .string ⟨f.r.2.toArray⟩, .slice bo f.kids.length bp] 26)).alloc (.cells #[.int .i64 op, .int .i64 k, .string ⟨r.1.toArray⟩, .string ⟨r.2.toArray⟩, .slice ao q cp] 26)).alloc (.cells #[.pointer (some ⟨w.heap.size, 0, none⟩), .pointer (some ⟨w.heap.size + 1, 0, none⟩)] 69)).alloc (.map #[] 0)) := hc3.alloc _
  have k2 : Chg (fun _ => False) (w.alloc (.cells #[.int .i64 f.op, .int .i64 f.k, .string ⟨f.r.1.toArray⟩, .string ⟨f.r.2.toArray⟩, .slice bo f.kids.length bp] 26)) ((((w.alloc (.cells #[.int .i64 f.op, .int .i64 f.k, .string ⟨f.r.1.toArray⟩, .string ⟨f.r.2.toArray⟩, .slice bo f.kids.length bp] 26)).alloc (.cells #[.int .i64 op, .int .i64 k, .string ⟨r.1.toArray⟩, .string ⟨r.2.toArray⟩, .slice ao q cp] 26)).alloc (.cells #[.pointer (some ⟨w.heap.size, 0, none⟩), .pointer (some ⟨w.heap.size + 1, 0, none⟩)] 69)).alloc (.map #[] 0)) := (((Chg.refl (fun _ => False) (w.alloc (.cells #[.int .i64 f.op, .int .i64 f.k, .string ⟨f.r.1.toArray⟩, .string ⟨f.r.2.toArray⟩, .slice bo f.kids.length bp] 26))).alloc (.cells #[.int .i64 op, .int .i64 k, .string ⟨r.1.toArray⟩, .string ⟨r.2.toArray⟩, .slice ao q cp] 26)).alloc (.cells #[.pointer (some ⟨w.heap.size, 0, none⟩), .pointer (some ⟨w.heap.size + 1, 0, none⟩)] 69)).alloc (.map #[] 0)
  have k3 : Chg (fun _ => False) ((w.alloc (.cells #[.int .i64 f.op, .int .i64 f.k, .string ⟨f.r.1.toArray⟩, .string ⟨f.r.2.toArray⟩, .slice bo f.kids.length bp] 26)).alloc (.cells #[.int .i64 op, .int .i64 k, .string ⟨r.1.toArray⟩, .string ⟨r.2.toArray⟩, .slice ao q cp] 26)) ((((w.alloc (.cells #[.int .i64 f.op, .int .i64 f.k, .string ⟨f.r.1.toArray⟩, .string ⟨f.r.2.toArray⟩, .slice bo f.kids.length bp] 26)).alloc (.cells #[.int .i64 op, .int .i64 k, .string ⟨r.1.toArray⟩, .string ⟨r.2.toArray⟩, .slice ao q cp] 26)).alloc (.cells #[.pointer (some ⟨w.heap.size, 0, none⟩), .pointer (some ⟨w.heap.size + 1, 0, none⟩)] 69)).alloc (.map #[] 0)) := ((Chg.refl (fun _ => False) ((w.alloc (.cells #[.int .i64 f.op, .int .i64 f.k, .string ⟨f.r.1.toArray⟩, .string ⟨f.r.2.toArray⟩, .slice bo f.kids.length bp] 26)).alloc (.cells #[.int .i64 op, .int .i64 k, .string ⟨r.1.toArray⟩, .string ⟨r.2.toArray⟩, .slice ao q cp] 26))).alloc (.cells #[.pointer (some ⟨w.heap.size, 0, none⟩), .pointer (some ⟨w.heap.size + 1, 0, none⟩)] 69)).alloc (.map #[] 0)
  have k4 : Chg (fun _ => False) (((w.alloc (.cells #[.int .i64 f.op, .int .i64 f.k, .string ⟨f.r.1.toArray⟩, .string ⟨f.r.2.toArray⟩, .slice bo f.kids.length bp] 26)).alloc (.cells #[.int .i64 op, .int .i64 k, .string ⟨r.1.toArray⟩, .string ⟨r.2.toArray⟩, .slice ao q cp] 26)).alloc (.cells #[.pointer (some ⟨w.heap.size, 0, none⟩), .pointer (some ⟨w.heap.size + 1, 0, none⟩)] 69)) ((((w.alloc (.cells #[.int .i64 f.op, .int .i64 f.k, .string ⟨f.r.1.toArray⟩, .string ⟨f.r.2.toArray⟩, .slice bo f.kids.length bp] 26)).alloc (.cells #[.int .i64 op, .int .i64 k, .string ⟨r.1.toArray⟩, .string ⟨r.2.toArray⟩, .slice ao q cp] 26)).alloc (.cells #[.pointer (some ⟨w.heap.size, 0, none⟩), .pointer (some ⟨w.heap.size + 1, 0, none⟩)] 69)).alloc (.map #[] 0)) := (Chg.refl (fun _ => False) (((w.alloc (.cells #[.int .i64 f.op, .int .i64 f.k, .string ⟨f.r.1.toArray⟩, .string ⟨f.r.2.toArray⟩, .slice bo f.kids.length bp] 26)).alloc (.cells #[.int .i64 op, .int .i64 k, .string ⟨r.1.toArray⟩, .string ⟨r.2.toArray⟩, .slice ao q cp] 26)).alloc (.cells #[.pointer (some ⟨w.heap.size, 0, none⟩), .pointer (some ⟨w.heap.size + 1, 0, none⟩)] 69))).alloc (.map #[] 0)
  have hbb := heap_alloc_new w (.cells #[.int .i64 f.op, .int .i64 f.k, .string ⟨f.r.1.toArray⟩, .string ⟨f.r.2.toArray⟩, .slice bo f.kids.length bp] 26)
  have hbb := blk_keep hbb k2 id
  have hba := heap_alloc_new (w.alloc (.cells #[.int .i64 f.op, .int .i64 f.k, .string ⟨f.r.1.toArray⟩, .string ⟨f.r.2.toArray⟩, .slice bo f.kids.length bp] 26)) (.cells #[.int .i64 op, .int .i64 k, .string ⟨r.1.toArray⟩, .string ⟨r.2.toArray⟩, .slice ao q cp] 26)
  rw [hs1] at hba
  have hba := blk_keep hba k3 id
  have hbr := heap_alloc_new ((w.alloc (.cells #[.int .i64 f.op, .int .i64 f.k, .string ⟨f.r.1.toArray⟩, .string ⟨f.r.2.toArray⟩, .slice bo f.kids.length bp] 26)).alloc (.cells #[.int .i64 op, .int .i64 k, .string ⟨r.1.toArray⟩, .string ⟨r.2.toArray⟩, .slice ao q cp] 26)) (.cells #[.pointer (some ⟨w.heap.size, 0, none⟩), .pointer (some ⟨w.heap.size + 1, 0, none⟩)] 69)
  rw [hs2] at hbr
  have hbr := blk_keep hbr k4 id
  have hbm := heap_alloc_new (((w.alloc (.cells #[.int .i64 f.op, .int .i64 f.k, .string ⟨f.r.1.toArray⟩, .string ⟨f.r.2.toArray⟩, .slice bo f.kids.length bp] 26)).alloc (.cells #[.int .i64 op, .int .i64 k, .string ⟨r.1.toArray⟩, .string ⟨r.2.toArray⟩, .slice ao q cp] 26)).alloc (.cells #[.pointer (some ⟨w.heap.size, 0, none⟩), .pointer (some ⟨w.heap.size + 1, 0, none⟩)] 69)) (.map #[] 0)
  rw [hs3] at hbm
  have hlo := ownA_lt _ hown
  have HF : ∀ i, (D i ∨ i = w.heap.size) → ¬ False := fun _ _ => id
  have hfm2 : FmsAt (fun i => D i ∨ i = w.heap.size) ((((w.alloc (.cells #[.int .i64 f.op, .int .i64 f.k, .string ⟨f.r.1.toArray⟩, .string ⟨f.r.2.toArray⟩, .slice bo f.kids.length bp] 26)).alloc (.cells #[.int .i64 op, .int .i64 k, .string ⟨r.1.toArray⟩, .string ⟨r.2.toArray⟩, .slice ao q cp] 26)).alloc (.cells #[.pointer (some ⟨w.heap.size, 0, none⟩), .pointer (some ⟨w.heap.size + 1, 0, none⟩)] 69)).alloc (.map #[] 0)) n bo f.kids := (hf.keep hc4 (fun _ _ => id)).mono (fun i hi => .inl hi)
  have hfb : FmAt (fun i => D i ∨ i = w.heap.size) ((((w.alloc (.cells #[.int .i64 f.op, .int .i64 f.k, .string ⟨f.r.1.toArray⟩, .string ⟨f.r.2.toArray⟩, .slice bo f.kids.length bp] 26)).alloc (.cells #[.int .i64 op, .int .i64 k, .string ⟨r.1.toArray⟩, .string ⟨r.2.toArray⟩, .slice ao q cp] 26)).alloc (.cells #[.pointer (some ⟨w.heap.size, 0, none⟩), .pointer (some ⟨w.heap.size + 1, 0, none⟩)] 69)).alloc (.map #[] 0)) (n + 1) w.heap.size 0 f := fm_at_blk hbb hok hz hfm2
  have hfr : (((((w.alloc (.cells #[.int .i64 f.op, .int .i64 f.k, .string ⟨f.r.1.toArray⟩, .string ⟨f.r.2.toArray⟩, .slice bo f.kids.length bp] 26)).alloc (.cells #[.int .i64 op, .int .i64 k, .string ⟨r.1.toArray⟩, .string ⟨r.2.toArray⟩, .slice ao q cp] 26)).alloc (.cells #[.pointer (some ⟨w.heap.size, 0, none⟩), .pointer (some ⟨w.heap.size + 1, 0, none⟩)] 69)).alloc (.map #[] 0))).frozen? ⟨w.heap.size, 0, none⟩ = false := froz_blk hbb 0
  have hfz2 : ∀ m, FzAt ((((w.alloc (.cells #[.int .i64 f.op, .int .i64 f.k, .string ⟨f.r.1.toArray⟩, .string ⟨f.r.2.toArray⟩, .slice bo f.kids.length bp] 26)).alloc (.cells #[.int .i64 op, .int .i64 k, .string ⟨r.1.toArray⟩, .string ⟨r.2.toArray⟩, .slice ao q cp] 26)).alloc (.cells #[.pointer (some ⟨w.heap.size, 0, none⟩), .pointer (some ⟨w.heap.size + 1, 0, none⟩)] 69)).alloc (.map #[] 0)) m w.heap.size 0 f := fun m => by
    cases m with
    | zero => trivial
    | succ m =>
      refine ⟨hfr, fun ao9 cp9 h4 i hi b' off hao => ?_⟩
      have c4 := cell_blk hbb 4
      simp only [List.getElem?_toArray, List.getElem?_cons_zero, List.getElem?_cons_succ] at c4
      rw [Nat.zero_add] at h4
      rw [h4] at c4
      simp only [Option.some.injEq, Value.slice.injEq, true_and] at c4
      obtain ⟨rfl, rfl⟩ := c4
      obtain ⟨b2, off2, e, hDb, hfk⟩ := hf i hi
      rw [hao] at e
      cases e
      exact FzAt.keep hc4 (fun b hb hlt => hc4.block b hlt hb) m hfk (fun _ _ => id) id (hfz m i hi _ _ hao)
  have hroot : ItZ B ((((w.alloc (.cells #[.int .i64 f.op, .int .i64 f.k, .string ⟨f.r.1.toArray⟩, .string ⟨f.r.2.toArray⟩, .slice bo f.kids.length bp] 26)).alloc (.cells #[.int .i64 op, .int .i64 k, .string ⟨r.1.toArray⟩, .string ⟨r.2.toArray⟩, .slice ao q cp] 26)).alloc (.cells #[.pointer (some ⟨w.heap.size, 0, none⟩), .pointer (some ⟨w.heap.size + 1, 0, none⟩)] 69)).alloc (.map #[] 0)) (w.heap.size + 1 + 1) (fun i => D i ∨ i = w.heap.size) ⟨.mk op k r (.slice ao q cp) kids, (w.heap.size + 1, 0), f, (w.heap.size, 0)⟩ := by
    refine ⟨⟨fun j hj => ?_, ⟨_, _, hba⟩, by show w.heap.size + 1 < w.heap.size + 1 + 1; omega, ownA_keep hc4 _ hown (fun _ _ => id), fun b hb => by have := (hlo b hb).2; omega, ⟨n + 1, hfb⟩, by show w.heap.size < w.heap.size + 1 + 1; omega⟩, hfz2⟩
    show (((((w.alloc (.cells #[.int .i64 f.op, .int .i64 f.k, .string ⟨f.r.1.toArray⟩, .string ⟨f.r.2.toArray⟩, .slice bo f.kids.length bp] 26)).alloc (.cells #[.int .i64 op, .int .i64 k, .string ⟨r.1.toArray⟩, .string ⟨r.2.toArray⟩, .slice ao q cp] 26)).alloc (.cells #[.pointer (some ⟨w.heap.size, 0, none⟩), .pointer (some ⟨w.heap.size + 1, 0, none⟩)] 69)).alloc (.map #[] 0))).cell? ⟨w.heap.size + 1, 0 + j, none⟩ = _
    rw [Nat.zero_add, cell_blk hba j]
    simp only [List.getElem?_toArray]
    rfl
  have HD2 : Hid (∀ i, (D i ∨ i = w.heap.size) → i < w.heap.size + 1 + 1) := hid (fun i hi => by
    rcases hi with hi | hi
    · have := hD i hi; omega
    · omega)
  obtain ⟨T, hT⟩ : ∃ T : AT, T = .mk op k r (.slice ao q cp) kids := ⟨_, rfl⟩
  have hrow : ((((w.alloc (.cells #[.int .i64 f.op, .int .i64 f.k, .string ⟨f.r.1.toArray⟩, .string ⟨f.r.2.toArray⟩, .slice bo f.kids.length bp] 26)).alloc (.cells #[.int .i64 op, .int .i64 k, .string ⟨r.1.toArray⟩, .string ⟨r.2.toArray⟩, .slice ao q cp] 26)).alloc (.cells #[.pointer (some ⟨w.heap.size, 0, none⟩), .pointer (some ⟨w.heap.size + 1, 0, none⟩)] 69)).alloc (.map #[] 0)).ownsRow (w.heap.size + 1 + 1) 69 2 (.slice (some ⟨w.heap.size + 1 + 1, 0, none⟩) 1 1) 1 (rowPB [⟨T, (w.heap.size + 1, 0), f, (w.heap.size, 0)⟩]) := ⟨by simp [rowPB, itCellsB], .inr ⟨w.heap.size + 1 + 1, 1, _, rfl, Nat.le_refl _, hbr, by omega, by unfold maxLen; omega, by simp, by simp [rowPB, itCellsB, It.pa, It.pb]⟩⟩
  rw [← hT] at hroot hnd hN ⊢
  have HS := hid (And.intro hroot (And.intro hrow (And.intro hnd (And.intro hbm hc4))))
  have HQ := hid hq
  have hmm := run_makeMapP
  clear hq hs1 hs2 hs3 hc1 hc2 hc3 hc4 k2 k3 k4 hba hbb hbr hbm hlo hroot hrow hown hnd hf hD hok hz hT HF hfm2 hfb hfr hfz2 hfz
  go_enter Try.func21, Try.ntmps21
  go_wp2
  obtain ⟨w2, hw2⟩ : ∃ w2, w2 = ((((w.alloc (.cells #[.int .i64 f.op, .int .i64 f.k, .string ⟨f.r.1.toArray⟩, .string ⟨f.r.2.toArray⟩, .slice bo f.kids.length bp] 26)).alloc (.cells #[.int .i64 op, .int .i64 k, .string ⟨r.1.toArray⟩, .string ⟨r.2.toArray⟩, .slice ao q cp] 26)).alloc (.cells #[.pointer (some ⟨w.heap.size, 0, none⟩), .pointer (some ⟨w.heap.size + 1, 0, none⟩)] 69)).alloc (.map #[] 0)) := ⟨_, rfl⟩
  rw [← hw2] at HS ⊢
  obtain ⟨L0, hL0⟩ : ∃ L0, L0 = w.heap.size + 1 + 1 := ⟨_, rfl⟩
  rw [← hL0] at HS HD2 ⊢
  have HL0 := hid hL0
  obtain ⟨DD, hDD⟩ : ∃ DD : Nat → Prop, DD = (fun i => D i ∨ i = w.heap.size) := ⟨_, rfl⟩
  have HDL : Hid (∀ i, DD i → i < L0) := hid (by rw [hDD]; exact HD2.out)
  rw [← hDD] at HS
  have HCW := hid HS.out.2.2.2.2
  have HS2 := hid (And.intro HS.out.1 (And.intro HS.out.2.1 (And.intro HS.out.2.2.1 HS.out.2.2.2.1)))
  have HTN : Hid (nodesF (eraseA T) ≤ 90000) := hid hN
  clear hw2 hL0 hDD HD2 HS hN
  go_loopw [5] (fun s5 wr => ∃ (v : Value) (its : List It) (es : Array MapEntry) (clock : Nat), s5 = v ∧ Hid (wr.ownsRow L0 69 2 v its.length (rowPB its) ∧ (∀ p ∈ its, ItZ B w2 L0 DD p) ∧ (blksS its).Nodup ∧ wr.heap[L0 + 1]? = some (.map es clock) ∧ (∀ e ∈ es.toList, KeyZ w2 L0 (blksS its) e) ∧ v.ownBlock ≠ some (L0 + 1) ∧ (nodesS its + 1 + es.size = nodesF (eraseA T) + its.length ∧ its.length ≤ es.size + 1) ∧ (eraseA T = f ↔ ∀ p ∈ its, eraseA p.s = p.g) ∧ Chg (fun k => L0 ≤ k) w2 wr)) (fun s5 w9 => nodesF (eraseA T) + lenOfV s5 - 1 - mapSize w9 (L0 + 1))
  case atStart => exact ⟨_, [⟨T, (w.heap.size + 1, 0), f, (w.heap.size, 0)⟩], #[], 0, rfl, hid ⟨HS2.out.2.1, fun p hp => by rw [List.mem_singleton.1 hp]; exact HS2.out.1, by simpa [blksS] using HS2.out.2.2.1, HS2.out.2.2.2, fun e he => (by simp at he), by simp [Value.ownBlock], by simp [nodesS], by simp, Chg.refl _ _⟩⟩
  case round =>
    obtain ⟨v, its, es, clock, hs5, hrel⟩ := hrel
    rcases List.eq_nil_or_concat its with hn0 | ⟨its0, p, hn0⟩
    · subst hn0
      have hr := hrel.out
      have hv : v = .slice none 0 0 ∨ ∃ g cp, v = .slice (some ⟨g, 0, none⟩) 0 cp := by
        rcases hr.1.2 with ⟨e, _⟩ | ⟨g, cap, cur, e, _⟩
        · exact .inl e
        · exact .inr ⟨g, cap, e⟩
      have HEND := hid (And.intro (hr.2.2.2.2.2.2.2.1.2 (fun p hp => by cases hp)) (HCW.out.trans hr.2.2.2.2.2.2.2.2 (fun i hi e => by have := HL0.out; omega)))
      clear hrel hr
      rcases hv with rfl | ⟨g, cp2, rfl⟩
      · subst hs5
        go_wp2
        go_ret
        exact ⟨true, rfl, ⟨fun _ => HEND.out.1, fun _ => rfl⟩, HEND.out.2⟩
      · subst hs5
        go_wp2
        go_ret
        exact ⟨true, rfl, ⟨fun _ => HEND.out.1, fun _ => rfl⟩, HEND.out.2⟩
    · rw [List.concat_eq_append] at hn0
      subst hn0
      obtain ⟨k1, k2, k3, k4, k5, k6, k7, k8, k9⟩ := hrel.out
      obtain ⟨gL, cpL, hv, j1, j2, j3, j4, j5, j6, j7⟩ := row_cutB k1
      have hp := k2 p (by simp)
      have HPZ := hid hp
      have hp := hp.ok
      have hpl : its0.length + 1 ≤ 90001 := by have h1 := nodesS_len (its0 ++ [p]); simp only [List.length_append, List.length_singleton] at k7 h1; have := HTN.out; omega
      obtain ⟨nL, hnL⟩ : ∃ nL, nL = its0.length + 1 := ⟨_, rfl⟩
      obtain ⟨n0, hn0⟩ : ∃ n0, n0 = its0.length := ⟨_, rfl⟩
      rw [← hnL] at hv
      subst hv
      subst hs5
      rw [← hn0] at j5 j6 j7
      have HNL := hid (And.intro hnL (And.intro hn0 hpl))
      have hnn : nL = n0 + 1 := by omega
      have hnb : n0 ≤ 90000 := by omega
      have hpi : (nL : Int) - 1 = (n0 : Int) := by omega
      have hwp : IntKind.i64.wrap (n0 : Int) = (n0 : Int) := by rw [IntKind.wrap_i64]; omega
      have z1 : decide ((0 : Int) < (nL : Int)) = true := decide_eq_true (by omega)
      have hlt : n0 < nL := by omega
      have hle : n0 ≤ cpL := by omega
      have hle2 : nL ≤ cpL := by omega
      have HNN := hid hnn
      unfold It.pb at j5
      unfold It.pa at j6
      have HR := hid (And.intro k2 (And.intro k3 (And.intro k4 (And.intro k5 (And.intro k6 (And.intro k7 (And.intro k8 (And.intro k9 (And.intro j7 (And.intro j1 j2))))))))))
      have HP := hid hp
      clear hrel k1 k2 k3 k4 k5 k6 k7 k8 k9 j1 j2 j3 j4 j7 hp hnL hn0 hpl hnn
      obtain ⟨aoA, boA, cpA, bpA, hpv, c4⟩ : ∃ (aoA boA : Option Addr) (cpA bpA : Nat), p.s.v = .slice aoA p.s.kids.length cpA ∧ w2.cell? ⟨p.b.1, p.b.2 + 4, none⟩ = some (.slice boA p.g.kids.length bpA) := by
        have h0 := HP.out.own
        rw [ownA_eq] at h0
        obtain ⟨ao9, cp9, hv9, _, _⟩ := rowV_shape h0.2.1
        obtain ⟨m, hm⟩ := HP.out.fm
        obtain ⟨d, bo9, bp9, _, ⟨_, _, _, _, c4⟩, _, _, _⟩ := hm.open_
        exact ⟨ao9, bo9, cp9, bp9, hv9, c4⟩
      have hcq : Chg (fun k => L0 ≤ k) w2 (wr.alloc (.cells #[.pointer (some ⟨p.b.1, p.b.2, none⟩), .pointer (some ⟨p.a.1, p.a.2, none⟩)] 69)) := HR.out.2.2.2.2.2.2.2.1.alloc _
      have hla := HP.out.la
      have hlb := HP.out.lb
      obtain ⟨m, hm⟩ := HP.out.fm
      obtain ⟨d, bo9, bp9, _, ⟨b0, b1, b2, b3, b4⟩, _, _, _⟩ := hm.open_
      rw [b4] at c4
      have a0 := HP.out.ca 0 (by omega)
      have a1 := HP.out.ca 1 (by omega)
      have a2 := HP.out.ca 2 (by omega)
      have a3 := HP.out.ca 3 (by omega)
      have a4 := HP.out.ca 4 (by omega)
      simp only [cellsA, List.getElem?_cons_zero, List.getElem?_cons_succ, Nat.add_zero] at a0 a1 a2 a3 a4
      rw [hpv] at a4
      have hAl : Hid (Calls Try.prog 42 #[.agg #[.pointer (some ⟨p.b.1, p.b.2, none⟩), .pointer (some ⟨p.a.1, p.a.2, none⟩)]] (wr.alloc (.cells #[.pointer (some ⟨p.b.1, p.b.2, none⟩), .pointer (some ⟨p.a.1, p.a.2, none⟩)] 69)) fun e w' => e = .returned (.bool (decide (p.s.op = p.g.op ∧ p.s.k = p.g.k ∧ p.s.r = p.g.r ∧ p.s.kids.length = p.g.kids.length))) ∧ Chg (fun _ => False) (wr.alloc (.cells #[.pointer (some ⟨p.b.1, p.b.2, none⟩), .pointer (some ⟨p.a.1, p.a.2, none⟩)] 69)) w') := hid (by
        have h0 := fm_alike p.b.1 p.b.2 p.a.1 p.a.2 p.g.kids.length p.s.kids.length bp9 cpA p.g.op p.g.k p.s.op p.s.k p.g.r p.s.r bo9 aoA (wr.alloc (.cells #[.pointer (some ⟨p.b.1, p.b.2, none⟩), .pointer (some ⟨p.a.1, p.a.2, none⟩)] 69)) ⟨hcq.cell b0 (by show ¬ L0 ≤ p.b.1; omega), hcq.cell b1 (by show ¬ L0 ≤ p.b.1; omega), hcq.cell b2 (by show ¬ L0 ≤ p.b.1; omega), hcq.cell b3 (by show ¬ L0 ≤ p.b.1; omega), hcq.cell b4 (by show ¬ L0 ≤ p.b.1; omega)⟩ ⟨hcq.cell a0 (by show ¬ L0 ≤ p.a.1; omega), hcq.cell a1 (by show ¬ L0 ≤ p.a.1; omega), hcq.cell a2 (by show ¬ L0 ≤ p.a.1; omega), hcq.cell a3 (by show ¬ L0 ≤ p.a.1; omega), hcq.cell a4 (by show ¬ L0 ≤ p.a.1; omega)⟩
        rw [alike_swap] at h0
        exact h0)
      have hqb := heap_alloc_new wr (.cells #[.pointer (some ⟨p.b.1, p.b.2, none⟩), .pointer (some ⟨p.a.1, p.a.2, none⟩)] 69)
      have HQB := hid (And.intro hqb hcq)
      clear hcq hla hlb hm b0 b1 b2 b3 b4 a0 a1 a2 a3 a4 c4 hqb hpv
      go_wp2_with fail
      refine hAl.out.mono ?_
      rintro e w5 ⟨rfl, hc5⟩
      obtain ⟨al, hal⟩ : ∃ al, al = decide (p.s.op = p.g.op ∧ p.s.k = p.g.k ∧ p.s.r = p.g.r ∧ p.s.kids.length = p.g.kids.length) := ⟨_, rfl⟩
      rw [← hal]
      have HAL := hid hal
      have HQ5 := hid (And.intro (blk_keep HQB.out.1 hc5 id) (HQB.out.2.trans hc5 (fun _ _ h => h.elim)))
      have HR5 := hid (And.intro (ownsRow_keep HR.out.2.2.2.2.2.2.2.2.1 (((Chg.refl (fun _ => False) wr).alloc (.cells #[.pointer (some ⟨p.b.1, p.b.2, none⟩), .pointer (some ⟨p.a.1, p.a.2, none⟩)] 69)).trans hc5 (fun _ _ h => h)) (fun _ _ => id)) (blk_keep HR.out.2.2.1 (((Chg.refl (fun _ => False) wr).alloc (.cells #[.pointer (some ⟨p.b.1, p.b.2, none⟩), .pointer (some ⟨p.a.1, p.a.2, none⟩)] 69)).trans hc5 (fun _ _ h => h)) id))
      have HS5 := hid (show wr.heap.size < w5.heap.size by have := hc5.size; simp at this; omega)
      clear hal hc5 hAl j5 j6
      cases al with
      | false =>
        go_wp2
        go_ret
        refine ⟨false, rfl, ⟨fun h => (by cases h), fun h => ?_⟩, HCW.out.trans HQ5.out.2 (fun i hi e => by have := HL0.out; omega)⟩
        have h1 := HR.out.2.2.2.2.2.2.1.1 h p (by simp)
        rw [fm_same_parts] at h1
        have := HAL.out
        rw [decide_eq_true h1.1] at this
        exact this
      | true =>
        have hpp := of_decide_eq_true HAL.out.symm
        obtain ⟨ao3, bo3, cp3, bp3, KI, i1, i2, i3, i4, i5, i6, i7, i8⟩ := HPZ.out.kids2 HDL.out hpp.2.2.2
        obtain ⟨nK, hnK⟩ : ∃ nK, nK = p.s.kids.length := ⟨_, rfl⟩
        have a4 := i2
        rw [← hpp.2.2.2, ← hnK] at a4
        have x4 := HQ5.out.2.cell a4 (by show ¬ L0 ≤ p.b.1; have := HP.out.lb; omega)
        have x0 := cell_blk HQ5.out.1 0
        simp only [List.getElem?_toArray, List.getElem?_cons_zero] at x0
        have hbK : nK ≤ 90000 := by
          have h1 := HR.out.2.2.2.2.2.1.1
          have h2 := nodesL_len (eraseL p.s.kids)
          rw [eraseL_len, ← hnK] at h2
          have h3 : nodesS (its0 ++ [p]) = nodesS its0 + nodesF (eraseA p.s) := by rw [nodesS_app]; simp [nodesS]
          have h4 := nodesF_eq (eraseA p.s)
          rw [eraseA_eq] at h4
          simp only [FmB.kids] at h4
          have h6 := HR.out.2.2.2.2.2.1.2
          rw [h3, eraseA_eq p.s, h4, List.length_append, List.length_singleton] at h1
          have := nodesS_len its0
          have := HTN.out
          omega
        have HK := hid (And.intro hpp (And.intro i1 (And.intro i2 (And.intro i3 (And.intro i4 (And.intro i5 (And.intro i6 (And.intro i7 (And.intro i8 hnK)))))))))
        clear hpp i1 i2 i3 i4 i5 i6 i7 i8 hnK a4 HAL
        go_wp2
        have HM1 : Hid (mapSize wr (L0 + 1) = es.size) := hid (by unfold mapSize; rw [HR.out.2.2.1])
        have HGL : Hid (gL ≠ wr.heap.size ∧ wr.heap.size ≠ L0 + 1 ∧ L0 ≤ wr.heap.size ∧ gL ≠ L0 + 1) := hid ⟨fun e => by have := HR.out.2.2.2.2.2.2.2.2.2.2; omega, fun e => by have := lt_blk HR.out.2.2.1; omega, by have := lt_blk HR.out.2.2.1; omega, fun e => by have := HR.out.2.2.2.2.1; rw [e] at this; exact this rfl⟩
        generalize hQe : wr.heap.size = Q at *
        clear hQe
        go_loopw [5, 38] (fun s5 i wr => ∃ (j : Nat) (v9 : Value) (es9 : Array MapEntry) (ck9 : Nat), j ≤ nK ∧ i = .int .i64 j ∧ s5 = v9 ∧ Hid (SameZ w2 L0 Q p its0 KI (blksS (its0 ++ [p])) es.size j v9 es9 ck9 wr)) (fun _ i _ => nK - (intOf i).toNat)
        case atStart => exact ⟨0, _, es, clock, Nat.zero_le _, rfl, rfl, hid ⟨by simp only [List.take_zero, List.append_nil]; rw [← HNL.out.2.1]; exact HR5.out.1, HR5.out.2, fun e he => .inl (HR.out.2.2.2.1 e he), rfl, fun e => by injection e with e; exact HGL.out.2.2.2 e, fun e => by injection e with e; exact HGL.out.1 e, HQ5.out.1, HQ5.out.2⟩⟩
        case round =>
          obtain ⟨j, v9, es9, ck9, hj, rfl, hs5, hrel⟩ := hrel
          by_cases hlt : j < nK
          · obtain ⟨hpp, i1, i2, i3, i4, i5, i6, i7, i8, hnK⟩ := HK.out
            have hjK : j < KI.length := by omega
            obtain ⟨gK, gB, oB, e1, e2, e3, e4, e5⟩ := i8 j hjK
            subst e1 e2
            have a4 := HP.out.ca 4 (by omega)
            simp only [cellsA, List.getElem?_cons_zero, List.getElem?_cons_succ] at a4
            rw [i1, ← hnK] at a4
            rw [← hpp.2.2.2, ← hnK] at i2
            have k7 := hrel.out.q
            have k8 := hrel.out.chg
            have x4 := k8.cell a4 (by show ¬ L0 ≤ p.a.1; have := HP.out.la; omega)
            have y4 := k8.cell i2 (by show ¬ L0 ≤ p.b.1; have := HP.out.lb; omega)
            have x0 := cell_blk k7 0
            have x1 := cell_blk k7 1
            simp only [List.getElem?_toArray, List.getElem?_cons_zero, List.getElem?_cons_succ] at x0 x1
            have hkall : ∀ i (hi : i < KI.length), KI[i].a = (gK, i * 5) := fun i hi => by
              obtain ⟨g9, _, _, q1, _, _, q2, _⟩ := i8 i hi
              injection q1 with q1
              injection q1 with q1
              rw [q2, q1]
            have hgin : gK ∈ blksS (its0 ++ [p]) := by
              rw [blksS_app]
              refine List.mem_append_right _ ?_
              simp only [blksS, List.flatMap_cons, List.flatMap_nil, List.append_nil]
              rw [blksA_eq, e3]
              exact List.mem_append_left _ (by simp)
            have hkl : its0.length + KI.length ≤ 99000 := by
              have h1 := HR.out.2.2.2.2.2.1.1
              have h6 := HR.out.2.2.2.2.2.1.2
              have h3 : nodesS (its0 ++ [p]) = nodesS its0 + nodesF (eraseA p.s) := by rw [nodesS_app]; simp [nodesS]
              have h4 := nodesF_eq (eraseA p.s)
              rw [eraseA_eq] at h4
              simp only [FmB.kids] at h4
              rw [← eraseA_eq] at h4
              have h5 := nodesL_len (eraseL p.s.kids)
              rw [eraseL_len] at h5
              have := nodesS_len its0
              rw [h3, List.length_append, List.length_singleton] at h1
              rw [List.length_append, List.length_singleton] at h6
              have := i3
              have := HTN.out
              have := HNL.out.2.2
              omega
            have HPUSH := hid (fun wp b cA hbl hb => SameZ.push hrel.out hjK hkl i4 hgin hkall e5 ⟨HGL.out.2.2.1, HGL.out.2.1⟩ wp b cA hbl hb)
            have HB : Hid (∀ w, Chg (fun b => wr.heap.size ≤ b) wr w → w.cell? ⟨p.a.1, p.a.2 + 4, none⟩ = some (.slice (some ⟨gK, 0, none⟩) nK cp3) ∧ w.cell? ⟨p.b.1, p.b.2 + 4, none⟩ = some (.slice (some ⟨gB, oB, none⟩) nK bp3) ∧ w.cell? ⟨Q, 0, none⟩ = some (.pointer (some ⟨p.b.1, p.b.2, none⟩)) ∧ w.cell? ⟨Q, 1, none⟩ = some (.pointer (some ⟨p.a.1, p.a.2, none⟩))) := hid (fun w hw => ⟨old_cell x4 hw, old_cell y4 hw, old_cell x0 hw, old_cell x1 hw⟩)
            have HLT := hid hlt
            clear hrel hpp i1 i2 i3 i4 i5 i6 i7 i8 hnK a4 k7 k8 hjK e3 e4 e5 hkall hgin hkl x0 x1 x4 y4
            go_wp2
            refine wp_region_stateAD (Chg (fun b => wr.heap.size ≤ b)) (AlS 15 16 9 (fun w => Chg (fun b => wr.heap.size ≤ b) wr w) (fun v w => ∃ b, v = .pointer (some ⟨b, 0, none⟩) ∧ w.heap[b]? = some (.cells #[.pointer none, .pointer none] 69 (0, 0)) ∧ wr.heap.size ≤ b ∧ Chg (fun b => wr.heap.size ≤ b) wr w) (fun v w => ∃ b, v = .pointer (some ⟨b, 0, none⟩) ∧ w.heap[b]? = some (.cells #[.pointer (some ⟨gB, oB + j * 5, none⟩), .pointer (some ⟨gK, j * 5, none⟩)] 69 (0, 0)) ∧ wr.heap.size ≤ b ∧ Chg (fun b => wr.heap.size ≤ b) wr w)) (specAtR (ks11z Q p gK gB oB nK cp3 bp3 j)) [41, 42, 43, 44, 45, 46, 47, 48, 49, 50, 51, 52, 53, 54, 55, 9] [7, 8] (by kernel_rfl) (by kernel_rfl) (AlS.start (show (9 : Nat) < 72 by decide) ((Chg.refl _ _).drew)) (fun t v w w' hc h => specAtR_st _ t v w w' hc h) (by rfl) (by kernel_rfl) ?start11 ?obs11 ?fin11
            case start11 =>
              simp only [List.forall_mem_cons]; exact ⟨⟨_, rfl, rfl⟩, ⟨_, rfl, rfl⟩, fun _ h => by cases h⟩
            case obs11 =>
              clear HPUSH
              refine ObsAD.cons none (by kernel_rfl) ?_ ?_
              · refine ObAD.plain fun L a w hi he hD hW hk K k => ?_
                obtain ⟨_, e7, rfl⟩ := hk 7 (by decide)
                clear hk
                have hS := hid (hW.step (j := 0) (d := (some 41)) · (by decide) (Chg.refl (fun _ => False) w) (fun _ _ h c => h.trans c (fun _ _ h => h.elim)) (fun _ _ _ h c => alQ h c) (fun _ _ _ h c => alQ h c))
                clear hi he hW hD
                go_simp
                exact k _ _ (Chg.refl _ _) (hS.out _) rfl
              refine ObsAD.cons none (by kernel_rfl) ?_ ?_
              · refine ObAD.plain fun L a w hi he hD hW hk K k => ?_
                obtain ⟨_, e41, rfl⟩ := hk 41 (by decide)
                clear hk
                have hB := hW.ever (fun w h => HB.out w h) (fun v w h => HB.out w h.choose_spec.2.2.2) (fun v w h => HB.out w (h.choose_spec.2.2.2))
                obtain ⟨_, _, zz, _⟩ := hB
                have hS := hid (hW.step (j := 1) (d := (some 42)) · (by decide) (Chg.refl (fun _ => False) w) (fun _ _ h c => h.trans c (fun _ _ h => h.elim)) (fun _ _ _ h c => alQ h c) (fun _ _ _ h c => alQ h c))
                clear hi he hW hD
                go_simp
                exact k _ _ (Chg.refl _ _) (hS.out _) rfl
              refine ObsAD.cons none (by kernel_rfl) ?_ ?_
              · refine ObAD.plain fun L a w hi he hD hW hk K k => ?_
                obtain ⟨_, e42, rfl⟩ := hk 42 (by decide)
                clear hk
                have hS := hid (hW.step (j := 2) (d := (some 43)) · (by decide) (Chg.refl (fun _ => False) w) (fun _ _ h c => h.trans c (fun _ _ h => h.elim)) (fun _ _ _ h c => alQ h c) (fun _ _ _ h c => alQ h c))
                clear hi he hW hD
                go_simp
                exact k _ _ (Chg.refl _ _) (hS.out _) rfl
              refine ObsAD.cons none (by kernel_rfl) ?_ ?_
              · refine ObAD.plain fun L a w hi he hD hW hk K k => ?_
                obtain ⟨_, e43, rfl⟩ := hk 43 (by decide)
                clear hk
                have hS := hid (hW.step (j := 3) (d := (some 44)) · (by decide) (Chg.refl (fun _ => False) w) (fun _ _ h c => h.trans c (fun _ _ h => h.elim)) (fun _ _ _ h c => alQ h c) (fun _ _ _ h c => alQ h c))
                clear hi he hW hD
                go_simp
                exact k _ _ (Chg.refl _ _) (hS.out _) rfl
              refine ObsAD.cons none (by kernel_rfl) ?_ ?_
              · refine ObAD.plain fun L a w hi he hD hW hk K k => ?_
                obtain ⟨_, e44, rfl⟩ := hk 44 (by decide)
                clear hk
                have hB := hW.ever (fun w h => HB.out w h) (fun v w h => HB.out w h.choose_spec.2.2.2) (fun v w h => HB.out w (h.choose_spec.2.2.2))
                obtain ⟨_, zz, _⟩ := hB
                have hS := hid (hW.step (j := 4) (d := (some 45)) · (by decide) (Chg.refl (fun _ => False) w) (fun _ _ h c => h.trans c (fun _ _ h => h.elim)) (fun _ _ _ h c => alQ h c) (fun _ _ _ h c => alQ h c))
                clear hi he hW hD
                go_simp
                exact k _ _ (Chg.refl _ _) (hS.out _) rfl
              refine ObsAD.cons none (by kernel_rfl) ?_ ?_
              · refine ObAD.plain fun L a w hi he hD hW hk K k => ?_
                obtain ⟨_, e8, rfl⟩ := hk 8 (by decide)
                clear hk
                have hS := hid (hW.step (j := 5) (d := (some 46)) · (by decide) (Chg.refl (fun _ => False) w) (fun _ _ h c => h.trans c (fun _ _ h => h.elim)) (fun _ _ _ h c => alQ h c) (fun _ _ _ h c => alQ h c))
                clear hi he hW hD
                go_simp
                exact k _ _ (Chg.refl _ _) (hS.out _) rfl
              refine ObsAD.cons none (by kernel_rfl) ?_ ?_
              · refine ObAD.plain fun L a w hi he hD hW hk K k => ?_
                obtain ⟨_, e45, rfl⟩ := hk 45 (by decide)
                obtain ⟨_, e46, rfl⟩ := hk 46 (by decide)
                clear hk
                have hB := hW.ever (fun w h => HB.out w h) (fun v w h => HB.out w h.choose_spec.2.2.2) (fun v w h => HB.out w (h.choose_spec.2.2.2))
                have hlt := HLT.out
                have hS := hid (hW.step (j := 6) (d := (some 47)) · (by decide) (Chg.refl (fun _ => False) w) (fun _ _ h c => h.trans c (fun _ _ h => h.elim)) (fun _ _ _ h c => alQ h c) (fun _ _ _ h c => alQ h c))
                clear hi he hW hD
                go_simp
                exact k _ _ (Chg.refl _ _) (hS.out _) rfl
              refine ObsAD.cons none (by kernel_rfl) ?_ ?_
              · refine ObAD.plain fun L a w hi he hD hW hk K k => ?_
                obtain ⟨_, e7, rfl⟩ := hk 7 (by decide)
                clear hk
                have hS := hid (hW.step (j := 7) (d := (some 48)) · (by decide) (Chg.refl (fun _ => False) w) (fun _ _ h c => h.trans c (fun _ _ h => h.elim)) (fun _ _ _ h c => alQ h c) (fun _ _ _ h c => alQ h c))
                clear hi he hW hD
                go_simp
                exact k _ _ (Chg.refl _ _) (hS.out _) rfl
              refine ObsAD.cons none (by kernel_rfl) ?_ ?_
              · refine ObAD.plain fun L a w hi he hD hW hk K k => ?_
                obtain ⟨_, e48, rfl⟩ := hk 48 (by decide)
                clear hk
                have hB := hW.ever (fun w h => HB.out w h) (fun v w h => HB.out w h.choose_spec.2.2.2) (fun v w h => HB.out w (h.choose_spec.2.2.2))
                obtain ⟨_, _, _, zz⟩ := hB
                have hS := hid (hW.step (j := 8) (d := (some 49)) · (by decide) (Chg.refl (fun _ => False) w) (fun _ _ h c => h.trans c (fun _ _ h => h.elim)) (fun _ _ _ h c => alQ h c) (fun _ _ _ h c => alQ h c))
                clear hi he hW hD
                go_simp
                exact k _ _ (Chg.refl _ _) (hS.out _) rfl
              refine ObsAD.cons none (by kernel_rfl) ?_ ?_
              · refine ObAD.plain fun L a w hi he hD hW hk K k => ?_
                obtain ⟨_, e49, rfl⟩ := hk 49 (by decide)
                clear hk
                have hS := hid (hW.step (j := 9) (d := (some 50)) · (by decide) (Chg.refl (fun _ => False) w) (fun _ _ h c => h.trans c (fun _ _ h => h.elim)) (fun _ _ _ h c => alQ h c) (fun _ _ _ h c => alQ h c))
                clear hi he hW hD
                go_simp
                exact k _ _ (Chg.refl _ _) (hS.out _) rfl
              refine ObsAD.cons none (by kernel_rfl) ?_ ?_
              · refine ObAD.plain fun L a w hi he hD hW hk K k => ?_
                obtain ⟨_, e50, rfl⟩ := hk 50 (by decide)
                clear hk
                have hS := hid (hW.step (j := 10) (d := (some 51)) · (by decide) (Chg.refl (fun _ => False) w) (fun _ _ h c => h.trans c (fun _ _ h => h.elim)) (fun _ _ _ h c => alQ h c) (fun _ _ _ h c => alQ h c))
                clear hi he hW hD
                go_simp
                exact k _ _ (Chg.refl _ _) (hS.out _) rfl
              refine ObsAD.cons none (by kernel_rfl) ?_ ?_
              · refine ObAD.plain fun L a w hi he hD hW hk K k => ?_
                obtain ⟨_, e51, rfl⟩ := hk 51 (by decide)
                clear hk
                have hB := hW.ever (fun w h => HB.out w h) (fun v w h => HB.out w h.choose_spec.2.2.2) (fun v w h => HB.out w (h.choose_spec.2.2.2))
                obtain ⟨zz, _⟩ := hB
                have hS := hid (hW.step (j := 11) (d := (some 52)) · (by decide) (Chg.refl (fun _ => False) w) (fun _ _ h c => h.trans c (fun _ _ h => h.elim)) (fun _ _ _ h c => alQ h c) (fun _ _ _ h c => alQ h c))
                clear hi he hW hD
                go_simp
                exact k _ _ (Chg.refl _ _) (hS.out _) rfl
              refine ObsAD.cons none (by kernel_rfl) ?_ ?_
              · refine ObAD.plain fun L a w hi he hD hW hk K k => ?_
                obtain ⟨_, e8, rfl⟩ := hk 8 (by decide)
                clear hk
                have hS := hid (hW.step (j := 12) (d := (some 53)) · (by decide) (Chg.refl (fun _ => False) w) (fun _ _ h c => h.trans c (fun _ _ h => h.elim)) (fun _ _ _ h c => alQ h c) (fun _ _ _ h c => alQ h c))
                clear hi he hW hD
                go_simp
                exact k _ _ (Chg.refl _ _) (hS.out _) rfl
              refine ObsAD.cons none (by kernel_rfl) ?_ ?_
              · refine ObAD.plain fun L a w hi he hD hW hk K k => ?_
                obtain ⟨_, e52, rfl⟩ := hk 52 (by decide)
                obtain ⟨_, e53, rfl⟩ := hk 53 (by decide)
                clear hk
                have hB := hW.ever (fun w h => HB.out w h) (fun v w h => HB.out w h.choose_spec.2.2.2) (fun v w h => HB.out w (h.choose_spec.2.2.2))
                have hlt := HLT.out
                have hS := hid (hW.step (j := 13) (d := (some 54)) · (by decide) (Chg.refl (fun _ => False) w) (fun _ _ h c => h.trans c (fun _ _ h => h.elim)) (fun _ _ _ h c => alQ h c) (fun _ _ _ h c => alQ h c))
                clear hi he hW hD
                go_simp
                exact k _ _ (Chg.refl _ _) (hS.out _) rfl
              refine ObsAD.cons none (by kernel_rfl) ?_ ?_
              · refine ObAD.plain fun L a w hi he hD hW hk K k => ?_
                obtain ⟨_, e47, rfl⟩ := hk 47 (by decide)
                obtain ⟨_, e54, rfl⟩ := hk 54 (by decide)
                clear hk
                have hS := hid (hW.step (j := 14) (d := (some 55)) · (by decide) (Chg.refl (fun _ => False) w) (fun _ _ h c => h.trans c (fun _ _ h => h.elim)) (fun _ _ _ h c => alQ h c) (fun _ _ _ h c => alQ h c))
                clear hi he hW hD
                go_simp
                exact k _ _ (Chg.refl _ _) (hS.out _) rfl
              refine ObsAD.cons none (by kernel_rfl) ?_ ?_
              · refine ObAD.plain fun L a w hi he hD hW hk K k => ?_
                clear hk
                have h0 := hW.p0 hi
                have hsz := h0.size
                have HS := hid (And.intro hW hi)
                clear hi he hW hD
                go_simp
                exact k _ _ ((Chg.refl _ _).alloc _) (HS.out.1.first (by decide) HS.out.2 ⟨w.heap.size, rfl, heap_alloc_new w _, hsz, h0.alloc _⟩) trivial
              refine ObsAD.cons none (by kernel_rfl) ?_ ?_
              · refine ObAD.plain fun L a w hi he hD hW hk K k => ?_
                obtain ⟨_, e55, rfl⟩ := hk 55 (by decide)
                clear hk
                have hall : L 15 = true := he ⟨15, Ground.data⟩ (by simp) (by decide)
                obtain ⟨v2, e9, b, rfl, hb, hle, hc⟩ := hW.p1 hall hi
                have z0 := cell_blk hb 0
                have z1 := cell_blk hb 1
                have f0 := froz_blk hb 0
                have f1 := froz_blk hb 1
                simp only [List.getElem?_toArray, List.getElem?_cons_zero, List.getElem?_cons_succ] at z0 z1
                have HS := hid (And.intro hW (And.intro hall (And.intro (set_blk (set_blk hb 0 (.pointer (some ⟨gB, oB + j * 5, none⟩))) 1 (.pointer (some ⟨gK, j * 5, none⟩))) (And.intro hle (And.intro ((hc.setCell (p := ⟨b, 0, none⟩) (fun _ => hle) (.pointer (some ⟨gB, oB + j * 5, none⟩))).setCell (p := ⟨b, 1, none⟩) (fun _ => hle) (.pointer (some ⟨gK, j * 5, none⟩))) (((Chg.refl (fun b => wr.heap.size ≤ b) w).setCell (p := ⟨b, 0, none⟩) (fun _ => hle) (.pointer (some ⟨gB, oB + j * 5, none⟩))).setCell (p := ⟨b, 1, none⟩) (fun _ => hle) (.pointer (some ⟨gK, j * 5, none⟩))))))))
                have H9 := hid e9
                clear hW hall hb hle hc hi he hD
                go_simp
                exact k undef _ HS.out.2.2.2.2.2 (HS.out.1.second (by decide) HS.out.2.1 H9.out ⟨b, rfl, HS.out.2.2.1, HS.out.2.2.2.1, HS.out.2.2.2.2.1⟩) trivial
              exact ObsAD.nil
            case fin11 =>
              intro L vals w9 hL hWL hv
              obtain ⟨vv, hvv, b11, rfl, hb11, hle11, hc11⟩ := hWL.p2 (hL 16 (by decide))
              simp only [putAll, List.setIfInBounds_toArray, List.set_cons_zero, List.set_cons_succ, List.getElem?_toArray, List.getElem?_cons_zero, List.getElem?_cons_succ, Option.some.injEq] at hvv
              have hv9 := hvv
              clear hL hWL hvv
              obtain ⟨w6, hw6⟩ : ∃ w6, w6 = w9 := ⟨_, rfl⟩
              rw [← hw6] at hb11 hc11 ⊢
              have hcN : Chg (fun _ => False) wr w6 := hc11.mono (fun i hi h => by omega)
              simp only [putAll, List.setIfInBounds_toArray, List.set_cons_zero, List.set_cons_succ, hv9]
              obtain ⟨wq, m1, m2, w7, m3, m4, v10, w8, m5, es10, ck10, m6⟩ := HPUSH.out w6 b11 hcN hle11 hb11
              have hbq := hb11
              rw [← m2] at hbq
              have HN := hid m6
              have m40 := cell_blk m4 0
              have m41 := cell_blk m4 1
              have n0 := cell_blk hb11 0
              have n1 := cell_blk hb11 1
              have hb12 := blk_keep hbq ((Chg.refl (fun _ => False) wq).alloc (.cells #[] 65)) id
              have o0 := cell_blk hbq 0
              have o1 := cell_blk hbq 1
              have p0 := cell_blk hb12 0
              have p1 := cell_blk hb12 1
              simp only [List.getElem?_toArray, List.getElem?_cons_zero, List.getElem?_cons_succ] at m40 m41 n0 n1 o0 o1 p0 p1
              clear hbq m2 hb12 m6 m4 HPUSH hw6 hb11 hc11 hcN hle11 hv9 hv HB
              subst hs5
              go_wp2_with (at_builtin; refine wpList_append_runK rfl (.tmp 67) (.tmp 69) 70 rfl rfl rfl m5 ?_)
              go_roundw
              case rel => exact ⟨j + 1, v10, es10, ck10, HLT.out, by go_num, rfl, HN⟩
              case measure => have := HLT.out; simp [intOf]; omega
          · obtain ⟨hpp, i1, i2, i3, i4, i5, i6, i7, i8, hnK⟩ := HK.out
            have hjK : j = KI.length := by omega
            have hrel2 := hrel.out
            rw [hjK] at hrel2
            have hrs := HR.out
            have HLV := hid (SameZ.leave hrel2 hrs.1 hrs.2.1 hrs.2.2.2.2.2.1 hrs.2.2.2.2.2.2.1 hpp i4 i5 i6 i7 i8)
            clear hrel hrel2 hpp i1 i2 i3 i4 i5 i6 i7 i8 hnK hrs hjK
            subst hs5
            go_wp2
            go_roundw
            case rel => exact ⟨_, its0 ++ KI, es9, ck9, rfl, hid HLV.out.1⟩
            case measure =>
              have h1 := HLV.out.2
              rw [h1.1, h1.2.1, HM1.out, List.length_append]
              have := HNL.out.1
              have := h1.2.2
              show _ < _ + nL - 1 - _
              omega
end Go.Proofs.Ytcbfieodjbfjdaa
