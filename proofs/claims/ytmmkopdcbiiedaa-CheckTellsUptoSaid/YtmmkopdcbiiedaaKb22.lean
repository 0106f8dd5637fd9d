/- The contract of the document's Get of layer 5. -/
import Derived.Test.YtmmkopdcbiiedaaKb21
import Derived.Test.YtmmkopdcbiiedaaKb9
import Derived.Test.YtmmkopdcbiiedaaKb12
namespace Go.Proofs.Ytmmkopdcbiiedaa
open Go.RowKit

theorem results_one_cred {fn : Func} {p : Tmp} (h : fn.results = #[.cell p 32]) (tmps : Array Value) (w : World) (g : Nat) (c : CredB) (hp : tmps.getD p undef = .pointer (some ⟨g, 0, none⟩))
    (hg : w.heap[g]? = some (.cells (credBox c) 32 (0, 0))) : (results fn tmps).run Try.prog w = .ok (credV c) w :=
  results_cell_row (P := Try.prog) h tmps w g 32 (credBox c) (0, 0) _ hp hg Try.underlying32 rfl (by kernel_rfl)

/-- How the tape is left: behind what was got, or with the error. -/
def GotTo (l l' : List UInt8) (e' : Int) : Prop := match credGet l with
  | .ok _ rest => e' = 0 ∧ l' = rest
  | .bad n => e' = n ∧ e' ≠ 0

def GetToC (X : Nat) (l : List UInt8) (w : World) (e : Ending) (w' : World) : Prop :=
  e = .returned (credV (credGot l noCred)) ∧ (∃ l' e', TapeAt w' X l' e' ∧ GotTo l l' e') ∧ Chg (· = X) w w'

set_option maxRecDepth 100000 in
set_option maxHeartbeats 8000000 in
theorem cget_to (X : Nat) (l : List UInt8) (w : World) (hl : l.length ≤ 9223372036854775807) (hX : TapeAt w X l 0) :
    Calls Try.prog 57 #[.pointer (some ⟨X, 0, none⟩)] w (GetToC X l w) := by
  have hc0 : Chg (fun _ => False) w (w.alloc (.cells #[.int .i64 0, .string ⟨#[]⟩, .string ⟨#[]⟩, .string ⟨#[]⟩, .string ⟨#[]⟩, .string ⟨#[]⟩, .string ⟨#[]⟩, .string ⟨#[]⟩, .string ⟨#[]⟩] 32)) := (Chg.refl _ w).alloc _
  have hA : (w.alloc (.cells #[.int .i64 0, .string ⟨#[]⟩, .string ⟨#[]⟩, .string ⟨#[]⟩, .string ⟨#[]⟩, .string ⟨#[]⟩, .string ⟨#[]⟩, .string ⟨#[]⟩, .string ⟨#[]⟩] 32)).heap[w.heap.size]? = some (.cells (credBox noCred) 32 (0, 0)) := heap_alloc_new w _
  have hX1 : TapeAt (w.alloc (.cells #[.int .i64 0, .string ⟨#[]⟩, .string ⟨#[]⟩, .string ⟨#[]⟩, .string ⟨#[]⟩, .string ⟨#[]⟩, .string ⟨#[]⟩, .string ⟨#[]⟩, .string ⟨#[]⟩] 32)) X l 0 := blk_keep hX hc0 id
  have hXlt : X < w.heap.size := lt_blk hX
  have hn := tnum_any X l 9223372036854775807 (w.alloc (.cells #[.int .i64 0, .string ⟨#[]⟩, .string ⟨#[]⟩, .string ⟨#[]⟩, .string ⟨#[]⟩, .string ⟨#[]⟩, .string ⟨#[]⟩, .string ⟨#[]⟩, .string ⟨#[]⟩] 32)) hl hX1
  have HH := hid (And.intro hn (And.intro hc0 hA))
  clear hn hc0 hA hX1
  go_enter Try.func57, Try.ntmps57
  go_wp2_with fail
  obtain ⟨hn, hc0, hA⟩ := HH.out
  clear HH
  generalize w.alloc (.cells #[.int .i64 0, .string ⟨#[]⟩, .string ⟨#[]⟩, .string ⟨#[]⟩, .string ⟨#[]⟩, .string ⟨#[]⟩, .string ⟨#[]⟩, .string ⟨#[]⟩, .string ⟨#[]⟩] 32) = w1 at *
  generalize hAA : w.heap.size = A at *
  refine hn.mono ?_
  have hlr : (numRest l).length ≤ 9223372036854775807 := by unfold numRest; rw [List.length_drop]; omega
  rintro en w2 (⟨h1, rfl, hX2, hc2⟩ | ⟨h1, rfl, ⟨l2, hX2⟩, hc2⟩)
  · have h0 : numBad l = 0 := by rw [errNum_max] at h1; exact h1
    have hA2 := blk_keep hA hc2 (show ¬ A = X by omega)
    have hcw2 : Chg (· = X) w w2 := (hc0.mono (fun _ _ h => h.elim)).trans hc2 (fun _ _ h => h)
    replace hX2 : TapeAt w2 X (numRest l) 0 := hX2
    obtain ⟨k, hk⟩ : ∃ k, k = numOf l := ⟨_, rfl⟩
    rw [show (numN 9 l 0 0).1 = k from hk.symm]
    have hkk := hid hk.symm
    clear hn hc0 hA hc2 h1 hk
    by_cases hr : 1 ≤ k ∧ k ≤ 4
    · have hgh0 := hid (getOr_head h0 hkk.out hr)
      have h4 : k = 1 ∨ k = 2 ∨ k = 3 ∨ k = 4 := by omega
      clear hr h0 hkk
      rcases h4 with rfl | rfl | rfl | rfl
      · have hgh : credGet l = getHead 1 (numRest l) := hgh0.out
        clear hgh0
        replace hgh := hid hgh
        rw [show ((1 : Nat) : Int) = 1 from rfl]
        have hc23 : Chg (fun _ => False) w2 (w2.alloc (.cells #[.int .i64 1, .string ⟨#[]⟩, .string ⟨#[]⟩, .string ⟨#[]⟩, .string ⟨#[]⟩, .string ⟨#[]⟩, .string ⟨#[]⟩, .string ⟨#[]⟩, .string ⟨#[]⟩] 32)) := (Chg.refl _ w2).alloc _
        have hB3 : (w2.alloc (.cells #[.int .i64 1, .string ⟨#[]⟩, .string ⟨#[]⟩, .string ⟨#[]⟩, .string ⟨#[]⟩, .string ⟨#[]⟩, .string ⟨#[]⟩, .string ⟨#[]⟩, .string ⟨#[]⟩] 32)).heap[w2.heap.size]? = some (.cells (credBox ⟨1, noneR, [], noneR, noneR, []⟩) 32 (0, 0)) := heap_alloc_new w2 _
        have hA3 := blk_keep hA2 hc23 id
        have hc3 : Chg (· = X) w (w2.alloc (.cells #[.int .i64 1, .string ⟨#[]⟩, .string ⟨#[]⟩, .string ⟨#[]⟩, .string ⟨#[]⟩, .string ⟨#[]⟩, .string ⟨#[]⟩, .string ⟨#[]⟩, .string ⟨#[]⟩] 32)) := hcw2.trans hc23 (fun _ _ h => h.elim)
        have hAlt : A < w2.heap.size := lt_blk hA2
        have hX3 : TapeAt (w2.alloc (.cells #[.int .i64 1, .string ⟨#[]⟩, .string ⟨#[]⟩, .string ⟨#[]⟩, .string ⟨#[]⟩, .string ⟨#[]⟩, .string ⟨#[]⟩, .string ⟨#[]⟩, .string ⟨#[]⟩] 32)) X (numRest l) 0 := blk_keep hX2 hc23 id
        generalize hBB : w2.heap.size = B at *
        clear hc23 hA2 hcw2 hX2
        have g0 : 0 < 1 := by decide
        have hg := rget_step X (numRest l) 0 (w2.alloc (.cells #[.int .i64 1, .string ⟨#[]⟩, .string ⟨#[]⟩, .string ⟨#[]⟩, .string ⟨#[]⟩, .string ⟨#[]⟩, .string ⟨#[]⟩, .string ⟨#[]⟩, .string ⟨#[]⟩] 32)) (fun _ => hlr) hX3
        obtain ⟨b0, b1, b2, b3, b4, b5, b6, b7, b8⟩ := cred_at_blk hB3
        simp only [Nat.zero_add, noneR] at b0 b1 b2 b3 b4 b5 b6 b7 b8
        have x1 := cell_blk hX3 1
        simp only [List.getElem?_toArray, List.getElem?_cons_zero, List.getElem?_cons_succ] at x1
        have HG := hid (And.intro hg (And.intro hA3 (And.intro hB3 hc3)))
        clear hg hA3 hB3 hc3
        go_wp2_with fail
        clear b0 b1 b2 b3 b4 b5 b6 b7 b8 x1 g0
        obtain ⟨hg, hA3, hB3, hc3⟩ := HG.out
        clear HG
        generalize (w2.alloc (.cells #[.int .i64 1, .string ⟨#[]⟩, .string ⟨#[]⟩, .string ⟨#[]⟩, .string ⟨#[]⟩, .string ⟨#[]⟩, .string ⟨#[]⟩, .string ⟨#[]⟩, .string ⟨#[]⟩] 32)) = v1 at *
        refine hg.mono ?_
        rintro en u1 ⟨r1, l1, e1, rfl, hX1, hs1, hb1, hcc⟩
        have hA1 := blk_keep hA3 hcc (show ¬ A = X by omega)
        have hB1 := blk_keep hB3 hcc (show ¬ B = X by omega)
        have hc1 := hc3.trans hcc (fun _ _ h => h)
        replace hs1 := hid hs1
        replace hb1 := hid hb1
        clear hg hcc hA3 hB3 hc3 hX3
        obtain ⟨p1, q1⟩ := r1
        rw [show roleV (p1, q1) = .agg #[.string ⟨p1.toArray⟩, .string ⟨q1.toArray⟩] from rfl]
        obtain ⟨d0, d1, d2, d3, d4, d5, d6, d7, d8⟩ := cred_at_blk hB1
        simp only [Nat.zero_add, noneR] at d0 d1 d2 d3 d4 d5 d6 d7 d8
        have g1 := froz_blk hB1 1
        have g2 := froz_blk hB1 2
        have hcs : Chg (· = B) u1 ((u1.setCell ⟨B, 1, none⟩ (.string ⟨p1.toArray⟩)).setCell ⟨B, 2, none⟩ (.string ⟨q1.toArray⟩)) := ((setCell_chg u1 B 1 (.string ⟨p1.toArray⟩)).trans (setCell_chg (u1.setCell ⟨B, 1, none⟩ (.string ⟨p1.toArray⟩)) B 2 (.string ⟨q1.toArray⟩)) (fun _ _ h => h))
        have hBa : (((u1.setCell ⟨B, 1, none⟩ (.string ⟨p1.toArray⟩)).setCell ⟨B, 2, none⟩ (.string ⟨q1.toArray⟩))).heap[B]? = some (.cells (credBox ⟨1, (p1, q1), [], noneR, noneR, []⟩) 32 (0, 0)) := by
          have hset := (set_blk (set_blk hB1 1 (.string ⟨p1.toArray⟩)) 2 (.string ⟨q1.toArray⟩))
          simpa [credBox, noCred, noneR] using hset
        have hAa := blk_keep hA1 hcs (show ¬ A = B by omega)
        have hXa : TapeAt ((u1.setCell ⟨B, 1, none⟩ (.string ⟨p1.toArray⟩)).setCell ⟨B, 2, none⟩ (.string ⟨q1.toArray⟩)) X l1 e1 := blk_keep hX1 hcs (show ¬ X = B by omega)
        have hca : Chg (· = X) w ((u1.setCell ⟨B, 1, none⟩ (.string ⟨p1.toArray⟩)).setCell ⟨B, 2, none⟩ (.string ⟨q1.toArray⟩)) := hc1.trans hcs (fun j hj h => by have : j = B := h; omega)
        clear hcs hA1 hB1 hX1 hc1
        have hg := nget_step X l1 e1 ((u1.setCell ⟨B, 1, none⟩ (.string ⟨p1.toArray⟩)).setCell ⟨B, 2, none⟩ (.string ⟨q1.toArray⟩)) (fun h => (hb1.out h).1) hXa
        obtain ⟨b0, b1, b2, b3, b4, b5, b6, b7, b8⟩ := cred_at_blk hBa
        simp only [Nat.zero_add, noneR] at b0 b1 b2 b3 b4 b5 b6 b7 b8
        have x1 := cell_blk hXa 1
        simp only [List.getElem?_toArray, List.getElem?_cons_zero, List.getElem?_cons_succ] at x1
        have HG := hid (And.intro hg (And.intro hAa (And.intro hBa hca)))
        clear hg hAa hBa hca
        go_wp2_with fail
        clear b0 b1 b2 b3 b4 b5 b6 b7 b8 x1 d0 d1 d2 d3 d4 d5 d6 d7 d8 g1 g2
        obtain ⟨hg, hAa, hBa, hca⟩ := HG.out
        clear HG
        generalize ((u1.setCell ⟨B, 1, none⟩ (.string ⟨p1.toArray⟩)).setCell ⟨B, 2, none⟩ (.string ⟨q1.toArray⟩)) = v2 at *
        refine hg.mono ?_
        rintro en u2 ⟨r2, l2, e2, rfl, hX2, hs2, hb2, hcc⟩
        have hA2 := blk_keep hAa hcc (show ¬ A = X by omega)
        have hB2 := blk_keep hBa hcc (show ¬ B = X by omega)
        have hc2 := hca.trans hcc (fun _ _ h => h)
        replace hs2 := hid hs2
        replace hb2 := hid hb2
        clear hg hcc hAa hBa hca hXa
        obtain ⟨d0, d1, d2, d3, d4, d5, d6, d7, d8⟩ := cred_at_blk hB2
        simp only [Nat.zero_add, noneR] at d0 d1 d2 d3 d4 d5 d6 d7 d8
        have g3 := froz_blk hB2 3
        have hcs : Chg (· = B) u2 (u2.setCell ⟨B, 3, none⟩ (.string ⟨r2.toArray⟩)) := (setCell_chg u2 B 3 (.string ⟨r2.toArray⟩))
        have hBb : ((u2.setCell ⟨B, 3, none⟩ (.string ⟨r2.toArray⟩))).heap[B]? = some (.cells (credBox ⟨1, (p1, q1), r2, noneR, noneR, []⟩) 32 (0, 0)) := by
          have hset := (set_blk hB2 3 (.string ⟨r2.toArray⟩))
          simpa [credBox, noCred, noneR] using hset
        have hAb := blk_keep hA2 hcs (show ¬ A = B by omega)
        have hXb : TapeAt (u2.setCell ⟨B, 3, none⟩ (.string ⟨r2.toArray⟩)) X l2 e2 := blk_keep hX2 hcs (show ¬ X = B by omega)
        have hcb : Chg (· = X) w (u2.setCell ⟨B, 3, none⟩ (.string ⟨r2.toArray⟩)) := hc2.trans hcs (fun j hj h => by have : j = B := h; omega)
        clear hcs hA2 hB2 hX2 hc2
        have hgo := hid (show GetOr l ⟨1, (p1, q1), r2, noneR, noneR, []⟩ l2 e2 from getOr1 hgh.out hs1.out hs2.out)
        by_cases hze : e2 = 0
        · subst hze
          have y2 := (hb2.out rfl).2
          have y1 := (hb1.out (hs2.out.from0 rfl)).2
          have HG2 : Hid (credGet l = getEnd ⟨1, (p1, q1), r2, noneR, noneR, []⟩ l2) := hid (hgo.out.1 rfl)
          have hsh : credShort ⟨1, (p1, q1), r2, noneR, noneR, []⟩ 9223372036854775807 := ⟨by show p1.length ≤ _; omega, by show q1.length ≤ _; omega, by show r2.length ≤ _; omega, by simp [noneR], by simp [noneR], by simp [noneR], by simp [noneR], by simp⟩
          have hrt := cright_ref ⟨1, (p1, q1), r2, noneR, noneR, []⟩ (u2.setCell ⟨B, 3, none⟩ (.string ⟨r2.toArray⟩)) hsh
          obtain ⟨b0, b1, b2, b3, b4, b5, b6, b7, b8⟩ := cred_at_blk hBb
          simp only [Nat.zero_add, noneR] at b0 b1 b2 b3 b4 b5 b6 b7 b8
          have x1 := cell_blk hXb 1
          simp only [List.getElem?_toArray, List.getElem?_cons_zero, List.getElem?_cons_succ] at x1
          have HT := hid (And.intro hrt (And.intro hAb (And.intro hBb (And.intro hXb hcb))))
          clear hrt hAb hBb hcb hXb hsh
          go_wp2_with fail
          obtain ⟨hrt, hAt, hBt, hXt, hct⟩ := HT.out
          refine hrt.mono ?_
          rintro en w9 ⟨rfl, hc9⟩
          have hA9 := blk_keep hAt hc9 id
          have hB9 := blk_keep hBt hc9 id
          have hX9 : TapeAt w9 X l2 0 := blk_keep hXt hc9 id
          have hcw9 := hct.trans hc9 (fun _ _ h => h.elim)
          clear HT hrt hAt hBt hXt hct hc9 b0 b1 b2 b3 b4 b5 b6 b7 b8 x1 d0 d1 d2 d3 d4 d5 d6 d7 d8 g3
          obtain ⟨b0, b1, b2, b3, b4, b5, b6, b7, b8⟩ := cred_at_blk hB9
          simp only [Nat.zero_add, noneR] at b0 b1 b2 b3 b4 b5 b6 b7 b8
          obtain ⟨a0, a1, a2, a3, a4, a5, a6, a7, a8⟩ := cred_at_blk hA9
          simp only [Nat.zero_add, noCred, noneR] at a0 a1 a2 a3 a4 a5 a6 a7 a8
          have f0 := froz_blk hA9 0
          have f1 := froz_blk hA9 1
          have f2 := froz_blk hA9 2
          have f3 := froz_blk hA9 3
          have f4 := froz_blk hA9 4
          have f5 := froz_blk hA9 5
          have f6 := froz_blk hA9 6
          have f7 := froz_blk hA9 7
          have f8 := froz_blk hA9 8
          have x1 := cell_blk hX9 1
          simp only [List.getElem?_toArray, List.getElem?_cons_zero, List.getElem?_cons_succ] at x1
          cases hr : isCred ⟨1, (p1, q1), r2, noneR, noneR, []⟩ with
          | true =>
            have HF : Hid (credGot l noCred = ⟨1, (p1, q1), r2, noneR, noneR, []⟩ ∧ GotTo l l2 0) := hid (by
              have h1 : credGet l = .ok ⟨1, (p1, q1), r2, noneR, noneR, []⟩ l2 := by rw [HG2.out, getEnd]; exact if_pos hr
              exact ⟨by rw [credGot, h1], by rw [GotTo, h1]; exact ⟨rfl, rfl⟩⟩)
            have hD := setCred_blk ⟨1, (p1, q1), r2, noneR, noneR, []⟩ hA9
            have hch : Chg (· = X) w (setCred w9 A ⟨1, (p1, q1), r2, noneR, noneR, []⟩) := hcw9.trans (setCred_chg w9 A ⟨1, (p1, q1), r2, noneR, noneR, []⟩) (fun i hi h => by have : i = A := h; omega)
            have hT : TapeAt (setCred w9 A ⟨1, (p1, q1), r2, noneR, noneR, []⟩) X l2 0 := by
              have hk := blk_keep hX9 (setCred_chg w9 A ⟨1, (p1, q1), r2, noneR, noneR, []⟩) (show ¬ X = A by omega)
              exact hk
            have HH := hid (And.intro hD (And.intro hT hch))
            clear hD hT hch hA9 hB9 hX9 hcw9
            go_wp2
            refine bodyPost_ret (results_one_cred rfl _ _ A ⟨1, (p1, q1), r2, noneR, noneR, []⟩ rfl HH.out.1) rfl ?_
            exact ⟨by rw [HF.out.1], ⟨_, _, HH.out.2.1, HF.out.2⟩, HH.out.2.2⟩
          | false =>
            have HF : Hid (credGot l noCred = noCred ∧ GotTo l l2 11) := hid (by
              have h1 : credGet l = .bad 11 := by rw [HG2.out, getEnd]; exact if_neg (by rw [hr]; decide)
              exact ⟨by rw [credGot, h1], by rw [GotTo, h1]; exact ⟨rfl, by decide⟩⟩)
            have g1 := froz_blk hX9 1
            have hX10 : TapeAt (w9.setCell ⟨X, 1, none⟩ (.int .i64 11)) X l2 11 := set_blk hX9 1 (.int .i64 11)
            have hcx := setCell_chg w9 X 1 (.int .i64 11)
            have hA10 := blk_keep hA9 hcx (show ¬ A = X by omega)
            have hD := setCred_blk noCred hA10
            have hch : Chg (· = X) w (setCred (w9.setCell ⟨X, 1, none⟩ (.int .i64 11)) A noCred) := (hcw9.trans hcx (fun _ _ h => h)).trans (setCred_chg _ A noCred) (fun i hi h => by have : i = A := h; omega)
            have hT : TapeAt (setCred (w9.setCell ⟨X, 1, none⟩ (.int .i64 11)) A noCred) X l2 11 := by
              have hk := blk_keep hX10 (setCred_chg _ A noCred) (show ¬ X = A by omega)
              exact hk
            have HH := hid (And.intro hD (And.intro hT hch))
            clear hD hT hch hA9 hB9 hX9 hcw9 hX10 hcx hA10
            go_wp2
            refine bodyPost_ret (results_one_cred rfl _ _ A noCred rfl HH.out.1) rfl ?_
            exact ⟨by rw [HF.out.1], ⟨_, _, HH.out.2.1, HF.out.2⟩, HH.out.2.2⟩
        · have hne : e2 ≠ 0 := hze
          have zz1 : (e2 == 0) = false := beq_eq_false_iff_ne.2 hne
          have zz2 : (e2 != 0) = true := by rw [bne_iff_ne]; exact hne
          have HF : Hid (credGot l noCred = noCred ∧ GotTo l l2 e2) := hid (by
            obtain ⟨n, hn1, hn2⟩ := hgo.out.2 hze
            exact ⟨by rw [credGot, hn2], by rw [GotTo, hn2]; exact ⟨hn1, hne⟩⟩)
          obtain ⟨b0, b1, b2, b3, b4, b5, b6, b7, b8⟩ := cred_at_blk hBb
          simp only [Nat.zero_add, noneR] at b0 b1 b2 b3 b4 b5 b6 b7 b8
          obtain ⟨a0, a1, a2, a3, a4, a5, a6, a7, a8⟩ := cred_at_blk hAb
          simp only [Nat.zero_add, noCred, noneR] at a0 a1 a2 a3 a4 a5 a6 a7 a8
          have f0 := froz_blk hAb 0
          have f1 := froz_blk hAb 1
          have f2 := froz_blk hAb 2
          have f3 := froz_blk hAb 3
          have f4 := froz_blk hAb 4
          have f5 := froz_blk hAb 5
          have f6 := froz_blk hAb 6
          have f7 := froz_blk hAb 7
          have f8 := froz_blk hAb 8
          have x1 := cell_blk hXb 1
          simp only [List.getElem?_toArray, List.getElem?_cons_zero, List.getElem?_cons_succ] at x1
          have hD := setCred_blk noCred hAb
          have hch : Chg (· = X) w (setCred (u2.setCell ⟨B, 3, none⟩ (.string ⟨r2.toArray⟩)) A noCred) := hcb.trans (setCred_chg (u2.setCell ⟨B, 3, none⟩ (.string ⟨r2.toArray⟩)) A noCred) (fun i hi h => by have : i = A := h; omega)
          have hT : TapeAt (setCred (u2.setCell ⟨B, 3, none⟩ (.string ⟨r2.toArray⟩)) A noCred) X l2 e2 := by
            have hk := blk_keep hXb (setCred_chg (u2.setCell ⟨B, 3, none⟩ (.string ⟨r2.toArray⟩)) A noCred) (show ¬ X = A by omega)
            exact hk
          have HH := hid (And.intro hD (And.intro hT hch))
          clear hD hT hch hAb hBb hcb hXb
          go_wp2
          refine bodyPost_ret (results_one_cred rfl _ _ A noCred rfl HH.out.1) rfl ?_
          exact ⟨by rw [HF.out.1], ⟨_, _, HH.out.2.1, HF.out.2⟩, HH.out.2.2⟩
      · have hgh : credGet l = getHead 2 (numRest l) := hgh0.out
        clear hgh0
        replace hgh := hid hgh
        rw [show ((2 : Nat) : Int) = 2 from rfl]
        have hc23 : Chg (fun _ => False) w2 (w2.alloc (.cells #[.int .i64 2, .string ⟨#[]⟩, .string ⟨#[]⟩, .string ⟨#[]⟩, .string ⟨#[]⟩, .string ⟨#[]⟩, .string ⟨#[]⟩, .string ⟨#[]⟩, .string ⟨#[]⟩] 32)) := (Chg.refl _ w2).alloc _
        have hB3 : (w2.alloc (.cells #[.int .i64 2, .string ⟨#[]⟩, .string ⟨#[]⟩, .string ⟨#[]⟩, .string ⟨#[]⟩, .string ⟨#[]⟩, .string ⟨#[]⟩, .string ⟨#[]⟩, .string ⟨#[]⟩] 32)).heap[w2.heap.size]? = some (.cells (credBox ⟨2, noneR, [], noneR, noneR, []⟩) 32 (0, 0)) := heap_alloc_new w2 _
        have hA3 := blk_keep hA2 hc23 id
        have hc3 : Chg (· = X) w (w2.alloc (.cells #[.int .i64 2, .string ⟨#[]⟩, .string ⟨#[]⟩, .string ⟨#[]⟩, .string ⟨#[]⟩, .string ⟨#[]⟩, .string ⟨#[]⟩, .string ⟨#[]⟩, .string ⟨#[]⟩] 32)) := hcw2.trans hc23 (fun _ _ h => h.elim)
        have hAlt : A < w2.heap.size := lt_blk hA2
        have hX3 : TapeAt (w2.alloc (.cells #[.int .i64 2, .string ⟨#[]⟩, .string ⟨#[]⟩, .string ⟨#[]⟩, .string ⟨#[]⟩, .string ⟨#[]⟩, .string ⟨#[]⟩, .string ⟨#[]⟩, .string ⟨#[]⟩] 32)) X (numRest l) 0 := blk_keep hX2 hc23 id
        generalize hBB : w2.heap.size = B at *
        clear hc23 hA2 hcw2 hX2
        have g0 : 0 < 1 := by decide
        have hg := rget_step X (numRest l) 0 (w2.alloc (.cells #[.int .i64 2, .string ⟨#[]⟩, .string ⟨#[]⟩, .string ⟨#[]⟩, .string ⟨#[]⟩, .string ⟨#[]⟩, .string ⟨#[]⟩, .string ⟨#[]⟩, .string ⟨#[]⟩] 32)) (fun _ => hlr) hX3
        obtain ⟨b0, b1, b2, b3, b4, b5, b6, b7, b8⟩ := cred_at_blk hB3
        simp only [Nat.zero_add, noneR] at b0 b1 b2 b3 b4 b5 b6 b7 b8
        have x1 := cell_blk hX3 1
        simp only [List.getElem?_toArray, List.getElem?_cons_zero, List.getElem?_cons_succ] at x1
        have HG := hid (And.intro hg (And.intro hA3 (And.intro hB3 hc3)))
        clear hg hA3 hB3 hc3
        go_wp2_with fail
        clear b0 b1 b2 b3 b4 b5 b6 b7 b8 x1 g0
        obtain ⟨hg, hA3, hB3, hc3⟩ := HG.out
        clear HG
        generalize (w2.alloc (.cells #[.int .i64 2, .string ⟨#[]⟩, .string ⟨#[]⟩, .string ⟨#[]⟩, .string ⟨#[]⟩, .string ⟨#[]⟩, .string ⟨#[]⟩, .string ⟨#[]⟩, .string ⟨#[]⟩] 32)) = v1 at *
        refine hg.mono ?_
        rintro en u1 ⟨r1, l1, e1, rfl, hX1, hs1, hb1, hcc⟩
        have hA1 := blk_keep hA3 hcc (show ¬ A = X by omega)
        have hB1 := blk_keep hB3 hcc (show ¬ B = X by omega)
        have hc1 := hc3.trans hcc (fun _ _ h => h)
        replace hs1 := hid hs1
        replace hb1 := hid hb1
        clear hg hcc hA3 hB3 hc3 hX3
        obtain ⟨p1, q1⟩ := r1
        rw [show roleV (p1, q1) = .agg #[.string ⟨p1.toArray⟩, .string ⟨q1.toArray⟩] from rfl]
        obtain ⟨d0, d1, d2, d3, d4, d5, d6, d7, d8⟩ := cred_at_blk hB1
        simp only [Nat.zero_add, noneR] at d0 d1 d2 d3 d4 d5 d6 d7 d8
        have g1 := froz_blk hB1 1
        have g2 := froz_blk hB1 2
        have hcs : Chg (· = B) u1 ((u1.setCell ⟨B, 1, none⟩ (.string ⟨p1.toArray⟩)).setCell ⟨B, 2, none⟩ (.string ⟨q1.toArray⟩)) := ((setCell_chg u1 B 1 (.string ⟨p1.toArray⟩)).trans (setCell_chg (u1.setCell ⟨B, 1, none⟩ (.string ⟨p1.toArray⟩)) B 2 (.string ⟨q1.toArray⟩)) (fun _ _ h => h))
        have hBa : (((u1.setCell ⟨B, 1, none⟩ (.string ⟨p1.toArray⟩)).setCell ⟨B, 2, none⟩ (.string ⟨q1.toArray⟩))).heap[B]? = some (.cells (credBox ⟨2, (p1, q1), [], noneR, noneR, []⟩) 32 (0, 0)) := by
          have hset := (set_blk (set_blk hB1 1 (.string ⟨p1.toArray⟩)) 2 (.string ⟨q1.toArray⟩))
          simpa [credBox, noCred, noneR] using hset
        have hAa := blk_keep hA1 hcs (show ¬ A = B by omega)
        have hXa : TapeAt ((u1.setCell ⟨B, 1, none⟩ (.string ⟨p1.toArray⟩)).setCell ⟨B, 2, none⟩ (.string ⟨q1.toArray⟩)) X l1 e1 := blk_keep hX1 hcs (show ¬ X = B by omega)
        have hca : Chg (· = X) w ((u1.setCell ⟨B, 1, none⟩ (.string ⟨p1.toArray⟩)).setCell ⟨B, 2, none⟩ (.string ⟨q1.toArray⟩)) := hc1.trans hcs (fun j hj h => by have : j = B := h; omega)
        clear hcs hA1 hB1 hX1 hc1
        have hg := rget_step X l1 e1 ((u1.setCell ⟨B, 1, none⟩ (.string ⟨p1.toArray⟩)).setCell ⟨B, 2, none⟩ (.string ⟨q1.toArray⟩)) (fun h => (hb1.out h).1) hXa
        obtain ⟨b0, b1, b2, b3, b4, b5, b6, b7, b8⟩ := cred_at_blk hBa
        simp only [Nat.zero_add, noneR] at b0 b1 b2 b3 b4 b5 b6 b7 b8
        have x1 := cell_blk hXa 1
        simp only [List.getElem?_toArray, List.getElem?_cons_zero, List.getElem?_cons_succ] at x1
        have HG := hid (And.intro hg (And.intro hAa (And.intro hBa hca)))
        clear hg hAa hBa hca
        go_wp2_with fail
        clear b0 b1 b2 b3 b4 b5 b6 b7 b8 x1 d0 d1 d2 d3 d4 d5 d6 d7 d8 g1 g2
        obtain ⟨hg, hAa, hBa, hca⟩ := HG.out
        clear HG
        generalize ((u1.setCell ⟨B, 1, none⟩ (.string ⟨p1.toArray⟩)).setCell ⟨B, 2, none⟩ (.string ⟨q1.toArray⟩)) = v2 at *
        refine hg.mono ?_
        rintro en u2 ⟨r2, l2, e2, rfl, hX2, hs2, hb2, hcc⟩
        have hA2 := blk_keep hAa hcc (show ¬ A = X by omega)
        have hB2 := blk_keep hBa hcc (show ¬ B = X by omega)
        have hc2 := hca.trans hcc (fun _ _ h => h)
        replace hs2 := hid hs2
        replace hb2 := hid hb2
        clear hg hcc hAa hBa hca hXa
        obtain ⟨p2, q2⟩ := r2
        rw [show roleV (p2, q2) = .agg #[.string ⟨p2.toArray⟩, .string ⟨q2.toArray⟩] from rfl]
        obtain ⟨d0, d1, d2, d3, d4, d5, d6, d7, d8⟩ := cred_at_blk hB2
        simp only [Nat.zero_add, noneR] at d0 d1 d2 d3 d4 d5 d6 d7 d8
        have g4 := froz_blk hB2 4
        have g5 := froz_blk hB2 5
        have hcs : Chg (· = B) u2 ((u2.setCell ⟨B, 4, none⟩ (.string ⟨p2.toArray⟩)).setCell ⟨B, 5, none⟩ (.string ⟨q2.toArray⟩)) := ((setCell_chg u2 B 4 (.string ⟨p2.toArray⟩)).trans (setCell_chg (u2.setCell ⟨B, 4, none⟩ (.string ⟨p2.toArray⟩)) B 5 (.string ⟨q2.toArray⟩)) (fun _ _ h => h))
        have hBb : (((u2.setCell ⟨B, 4, none⟩ (.string ⟨p2.toArray⟩)).setCell ⟨B, 5, none⟩ (.string ⟨q2.toArray⟩))).heap[B]? = some (.cells (credBox ⟨2, (p1, q1), [], (p2, q2), noneR, []⟩) 32 (0, 0)) := by
          have hset := (set_blk (set_blk hB2 4 (.string ⟨p2.toArray⟩)) 5 (.string ⟨q2.toArray⟩))
          simpa [credBox, noCred, noneR] using hset
        have hAb := blk_keep hA2 hcs (show ¬ A = B by omega)
        have hXb : TapeAt ((u2.setCell ⟨B, 4, none⟩ (.string ⟨p2.toArray⟩)).setCell ⟨B, 5, none⟩ (.string ⟨q2.toArray⟩)) X l2 e2 := blk_keep hX2 hcs (show ¬ X = B by omega)
        have hcb : Chg (· = X) w ((u2.setCell ⟨B, 4, none⟩ (.string ⟨p2.toArray⟩)).setCell ⟨B, 5, none⟩ (.string ⟨q2.toArray⟩)) := hc2.trans hcs (fun j hj h => by have : j = B := h; omega)
        clear hcs hA2 hB2 hX2 hc2
        have hgo := hid (show GetOr l ⟨2, (p1, q1), [], (p2, q2), noneR, []⟩ l2 e2 from getOr2 hgh.out hs1.out hs2.out)
        by_cases hze : e2 = 0
        · subst hze
          have y2 : p2.length ≤ 16 ∧ q2.length ≤ 16 := (hb2.out rfl).2
          have y1 := (hb1.out (hs2.out.from0 rfl)).2
          have HG2 : Hid (credGet l = getEnd ⟨2, (p1, q1), [], (p2, q2), noneR, []⟩ l2) := hid (hgo.out.1 rfl)
          have hsh : credShort ⟨2, (p1, q1), [], (p2, q2), noneR, []⟩ 9223372036854775807 := ⟨by show p1.length ≤ _; omega, by show q1.length ≤ _; omega, by simp, by show p2.length ≤ _; omega, by show q2.length ≤ _; omega, by simp [noneR], by simp [noneR], by simp⟩
          have hrt := cright_ref ⟨2, (p1, q1), [], (p2, q2), noneR, []⟩ ((u2.setCell ⟨B, 4, none⟩ (.string ⟨p2.toArray⟩)).setCell ⟨B, 5, none⟩ (.string ⟨q2.toArray⟩)) hsh
          obtain ⟨b0, b1, b2, b3, b4, b5, b6, b7, b8⟩ := cred_at_blk hBb
          simp only [Nat.zero_add, noneR] at b0 b1 b2 b3 b4 b5 b6 b7 b8
          have x1 := cell_blk hXb 1
          simp only [List.getElem?_toArray, List.getElem?_cons_zero, List.getElem?_cons_succ] at x1
          have HT := hid (And.intro hrt (And.intro hAb (And.intro hBb (And.intro hXb hcb))))
          clear hrt hAb hBb hcb hXb hsh
          go_wp2_with fail
          obtain ⟨hrt, hAt, hBt, hXt, hct⟩ := HT.out
          refine hrt.mono ?_
          rintro en w9 ⟨rfl, hc9⟩
          have hA9 := blk_keep hAt hc9 id
          have hB9 := blk_keep hBt hc9 id
          have hX9 : TapeAt w9 X l2 0 := blk_keep hXt hc9 id
          have hcw9 := hct.trans hc9 (fun _ _ h => h.elim)
          clear HT hrt hAt hBt hXt hct hc9 b0 b1 b2 b3 b4 b5 b6 b7 b8 x1 d0 d1 d2 d3 d4 d5 d6 d7 d8 g4 g5
          obtain ⟨b0, b1, b2, b3, b4, b5, b6, b7, b8⟩ := cred_at_blk hB9
          simp only [Nat.zero_add, noneR] at b0 b1 b2 b3 b4 b5 b6 b7 b8
          obtain ⟨a0, a1, a2, a3, a4, a5, a6, a7, a8⟩ := cred_at_blk hA9
          simp only [Nat.zero_add, noCred, noneR] at a0 a1 a2 a3 a4 a5 a6 a7 a8
          have f0 := froz_blk hA9 0
          have f1 := froz_blk hA9 1
          have f2 := froz_blk hA9 2
          have f3 := froz_blk hA9 3
          have f4 := froz_blk hA9 4
          have f5 := froz_blk hA9 5
          have f6 := froz_blk hA9 6
          have f7 := froz_blk hA9 7
          have f8 := froz_blk hA9 8
          have x1 := cell_blk hX9 1
          simp only [List.getElem?_toArray, List.getElem?_cons_zero, List.getElem?_cons_succ] at x1
          cases hr : isCred ⟨2, (p1, q1), [], (p2, q2), noneR, []⟩ with
          | true =>
            have HF : Hid (credGot l noCred = ⟨2, (p1, q1), [], (p2, q2), noneR, []⟩ ∧ GotTo l l2 0) := hid (by
              have h1 : credGet l = .ok ⟨2, (p1, q1), [], (p2, q2), noneR, []⟩ l2 := by rw [HG2.out, getEnd]; exact if_pos hr
              exact ⟨by rw [credGot, h1], by rw [GotTo, h1]; exact ⟨rfl, rfl⟩⟩)
            have hD := setCred_blk ⟨2, (p1, q1), [], (p2, q2), noneR, []⟩ hA9
            have hch : Chg (· = X) w (setCred w9 A ⟨2, (p1, q1), [], (p2, q2), noneR, []⟩) := hcw9.trans (setCred_chg w9 A ⟨2, (p1, q1), [], (p2, q2), noneR, []⟩) (fun i hi h => by have : i = A := h; omega)
            have hT : TapeAt (setCred w9 A ⟨2, (p1, q1), [], (p2, q2), noneR, []⟩) X l2 0 := by
              have hk := blk_keep hX9 (setCred_chg w9 A ⟨2, (p1, q1), [], (p2, q2), noneR, []⟩) (show ¬ X = A by omega)
              exact hk
            have HH := hid (And.intro hD (And.intro hT hch))
            clear hD hT hch hA9 hB9 hX9 hcw9
            go_wp2
            refine bodyPost_ret (results_one_cred rfl _ _ A ⟨2, (p1, q1), [], (p2, q2), noneR, []⟩ rfl HH.out.1) rfl ?_
            exact ⟨by rw [HF.out.1], ⟨_, _, HH.out.2.1, HF.out.2⟩, HH.out.2.2⟩
          | false =>
            have HF : Hid (credGot l noCred = noCred ∧ GotTo l l2 11) := hid (by
              have h1 : credGet l = .bad 11 := by rw [HG2.out, getEnd]; exact if_neg (by rw [hr]; decide)
              exact ⟨by rw [credGot, h1], by rw [GotTo, h1]; exact ⟨rfl, by decide⟩⟩)
            have g1 := froz_blk hX9 1
            have hX10 : TapeAt (w9.setCell ⟨X, 1, none⟩ (.int .i64 11)) X l2 11 := set_blk hX9 1 (.int .i64 11)
            have hcx := setCell_chg w9 X 1 (.int .i64 11)
            have hA10 := blk_keep hA9 hcx (show ¬ A = X by omega)
            have hD := setCred_blk noCred hA10
            have hch : Chg (· = X) w (setCred (w9.setCell ⟨X, 1, none⟩ (.int .i64 11)) A noCred) := (hcw9.trans hcx (fun _ _ h => h)).trans (setCred_chg _ A noCred) (fun i hi h => by have : i = A := h; omega)
            have hT : TapeAt (setCred (w9.setCell ⟨X, 1, none⟩ (.int .i64 11)) A noCred) X l2 11 := by
              have hk := blk_keep hX10 (setCred_chg _ A noCred) (show ¬ X = A by omega)
              exact hk
            have HH := hid (And.intro hD (And.intro hT hch))
            clear hD hT hch hA9 hB9 hX9 hcw9 hX10 hcx hA10
            go_wp2
            refine bodyPost_ret (results_one_cred rfl _ _ A noCred rfl HH.out.1) rfl ?_
            exact ⟨by rw [HF.out.1], ⟨_, _, HH.out.2.1, HF.out.2⟩, HH.out.2.2⟩
        · have hne : e2 ≠ 0 := hze
          have zz1 : (e2 == 0) = false := beq_eq_false_iff_ne.2 hne
          have zz2 : (e2 != 0) = true := by rw [bne_iff_ne]; exact hne
          have HF : Hid (credGot l noCred = noCred ∧ GotTo l l2 e2) := hid (by
            obtain ⟨n, hn1, hn2⟩ := hgo.out.2 hze
            exact ⟨by rw [credGot, hn2], by rw [GotTo, hn2]; exact ⟨hn1, hne⟩⟩)
          obtain ⟨b0, b1, b2, b3, b4, b5, b6, b7, b8⟩ := cred_at_blk hBb
          simp only [Nat.zero_add, noneR] at b0 b1 b2 b3 b4 b5 b6 b7 b8
          obtain ⟨a0, a1, a2, a3, a4, a5, a6, a7, a8⟩ := cred_at_blk hAb
          simp only [Nat.zero_add, noCred, noneR] at a0 a1 a2 a3 a4 a5 a6 a7 a8
          have f0 := froz_blk hAb 0
          have f1 := froz_blk hAb 1
          have f2 := froz_blk hAb 2
          have f3 := froz_blk hAb 3
          have f4 := froz_blk hAb 4
          have f5 := froz_blk hAb 5
          have f6 := froz_blk hAb 6
          have f7 := froz_blk hAb 7
          have f8 := froz_blk hAb 8
          have x1 := cell_blk hXb 1
          simp only [List.getElem?_toArray, List.getElem?_cons_zero, List.getElem?_cons_succ] at x1
          have hD := setCred_blk noCred hAb
          have hch : Chg (· = X) w (setCred ((u2.setCell ⟨B, 4, none⟩ (.string ⟨p2.toArray⟩)).setCell ⟨B, 5, none⟩ (.string ⟨q2.toArray⟩)) A noCred) := hcb.trans (setCred_chg ((u2.setCell ⟨B, 4, none⟩ (.string ⟨p2.toArray⟩)).setCell ⟨B, 5, none⟩ (.string ⟨q2.toArray⟩)) A noCred) (fun i hi h => by have : i = A := h; omega)
          have hT : TapeAt (setCred ((u2.setCell ⟨B, 4, none⟩ (.string ⟨p2.toArray⟩)).setCell ⟨B, 5, none⟩ (.string ⟨q2.toArray⟩)) A noCred) X l2 e2 := by
            have hk := blk_keep hXb (setCred_chg ((u2.setCell ⟨B, 4, none⟩ (.string ⟨p2.toArray⟩)).setCell ⟨B, 5, none⟩ (.string ⟨q2.toArray⟩)) A noCred) (show ¬ X = A by omega)
            exact hk
          have HH := hid (And.intro hD (And.intro hT hch))
          clear hD hT hch hAb hBb hcb hXb
          go_wp2
          refine bodyPost_ret (results_one_cred rfl _ _ A noCred rfl HH.out.1) rfl ?_
          exact ⟨by rw [HF.out.1], ⟨_, _, HH.out.2.1, HF.out.2⟩, HH.out.2.2⟩
      · have hgh : credGet l = getHead 3 (numRest l) := hgh0.out
        clear hgh0
        replace hgh := hid hgh
        rw [show ((3 : Nat) : Int) = 3 from rfl]
        have hc23 : Chg (fun _ => False) w2 (w2.alloc (.cells #[.int .i64 3, .string ⟨#[]⟩, .string ⟨#[]⟩, .string ⟨#[]⟩, .string ⟨#[]⟩, .string ⟨#[]⟩, .string ⟨#[]⟩, .string ⟨#[]⟩, .string ⟨#[]⟩] 32)) := (Chg.refl _ w2).alloc _
        have hB3 : (w2.alloc (.cells #[.int .i64 3, .string ⟨#[]⟩, .string ⟨#[]⟩, .string ⟨#[]⟩, .string ⟨#[]⟩, .string ⟨#[]⟩, .string ⟨#[]⟩, .string ⟨#[]⟩, .string ⟨#[]⟩] 32)).heap[w2.heap.size]? = some (.cells (credBox ⟨3, noneR, [], noneR, noneR, []⟩) 32 (0, 0)) := heap_alloc_new w2 _
        have hA3 := blk_keep hA2 hc23 id
        have hc3 : Chg (· = X) w (w2.alloc (.cells #[.int .i64 3, .string ⟨#[]⟩, .string ⟨#[]⟩, .string ⟨#[]⟩, .string ⟨#[]⟩, .string ⟨#[]⟩, .string ⟨#[]⟩, .string ⟨#[]⟩, .string ⟨#[]⟩] 32)) := hcw2.trans hc23 (fun _ _ h => h.elim)
        have hAlt : A < w2.heap.size := lt_blk hA2
        have hX3 : TapeAt (w2.alloc (.cells #[.int .i64 3, .string ⟨#[]⟩, .string ⟨#[]⟩, .string ⟨#[]⟩, .string ⟨#[]⟩, .string ⟨#[]⟩, .string ⟨#[]⟩, .string ⟨#[]⟩, .string ⟨#[]⟩] 32)) X (numRest l) 0 := blk_keep hX2 hc23 id
        generalize hBB : w2.heap.size = B at *
        clear hc23 hA2 hcw2 hX2
        have g0 : 0 < 1 := by decide
        have hg := rget_step X (numRest l) 0 (w2.alloc (.cells #[.int .i64 3, .string ⟨#[]⟩, .string ⟨#[]⟩, .string ⟨#[]⟩, .string ⟨#[]⟩, .string ⟨#[]⟩, .string ⟨#[]⟩, .string ⟨#[]⟩, .string ⟨#[]⟩] 32)) (fun _ => hlr) hX3
        obtain ⟨b0, b1, b2, b3, b4, b5, b6, b7, b8⟩ := cred_at_blk hB3
        simp only [Nat.zero_add, noneR] at b0 b1 b2 b3 b4 b5 b6 b7 b8
        have x1 := cell_blk hX3 1
        simp only [List.getElem?_toArray, List.getElem?_cons_zero, List.getElem?_cons_succ] at x1
        have HG := hid (And.intro hg (And.intro hA3 (And.intro hB3 hc3)))
        clear hg hA3 hB3 hc3
        go_wp2_with fail
        clear b0 b1 b2 b3 b4 b5 b6 b7 b8 x1 g0
        obtain ⟨hg, hA3, hB3, hc3⟩ := HG.out
        clear HG
        generalize (w2.alloc (.cells #[.int .i64 3, .string ⟨#[]⟩, .string ⟨#[]⟩, .string ⟨#[]⟩, .string ⟨#[]⟩, .string ⟨#[]⟩, .string ⟨#[]⟩, .string ⟨#[]⟩, .string ⟨#[]⟩] 32)) = v1 at *
        refine hg.mono ?_
        rintro en u1 ⟨r1, l1, e1, rfl, hX1, hs1, hb1, hcc⟩
        have hA1 := blk_keep hA3 hcc (show ¬ A = X by omega)
        have hB1 := blk_keep hB3 hcc (show ¬ B = X by omega)
        have hc1 := hc3.trans hcc (fun _ _ h => h)
        replace hs1 := hid hs1
        replace hb1 := hid hb1
        clear hg hcc hA3 hB3 hc3 hX3
        obtain ⟨p1, q1⟩ := r1
        rw [show roleV (p1, q1) = .agg #[.string ⟨p1.toArray⟩, .string ⟨q1.toArray⟩] from rfl]
        obtain ⟨d0, d1, d2, d3, d4, d5, d6, d7, d8⟩ := cred_at_blk hB1
        simp only [Nat.zero_add, noneR] at d0 d1 d2 d3 d4 d5 d6 d7 d8
        have g1 := froz_blk hB1 1
        have g2 := froz_blk hB1 2
        have hcs : Chg (· = B) u1 ((u1.setCell ⟨B, 1, none⟩ (.string ⟨p1.toArray⟩)).setCell ⟨B, 2, none⟩ (.string ⟨q1.toArray⟩)) := ((setCell_chg u1 B 1 (.string ⟨p1.toArray⟩)).trans (setCell_chg (u1.setCell ⟨B, 1, none⟩ (.string ⟨p1.toArray⟩)) B 2 (.string ⟨q1.toArray⟩)) (fun _ _ h => h))
        have hBa : (((u1.setCell ⟨B, 1, none⟩ (.string ⟨p1.toArray⟩)).setCell ⟨B, 2, none⟩ (.string ⟨q1.toArray⟩))).heap[B]? = some (.cells (credBox ⟨3, (p1, q1), [], noneR, noneR, []⟩) 32 (0, 0)) := by
          have hset := (set_blk (set_blk hB1 1 (.string ⟨p1.toArray⟩)) 2 (.string ⟨q1.toArray⟩))
          simpa [credBox, noCred, noneR] using hset
        have hAa := blk_keep hA1 hcs (show ¬ A = B by omega)
        have hXa : TapeAt ((u1.setCell ⟨B, 1, none⟩ (.string ⟨p1.toArray⟩)).setCell ⟨B, 2, none⟩ (.string ⟨q1.toArray⟩)) X l1 e1 := blk_keep hX1 hcs (show ¬ X = B by omega)
        have hca : Chg (· = X) w ((u1.setCell ⟨B, 1, none⟩ (.string ⟨p1.toArray⟩)).setCell ⟨B, 2, none⟩ (.string ⟨q1.toArray⟩)) := hc1.trans hcs (fun j hj h => by have : j = B := h; omega)
        clear hcs hA1 hB1 hX1 hc1
        have hg := rget_step X l1 e1 ((u1.setCell ⟨B, 1, none⟩ (.string ⟨p1.toArray⟩)).setCell ⟨B, 2, none⟩ (.string ⟨q1.toArray⟩)) (fun h => (hb1.out h).1) hXa
        obtain ⟨b0, b1, b2, b3, b4, b5, b6, b7, b8⟩ := cred_at_blk hBa
        simp only [Nat.zero_add, noneR] at b0 b1 b2 b3 b4 b5 b6 b7 b8
        have x1 := cell_blk hXa 1
        simp only [List.getElem?_toArray, List.getElem?_cons_zero, List.getElem?_cons_succ] at x1
        have HG := hid (And.intro hg (And.intro hAa (And.intro hBa hca)))
        clear hg hAa hBa hca
        go_wp2_with fail
        clear b0 b1 b2 b3 b4 b5 b6 b7 b8 x1 d0 d1 d2 d3 d4 d5 d6 d7 d8 g1 g2
        obtain ⟨hg, hAa, hBa, hca⟩ := HG.out
        clear HG
        generalize ((u1.setCell ⟨B, 1, none⟩ (.string ⟨p1.toArray⟩)).setCell ⟨B, 2, none⟩ (.string ⟨q1.toArray⟩)) = v2 at *
        refine hg.mono ?_
        rintro en u2 ⟨r2, l2, e2, rfl, hX2, hs2, hb2, hcc⟩
        have hA2 := blk_keep hAa hcc (show ¬ A = X by omega)
        have hB2 := blk_keep hBa hcc (show ¬ B = X by omega)
        have hc2 := hca.trans hcc (fun _ _ h => h)
        replace hs2 := hid hs2
        replace hb2 := hid hb2
        clear hg hcc hAa hBa hca hXa
        obtain ⟨p2, q2⟩ := r2
        rw [show roleV (p2, q2) = .agg #[.string ⟨p2.toArray⟩, .string ⟨q2.toArray⟩] from rfl]
        obtain ⟨d0, d1, d2, d3, d4, d5, d6, d7, d8⟩ := cred_at_blk hB2
        simp only [Nat.zero_add, noneR] at d0 d1 d2 d3 d4 d5 d6 d7 d8
        have g4 := froz_blk hB2 4
        have g5 := froz_blk hB2 5
        have hcs : Chg (· = B) u2 ((u2.setCell ⟨B, 4, none⟩ (.string ⟨p2.toArray⟩)).setCell ⟨B, 5, none⟩ (.string ⟨q2.toArray⟩)) := ((setCell_chg u2 B 4 (.string ⟨p2.toArray⟩)).trans (setCell_chg (u2.setCell ⟨B, 4, none⟩ (.string ⟨p2.toArray⟩)) B 5 (.string ⟨q2.toArray⟩)) (fun _ _ h => h))
        have hBb : (((u2.setCell ⟨B, 4, none⟩ (.string ⟨p2.toArray⟩)).setCell ⟨B, 5, none⟩ (.string ⟨q2.toArray⟩))).heap[B]? = some (.cells (credBox ⟨3, (p1, q1), [], (p2, q2), noneR, []⟩) 32 (0, 0)) := by
          have hset := (set_blk (set_blk hB2 4 (.string ⟨p2.toArray⟩)) 5 (.string ⟨q2.toArray⟩))
          simpa [credBox, noCred, noneR] using hset
        have hAb := blk_keep hA2 hcs (show ¬ A = B by omega)
        have hXb : TapeAt ((u2.setCell ⟨B, 4, none⟩ (.string ⟨p2.toArray⟩)).setCell ⟨B, 5, none⟩ (.string ⟨q2.toArray⟩)) X l2 e2 := blk_keep hX2 hcs (show ¬ X = B by omega)
        have hcb : Chg (· = X) w ((u2.setCell ⟨B, 4, none⟩ (.string ⟨p2.toArray⟩)).setCell ⟨B, 5, none⟩ (.string ⟨q2.toArray⟩)) := hc2.trans hcs (fun j hj h => by have : j = B := h; omega)
        clear hcs hA2 hB2 hX2 hc2
        have hg := nget_step X l2 e2 ((u2.setCell ⟨B, 4, none⟩ (.string ⟨p2.toArray⟩)).setCell ⟨B, 5, none⟩ (.string ⟨q2.toArray⟩)) (fun h => (hb2.out h).1) hXb
        obtain ⟨b0, b1, b2, b3, b4, b5, b6, b7, b8⟩ := cred_at_blk hBb
        simp only [Nat.zero_add, noneR] at b0 b1 b2 b3 b4 b5 b6 b7 b8
        have x1 := cell_blk hXb 1
        simp only [List.getElem?_toArray, List.getElem?_cons_zero, List.getElem?_cons_succ] at x1
        have HG := hid (And.intro hg (And.intro hAb (And.intro hBb hcb)))
        clear hg hAb hBb hcb
        go_wp2_with fail
        clear b0 b1 b2 b3 b4 b5 b6 b7 b8 x1 d0 d1 d2 d3 d4 d5 d6 d7 d8 g4 g5
        obtain ⟨hg, hAb, hBb, hcb⟩ := HG.out
        clear HG
        generalize ((u2.setCell ⟨B, 4, none⟩ (.string ⟨p2.toArray⟩)).setCell ⟨B, 5, none⟩ (.string ⟨q2.toArray⟩)) = v3 at *
        refine hg.mono ?_
        rintro en u3 ⟨r3, l3, e3, rfl, hX3, hs3, hb3, hcc⟩
        have hA3 := blk_keep hAb hcc (show ¬ A = X by omega)
        have hB3 := blk_keep hBb hcc (show ¬ B = X by omega)
        have hc3 := hcb.trans hcc (fun _ _ h => h)
        replace hs3 := hid hs3
        replace hb3 := hid hb3
        clear hg hcc hAb hBb hcb hXb
        obtain ⟨d0, d1, d2, d3, d4, d5, d6, d7, d8⟩ := cred_at_blk hB3
        simp only [Nat.zero_add, noneR] at d0 d1 d2 d3 d4 d5 d6 d7 d8
        have g8 := froz_blk hB3 8
        have hcs : Chg (· = B) u3 (u3.setCell ⟨B, 8, none⟩ (.string ⟨r3.toArray⟩)) := (setCell_chg u3 B 8 (.string ⟨r3.toArray⟩))
        have hBc : ((u3.setCell ⟨B, 8, none⟩ (.string ⟨r3.toArray⟩))).heap[B]? = some (.cells (credBox ⟨3, (p1, q1), [], (p2, q2), noneR, r3⟩) 32 (0, 0)) := by
          have hset := (set_blk hB3 8 (.string ⟨r3.toArray⟩))
          simpa [credBox, noCred, noneR] using hset
        have hAc := blk_keep hA3 hcs (show ¬ A = B by omega)
        have hXc : TapeAt (u3.setCell ⟨B, 8, none⟩ (.string ⟨r3.toArray⟩)) X l3 e3 := blk_keep hX3 hcs (show ¬ X = B by omega)
        have hcc : Chg (· = X) w (u3.setCell ⟨B, 8, none⟩ (.string ⟨r3.toArray⟩)) := hc3.trans hcs (fun j hj h => by have : j = B := h; omega)
        clear hcs hA3 hB3 hX3 hc3
        have hgo := hid (show GetOr l ⟨3, (p1, q1), [], (p2, q2), noneR, r3⟩ l3 e3 from getOr3 hgh.out hs1.out hs2.out hs3.out)
        by_cases hze : e3 = 0
        · subst hze
          have y3 := (hb3.out rfl).2
          have z2 := hs3.out.from0 rfl
          have y2 := (hb2.out z2).2
          have y1 := (hb1.out (hs2.out.from0 z2)).2
          clear z2
          have HG2 : Hid (credGet l = getEnd ⟨3, (p1, q1), [], (p2, q2), noneR, r3⟩ l3) := hid (hgo.out.1 rfl)
          have hsh : credShort ⟨3, (p1, q1), [], (p2, q2), noneR, r3⟩ 9223372036854775807 := ⟨by show p1.length ≤ _; omega, by show q1.length ≤ _; omega, by simp, by show p2.length ≤ _; omega, by show q2.length ≤ _; omega, by simp [noneR], by simp [noneR], by show r3.length ≤ _; omega⟩
          have hrt := cright_ref ⟨3, (p1, q1), [], (p2, q2), noneR, r3⟩ (u3.setCell ⟨B, 8, none⟩ (.string ⟨r3.toArray⟩)) hsh
          obtain ⟨b0, b1, b2, b3, b4, b5, b6, b7, b8⟩ := cred_at_blk hBc
          simp only [Nat.zero_add, noneR] at b0 b1 b2 b3 b4 b5 b6 b7 b8
          have x1 := cell_blk hXc 1
          simp only [List.getElem?_toArray, List.getElem?_cons_zero, List.getElem?_cons_succ] at x1
          have HT := hid (And.intro hrt (And.intro hAc (And.intro hBc (And.intro hXc hcc))))
          clear hrt hAc hBc hcc hXc hsh
          go_wp2_with fail
          obtain ⟨hrt, hAt, hBt, hXt, hct⟩ := HT.out
          refine hrt.mono ?_
          rintro en w9 ⟨rfl, hc9⟩
          have hA9 := blk_keep hAt hc9 id
          have hB9 := blk_keep hBt hc9 id
          have hX9 : TapeAt w9 X l3 0 := blk_keep hXt hc9 id
          have hcw9 := hct.trans hc9 (fun _ _ h => h.elim)
          clear HT hrt hAt hBt hXt hct hc9 b0 b1 b2 b3 b4 b5 b6 b7 b8 x1 d0 d1 d2 d3 d4 d5 d6 d7 d8 g8
          obtain ⟨b0, b1, b2, b3, b4, b5, b6, b7, b8⟩ := cred_at_blk hB9
          simp only [Nat.zero_add, noneR] at b0 b1 b2 b3 b4 b5 b6 b7 b8
          obtain ⟨a0, a1, a2, a3, a4, a5, a6, a7, a8⟩ := cred_at_blk hA9
          simp only [Nat.zero_add, noCred, noneR] at a0 a1 a2 a3 a4 a5 a6 a7 a8
          have f0 := froz_blk hA9 0
          have f1 := froz_blk hA9 1
          have f2 := froz_blk hA9 2
          have f3 := froz_blk hA9 3
          have f4 := froz_blk hA9 4
          have f5 := froz_blk hA9 5
          have f6 := froz_blk hA9 6
          have f7 := froz_blk hA9 7
          have f8 := froz_blk hA9 8
          have x1 := cell_blk hX9 1
          simp only [List.getElem?_toArray, List.getElem?_cons_zero, List.getElem?_cons_succ] at x1
          cases hr : isCred ⟨3, (p1, q1), [], (p2, q2), noneR, r3⟩ with
          | true =>
            have HF : Hid (credGot l noCred = ⟨3, (p1, q1), [], (p2, q2), noneR, r3⟩ ∧ GotTo l l3 0) := hid (by
              have h1 : credGet l = .ok ⟨3, (p1, q1), [], (p2, q2), noneR, r3⟩ l3 := by rw [HG2.out, getEnd]; exact if_pos hr
              exact ⟨by rw [credGot, h1], by rw [GotTo, h1]; exact ⟨rfl, rfl⟩⟩)
            have hD := setCred_blk ⟨3, (p1, q1), [], (p2, q2), noneR, r3⟩ hA9
            have hch : Chg (· = X) w (setCred w9 A ⟨3, (p1, q1), [], (p2, q2), noneR, r3⟩) := hcw9.trans (setCred_chg w9 A ⟨3, (p1, q1), [], (p2, q2), noneR, r3⟩) (fun i hi h => by have : i = A := h; omega)
            have hT : TapeAt (setCred w9 A ⟨3, (p1, q1), [], (p2, q2), noneR, r3⟩) X l3 0 := by
              have hk := blk_keep hX9 (setCred_chg w9 A ⟨3, (p1, q1), [], (p2, q2), noneR, r3⟩) (show ¬ X = A by omega)
              exact hk
            have HH := hid (And.intro hD (And.intro hT hch))
            clear hD hT hch hA9 hB9 hX9 hcw9
            go_wp2
            refine bodyPost_ret (results_one_cred rfl _ _ A ⟨3, (p1, q1), [], (p2, q2), noneR, r3⟩ rfl HH.out.1) rfl ?_
            exact ⟨by rw [HF.out.1], ⟨_, _, HH.out.2.1, HF.out.2⟩, HH.out.2.2⟩
          | false =>
            have HF : Hid (credGot l noCred = noCred ∧ GotTo l l3 11) := hid (by
              have h1 : credGet l = .bad 11 := by rw [HG2.out, getEnd]; exact if_neg (by rw [hr]; decide)
              exact ⟨by rw [credGot, h1], by rw [GotTo, h1]; exact ⟨rfl, by decide⟩⟩)
            have g1 := froz_blk hX9 1
            have hX10 : TapeAt (w9.setCell ⟨X, 1, none⟩ (.int .i64 11)) X l3 11 := set_blk hX9 1 (.int .i64 11)
            have hcx := setCell_chg w9 X 1 (.int .i64 11)
            have hA10 := blk_keep hA9 hcx (show ¬ A = X by omega)
            have hD := setCred_blk noCred hA10
            have hch : Chg (· = X) w (setCred (w9.setCell ⟨X, 1, none⟩ (.int .i64 11)) A noCred) := (hcw9.trans hcx (fun _ _ h => h)).trans (setCred_chg _ A noCred) (fun i hi h => by have : i = A := h; omega)
            have hT : TapeAt (setCred (w9.setCell ⟨X, 1, none⟩ (.int .i64 11)) A noCred) X l3 11 := by
              have hk := blk_keep hX10 (setCred_chg _ A noCred) (show ¬ X = A by omega)
              exact hk
            have HH := hid (And.intro hD (And.intro hT hch))
            clear hD hT hch hA9 hB9 hX9 hcw9 hX10 hcx hA10
            go_wp2
            refine bodyPost_ret (results_one_cred rfl _ _ A noCred rfl HH.out.1) rfl ?_
            exact ⟨by rw [HF.out.1], ⟨_, _, HH.out.2.1, HF.out.2⟩, HH.out.2.2⟩
        · have hne : e3 ≠ 0 := hze
          have zz1 : (e3 == 0) = false := beq_eq_false_iff_ne.2 hne
          have zz2 : (e3 != 0) = true := by rw [bne_iff_ne]; exact hne
          have HF : Hid (credGot l noCred = noCred ∧ GotTo l l3 e3) := hid (by
            obtain ⟨n, hn1, hn2⟩ := hgo.out.2 hze
            exact ⟨by rw [credGot, hn2], by rw [GotTo, hn2]; exact ⟨hn1, hne⟩⟩)
          obtain ⟨b0, b1, b2, b3, b4, b5, b6, b7, b8⟩ := cred_at_blk hBc
          simp only [Nat.zero_add, noneR] at b0 b1 b2 b3 b4 b5 b6 b7 b8
          obtain ⟨a0, a1, a2, a3, a4, a5, a6, a7, a8⟩ := cred_at_blk hAc
          simp only [Nat.zero_add, noCred, noneR] at a0 a1 a2 a3 a4 a5 a6 a7 a8
          have f0 := froz_blk hAc 0
          have f1 := froz_blk hAc 1
          have f2 := froz_blk hAc 2
          have f3 := froz_blk hAc 3
          have f4 := froz_blk hAc 4
          have f5 := froz_blk hAc 5
          have f6 := froz_blk hAc 6
          have f7 := froz_blk hAc 7
          have f8 := froz_blk hAc 8
          have x1 := cell_blk hXc 1
          simp only [List.getElem?_toArray, List.getElem?_cons_zero, List.getElem?_cons_succ] at x1
          have hD := setCred_blk noCred hAc
          have hch : Chg (· = X) w (setCred (u3.setCell ⟨B, 8, none⟩ (.string ⟨r3.toArray⟩)) A noCred) := hcc.trans (setCred_chg (u3.setCell ⟨B, 8, none⟩ (.string ⟨r3.toArray⟩)) A noCred) (fun i hi h => by have : i = A := h; omega)
          have hT : TapeAt (setCred (u3.setCell ⟨B, 8, none⟩ (.string ⟨r3.toArray⟩)) A noCred) X l3 e3 := by
            have hk := blk_keep hXc (setCred_chg (u3.setCell ⟨B, 8, none⟩ (.string ⟨r3.toArray⟩)) A noCred) (show ¬ X = A by omega)
            exact hk
          have HH := hid (And.intro hD (And.intro hT hch))
          clear hD hT hch hAc hBc hcc hXc
          go_wp2
          refine bodyPost_ret (results_one_cred rfl _ _ A noCred rfl HH.out.1) rfl ?_
          exact ⟨by rw [HF.out.1], ⟨_, _, HH.out.2.1, HF.out.2⟩, HH.out.2.2⟩
      · have hgh : credGet l = getHead 4 (numRest l) := hgh0.out
        clear hgh0
        replace hgh := hid hgh
        rw [show ((4 : Nat) : Int) = 4 from rfl]
        have hc23 : Chg (fun _ => False) w2 (w2.alloc (.cells #[.int .i64 4, .string ⟨#[]⟩, .string ⟨#[]⟩, .string ⟨#[]⟩, .string ⟨#[]⟩, .string ⟨#[]⟩, .string ⟨#[]⟩, .string ⟨#[]⟩, .string ⟨#[]⟩] 32)) := (Chg.refl _ w2).alloc _
        have hB3 : (w2.alloc (.cells #[.int .i64 4, .string ⟨#[]⟩, .string ⟨#[]⟩, .string ⟨#[]⟩, .string ⟨#[]⟩, .string ⟨#[]⟩, .string ⟨#[]⟩, .string ⟨#[]⟩, .string ⟨#[]⟩] 32)).heap[w2.heap.size]? = some (.cells (credBox ⟨4, noneR, [], noneR, noneR, []⟩) 32 (0, 0)) := heap_alloc_new w2 _
        have hA3 := blk_keep hA2 hc23 id
        have hc3 : Chg (· = X) w (w2.alloc (.cells #[.int .i64 4, .string ⟨#[]⟩, .string ⟨#[]⟩, .string ⟨#[]⟩, .string ⟨#[]⟩, .string ⟨#[]⟩, .string ⟨#[]⟩, .string ⟨#[]⟩, .string ⟨#[]⟩] 32)) := hcw2.trans hc23 (fun _ _ h => h.elim)
        have hAlt : A < w2.heap.size := lt_blk hA2
        have hX3 : TapeAt (w2.alloc (.cells #[.int .i64 4, .string ⟨#[]⟩, .string ⟨#[]⟩, .string ⟨#[]⟩, .string ⟨#[]⟩, .string ⟨#[]⟩, .string ⟨#[]⟩, .string ⟨#[]⟩, .string ⟨#[]⟩] 32)) X (numRest l) 0 := blk_keep hX2 hc23 id
        generalize hBB : w2.heap.size = B at *
        clear hc23 hA2 hcw2 hX2
        have g0 : 0 < 1 := by decide
        have hg := rget_step X (numRest l) 0 (w2.alloc (.cells #[.int .i64 4, .string ⟨#[]⟩, .string ⟨#[]⟩, .string ⟨#[]⟩, .string ⟨#[]⟩, .string ⟨#[]⟩, .string ⟨#[]⟩, .string ⟨#[]⟩, .string ⟨#[]⟩] 32)) (fun _ => hlr) hX3
        obtain ⟨b0, b1, b2, b3, b4, b5, b6, b7, b8⟩ := cred_at_blk hB3
        simp only [Nat.zero_add, noneR] at b0 b1 b2 b3 b4 b5 b6 b7 b8
        have x1 := cell_blk hX3 1
        simp only [List.getElem?_toArray, List.getElem?_cons_zero, List.getElem?_cons_succ] at x1
        have HG := hid (And.intro hg (And.intro hA3 (And.intro hB3 hc3)))
        clear hg hA3 hB3 hc3
        go_wp2_with fail
        clear b0 b1 b2 b3 b4 b5 b6 b7 b8 x1 g0
        obtain ⟨hg, hA3, hB3, hc3⟩ := HG.out
        clear HG
        generalize (w2.alloc (.cells #[.int .i64 4, .string ⟨#[]⟩, .string ⟨#[]⟩, .string ⟨#[]⟩, .string ⟨#[]⟩, .string ⟨#[]⟩, .string ⟨#[]⟩, .string ⟨#[]⟩, .string ⟨#[]⟩] 32)) = v1 at *
        refine hg.mono ?_
        rintro en u1 ⟨r1, l1, e1, rfl, hX1, hs1, hb1, hcc⟩
        have hA1 := blk_keep hA3 hcc (show ¬ A = X by omega)
        have hB1 := blk_keep hB3 hcc (show ¬ B = X by omega)
        have hc1 := hc3.trans hcc (fun _ _ h => h)
        replace hs1 := hid hs1
        replace hb1 := hid hb1
        clear hg hcc hA3 hB3 hc3 hX3
        obtain ⟨p1, q1⟩ := r1
        rw [show roleV (p1, q1) = .agg #[.string ⟨p1.toArray⟩, .string ⟨q1.toArray⟩] from rfl]
        obtain ⟨d0, d1, d2, d3, d4, d5, d6, d7, d8⟩ := cred_at_blk hB1
        simp only [Nat.zero_add, noneR] at d0 d1 d2 d3 d4 d5 d6 d7 d8
        have g1 := froz_blk hB1 1
        have g2 := froz_blk hB1 2
        have hcs : Chg (· = B) u1 ((u1.setCell ⟨B, 1, none⟩ (.string ⟨p1.toArray⟩)).setCell ⟨B, 2, none⟩ (.string ⟨q1.toArray⟩)) := ((setCell_chg u1 B 1 (.string ⟨p1.toArray⟩)).trans (setCell_chg (u1.setCell ⟨B, 1, none⟩ (.string ⟨p1.toArray⟩)) B 2 (.string ⟨q1.toArray⟩)) (fun _ _ h => h))
        have hBa : (((u1.setCell ⟨B, 1, none⟩ (.string ⟨p1.toArray⟩)).setCell ⟨B, 2, none⟩ (.string ⟨q1.toArray⟩))).heap[B]? = some (.cells (credBox ⟨4, (p1, q1), [], noneR, noneR, []⟩) 32 (0, 0)) := by
          have hset := (set_blk (set_blk hB1 1 (.string ⟨p1.toArray⟩)) 2 (.string ⟨q1.toArray⟩))
          simpa [credBox, noCred, noneR] using hset
        have hAa := blk_keep hA1 hcs (show ¬ A = B by omega)
        have hXa : TapeAt ((u1.setCell ⟨B, 1, none⟩ (.string ⟨p1.toArray⟩)).setCell ⟨B, 2, none⟩ (.string ⟨q1.toArray⟩)) X l1 e1 := blk_keep hX1 hcs (show ¬ X = B by omega)
        have hca : Chg (· = X) w ((u1.setCell ⟨B, 1, none⟩ (.string ⟨p1.toArray⟩)).setCell ⟨B, 2, none⟩ (.string ⟨q1.toArray⟩)) := hc1.trans hcs (fun j hj h => by have : j = B := h; omega)
        clear hcs hA1 hB1 hX1 hc1
        have hg := rget_step X l1 e1 ((u1.setCell ⟨B, 1, none⟩ (.string ⟨p1.toArray⟩)).setCell ⟨B, 2, none⟩ (.string ⟨q1.toArray⟩)) (fun h => (hb1.out h).1) hXa
        obtain ⟨b0, b1, b2, b3, b4, b5, b6, b7, b8⟩ := cred_at_blk hBa
        simp only [Nat.zero_add, noneR] at b0 b1 b2 b3 b4 b5 b6 b7 b8
        have x1 := cell_blk hXa 1
        simp only [List.getElem?_toArray, List.getElem?_cons_zero, List.getElem?_cons_succ] at x1
        have HG := hid (And.intro hg (And.intro hAa (And.intro hBa hca)))
        clear hg hAa hBa hca
        go_wp2_with fail
        clear b0 b1 b2 b3 b4 b5 b6 b7 b8 x1 d0 d1 d2 d3 d4 d5 d6 d7 d8 g1 g2
        obtain ⟨hg, hAa, hBa, hca⟩ := HG.out
        clear HG
        generalize ((u1.setCell ⟨B, 1, none⟩ (.string ⟨p1.toArray⟩)).setCell ⟨B, 2, none⟩ (.string ⟨q1.toArray⟩)) = v2 at *
        refine hg.mono ?_
        rintro en u2 ⟨r2, l2, e2, rfl, hX2, hs2, hb2, hcc⟩
        have hA2 := blk_keep hAa hcc (show ¬ A = X by omega)
        have hB2 := blk_keep hBa hcc (show ¬ B = X by omega)
        have hc2 := hca.trans hcc (fun _ _ h => h)
        replace hs2 := hid hs2
        replace hb2 := hid hb2
        clear hg hcc hAa hBa hca hXa
        obtain ⟨p2, q2⟩ := r2
        rw [show roleV (p2, q2) = .agg #[.string ⟨p2.toArray⟩, .string ⟨q2.toArray⟩] from rfl]
        obtain ⟨d0, d1, d2, d3, d4, d5, d6, d7, d8⟩ := cred_at_blk hB2
        simp only [Nat.zero_add, noneR] at d0 d1 d2 d3 d4 d5 d6 d7 d8
        have g4 := froz_blk hB2 4
        have g5 := froz_blk hB2 5
        have hcs : Chg (· = B) u2 ((u2.setCell ⟨B, 4, none⟩ (.string ⟨p2.toArray⟩)).setCell ⟨B, 5, none⟩ (.string ⟨q2.toArray⟩)) := ((setCell_chg u2 B 4 (.string ⟨p2.toArray⟩)).trans (setCell_chg (u2.setCell ⟨B, 4, none⟩ (.string ⟨p2.toArray⟩)) B 5 (.string ⟨q2.toArray⟩)) (fun _ _ h => h))
        have hBb : (((u2.setCell ⟨B, 4, none⟩ (.string ⟨p2.toArray⟩)).setCell ⟨B, 5, none⟩ (.string ⟨q2.toArray⟩))).heap[B]? = some (.cells (credBox ⟨4, (p1, q1), [], (p2, q2), noneR, []⟩) 32 (0, 0)) := by
          have hset := (set_blk (set_blk hB2 4 (.string ⟨p2.toArray⟩)) 5 (.string ⟨q2.toArray⟩))
          simpa [credBox, noCred, noneR] using hset
        have hAb := blk_keep hA2 hcs (show ¬ A = B by omega)
        have hXb : TapeAt ((u2.setCell ⟨B, 4, none⟩ (.string ⟨p2.toArray⟩)).setCell ⟨B, 5, none⟩ (.string ⟨q2.toArray⟩)) X l2 e2 := blk_keep hX2 hcs (show ¬ X = B by omega)
        have hcb : Chg (· = X) w ((u2.setCell ⟨B, 4, none⟩ (.string ⟨p2.toArray⟩)).setCell ⟨B, 5, none⟩ (.string ⟨q2.toArray⟩)) := hc2.trans hcs (fun j hj h => by have : j = B := h; omega)
        clear hcs hA2 hB2 hX2 hc2
        have hg := rget_step X l2 e2 ((u2.setCell ⟨B, 4, none⟩ (.string ⟨p2.toArray⟩)).setCell ⟨B, 5, none⟩ (.string ⟨q2.toArray⟩)) (fun h => (hb2.out h).1) hXb
        obtain ⟨b0, b1, b2, b3, b4, b5, b6, b7, b8⟩ := cred_at_blk hBb
        simp only [Nat.zero_add, noneR] at b0 b1 b2 b3 b4 b5 b6 b7 b8
        have x1 := cell_blk hXb 1
        simp only [List.getElem?_toArray, List.getElem?_cons_zero, List.getElem?_cons_succ] at x1
        have HG := hid (And.intro hg (And.intro hAb (And.intro hBb hcb)))
        clear hg hAb hBb hcb
        go_wp2_with fail
        clear b0 b1 b2 b3 b4 b5 b6 b7 b8 x1 d0 d1 d2 d3 d4 d5 d6 d7 d8 g4 g5
        obtain ⟨hg, hAb, hBb, hcb⟩ := HG.out
        clear HG
        generalize ((u2.setCell ⟨B, 4, none⟩ (.string ⟨p2.toArray⟩)).setCell ⟨B, 5, none⟩ (.string ⟨q2.toArray⟩)) = v3 at *
        refine hg.mono ?_
        rintro en u3 ⟨r3, l3, e3, rfl, hX3, hs3, hb3, hcc⟩
        have hA3 := blk_keep hAb hcc (show ¬ A = X by omega)
        have hB3 := blk_keep hBb hcc (show ¬ B = X by omega)
        have hc3 := hcb.trans hcc (fun _ _ h => h)
        replace hs3 := hid hs3
        replace hb3 := hid hb3
        clear hg hcc hAb hBb hcb hXb
        obtain ⟨p3, q3⟩ := r3
        rw [show roleV (p3, q3) = .agg #[.string ⟨p3.toArray⟩, .string ⟨q3.toArray⟩] from rfl]
        obtain ⟨d0, d1, d2, d3, d4, d5, d6, d7, d8⟩ := cred_at_blk hB3
        simp only [Nat.zero_add, noneR] at d0 d1 d2 d3 d4 d5 d6 d7 d8
        have g6 := froz_blk hB3 6
        have g7 := froz_blk hB3 7
        have hcs : Chg (· = B) u3 ((u3.setCell ⟨B, 6, none⟩ (.string ⟨p3.toArray⟩)).setCell ⟨B, 7, none⟩ (.string ⟨q3.toArray⟩)) := ((setCell_chg u3 B 6 (.string ⟨p3.toArray⟩)).trans (setCell_chg (u3.setCell ⟨B, 6, none⟩ (.string ⟨p3.toArray⟩)) B 7 (.string ⟨q3.toArray⟩)) (fun _ _ h => h))
        have hBc : (((u3.setCell ⟨B, 6, none⟩ (.string ⟨p3.toArray⟩)).setCell ⟨B, 7, none⟩ (.string ⟨q3.toArray⟩))).heap[B]? = some (.cells (credBox ⟨4, (p1, q1), [], (p2, q2), (p3, q3), []⟩) 32 (0, 0)) := by
          have hset := (set_blk (set_blk hB3 6 (.string ⟨p3.toArray⟩)) 7 (.string ⟨q3.toArray⟩))
          simpa [credBox, noCred, noneR] using hset
        have hAc := blk_keep hA3 hcs (show ¬ A = B by omega)
        have hXc : TapeAt ((u3.setCell ⟨B, 6, none⟩ (.string ⟨p3.toArray⟩)).setCell ⟨B, 7, none⟩ (.string ⟨q3.toArray⟩)) X l3 e3 := blk_keep hX3 hcs (show ¬ X = B by omega)
        have hcc : Chg (· = X) w ((u3.setCell ⟨B, 6, none⟩ (.string ⟨p3.toArray⟩)).setCell ⟨B, 7, none⟩ (.string ⟨q3.toArray⟩)) := hc3.trans hcs (fun j hj h => by have : j = B := h; omega)
        clear hcs hA3 hB3 hX3 hc3
        have hgo := hid (show GetOr l ⟨4, (p1, q1), [], (p2, q2), (p3, q3), []⟩ l3 e3 from getOr4 hgh.out hs1.out hs2.out hs3.out)
        by_cases hze : e3 = 0
        · subst hze
          have y3 : p3.length ≤ 16 ∧ q3.length ≤ 16 := (hb3.out rfl).2
          have z2 := hs3.out.from0 rfl
          have y2 := (hb2.out z2).2
          have y1 := (hb1.out (hs2.out.from0 z2)).2
          clear z2
          have HG2 : Hid (credGet l = getEnd ⟨4, (p1, q1), [], (p2, q2), (p3, q3), []⟩ l3) := hid (hgo.out.1 rfl)
          have hsh : credShort ⟨4, (p1, q1), [], (p2, q2), (p3, q3), []⟩ 9223372036854775807 := ⟨by show p1.length ≤ _; omega, by show q1.length ≤ _; omega, by simp, by show p2.length ≤ _; omega, by show q2.length ≤ _; omega, by show p3.length ≤ _; omega, by show q3.length ≤ _; omega, by simp⟩
          have hrt := cright_ref ⟨4, (p1, q1), [], (p2, q2), (p3, q3), []⟩ ((u3.setCell ⟨B, 6, none⟩ (.string ⟨p3.toArray⟩)).setCell ⟨B, 7, none⟩ (.string ⟨q3.toArray⟩)) hsh
          obtain ⟨b0, b1, b2, b3, b4, b5, b6, b7, b8⟩ := cred_at_blk hBc
          simp only [Nat.zero_add] at b0 b1 b2 b3 b4 b5 b6 b7 b8
          have x1 := cell_blk hXc 1
          simp only [List.getElem?_toArray, List.getElem?_cons_zero, List.getElem?_cons_succ] at x1
          have HT := hid (And.intro hrt (And.intro hAc (And.intro hBc (And.intro hXc hcc))))
          clear hrt hAc hBc hcc hXc hsh
          go_wp2_with fail
          obtain ⟨hrt, hAt, hBt, hXt, hct⟩ := HT.out
          refine hrt.mono ?_
          rintro en w9 ⟨rfl, hc9⟩
          have hA9 := blk_keep hAt hc9 id
          have hB9 := blk_keep hBt hc9 id
          have hX9 : TapeAt w9 X l3 0 := blk_keep hXt hc9 id
          have hcw9 := hct.trans hc9 (fun _ _ h => h.elim)
          clear HT hrt hAt hBt hXt hct hc9 b0 b1 b2 b3 b4 b5 b6 b7 b8 x1 d0 d1 d2 d3 d4 d5 d6 d7 d8 g6 g7
          obtain ⟨b0, b1, b2, b3, b4, b5, b6, b7, b8⟩ := cred_at_blk hB9
          simp only [Nat.zero_add] at b0 b1 b2 b3 b4 b5 b6 b7 b8
          obtain ⟨a0, a1, a2, a3, a4, a5, a6, a7, a8⟩ := cred_at_blk hA9
          simp only [Nat.zero_add, noCred, noneR] at a0 a1 a2 a3 a4 a5 a6 a7 a8
          have f0 := froz_blk hA9 0
          have f1 := froz_blk hA9 1
          have f2 := froz_blk hA9 2
          have f3 := froz_blk hA9 3
          have f4 := froz_blk hA9 4
          have f5 := froz_blk hA9 5
          have f6 := froz_blk hA9 6
          have f7 := froz_blk hA9 7
          have f8 := froz_blk hA9 8
          have x1 := cell_blk hX9 1
          simp only [List.getElem?_toArray, List.getElem?_cons_zero, List.getElem?_cons_succ] at x1
          cases hr : isCred ⟨4, (p1, q1), [], (p2, q2), (p3, q3), []⟩ with
          | true =>
            have HF : Hid (credGot l noCred = ⟨4, (p1, q1), [], (p2, q2), (p3, q3), []⟩ ∧ GotTo l l3 0) := hid (by
              have h1 : credGet l = .ok ⟨4, (p1, q1), [], (p2, q2), (p3, q3), []⟩ l3 := by rw [HG2.out, getEnd]; exact if_pos hr
              exact ⟨by rw [credGot, h1], by rw [GotTo, h1]; exact ⟨rfl, rfl⟩⟩)
            have hD := setCred_blk ⟨4, (p1, q1), [], (p2, q2), (p3, q3), []⟩ hA9
            have hch : Chg (· = X) w (setCred w9 A ⟨4, (p1, q1), [], (p2, q2), (p3, q3), []⟩) := hcw9.trans (setCred_chg w9 A ⟨4, (p1, q1), [], (p2, q2), (p3, q3), []⟩) (fun i hi h => by have : i = A := h; omega)
            have hT : TapeAt (setCred w9 A ⟨4, (p1, q1), [], (p2, q2), (p3, q3), []⟩) X l3 0 := by
              have hk := blk_keep hX9 (setCred_chg w9 A ⟨4, (p1, q1), [], (p2, q2), (p3, q3), []⟩) (show ¬ X = A by omega)
              exact hk
            have HH := hid (And.intro hD (And.intro hT hch))
            clear hD hT hch hA9 hB9 hX9 hcw9
            go_wp2
            refine bodyPost_ret (results_one_cred rfl _ _ A ⟨4, (p1, q1), [], (p2, q2), (p3, q3), []⟩ rfl HH.out.1) rfl ?_
            exact ⟨by rw [HF.out.1], ⟨_, _, HH.out.2.1, HF.out.2⟩, HH.out.2.2⟩
          | false =>
            have HF : Hid (credGot l noCred = noCred ∧ GotTo l l3 11) := hid (by
              have h1 : credGet l = .bad 11 := by rw [HG2.out, getEnd]; exact if_neg (by rw [hr]; decide)
              exact ⟨by rw [credGot, h1], by rw [GotTo, h1]; exact ⟨rfl, by decide⟩⟩)
            have g1 := froz_blk hX9 1
            have hX10 : TapeAt (w9.setCell ⟨X, 1, none⟩ (.int .i64 11)) X l3 11 := set_blk hX9 1 (.int .i64 11)
            have hcx := setCell_chg w9 X 1 (.int .i64 11)
            have hA10 := blk_keep hA9 hcx (show ¬ A = X by omega)
            have hD := setCred_blk noCred hA10
            have hch : Chg (· = X) w (setCred (w9.setCell ⟨X, 1, none⟩ (.int .i64 11)) A noCred) := (hcw9.trans hcx (fun _ _ h => h)).trans (setCred_chg _ A noCred) (fun i hi h => by have : i = A := h; omega)
            have hT : TapeAt (setCred (w9.setCell ⟨X, 1, none⟩ (.int .i64 11)) A noCred) X l3 11 := by
              have hk := blk_keep hX10 (setCred_chg _ A noCred) (show ¬ X = A by omega)
              exact hk
            have HH := hid (And.intro hD (And.intro hT hch))
            clear hD hT hch hA9 hB9 hX9 hcw9 hX10 hcx hA10
            go_wp2
            refine bodyPost_ret (results_one_cred rfl _ _ A noCred rfl HH.out.1) rfl ?_
            exact ⟨by rw [HF.out.1], ⟨_, _, HH.out.2.1, HF.out.2⟩, HH.out.2.2⟩
        · have hne : e3 ≠ 0 := hze
          have zz1 : (e3 == 0) = false := beq_eq_false_iff_ne.2 hne
          have zz2 : (e3 != 0) = true := by rw [bne_iff_ne]; exact hne
          have HF : Hid (credGot l noCred = noCred ∧ GotTo l l3 e3) := hid (by
            obtain ⟨n, hn1, hn2⟩ := hgo.out.2 hze
            exact ⟨by rw [credGot, hn2], by rw [GotTo, hn2]; exact ⟨hn1, hne⟩⟩)
          obtain ⟨b0, b1, b2, b3, b4, b5, b6, b7, b8⟩ := cred_at_blk hBc
          simp only [Nat.zero_add] at b0 b1 b2 b3 b4 b5 b6 b7 b8
          obtain ⟨a0, a1, a2, a3, a4, a5, a6, a7, a8⟩ := cred_at_blk hAc
          simp only [Nat.zero_add, noCred, noneR] at a0 a1 a2 a3 a4 a5 a6 a7 a8
          have f0 := froz_blk hAc 0
          have f1 := froz_blk hAc 1
          have f2 := froz_blk hAc 2
          have f3 := froz_blk hAc 3
          have f4 := froz_blk hAc 4
          have f5 := froz_blk hAc 5
          have f6 := froz_blk hAc 6
          have f7 := froz_blk hAc 7
          have f8 := froz_blk hAc 8
          have x1 := cell_blk hXc 1
          simp only [List.getElem?_toArray, List.getElem?_cons_zero, List.getElem?_cons_succ] at x1
          have hD := setCred_blk noCred hAc
          have hch : Chg (· = X) w (setCred ((u3.setCell ⟨B, 6, none⟩ (.string ⟨p3.toArray⟩)).setCell ⟨B, 7, none⟩ (.string ⟨q3.toArray⟩)) A noCred) := hcc.trans (setCred_chg ((u3.setCell ⟨B, 6, none⟩ (.string ⟨p3.toArray⟩)).setCell ⟨B, 7, none⟩ (.string ⟨q3.toArray⟩)) A noCred) (fun i hi h => by have : i = A := h; omega)
          have hT : TapeAt (setCred ((u3.setCell ⟨B, 6, none⟩ (.string ⟨p3.toArray⟩)).setCell ⟨B, 7, none⟩ (.string ⟨q3.toArray⟩)) A noCred) X l3 e3 := by
            have hk := blk_keep hXc (setCred_chg ((u3.setCell ⟨B, 6, none⟩ (.string ⟨p3.toArray⟩)).setCell ⟨B, 7, none⟩ (.string ⟨q3.toArray⟩)) A noCred) (show ¬ X = A by omega)
            exact hk
          have HH := hid (And.intro hD (And.intro hT hch))
          clear hD hT hch hAc hBc hcc hXc
          go_wp2
          refine bodyPost_ret (results_one_cred rfl _ _ A noCred rfl HH.out.1) rfl ?_
          exact ⟨by rw [HF.out.1], ⟨_, _, HH.out.2.1, HF.out.2⟩, HH.out.2.2⟩
    · have hne11 : (11 : Int) ≠ 0 := by decide
      have hgb : Hid (credGet l = .bad 11) := hid (by rw [credGet, if_pos h0, hkk.out, if_neg hr])
      clear h0 hkk
      by_cases hk0 : k = 0
      · subst hk0
        rw [show ((0 : Nat) : Int) = 0 from rfl]
        clear hr
        have hc23 : Chg (fun _ => False) w2 (w2.alloc (.cells #[.int .i64 0, .string ⟨#[]⟩, .string ⟨#[]⟩, .string ⟨#[]⟩, .string ⟨#[]⟩, .string ⟨#[]⟩, .string ⟨#[]⟩, .string ⟨#[]⟩, .string ⟨#[]⟩] 32)) := (Chg.refl _ w2).alloc _
        have hB3 : (w2.alloc (.cells #[.int .i64 0, .string ⟨#[]⟩, .string ⟨#[]⟩, .string ⟨#[]⟩, .string ⟨#[]⟩, .string ⟨#[]⟩, .string ⟨#[]⟩, .string ⟨#[]⟩, .string ⟨#[]⟩] 32)).heap[w2.heap.size]? = some (.cells (credBox ⟨0, noneR, [], noneR, noneR, []⟩) 32 (0, 0)) := heap_alloc_new w2 _
        have hA3 := blk_keep hA2 hc23 id
        have hc3 : Chg (· = X) w (w2.alloc (.cells #[.int .i64 0, .string ⟨#[]⟩, .string ⟨#[]⟩, .string ⟨#[]⟩, .string ⟨#[]⟩, .string ⟨#[]⟩, .string ⟨#[]⟩, .string ⟨#[]⟩, .string ⟨#[]⟩] 32)) := hcw2.trans hc23 (fun _ _ h => h.elim)
        have hAlt : A < w2.heap.size := lt_blk hA2
        have hX2a : TapeAt (w2.alloc (.cells #[.int .i64 0, .string ⟨#[]⟩, .string ⟨#[]⟩, .string ⟨#[]⟩, .string ⟨#[]⟩, .string ⟨#[]⟩, .string ⟨#[]⟩, .string ⟨#[]⟩, .string ⟨#[]⟩] 32)) X (numRest l) 0 := blk_keep hX2 hc23 id
        generalize hBB : w2.heap.size = B at *
        have x0 := cell_blk hX2a 1
        simp only [List.getElem?_toArray, List.getElem?_cons_zero, List.getElem?_cons_succ] at x0
        have gx := froz_blk hX2a 1
        have hcx := setCell_chg (w2.alloc (.cells #[.int .i64 0, .string ⟨#[]⟩, .string ⟨#[]⟩, .string ⟨#[]⟩, .string ⟨#[]⟩, .string ⟨#[]⟩, .string ⟨#[]⟩, .string ⟨#[]⟩, .string ⟨#[]⟩] 32)) X 1 (.int .i64 11)
        have hX3 : TapeAt ((w2.alloc (.cells #[.int .i64 0, .string ⟨#[]⟩, .string ⟨#[]⟩, .string ⟨#[]⟩, .string ⟨#[]⟩, .string ⟨#[]⟩, .string ⟨#[]⟩, .string ⟨#[]⟩, .string ⟨#[]⟩] 32)).setCell ⟨X, 1, none⟩ (.int .i64 11)) X (numRest l) 11 := set_blk hX2a 1 (.int .i64 11)
        have hA3x := blk_keep hA3 hcx (show ¬ A = X by omega)
        have hB3x := blk_keep hB3 hcx (show ¬ B = X by omega)
        have hc3x := hc3.trans hcx (fun _ _ h => h)
        clear hc23 hA2 hcw2 hX2 hX2a hcx hA3 hB3 hc3
        have hg := rget_step X (numRest l) 11 ((w2.alloc (.cells #[.int .i64 0, .string ⟨#[]⟩, .string ⟨#[]⟩, .string ⟨#[]⟩, .string ⟨#[]⟩, .string ⟨#[]⟩, .string ⟨#[]⟩, .string ⟨#[]⟩, .string ⟨#[]⟩] 32)).setCell ⟨X, 1, none⟩ (.int .i64 11)) (fun h => absurd h (by decide)) hX3
        obtain ⟨b0, b1, b2, b3, b4, b5, b6, b7, b8⟩ := cred_at_blk hB3x
        simp only [Nat.zero_add, noneR] at b0 b1 b2 b3 b4 b5 b6 b7 b8
        have x1 := cell_blk hX3 1
        simp only [List.getElem?_toArray, List.getElem?_cons_zero, List.getElem?_cons_succ] at x1
        have HG := hid (And.intro hg (And.intro hA3x (And.intro hB3x hc3x)))
        clear hg hA3x hB3x hc3x
        go_wp2_with fail
        clear b0 b1 b2 b3 b4 b5 b6 b7 b8 x1 x0 gx
        obtain ⟨hg, hA3x, hB3x, hc3x⟩ := HG.out
        clear HG
        generalize ((w2.alloc (.cells #[.int .i64 0, .string ⟨#[]⟩, .string ⟨#[]⟩, .string ⟨#[]⟩, .string ⟨#[]⟩, .string ⟨#[]⟩, .string ⟨#[]⟩, .string ⟨#[]⟩, .string ⟨#[]⟩] 32)).setCell ⟨X, 1, none⟩ (.int .i64 11)) = v1 at *
        refine hg.mono ?_
        rintro en u1 ⟨r1, l1, e1, rfl, hX1, hs1, hb1, hcc⟩
        have hA1 := blk_keep hA3x hcc (show ¬ A = X by omega)
        have hB1 := blk_keep hB3x hcc (show ¬ B = X by omega)
        have hc1 := hc3x.trans hcc (fun _ _ h => h)
        replace hs1 := hid hs1
        replace hb1 := hid hb1
        clear hg hcc hA3x hB3x hc3x hX3
        obtain ⟨p1, q1⟩ := r1
        rw [show roleV (p1, q1) = .agg #[.string ⟨p1.toArray⟩, .string ⟨q1.toArray⟩] from rfl]
        obtain ⟨d0, d1, d2, d3, d4, d5, d6, d7, d8⟩ := cred_at_blk hB1
        simp only [Nat.zero_add, noneR] at d0 d1 d2 d3 d4 d5 d6 d7 d8
        have g1 := froz_blk hB1 1
        have g2 := froz_blk hB1 2
        have hcs : Chg (· = B) u1 ((u1.setCell ⟨B, 1, none⟩ (.string ⟨p1.toArray⟩)).setCell ⟨B, 2, none⟩ (.string ⟨q1.toArray⟩)) := ((setCell_chg u1 B 1 (.string ⟨p1.toArray⟩)).trans (setCell_chg (u1.setCell ⟨B, 1, none⟩ (.string ⟨p1.toArray⟩)) B 2 (.string ⟨q1.toArray⟩)) (fun _ _ h => h))
        have hBa : (((u1.setCell ⟨B, 1, none⟩ (.string ⟨p1.toArray⟩)).setCell ⟨B, 2, none⟩ (.string ⟨q1.toArray⟩))).heap[B]? = some (.cells (credBox ⟨0, (p1, q1), [], noneR, noneR, []⟩) 32 (0, 0)) := by
          have hset := (set_blk (set_blk hB1 1 (.string ⟨p1.toArray⟩)) 2 (.string ⟨q1.toArray⟩))
          simpa [credBox, noCred, noneR] using hset
        have hAa := blk_keep hA1 hcs (show ¬ A = B by omega)
        have hXa : TapeAt ((u1.setCell ⟨B, 1, none⟩ (.string ⟨p1.toArray⟩)).setCell ⟨B, 2, none⟩ (.string ⟨q1.toArray⟩)) X l1 e1 := blk_keep hX1 hcs (show ¬ X = B by omega)
        have hca : Chg (· = X) w ((u1.setCell ⟨B, 1, none⟩ (.string ⟨p1.toArray⟩)).setCell ⟨B, 2, none⟩ (.string ⟨q1.toArray⟩)) := hc1.trans hcs (fun j hj h => by have : j = B := h; omega)
        clear hcs hA1 hB1 hX1 hc1
        have hne : e1 ≠ 0 := by rw [hs1.out.same hne11]; exact hne11
        have zz1 : (e1 == 0) = false := beq_eq_false_iff_ne.2 hne
        have zz2 : (e1 != 0) = true := by rw [bne_iff_ne]; exact hne
        have HF : Hid (credGot l noCred = noCred ∧ GotTo l l1 e1) := hid (by
          obtain ⟨n, hn1, hn2⟩ := (⟨11, hs1.out.same hne11, hgb.out⟩ : ∃ n : Nat, e1 = n ∧ credGet l = .bad n)
          exact ⟨by rw [credGot, hn2], by rw [GotTo, hn2]; exact ⟨hn1, hne⟩⟩)
        obtain ⟨b0, b1, b2, b3, b4, b5, b6, b7, b8⟩ := cred_at_blk hBa
        simp only [Nat.zero_add, noneR] at b0 b1 b2 b3 b4 b5 b6 b7 b8
        obtain ⟨a0, a1, a2, a3, a4, a5, a6, a7, a8⟩ := cred_at_blk hAa
        simp only [Nat.zero_add, noCred, noneR] at a0 a1 a2 a3 a4 a5 a6 a7 a8
        have f0 := froz_blk hAa 0
        have f1 := froz_blk hAa 1
        have f2 := froz_blk hAa 2
        have f3 := froz_blk hAa 3
        have f4 := froz_blk hAa 4
        have f5 := froz_blk hAa 5
        have f6 := froz_blk hAa 6
        have f7 := froz_blk hAa 7
        have f8 := froz_blk hAa 8
        have x1 := cell_blk hXa 1
        simp only [List.getElem?_toArray, List.getElem?_cons_zero, List.getElem?_cons_succ] at x1
        have hD := setCred_blk noCred hAa
        have hch : Chg (· = X) w (setCred ((u1.setCell ⟨B, 1, none⟩ (.string ⟨p1.toArray⟩)).setCell ⟨B, 2, none⟩ (.string ⟨q1.toArray⟩)) A noCred) := hca.trans (setCred_chg ((u1.setCell ⟨B, 1, none⟩ (.string ⟨p1.toArray⟩)).setCell ⟨B, 2, none⟩ (.string ⟨q1.toArray⟩)) A noCred) (fun i hi h => by have : i = A := h; omega)
        have hT : TapeAt (setCred ((u1.setCell ⟨B, 1, none⟩ (.string ⟨p1.toArray⟩)).setCell ⟨B, 2, none⟩ (.string ⟨q1.toArray⟩)) A noCred) X l1 e1 := by
          have hk := blk_keep hXa (setCred_chg ((u1.setCell ⟨B, 1, none⟩ (.string ⟨p1.toArray⟩)).setCell ⟨B, 2, none⟩ (.string ⟨q1.toArray⟩)) A noCred) (show ¬ X = A by omega)
          exact hk
        have HH := hid (And.intro hD (And.intro hT hch))
        clear hD hT hch hAa hBa hca hXa
        go_wp2
        refine bodyPost_ret (results_one_cred rfl _ _ A noCred rfl HH.out.1) rfl ?_
        exact ⟨by rw [HF.out.1], ⟨_, _, HH.out.2.1, HF.out.2⟩, HH.out.2.2⟩
      · have z0 : ((k : Int) < 1) = False := eq_false (by omega)
        have z4 : (4 < (k : Int)) = True := eq_true (by omega)
        have y1 : ((k : Int) == 1) = false := beq_eq_false_iff_ne.2 (by omega)
        have y2 : ((k : Int) == 2) = false := beq_eq_false_iff_ne.2 (by omega)
        have y3 : ((k : Int) == 3) = false := beq_eq_false_iff_ne.2 (by omega)
        have y4 : ((k : Int) == 4) = false := beq_eq_false_iff_ne.2 (by omega)
        clear hr hk0
        have hc23 : Chg (fun _ => False) w2 (w2.alloc (.cells #[.int .i64 (k : Int), .string ⟨#[]⟩, .string ⟨#[]⟩, .string ⟨#[]⟩, .string ⟨#[]⟩, .string ⟨#[]⟩, .string ⟨#[]⟩, .string ⟨#[]⟩, .string ⟨#[]⟩] 32)) := (Chg.refl _ w2).alloc _
        have hB3 : (w2.alloc (.cells #[.int .i64 (k : Int), .string ⟨#[]⟩, .string ⟨#[]⟩, .string ⟨#[]⟩, .string ⟨#[]⟩, .string ⟨#[]⟩, .string ⟨#[]⟩, .string ⟨#[]⟩, .string ⟨#[]⟩] 32)).heap[w2.heap.size]? = some (.cells (credBox ⟨(k : Int), noneR, [], noneR, noneR, []⟩) 32 (0, 0)) := heap_alloc_new w2 _
        have hA3 := blk_keep hA2 hc23 id
        have hc3 : Chg (· = X) w (w2.alloc (.cells #[.int .i64 (k : Int), .string ⟨#[]⟩, .string ⟨#[]⟩, .string ⟨#[]⟩, .string ⟨#[]⟩, .string ⟨#[]⟩, .string ⟨#[]⟩, .string ⟨#[]⟩, .string ⟨#[]⟩] 32)) := hcw2.trans hc23 (fun _ _ h => h.elim)
        have hAlt : A < w2.heap.size := lt_blk hA2
        have hX2a : TapeAt (w2.alloc (.cells #[.int .i64 (k : Int), .string ⟨#[]⟩, .string ⟨#[]⟩, .string ⟨#[]⟩, .string ⟨#[]⟩, .string ⟨#[]⟩, .string ⟨#[]⟩, .string ⟨#[]⟩, .string ⟨#[]⟩] 32)) X (numRest l) 0 := blk_keep hX2 hc23 id
        generalize hBB : w2.heap.size = B at *
        have x0 := cell_blk hX2a 1
        simp only [List.getElem?_toArray, List.getElem?_cons_zero, List.getElem?_cons_succ] at x0
        have gx := froz_blk hX2a 1
        have hcx := setCell_chg (w2.alloc (.cells #[.int .i64 (k : Int), .string ⟨#[]⟩, .string ⟨#[]⟩, .string ⟨#[]⟩, .string ⟨#[]⟩, .string ⟨#[]⟩, .string ⟨#[]⟩, .string ⟨#[]⟩, .string ⟨#[]⟩] 32)) X 1 (.int .i64 11)
        have hX3 : TapeAt ((w2.alloc (.cells #[.int .i64 (k : Int), .string ⟨#[]⟩, .string ⟨#[]⟩, .string ⟨#[]⟩, .string ⟨#[]⟩, .string ⟨#[]⟩, .string ⟨#[]⟩, .string ⟨#[]⟩, .string ⟨#[]⟩] 32)).setCell ⟨X, 1, none⟩ (.int .i64 11)) X (numRest l) 11 := set_blk hX2a 1 (.int .i64 11)
        have hA3x := blk_keep hA3 hcx (show ¬ A = X by omega)
        have hB3x := blk_keep hB3 hcx (show ¬ B = X by omega)
        have hc3x := hc3.trans hcx (fun _ _ h => h)
        clear hc23 hA2 hcw2 hX2 hX2a hcx hA3 hB3 hc3
        have hg := rget_step X (numRest l) 11 ((w2.alloc (.cells #[.int .i64 (k : Int), .string ⟨#[]⟩, .string ⟨#[]⟩, .string ⟨#[]⟩, .string ⟨#[]⟩, .string ⟨#[]⟩, .string ⟨#[]⟩, .string ⟨#[]⟩, .string ⟨#[]⟩] 32)).setCell ⟨X, 1, none⟩ (.int .i64 11)) (fun h => absurd h (by decide)) hX3
        obtain ⟨b0, b1, b2, b3, b4, b5, b6, b7, b8⟩ := cred_at_blk hB3x
        simp only [Nat.zero_add, noneR] at b0 b1 b2 b3 b4 b5 b6 b7 b8
        have x1 := cell_blk hX3 1
        simp only [List.getElem?_toArray, List.getElem?_cons_zero, List.getElem?_cons_succ] at x1
        have HG := hid (And.intro hg (And.intro hA3x (And.intro hB3x hc3x)))
        clear hg hA3x hB3x hc3x
        go_wp2_with fail
        clear b0 b1 b2 b3 b4 b5 b6 b7 b8 x1 x0 gx
        obtain ⟨hg, hA3x, hB3x, hc3x⟩ := HG.out
        clear HG
        generalize ((w2.alloc (.cells #[.int .i64 (k : Int), .string ⟨#[]⟩, .string ⟨#[]⟩, .string ⟨#[]⟩, .string ⟨#[]⟩, .string ⟨#[]⟩, .string ⟨#[]⟩, .string ⟨#[]⟩, .string ⟨#[]⟩] 32)).setCell ⟨X, 1, none⟩ (.int .i64 11)) = v1 at *
        refine hg.mono ?_
        rintro en u1 ⟨r1, l1, e1, rfl, hX1, hs1, hb1, hcc⟩
        have hA1 := blk_keep hA3x hcc (show ¬ A = X by omega)
        have hB1 := blk_keep hB3x hcc (show ¬ B = X by omega)
        have hc1 := hc3x.trans hcc (fun _ _ h => h)
        replace hs1 := hid hs1
        replace hb1 := hid hb1
        clear hg hcc hA3x hB3x hc3x hX3
        obtain ⟨p1, q1⟩ := r1
        rw [show roleV (p1, q1) = .agg #[.string ⟨p1.toArray⟩, .string ⟨q1.toArray⟩] from rfl]
        obtain ⟨d0, d1, d2, d3, d4, d5, d6, d7, d8⟩ := cred_at_blk hB1
        simp only [Nat.zero_add, noneR] at d0 d1 d2 d3 d4 d5 d6 d7 d8
        have g1 := froz_blk hB1 1
        have g2 := froz_blk hB1 2
        have hcs : Chg (· = B) u1 ((u1.setCell ⟨B, 1, none⟩ (.string ⟨p1.toArray⟩)).setCell ⟨B, 2, none⟩ (.string ⟨q1.toArray⟩)) := ((setCell_chg u1 B 1 (.string ⟨p1.toArray⟩)).trans (setCell_chg (u1.setCell ⟨B, 1, none⟩ (.string ⟨p1.toArray⟩)) B 2 (.string ⟨q1.toArray⟩)) (fun _ _ h => h))
        have hBa : (((u1.setCell ⟨B, 1, none⟩ (.string ⟨p1.toArray⟩)).setCell ⟨B, 2, none⟩ (.string ⟨q1.toArray⟩))).heap[B]? = some (.cells (credBox ⟨(k : Int), (p1, q1), [], noneR, noneR, []⟩) 32 (0, 0)) := by
          have hset := (set_blk (set_blk hB1 1 (.string ⟨p1.toArray⟩)) 2 (.string ⟨q1.toArray⟩))
          simpa [credBox, noCred, noneR] using hset
        have hAa := blk_keep hA1 hcs (show ¬ A = B by omega)
        have hXa : TapeAt ((u1.setCell ⟨B, 1, none⟩ (.string ⟨p1.toArray⟩)).setCell ⟨B, 2, none⟩ (.string ⟨q1.toArray⟩)) X l1 e1 := blk_keep hX1 hcs (show ¬ X = B by omega)
        have hca : Chg (· = X) w ((u1.setCell ⟨B, 1, none⟩ (.string ⟨p1.toArray⟩)).setCell ⟨B, 2, none⟩ (.string ⟨q1.toArray⟩)) := hc1.trans hcs (fun j hj h => by have : j = B := h; omega)
        clear hcs hA1 hB1 hX1 hc1
        have hne : e1 ≠ 0 := by rw [hs1.out.same hne11]; exact hne11
        have zz1 : (e1 == 0) = false := beq_eq_false_iff_ne.2 hne
        have zz2 : (e1 != 0) = true := by rw [bne_iff_ne]; exact hne
        have HF : Hid (credGot l noCred = noCred ∧ GotTo l l1 e1) := hid (by
          obtain ⟨n, hn1, hn2⟩ := (⟨11, hs1.out.same hne11, hgb.out⟩ : ∃ n : Nat, e1 = n ∧ credGet l = .bad n)
          exact ⟨by rw [credGot, hn2], by rw [GotTo, hn2]; exact ⟨hn1, hne⟩⟩)
        obtain ⟨b0, b1, b2, b3, b4, b5, b6, b7, b8⟩ := cred_at_blk hBa
        simp only [Nat.zero_add, noneR] at b0 b1 b2 b3 b4 b5 b6 b7 b8
        obtain ⟨a0, a1, a2, a3, a4, a5, a6, a7, a8⟩ := cred_at_blk hAa
        simp only [Nat.zero_add, noCred, noneR] at a0 a1 a2 a3 a4 a5 a6 a7 a8
        have f0 := froz_blk hAa 0
        have f1 := froz_blk hAa 1
        have f2 := froz_blk hAa 2
        have f3 := froz_blk hAa 3
        have f4 := froz_blk hAa 4
        have f5 := froz_blk hAa 5
        have f6 := froz_blk hAa 6
        have f7 := froz_blk hAa 7
        have f8 := froz_blk hAa 8
        have x1 := cell_blk hXa 1
        simp only [List.getElem?_toArray, List.getElem?_cons_zero, List.getElem?_cons_succ] at x1
        have hD := setCred_blk noCred hAa
        have hch : Chg (· = X) w (setCred ((u1.setCell ⟨B, 1, none⟩ (.string ⟨p1.toArray⟩)).setCell ⟨B, 2, none⟩ (.string ⟨q1.toArray⟩)) A noCred) := hca.trans (setCred_chg ((u1.setCell ⟨B, 1, none⟩ (.string ⟨p1.toArray⟩)).setCell ⟨B, 2, none⟩ (.string ⟨q1.toArray⟩)) A noCred) (fun i hi h => by have : i = A := h; omega)
        have hT : TapeAt (setCred ((u1.setCell ⟨B, 1, none⟩ (.string ⟨p1.toArray⟩)).setCell ⟨B, 2, none⟩ (.string ⟨q1.toArray⟩)) A noCred) X l1 e1 := by
          have hk := blk_keep hXa (setCred_chg ((u1.setCell ⟨B, 1, none⟩ (.string ⟨p1.toArray⟩)).setCell ⟨B, 2, none⟩ (.string ⟨q1.toArray⟩)) A noCred) (show ¬ X = A by omega)
          exact hk
        have HH := hid (And.intro hD (And.intro hT hch))
        clear hD hT hch hAa hBa hca hXa
        go_wp2
        refine bodyPost_ret (results_one_cred rfl _ _ A noCred rfl HH.out.1) rfl ?_
        exact ⟨by rw [HF.out.1], ⟨_, _, HH.out.2.1, HF.out.2⟩, HH.out.2.2⟩
  · have h0 : numBad l ≠ 0 := by rw [errNum_max] at h1; exact h1
    have hee : errNum l 9223372036854775807 = numBad l := errNum_max
    rw [hee] at hX2
    have hA2 := blk_keep hA hc2 (show ¬ A = X by omega)
    have hcw2 : Chg (· = X) w w2 := (hc0.mono (fun _ _ h => h.elim)).trans hc2 (fun _ _ h => h)
    have hneb : ((numBad l : Nat) : Int) ≠ 0 := by omega
    have hgb : Hid (credGet l = .bad (numBad l)) := hid (by rw [credGet, if_neg h0])
    clear hn hc0 hA hc2 h1 hee h0
    obtain ⟨nb, hnb⟩ : ∃ nb, nb = numBad l := ⟨_, rfl⟩
    rw [← hnb] at hX2 hneb hgb
    clear hnb
    have hc23 : Chg (fun _ => False) w2 (w2.alloc (.cells #[.int .i64 0, .string ⟨#[]⟩, .string ⟨#[]⟩, .string ⟨#[]⟩, .string ⟨#[]⟩, .string ⟨#[]⟩, .string ⟨#[]⟩, .string ⟨#[]⟩, .string ⟨#[]⟩] 32)) := (Chg.refl _ w2).alloc _
    have hB3 : (w2.alloc (.cells #[.int .i64 0, .string ⟨#[]⟩, .string ⟨#[]⟩, .string ⟨#[]⟩, .string ⟨#[]⟩, .string ⟨#[]⟩, .string ⟨#[]⟩, .string ⟨#[]⟩, .string ⟨#[]⟩] 32)).heap[w2.heap.size]? = some (.cells (credBox ⟨0, noneR, [], noneR, noneR, []⟩) 32 (0, 0)) := heap_alloc_new w2 _
    have hA3 := blk_keep hA2 hc23 id
    have hc3 : Chg (· = X) w (w2.alloc (.cells #[.int .i64 0, .string ⟨#[]⟩, .string ⟨#[]⟩, .string ⟨#[]⟩, .string ⟨#[]⟩, .string ⟨#[]⟩, .string ⟨#[]⟩, .string ⟨#[]⟩, .string ⟨#[]⟩] 32)) := hcw2.trans hc23 (fun _ _ h => h.elim)
    have hAlt : A < w2.heap.size := lt_blk hA2
    have hX3 : TapeAt (w2.alloc (.cells #[.int .i64 0, .string ⟨#[]⟩, .string ⟨#[]⟩, .string ⟨#[]⟩, .string ⟨#[]⟩, .string ⟨#[]⟩, .string ⟨#[]⟩, .string ⟨#[]⟩, .string ⟨#[]⟩] 32)) X l2 (nb : Int) := blk_keep hX2 hc23 id
    generalize hBB : w2.heap.size = B at *
    clear hc23 hA2 hcw2 hX2
    have g0 : 0 < 1 := by decide
    have hg := rget_step X l2 (nb : Int) (w2.alloc (.cells #[.int .i64 0, .string ⟨#[]⟩, .string ⟨#[]⟩, .string ⟨#[]⟩, .string ⟨#[]⟩, .string ⟨#[]⟩, .string ⟨#[]⟩, .string ⟨#[]⟩, .string ⟨#[]⟩] 32)) (fun h => absurd h hneb) hX3
    obtain ⟨b0, b1, b2, b3, b4, b5, b6, b7, b8⟩ := cred_at_blk hB3
    simp only [Nat.zero_add, noneR] at b0 b1 b2 b3 b4 b5 b6 b7 b8
    have x1 := cell_blk hX3 1
    simp only [List.getElem?_toArray, List.getElem?_cons_zero, List.getElem?_cons_succ] at x1
    have HG := hid (And.intro hg (And.intro hA3 (And.intro hB3 hc3)))
    clear hg hA3 hB3 hc3
    go_wp2_with fail
    clear b0 b1 b2 b3 b4 b5 b6 b7 b8 x1 g0
    obtain ⟨hg, hA3, hB3, hc3⟩ := HG.out
    clear HG
    generalize (w2.alloc (.cells #[.int .i64 0, .string ⟨#[]⟩, .string ⟨#[]⟩, .string ⟨#[]⟩, .string ⟨#[]⟩, .string ⟨#[]⟩, .string ⟨#[]⟩, .string ⟨#[]⟩, .string ⟨#[]⟩] 32)) = v1 at *
    refine hg.mono ?_
    rintro en u1 ⟨r1, l1, e1, rfl, hX1, hs1, hb1, hcc⟩
    have hA1 := blk_keep hA3 hcc (show ¬ A = X by omega)
    have hB1 := blk_keep hB3 hcc (show ¬ B = X by omega)
    have hc1 := hc3.trans hcc (fun _ _ h => h)
    replace hs1 := hid hs1
    replace hb1 := hid hb1
    clear hg hcc hA3 hB3 hc3 hX3
    obtain ⟨p1, q1⟩ := r1
    rw [show roleV (p1, q1) = .agg #[.string ⟨p1.toArray⟩, .string ⟨q1.toArray⟩] from rfl]
    obtain ⟨d0, d1, d2, d3, d4, d5, d6, d7, d8⟩ := cred_at_blk hB1
    simp only [Nat.zero_add, noneR] at d0 d1 d2 d3 d4 d5 d6 d7 d8
    have g1 := froz_blk hB1 1
    have g2 := froz_blk hB1 2
    have hcs : Chg (· = B) u1 ((u1.setCell ⟨B, 1, none⟩ (.string ⟨p1.toArray⟩)).setCell ⟨B, 2, none⟩ (.string ⟨q1.toArray⟩)) := ((setCell_chg u1 B 1 (.string ⟨p1.toArray⟩)).trans (setCell_chg (u1.setCell ⟨B, 1, none⟩ (.string ⟨p1.toArray⟩)) B 2 (.string ⟨q1.toArray⟩)) (fun _ _ h => h))
    have hBa : (((u1.setCell ⟨B, 1, none⟩ (.string ⟨p1.toArray⟩)).setCell ⟨B, 2, none⟩ (.string ⟨q1.toArray⟩))).heap[B]? = some (.cells (credBox ⟨0, (p1, q1), [], noneR, noneR, []⟩) 32 (0, 0)) := by
      have hset := (set_blk (set_blk hB1 1 (.string ⟨p1.toArray⟩)) 2 (.string ⟨q1.toArray⟩))
      simpa [credBox, noCred, noneR] using hset
    have hAa := blk_keep hA1 hcs (show ¬ A = B by omega)
    have hXa : TapeAt ((u1.setCell ⟨B, 1, none⟩ (.string ⟨p1.toArray⟩)).setCell ⟨B, 2, none⟩ (.string ⟨q1.toArray⟩)) X l1 e1 := blk_keep hX1 hcs (show ¬ X = B by omega)
    have hca : Chg (· = X) w ((u1.setCell ⟨B, 1, none⟩ (.string ⟨p1.toArray⟩)).setCell ⟨B, 2, none⟩ (.string ⟨q1.toArray⟩)) := hc1.trans hcs (fun j hj h => by have : j = B := h; omega)
    clear hcs hA1 hB1 hX1 hc1
    have hne : e1 ≠ 0 := by rw [hs1.out.same hneb]; exact hneb
    have zz1 : (e1 == 0) = false := beq_eq_false_iff_ne.2 hne
    have zz2 : (e1 != 0) = true := by rw [bne_iff_ne]; exact hne
    have HF : Hid (credGot l noCred = noCred ∧ GotTo l l1 e1) := hid (by
      obtain ⟨n, hn1, hn2⟩ := (⟨nb, hs1.out.same hneb, hgb.out⟩ : ∃ n : Nat, e1 = n ∧ credGet l = .bad n)
      exact ⟨by rw [credGot, hn2], by rw [GotTo, hn2]; exact ⟨hn1, hne⟩⟩)
    obtain ⟨b0, b1, b2, b3, b4, b5, b6, b7, b8⟩ := cred_at_blk hBa
    simp only [Nat.zero_add, noneR] at b0 b1 b2 b3 b4 b5 b6 b7 b8
    obtain ⟨a0, a1, a2, a3, a4, a5, a6, a7, a8⟩ := cred_at_blk hAa
    simp only [Nat.zero_add, noCred, noneR] at a0 a1 a2 a3 a4 a5 a6 a7 a8
    have f0 := froz_blk hAa 0
    have f1 := froz_blk hAa 1
    have f2 := froz_blk hAa 2
    have f3 := froz_blk hAa 3
    have f4 := froz_blk hAa 4
    have f5 := froz_blk hAa 5
    have f6 := froz_blk hAa 6
    have f7 := froz_blk hAa 7
    have f8 := froz_blk hAa 8
    have x1 := cell_blk hXa 1
    simp only [List.getElem?_toArray, List.getElem?_cons_zero, List.getElem?_cons_succ] at x1
    have hD := setCred_blk noCred hAa
    have hch : Chg (· = X) w (setCred ((u1.setCell ⟨B, 1, none⟩ (.string ⟨p1.toArray⟩)).setCell ⟨B, 2, none⟩ (.string ⟨q1.toArray⟩)) A noCred) := hca.trans (setCred_chg ((u1.setCell ⟨B, 1, none⟩ (.string ⟨p1.toArray⟩)).setCell ⟨B, 2, none⟩ (.string ⟨q1.toArray⟩)) A noCred) (fun i hi h => by have : i = A := h; omega)
    have hT : TapeAt (setCred ((u1.setCell ⟨B, 1, none⟩ (.string ⟨p1.toArray⟩)).setCell ⟨B, 2, none⟩ (.string ⟨q1.toArray⟩)) A noCred) X l1 e1 := by
      have hk := blk_keep hXa (setCred_chg ((u1.setCell ⟨B, 1, none⟩ (.string ⟨p1.toArray⟩)).setCell ⟨B, 2, none⟩ (.string ⟨q1.toArray⟩)) A noCred) (show ¬ X = A by omega)
      exact hk
    have HH := hid (And.intro hD (And.intro hT hch))
    clear hD hT hch hAa hBa hca hXa
    go_wp2
    refine bodyPost_ret (results_one_cred rfl _ _ A noCred rfl HH.out.1) rfl ?_
    exact ⟨by rw [HF.out.1], ⟨_, _, HH.out.2.1, HF.out.2⟩, HH.out.2.2⟩

end Go.Proofs.Ytmmkopdcbiiedaa
