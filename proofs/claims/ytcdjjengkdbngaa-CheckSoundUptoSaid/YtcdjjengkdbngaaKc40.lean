/- The program's cred.Get: which credential it hands back, and how it stops. -/
import Derived.Test.YtcdjjengkdbngaaKc29
import Derived.Test.YtcdjjengkdbngaaKc7
import Derived.Test.YtcdjjengkdbngaaKc39
import Derived.Test.YtcdjjengkdbngaaKc8
namespace Go.Proofs.Ytcdjjengkdbngaa
open Go.RowKit

theorem results_get_cred {fn : Func} {p : Tmp} (h : fn.results = #[.cell p 32]) (tmps : Array Value) (w : World) (g : Nat) (c : CredB) (hp : tmps.getD p undef = .pointer (some ⟨g, 0, none⟩))
    (hg : w.heap[g]? = some (.cells (credBox c) 32 (0, 0))) : (results fn tmps).run Try.prog w = .ok (credV c) w :=
  results_cell_row (P := Try.prog) h tmps w g 32 (credBox c) (0, 0) _ hp hg Try.underlying32 rfl (by kernel_rfl)

def GetOkC (D : Nat → Prop) (R : Nat) (c : CredB) (rest : List UInt8) (w : World) (e : Ending) (w' : World) : Prop :=
  e = .returned (credV c) ∧ ∃ v', BytesAt D w' v' rest ∧ ReaderAt w' R true v' 0 ∧ Chg (· = R) w w'
def GotPostC (D : Nat → Prop) (R : Nat) (l : List UInt8) (w : World) (e : Ending) (w' : World) : Prop :=
  (∃ b, credGet l = .bad b ∧ Stops R b w e w') ∨ (∃ c rest, credGet l = .ok c rest ∧ GetOkC D R c rest w e w')

/-- Amid Get: the reader, what is left, the answer's cells (A), the credential so far (B). -/
structure GSt (D : Nat → Prop) (R A B : Nat) (w v : World) (vb : Value) (l : List UInt8) (c : CredB) : Prop where
  rd : ReaderAt v R true vb 0
  bt : BytesAt D v vb l
  ba : v.heap[A]? = some (.cells (credBox noCred) 32 (0, 0))
  bb : v.heap[B]? = some (.cells (credBox c) 32 (0, 0))
  ch : Chg (· = R) w v
  rw_ : R < w.heap.size
  wa : w.heap.size ≤ A
  ab : A < B
  dr : ¬ D R
  dl : ∀ i, D i → i < w.heap.size
  ln : l.length ≤ 140737488355328

theorem GSt.keep {D : Nat → Prop} {R A B : Nat} {w v v' : World} {vb : Value} {l : List UInt8} {c : CredB} (h : GSt D R A B w v vb l c) (hc : Chg (fun _ => False) v v') : GSt D R A B w v' vb l c :=
  ⟨blk_keep h.rd hc id, h.bt.keep hc (fun _ _ => id), blk_keep h.ba hc id, blk_keep h.bb hc id, h.ch.trans hc (fun _ _ h => h.elim), h.rw_, h.wa, h.ab, h.dr, h.dl, h.ln⟩

theorem GSt.read {D : Nat → Prop} {R A B : Nat} {w v v' : World} {vb vb' : Value} {l l' : List UInt8} {c : CredB} (h : GSt D R A B w v vb l c) (hc : Chg (· = R) v v') (hr : ReaderAt v' R true vb' 0) (hb : BytesAt D v' vb' l') (hl : l'.length ≤ l.length) : GSt D R A B w v' vb' l' c :=
  ⟨hr, hb, blk_keep h.ba hc (fun e => by have := h.rw_; have := h.wa; have : A = R := e; omega), blk_keep h.bb hc (fun e => by have := h.rw_; have := h.wa; have := h.ab; have : B = R := e; omega), h.ch.trans hc (fun _ _ h => h), h.rw_, h.wa, h.ab, h.dr, h.dl, Nat.le_trans hl h.ln⟩

theorem GSt.put {D : Nat → Prop} {R A B : Nat} {w v v' : World} {vb : Value} {l : List UInt8} {c c' : CredB} (h : GSt D R A B w v vb l c) (hc : Chg (· = B) v v') (hb : v'.heap[B]? = some (.cells (credBox c') 32 (0, 0))) : GSt D R A B w v' vb l c' :=
  have hRB : ¬ R = B := by have := h.rw_; have := h.wa; have := h.ab; omega
  ⟨blk_keep h.rd hc hRB, h.bt.keep hc (fun i hi e => by have := h.dl i hi; have := h.wa; have := h.ab; have : i = B := e; omega), blk_keep h.ba hc (fun e => by have := h.ab; have : A = B := e; omega), hb, h.ch.trans hc (fun i hi e => by have := h.wa; have := h.ab; have : i = B := e; omega), h.rw_, h.wa, h.ab, h.dr, h.dl, h.ln⟩

theorem role_ok_len {l : List UInt8} (h : roleOk l = true) : (roleOf l).1.length ≤ 16 ∧ (roleOf l).2.length ≤ 16 := by
  have h2 : nameOk l = true ∧ nameOk (nameRest l) = true := by simpa [roleOk] using h
  have a : errText l 16 = 0 ∧ isName (nameOf l) = true := by simpa [nameOk] using h2.1
  have b : errText (nameRest l) 16 = 0 ∧ isName (nameOf (nameRest l)) = true := by simpa [nameOk] using h2.2
  exact ⟨(isName_len a.2).2, (isName_len b.2).2⟩

theorem GSt.role {D : Nat → Prop} {R A B : Nat} {w v : World} {vb : Value} {l : List UInt8} {c : CredB} (h : GSt D R A B w v vb l c) :
    Calls Try.prog 92 #[.pointer (some ⟨R, 0, none⟩)] v fun e v' =>
      (∃ p q vb', Hid (roleOk l = true ∧ roleOf l = (p, q) ∧ p.length ≤ 16 ∧ q.length ≤ 16) ∧ e = .returned (.agg #[.string ⟨p.toArray⟩, .string ⟨q.toArray⟩]) ∧ GSt D R A B w v' vb' (roleRest l) c) ∨
      (Hid (roleOk l = false) ∧ Stops R (roleBad l) w e v') := by
  cases hok : roleOk l with
  | true =>
    refine (pget_reads h.ln h.bt h.dr (fun i hi => Nat.lt_of_lt_of_le (h.dl i hi) h.ch.size) h.rd hok).mono ?_
    rintro e v' ⟨rfl, vb', hb, hr, hc⟩
    have hl := role_ok_len hok
    refine .inl ⟨(roleOf l).1, (roleOf l).2, vb', hid ⟨rfl, rfl, hl.1, hl.2⟩, rfl, h.read hc hr hb ?_⟩
    exact Nat.le_trans (nameRest_len _) (nameRest_len _)
  | false =>
    refine (pget_stops h.ln h.bt h.dr h.rd hok).mono ?_
    rintro e v' ⟨rfl, ao, m, cp, hr, hc⟩
    exact .inr ⟨hid rfl, rfl, ao, m, cp, hr, h.ch.trans hc (fun _ _ h => h)⟩

theorem GSt.name {D : Nat → Prop} {R A B : Nat} {w v : World} {vb : Value} {l : List UInt8} {c : CredB} (h : GSt D R A B w v vb l c) :
    Calls Try.prog 61 #[.pointer (some ⟨R, 0, none⟩)] v fun e v' =>
      (∃ p vb', Hid (nameOk l = true ∧ nameOf l = p ∧ p.length ≤ 16) ∧ e = .returned (.string ⟨p.toArray⟩) ∧ GSt D R A B w v' vb' (nameRest l) c) ∨
      (Hid (nameOk l = false) ∧ Stops R (nameBad l) w e v') := by
  cases hok : nameOk l with
  | true =>
    refine (get_reads h.ln h.bt h.dr h.rd hok).mono ?_
    rintro e v' ⟨rfl, vb', hb, hr, hc⟩
    have hl : errText l 16 = 0 ∧ isName (nameOf l) = true := by simpa [nameOk] using hok
    exact .inl ⟨_, vb', hid ⟨rfl, rfl, (isName_len hl.2).2⟩, rfl, h.read hc hr hb (nameRest_len _)⟩
  | false =>
    refine (get_stops h.ln h.bt h.dr h.rd hok).mono ?_
    rintro e v' ⟨rfl, ao, m, cp, hr, hc⟩
    exact .inr ⟨hid rfl, rfl, ao, m, cp, hr, h.ch.trans hc (fun _ _ h => h)⟩

theorem errNum_most (l : List UInt8) : errNum l 9223372036854775807 = numBad l := by
  unfold errNum numBad
  by_cases h : (numN 9 l 0 0).2.2 = 0
  · obtain ⟨k1, k2, k3⟩ := numN_ok h
    rw [if_pos h, if_neg (by omega), h]
  · rw [if_neg h]

theorem pnum_c {D : Nat → Prop} {R : Nat} {v : Value} {l : List UInt8} {w : World} (hl : l.length ≤ 140737488355328) (hv : BytesAt D w v l) (hDR : ¬ D R) (hR : ReaderAt w R true v 0) (hb : numBad l = 0) {k : Int} (hk : ((numOf l : Nat) : Int) = k) :
    Calls Try.prog 59 #[.pointer (some ⟨R, 0, none⟩), .int .i64 9223372036854775807] w fun e w' => e = .returned (.int .i64 k) ∧ ∃ v', BytesAt D w' v' (numRest l) ∧ ReaderAt w' R true v' 0 ∧ Chg (· = R) w w' := by
  subst hk
  exact rnum_reads (by omega) hv hDR hR (by rw [errNum_most]; exact hb)

set_option maxRecDepth 100000 in
set_option maxHeartbeats 4000000 in
theorem pcget1 {D : Nat → Prop} {R : Nat} {v : Value} {l : List UInt8} {w : World} (hl : l.length ≤ 140737488355328) (hv : BytesAt D w v l) (hDR : ¬ D R) (hDl : ∀ i, D i → i < w.heap.size) (hR : ReaderAt w R true v 0) (hb : numBad l = 0) (hk : ((numOf l : Nat) : Int) = 1) :
    Calls Try.prog 60 #[.pointer (some ⟨R, 0, none⟩)] w (GotPostC D R l w) := by
  have HD := hid hDl
  have hRw : R < w.heap.size := lt_blk hR
  have hcA : Chg (fun _ => False) w (w.alloc (.cells #[.int .i64 0, .string ⟨#[]⟩, .string ⟨#[]⟩, .string ⟨#[]⟩, .string ⟨#[]⟩, .string ⟨#[]⟩, .string ⟨#[]⟩, .string ⟨#[]⟩, .string ⟨#[]⟩] 32)) := (Chg.refl _ w).alloc _
  have hA : (w.alloc (.cells #[.int .i64 0, .string ⟨#[]⟩, .string ⟨#[]⟩, .string ⟨#[]⟩, .string ⟨#[]⟩, .string ⟨#[]⟩, .string ⟨#[]⟩, .string ⟨#[]⟩, .string ⟨#[]⟩] 32)).heap[w.heap.size]? = some (.cells (credBox noCred) 32 (0, 0)) := heap_alloc_new w (.cells #[.int .i64 0, .string ⟨#[]⟩, .string ⟨#[]⟩, .string ⟨#[]⟩, .string ⟨#[]⟩, .string ⟨#[]⟩, .string ⟨#[]⟩, .string ⟨#[]⟩, .string ⟨#[]⟩] 32)
  have hR1 : ReaderAt (w.alloc (.cells #[.int .i64 0, .string ⟨#[]⟩, .string ⟨#[]⟩, .string ⟨#[]⟩, .string ⟨#[]⟩, .string ⟨#[]⟩, .string ⟨#[]⟩, .string ⟨#[]⟩, .string ⟨#[]⟩] 32)) R true v 0 := blk_keep hR hcA id
  have hv1 := hv.keep hcA (fun _ _ => id)
  have hnum := pnum_c hl hv1 hDR hR1 hb (k := 1) hk
  have hc1 : Chg (· = R) w (w.alloc (.cells #[.int .i64 0, .string ⟨#[]⟩, .string ⟨#[]⟩, .string ⟨#[]⟩, .string ⟨#[]⟩, .string ⟨#[]⟩, .string ⟨#[]⟩, .string ⟨#[]⟩, .string ⟨#[]⟩] 32)) := hcA.mono (fun _ _ h => h.elim)
  have hln : (numRest l).length ≤ 140737488355328 := by unfold numRest; rw [List.length_drop]; omega
  have HG := hid (And.intro hnum (And.intro hA (And.intro hc1 (And.intro hRw (And.intro hDR hln)))))
  clear hcA hA hR1 hv1 hnum hc1 hR hv hDl hRw hDR hln hl
  go_enter Try.func60, Try.ntmps60
  go_wp2_with fail
  obtain ⟨hnum, hA, hc1, hRw, hDR, hln⟩ := HG.out
  clear HG
  generalize w.alloc (.cells #[.int .i64 0, .string ⟨#[]⟩, .string ⟨#[]⟩, .string ⟨#[]⟩, .string ⟨#[]⟩, .string ⟨#[]⟩, .string ⟨#[]⟩, .string ⟨#[]⟩, .string ⟨#[]⟩] 32) = w1 at *
  refine hnum.mono ?_
  rintro e u1 ⟨rfl, vb, hv1, hR1, hch⟩
  have hA1 := blk_keep hA hch (show ¬ w.heap.size = R by omega)
  have hcu := hc1.trans hch (fun _ _ h => h)
  have hAu := lt_blk hA1
  clear hnum hA hc1 hch
  have hcB : Chg (fun _ => False) u1 (u1.alloc (.cells #[.int .i64 1, .string ⟨#[]⟩, .string ⟨#[]⟩, .string ⟨#[]⟩, .string ⟨#[]⟩, .string ⟨#[]⟩, .string ⟨#[]⟩, .string ⟨#[]⟩, .string ⟨#[]⟩] 32)) := (Chg.refl _ u1).alloc _
  have hB : (u1.alloc (.cells #[.int .i64 1, .string ⟨#[]⟩, .string ⟨#[]⟩, .string ⟨#[]⟩, .string ⟨#[]⟩, .string ⟨#[]⟩, .string ⟨#[]⟩, .string ⟨#[]⟩, .string ⟨#[]⟩] 32)).heap[u1.heap.size]? = some (.cells (credBox ⟨1, noneR, [], noneR, noneR, []⟩) 32 (0, 0)) := heap_alloc_new u1 (.cells #[.int .i64 1, .string ⟨#[]⟩, .string ⟨#[]⟩, .string ⟨#[]⟩, .string ⟨#[]⟩, .string ⟨#[]⟩, .string ⟨#[]⟩, .string ⟨#[]⟩, .string ⟨#[]⟩] 32)
  have HS : GSt D R w.heap.size u1.heap.size w (u1.alloc (.cells #[.int .i64 1, .string ⟨#[]⟩, .string ⟨#[]⟩, .string ⟨#[]⟩, .string ⟨#[]⟩, .string ⟨#[]⟩, .string ⟨#[]⟩, .string ⟨#[]⟩, .string ⟨#[]⟩] 32)) vb (numRest l) ⟨1, noneR, [], noneR, noneR, []⟩ :=
    ⟨blk_keep hR1 hcB id, hv1.keep hcB (fun _ _ => id), blk_keep hA1 hcB id, hB, hcu.trans hcB (fun _ _ h => h.elim), hRw, Nat.le_refl _, hAu, hDR, HD.out, hln⟩
  clear hcB hB hA1 hR1 hv1 hcu hAu hRw hDR hln HD
  have HE : Hid (credGet l = getHead 1 (numRest l)) := hid (by rw [credGet, if_pos hb, if_pos (by omega)]; rw [hk])
  clear hb hk
  obtain ⟨b0, b1, b2, b3, b4, b5, b6, b7, b8⟩ := cred_at_blk HS.bb
  simp only [Nat.zero_add, noneR] at b0 b1 b2 b3 b4 b5 b6 b7 b8
  generalize hA : w.heap.size = A at *
  have HA := hid hA
  clear hA
  go_wp2_with fail
  clear b0 b1 b2 b3 b4 b5 b6 b7 b8
  generalize u1.alloc (.cells #[.int .i64 1, .string ⟨#[]⟩, .string ⟨#[]⟩, .string ⟨#[]⟩, .string ⟨#[]⟩, .string ⟨#[]⟩, .string ⟨#[]⟩, .string ⟨#[]⟩, .string ⟨#[]⟩] 32) = v0 at *
  generalize u1.heap.size = B at *
  clear u1
  refine HS.role.mono ?_
  rintro e v1 (⟨p0, q0, vb0, HO0, rfl, HS1⟩ | ⟨HN, rfl, ao9, m9, cp9, hr9, hc9⟩)
  rotate_left
  · refine ⟨rfl, .inl ⟨_, ?_, rfl, ao9, m9, cp9, hr9, hc9⟩⟩
    rw [HE.out, getHead, if_neg (by rw [HN.out]; decide)]
  clear HS
  have HE1 : Hid (credGet l = getWho ⟨1, (p0, q0), [], noneR, noneR, []⟩ (roleRest (numRest l))) := hid (by
    rw [HE.out, getHead, if_pos HO0.out.1, HO0.out.2.1]
    exact if_pos rfl)
  clear HE
  have HE := HE1
  clear HE1
  obtain ⟨b0, b1, b2, b3, b4, b5, b6, b7, b8⟩ := cred_at_blk HS1.bb
  simp only [Nat.zero_add, noneR] at b0 b1 b2 b3 b4 b5 b6 b7 b8
  have g1 := froz_blk HS1.bb 1
  have g2 := froz_blk HS1.bb 2
  have HS : GSt D R A B w ((v1.setCell ⟨B, 1, none⟩ (.string ⟨p0.toArray⟩)).setCell ⟨B, 2, none⟩ (.string ⟨q0.toArray⟩)) vb0 (roleRest (numRest l)) ⟨1, (p0, q0), [], noneR, noneR, []⟩ := HS1.put ((setCell_chg v1 B 1 (.string ⟨p0.toArray⟩)).trans (setCell_chg _ B 2 (.string ⟨q0.toArray⟩)) (fun _ _ h => h)) (by have hset := (set_blk (set_blk HS1.bb 1 (.string ⟨p0.toArray⟩)) 2 (.string ⟨q0.toArray⟩)); simpa [credBox, noCred, noneR] using hset)
  clear HS1
  go_wp2_with fail
  clear b0 b1 b2 b3 b4 b5 b6 b7 b8 g1 g2
  generalize ((v1.setCell ⟨B, 1, none⟩ (.string ⟨p0.toArray⟩)).setCell ⟨B, 2, none⟩ (.string ⟨q0.toArray⟩)) = x0 at *
  clear v1
  refine HS.name.mono ?_
  rintro e v2 (⟨p1, vb1, HO1, rfl, HS1⟩ | ⟨HN, rfl, ao9, m9, cp9, hr9, hc9⟩)
  rotate_left
  · refine ⟨rfl, .inl ⟨_, ?_, rfl, ao9, m9, cp9, hr9, hc9⟩⟩
    rw [HE.out, getWho, if_neg (by rw [HN.out]; decide)]
  clear HS
  have HE1 : Hid (credGet l = getEnd ⟨1, (p0, q0), p1, noneR, noneR, []⟩ (nameRest (roleRest (numRest l)))) := hid (by
    rw [HE.out, getWho, if_pos HO1.out.1, HO1.out.2.1])
  clear HE
  have HE := HE1
  clear HE1
  obtain ⟨b0, b1, b2, b3, b4, b5, b6, b7, b8⟩ := cred_at_blk HS1.bb
  simp only [Nat.zero_add, noneR] at b0 b1 b2 b3 b4 b5 b6 b7 b8
  have g3 := froz_blk HS1.bb 3
  have HS : GSt D R A B w (v2.setCell ⟨B, 3, none⟩ (.string ⟨p1.toArray⟩)) vb1 (nameRest (roleRest (numRest l))) ⟨1, (p0, q0), p1, noneR, noneR, []⟩ := HS1.put (setCell_chg v2 B 3 (.string ⟨p1.toArray⟩)) (by have hset := (set_blk HS1.bb 3 (.string ⟨p1.toArray⟩)); simpa [credBox, noCred, noneR] using hset)
  clear HS1
  obtain ⟨d0, d1, d2, d3, d4, d5, d6, d7, d8⟩ := cred_at_blk HS.bb
  simp only [Nat.zero_add, noneR] at d0 d1 d2 d3 d4 d5 d6 d7 d8
  go_wp2_with fail
  clear b0 b1 b2 b3 b4 b5 b6 b7 b8 d0 d1 d2 d3 d4 d5 d6 d7 d8 g3
  generalize (v2.setCell ⟨B, 3, none⟩ (.string ⟨p1.toArray⟩)) = x1 at *
  clear v2
  have y0a := HO0.out.2.2.1
  have y0b := HO0.out.2.2.2
  have y1 := HO1.out.2.2
  have hsh : credShort ⟨1, (p0, q0), p1, noneR, noneR, []⟩ 9223372036854775807 := ⟨by show p0.length ≤ _; omega, by show q0.length ≤ _; omega, by show p1.length ≤ _; omega, by simp [noneR], by simp [noneR], by simp [noneR], by simp [noneR], by simp⟩
  refine (pcright ⟨1, (p0, q0), p1, noneR, noneR, []⟩ _ hsh).mono ?_
  rintro e v9 ⟨rfl, hc9⟩
  have HT := HS.keep hc9
  clear HS hc9 hsh
  cases hr : isCred ⟨1, (p0, q0), p1, noneR, noneR, []⟩ with
  | true =>
    have HF : Hid (credGet l = .ok ⟨1, (p0, q0), p1, noneR, noneR, []⟩ (nameRest (roleRest (numRest l)))) := hid (by rw [HE.out, getEnd]; exact if_pos hr)
    have hD := setCred_blk ⟨1, (p0, q0), p1, noneR, noneR, []⟩ HT.ba
    have hck := setCred_chg v9 A ⟨1, (p0, q0), p1, noneR, noneR, []⟩
    have hRA : ¬ R = A := by have := HT.rw_; have := HT.wa; omega
    have hrd := blk_keep HT.rd hck hRA
    have hbt := HT.bt.keep hck (fun i hi e => by have := HT.dl i hi; have := HT.wa; have : i = A := e; omega)
    have hcw : Chg (· = R) w (setCred v9 A ⟨1, (p0, q0), p1, noneR, noneR, []⟩) := HT.ch.trans hck (fun i hi e => by have := HT.wa; have : i = A := e; omega)
    have HX := hid (And.intro hD (And.intro hrd (And.intro hbt hcw)))
    clear hD hck hRA hrd hbt hcw hr
    obtain ⟨b0, b1, b2, b3, b4, b5, b6, b7, b8⟩ := cred_at_blk HT.bb
    simp only [Nat.zero_add, noneR] at b0 b1 b2 b3 b4 b5 b6 b7 b8
    obtain ⟨a0, a1, a2, a3, a4, a5, a6, a7, a8⟩ := cred_at_blk HT.ba
    simp only [Nat.zero_add, noCred, noneR] at a0 a1 a2 a3 a4 a5 a6 a7 a8
    have f0 := froz_blk HT.ba 0
    have f1 := froz_blk HT.ba 1
    have f2 := froz_blk HT.ba 2
    have f3 := froz_blk HT.ba 3
    have f4 := froz_blk HT.ba 4
    have f5 := froz_blk HT.ba 5
    have f6 := froz_blk HT.ba 6
    have f7 := froz_blk HT.ba 7
    have f8 := froz_blk HT.ba 8
    clear HT
    go_wp2
    refine bodyPost_ret (results_get_cred rfl _ _ A ⟨1, (p0, q0), p1, noneR, noneR, []⟩ rfl HX.out.1) rfl ?_
    exact .inr ⟨_, _, HF.out, rfl, _, HX.out.2.2.1, HX.out.2.1, HX.out.2.2.2⟩
  | false =>
    have HF : Hid (credGet l = .bad 11) := hid (by rw [HE.out, getEnd]; exact if_neg (by rw [hr]; decide))
    clear hr
    obtain ⟨ao8, cp8, e8⟩ := HT.bt.shape
    subst e8
    have r0 := cell_blk HT.rd 0
    have r2 := cell_blk HT.rd 2
    have f2 := froz_blk HT.rd 2
    simp only [List.getElem?_toArray, List.getElem?_cons_zero, List.getElem?_cons_succ] at r0 r2
    go_wp2_with fail
    refine (fail_stops R 11 (.bool true) _ rfl r0 r2 f2).mono ?_
    rintro e w9 ⟨rfl, rfl⟩
    exact ⟨rfl, .inl ⟨_, HF.out, rfl, _, _, _, set_blk HT.rd 2 (.int .i64 11), HT.ch.trans (setCell_chg v9 R 2 _) (fun _ _ h => h)⟩⟩

set_option maxRecDepth 100000 in
set_option maxHeartbeats 4000000 in
theorem pcget2 {D : Nat → Prop} {R : Nat} {v : Value} {l : List UInt8} {w : World} (hl : l.length ≤ 140737488355328) (hv : BytesAt D w v l) (hDR : ¬ D R) (hDl : ∀ i, D i → i < w.heap.size) (hR : ReaderAt w R true v 0) (hb : numBad l = 0) (hk : ((numOf l : Nat) : Int) = 2) :
    Calls Try.prog 60 #[.pointer (some ⟨R, 0, none⟩)] w (GotPostC D R l w) := by
  have HD := hid hDl
  have hRw : R < w.heap.size := lt_blk hR
  have hcA : Chg (fun _ => False) w (w.alloc (.cells #[.int .i64 0, .string ⟨#[]⟩, .string ⟨#[]⟩, .string ⟨#[]⟩, .string ⟨#[]⟩, .string ⟨#[]⟩, .string ⟨#[]⟩, .string ⟨#[]⟩, .string ⟨#[]⟩] 32)) := (Chg.refl _ w).alloc _
  have hA : (w.alloc (.cells #[.int .i64 0, .string ⟨#[]⟩, .string ⟨#[]⟩, .string ⟨#[]⟩, .string ⟨#[]⟩, .string ⟨#[]⟩, .string ⟨#[]⟩, .string ⟨#[]⟩, .string ⟨#[]⟩] 32)).heap[w.heap.size]? = some (.cells (credBox noCred) 32 (0, 0)) := heap_alloc_new w (.cells #[.int .i64 0, .string ⟨#[]⟩, .string ⟨#[]⟩, .string ⟨#[]⟩, .string ⟨#[]⟩, .string ⟨#[]⟩, .string ⟨#[]⟩, .string ⟨#[]⟩, .string ⟨#[]⟩] 32)
  have hR1 : ReaderAt (w.alloc (.cells #[.int .i64 0, .string ⟨#[]⟩, .string ⟨#[]⟩, .string ⟨#[]⟩, .string ⟨#[]⟩, .string ⟨#[]⟩, .string ⟨#[]⟩, .string ⟨#[]⟩, .string ⟨#[]⟩] 32)) R true v 0 := blk_keep hR hcA id
  have hv1 := hv.keep hcA (fun _ _ => id)
  have hnum := pnum_c hl hv1 hDR hR1 hb (k := 2) hk
  have hc1 : Chg (· = R) w (w.alloc (.cells #[.int .i64 0, .string ⟨#[]⟩, .string ⟨#[]⟩, .string ⟨#[]⟩, .string ⟨#[]⟩, .string ⟨#[]⟩, .string ⟨#[]⟩, .string ⟨#[]⟩, .string ⟨#[]⟩] 32)) := hcA.mono (fun _ _ h => h.elim)
  have hln : (numRest l).length ≤ 140737488355328 := by unfold numRest; rw [List.length_drop]; omega
  have HG := hid (And.intro hnum (And.intro hA (And.intro hc1 (And.intro hRw (And.intro hDR hln)))))
  clear hcA hA hR1 hv1 hnum hc1 hR hv hDl hRw hDR hln hl
  go_enter Try.func60, Try.ntmps60
  go_wp2_with fail
  obtain ⟨hnum, hA, hc1, hRw, hDR, hln⟩ := HG.out
  clear HG
  generalize w.alloc (.cells #[.int .i64 0, .string ⟨#[]⟩, .string ⟨#[]⟩, .string ⟨#[]⟩, .string ⟨#[]⟩, .string ⟨#[]⟩, .string ⟨#[]⟩, .string ⟨#[]⟩, .string ⟨#[]⟩] 32) = w1 at *
  refine hnum.mono ?_
  rintro e u1 ⟨rfl, vb, hv1, hR1, hch⟩
  have hA1 := blk_keep hA hch (show ¬ w.heap.size = R by omega)
  have hcu := hc1.trans hch (fun _ _ h => h)
  have hAu := lt_blk hA1
  clear hnum hA hc1 hch
  have hcB : Chg (fun _ => False) u1 (u1.alloc (.cells #[.int .i64 2, .string ⟨#[]⟩, .string ⟨#[]⟩, .string ⟨#[]⟩, .string ⟨#[]⟩, .string ⟨#[]⟩, .string ⟨#[]⟩, .string ⟨#[]⟩, .string ⟨#[]⟩] 32)) := (Chg.refl _ u1).alloc _
  have hB : (u1.alloc (.cells #[.int .i64 2, .string ⟨#[]⟩, .string ⟨#[]⟩, .string ⟨#[]⟩, .string ⟨#[]⟩, .string ⟨#[]⟩, .string ⟨#[]⟩, .string ⟨#[]⟩, .string ⟨#[]⟩] 32)).heap[u1.heap.size]? = some (.cells (credBox ⟨2, noneR, [], noneR, noneR, []⟩) 32 (0, 0)) := heap_alloc_new u1 (.cells #[.int .i64 2, .string ⟨#[]⟩, .string ⟨#[]⟩, .string ⟨#[]⟩, .string ⟨#[]⟩, .string ⟨#[]⟩, .string ⟨#[]⟩, .string ⟨#[]⟩, .string ⟨#[]⟩] 32)
  have HS : GSt D R w.heap.size u1.heap.size w (u1.alloc (.cells #[.int .i64 2, .string ⟨#[]⟩, .string ⟨#[]⟩, .string ⟨#[]⟩, .string ⟨#[]⟩, .string ⟨#[]⟩, .string ⟨#[]⟩, .string ⟨#[]⟩, .string ⟨#[]⟩] 32)) vb (numRest l) ⟨2, noneR, [], noneR, noneR, []⟩ :=
    ⟨blk_keep hR1 hcB id, hv1.keep hcB (fun _ _ => id), blk_keep hA1 hcB id, hB, hcu.trans hcB (fun _ _ h => h.elim), hRw, Nat.le_refl _, hAu, hDR, HD.out, hln⟩
  clear hcB hB hA1 hR1 hv1 hcu hAu hRw hDR hln HD
  have HE : Hid (credGet l = getHead 2 (numRest l)) := hid (by rw [credGet, if_pos hb, if_pos (by omega)]; rw [hk])
  clear hb hk
  obtain ⟨b0, b1, b2, b3, b4, b5, b6, b7, b8⟩ := cred_at_blk HS.bb
  simp only [Nat.zero_add, noneR] at b0 b1 b2 b3 b4 b5 b6 b7 b8
  generalize hA : w.heap.size = A at *
  have HA := hid hA
  clear hA
  go_wp2_with fail
  clear b0 b1 b2 b3 b4 b5 b6 b7 b8
  generalize u1.alloc (.cells #[.int .i64 2, .string ⟨#[]⟩, .string ⟨#[]⟩, .string ⟨#[]⟩, .string ⟨#[]⟩, .string ⟨#[]⟩, .string ⟨#[]⟩, .string ⟨#[]⟩, .string ⟨#[]⟩] 32) = v0 at *
  generalize u1.heap.size = B at *
  clear u1
  refine HS.role.mono ?_
  rintro e v1 (⟨p0, q0, vb0, HO0, rfl, HS1⟩ | ⟨HN, rfl, ao9, m9, cp9, hr9, hc9⟩)
  rotate_left
  · refine ⟨rfl, .inl ⟨_, ?_, rfl, ao9, m9, cp9, hr9, hc9⟩⟩
    rw [HE.out, getHead, if_neg (by rw [HN.out]; decide)]
  clear HS
  have HE1 : Hid (credGet l = getB ⟨2, (p0, q0), [], noneR, noneR, []⟩ (roleRest (numRest l))) := hid (by
    rw [HE.out, getHead, if_pos HO0.out.1, HO0.out.2.1]
    exact if_neg (by decide))
  clear HE
  have HE := HE1
  clear HE1
  obtain ⟨b0, b1, b2, b3, b4, b5, b6, b7, b8⟩ := cred_at_blk HS1.bb
  simp only [Nat.zero_add, noneR] at b0 b1 b2 b3 b4 b5 b6 b7 b8
  have g1 := froz_blk HS1.bb 1
  have g2 := froz_blk HS1.bb 2
  have HS : GSt D R A B w ((v1.setCell ⟨B, 1, none⟩ (.string ⟨p0.toArray⟩)).setCell ⟨B, 2, none⟩ (.string ⟨q0.toArray⟩)) vb0 (roleRest (numRest l)) ⟨2, (p0, q0), [], noneR, noneR, []⟩ := HS1.put ((setCell_chg v1 B 1 (.string ⟨p0.toArray⟩)).trans (setCell_chg _ B 2 (.string ⟨q0.toArray⟩)) (fun _ _ h => h)) (by have hset := (set_blk (set_blk HS1.bb 1 (.string ⟨p0.toArray⟩)) 2 (.string ⟨q0.toArray⟩)); simpa [credBox, noCred, noneR] using hset)
  clear HS1
  go_wp2_with fail
  clear b0 b1 b2 b3 b4 b5 b6 b7 b8 g1 g2
  generalize ((v1.setCell ⟨B, 1, none⟩ (.string ⟨p0.toArray⟩)).setCell ⟨B, 2, none⟩ (.string ⟨q0.toArray⟩)) = x0 at *
  clear v1
  refine HS.role.mono ?_
  rintro e v2 (⟨p1, q1, vb1, HO1, rfl, HS1⟩ | ⟨HN, rfl, ao9, m9, cp9, hr9, hc9⟩)
  rotate_left
  · refine ⟨rfl, .inl ⟨_, ?_, rfl, ao9, m9, cp9, hr9, hc9⟩⟩
    rw [HE.out, getB, if_neg (by rw [HN.out]; decide)]
  clear HS
  have HE1 : Hid (credGet l = getEnd ⟨2, (p0, q0), [], (p1, q1), noneR, []⟩ (roleRest (roleRest (numRest l)))) := hid (by
    rw [HE.out, getB, if_pos HO1.out.1, HO1.out.2.1]
    exact (if_neg (show ¬ (2 : Int) = 3 by decide)).trans (if_neg (show ¬ (2 : Int) = 4 by decide)))
  clear HE
  have HE := HE1
  clear HE1
  obtain ⟨b0, b1, b2, b3, b4, b5, b6, b7, b8⟩ := cred_at_blk HS1.bb
  simp only [Nat.zero_add, noneR] at b0 b1 b2 b3 b4 b5 b6 b7 b8
  have g4 := froz_blk HS1.bb 4
  have g5 := froz_blk HS1.bb 5
  have HS : GSt D R A B w ((v2.setCell ⟨B, 4, none⟩ (.string ⟨p1.toArray⟩)).setCell ⟨B, 5, none⟩ (.string ⟨q1.toArray⟩)) vb1 (roleRest (roleRest (numRest l))) ⟨2, (p0, q0), [], (p1, q1), noneR, []⟩ := HS1.put ((setCell_chg v2 B 4 (.string ⟨p1.toArray⟩)).trans (setCell_chg _ B 5 (.string ⟨q1.toArray⟩)) (fun _ _ h => h)) (by have hset := (set_blk (set_blk HS1.bb 4 (.string ⟨p1.toArray⟩)) 5 (.string ⟨q1.toArray⟩)); simpa [credBox, noCred, noneR] using hset)
  clear HS1
  obtain ⟨d0, d1, d2, d3, d4, d5, d6, d7, d8⟩ := cred_at_blk HS.bb
  simp only [Nat.zero_add, noneR] at d0 d1 d2 d3 d4 d5 d6 d7 d8
  go_wp2_with fail
  clear b0 b1 b2 b3 b4 b5 b6 b7 b8 d0 d1 d2 d3 d4 d5 d6 d7 d8 g4 g5
  generalize ((v2.setCell ⟨B, 4, none⟩ (.string ⟨p1.toArray⟩)).setCell ⟨B, 5, none⟩ (.string ⟨q1.toArray⟩)) = x1 at *
  clear v2
  have y0a := HO0.out.2.2.1
  have y0b := HO0.out.2.2.2
  have y1a := HO1.out.2.2.1
  have y1b := HO1.out.2.2.2
  have hsh : credShort ⟨2, (p0, q0), [], (p1, q1), noneR, []⟩ 9223372036854775807 := ⟨by show p0.length ≤ _; omega, by show q0.length ≤ _; omega, by simp, by show p1.length ≤ _; omega, by show q1.length ≤ _; omega, by simp [noneR], by simp [noneR], by simp⟩
  refine (pcright ⟨2, (p0, q0), [], (p1, q1), noneR, []⟩ _ hsh).mono ?_
  rintro e v9 ⟨rfl, hc9⟩
  have HT := HS.keep hc9
  clear HS hc9 hsh
  cases hr : isCred ⟨2, (p0, q0), [], (p1, q1), noneR, []⟩ with
  | true =>
    have HF : Hid (credGet l = .ok ⟨2, (p0, q0), [], (p1, q1), noneR, []⟩ (roleRest (roleRest (numRest l)))) := hid (by rw [HE.out, getEnd]; exact if_pos hr)
    have hD := setCred_blk ⟨2, (p0, q0), [], (p1, q1), noneR, []⟩ HT.ba
    have hck := setCred_chg v9 A ⟨2, (p0, q0), [], (p1, q1), noneR, []⟩
    have hRA : ¬ R = A := by have := HT.rw_; have := HT.wa; omega
    have hrd := blk_keep HT.rd hck hRA
    have hbt := HT.bt.keep hck (fun i hi e => by have := HT.dl i hi; have := HT.wa; have : i = A := e; omega)
    have hcw : Chg (· = R) w (setCred v9 A ⟨2, (p0, q0), [], (p1, q1), noneR, []⟩) := HT.ch.trans hck (fun i hi e => by have := HT.wa; have : i = A := e; omega)
    have HX := hid (And.intro hD (And.intro hrd (And.intro hbt hcw)))
    clear hD hck hRA hrd hbt hcw hr
    obtain ⟨b0, b1, b2, b3, b4, b5, b6, b7, b8⟩ := cred_at_blk HT.bb
    simp only [Nat.zero_add, noneR] at b0 b1 b2 b3 b4 b5 b6 b7 b8
    obtain ⟨a0, a1, a2, a3, a4, a5, a6, a7, a8⟩ := cred_at_blk HT.ba
    simp only [Nat.zero_add, noCred, noneR] at a0 a1 a2 a3 a4 a5 a6 a7 a8
    have f0 := froz_blk HT.ba 0
    have f1 := froz_blk HT.ba 1
    have f2 := froz_blk HT.ba 2
    have f3 := froz_blk HT.ba 3
    have f4 := froz_blk HT.ba 4
    have f5 := froz_blk HT.ba 5
    have f6 := froz_blk HT.ba 6
    have f7 := froz_blk HT.ba 7
    have f8 := froz_blk HT.ba 8
    clear HT
    go_wp2
    refine bodyPost_ret (results_get_cred rfl _ _ A ⟨2, (p0, q0), [], (p1, q1), noneR, []⟩ rfl HX.out.1) rfl ?_
    exact .inr ⟨_, _, HF.out, rfl, _, HX.out.2.2.1, HX.out.2.1, HX.out.2.2.2⟩
  | false =>
    have HF : Hid (credGet l = .bad 11) := hid (by rw [HE.out, getEnd]; exact if_neg (by rw [hr]; decide))
    clear hr
    obtain ⟨ao8, cp8, e8⟩ := HT.bt.shape
    subst e8
    have r0 := cell_blk HT.rd 0
    have r2 := cell_blk HT.rd 2
    have f2 := froz_blk HT.rd 2
    simp only [List.getElem?_toArray, List.getElem?_cons_zero, List.getElem?_cons_succ] at r0 r2
    go_wp2_with fail
    refine (fail_stops R 11 (.bool true) _ rfl r0 r2 f2).mono ?_
    rintro e w9 ⟨rfl, rfl⟩
    exact ⟨rfl, .inl ⟨_, HF.out, rfl, _, _, _, set_blk HT.rd 2 (.int .i64 11), HT.ch.trans (setCell_chg v9 R 2 _) (fun _ _ h => h)⟩⟩

set_option maxRecDepth 100000 in
set_option maxHeartbeats 4000000 in
theorem pcget3 {D : Nat → Prop} {R : Nat} {v : Value} {l : List UInt8} {w : World} (hl : l.length ≤ 140737488355328) (hv : BytesAt D w v l) (hDR : ¬ D R) (hDl : ∀ i, D i → i < w.heap.size) (hR : ReaderAt w R true v 0) (hb : numBad l = 0) (hk : ((numOf l : Nat) : Int) = 3) :
    Calls Try.prog 60 #[.pointer (some ⟨R, 0, none⟩)] w (GotPostC D R l w) := by
  have HD := hid hDl
  have hRw : R < w.heap.size := lt_blk hR
  have hcA : Chg (fun _ => False) w (w.alloc (.cells #[.int .i64 0, .string ⟨#[]⟩, .string ⟨#[]⟩, .string ⟨#[]⟩, .string ⟨#[]⟩, .string ⟨#[]⟩, .string ⟨#[]⟩, .string ⟨#[]⟩, .string ⟨#[]⟩] 32)) := (Chg.refl _ w).alloc _
  have hA : (w.alloc (.cells #[.int .i64 0, .string ⟨#[]⟩, .string ⟨#[]⟩, .string ⟨#[]⟩, .string ⟨#[]⟩, .string ⟨#[]⟩, .string ⟨#[]⟩, .string ⟨#[]⟩, .string ⟨#[]⟩] 32)).heap[w.heap.size]? = some (.cells (credBox noCred) 32 (0, 0)) := heap_alloc_new w (.cells #[.int .i64 0, .string ⟨#[]⟩, .string ⟨#[]⟩, .string ⟨#[]⟩, .string ⟨#[]⟩, .string ⟨#[]⟩, .string ⟨#[]⟩, .string ⟨#[]⟩, .string ⟨#[]⟩] 32)
  have hR1 : ReaderAt (w.alloc (.cells #[.int .i64 0, .string ⟨#[]⟩, .string ⟨#[]⟩, .string ⟨#[]⟩, .string ⟨#[]⟩, .string ⟨#[]⟩, .string ⟨#[]⟩, .string ⟨#[]⟩, .string ⟨#[]⟩] 32)) R true v 0 := blk_keep hR hcA id
  have hv1 := hv.keep hcA (fun _ _ => id)
  have hnum := pnum_c hl hv1 hDR hR1 hb (k := 3) hk
  have hc1 : Chg (· = R) w (w.alloc (.cells #[.int .i64 0, .string ⟨#[]⟩, .string ⟨#[]⟩, .string ⟨#[]⟩, .string ⟨#[]⟩, .string ⟨#[]⟩, .string ⟨#[]⟩, .string ⟨#[]⟩, .string ⟨#[]⟩] 32)) := hcA.mono (fun _ _ h => h.elim)
  have hln : (numRest l).length ≤ 140737488355328 := by unfold numRest; rw [List.length_drop]; omega
  have HG := hid (And.intro hnum (And.intro hA (And.intro hc1 (And.intro hRw (And.intro hDR hln)))))
  clear hcA hA hR1 hv1 hnum hc1 hR hv hDl hRw hDR hln hl
  go_enter Try.func60, Try.ntmps60
  go_wp2_with fail
  obtain ⟨hnum, hA, hc1, hRw, hDR, hln⟩ := HG.out
  clear HG
  generalize w.alloc (.cells #[.int .i64 0, .string ⟨#[]⟩, .string ⟨#[]⟩, .string ⟨#[]⟩, .string ⟨#[]⟩, .string ⟨#[]⟩, .string ⟨#[]⟩, .string ⟨#[]⟩, .string ⟨#[]⟩] 32) = w1 at *
  refine hnum.mono ?_
  rintro e u1 ⟨rfl, vb, hv1, hR1, hch⟩
  have hA1 := blk_keep hA hch (show ¬ w.heap.size = R by omega)
  have hcu := hc1.trans hch (fun _ _ h => h)
  have hAu := lt_blk hA1
  clear hnum hA hc1 hch
  have hcB : Chg (fun _ => False) u1 (u1.alloc (.cells #[.int .i64 3, .string ⟨#[]⟩, .string ⟨#[]⟩, .string ⟨#[]⟩, .string ⟨#[]⟩, .string ⟨#[]⟩, .string ⟨#[]⟩, .string ⟨#[]⟩, .string ⟨#[]⟩] 32)) := (Chg.refl _ u1).alloc _
  have hB : (u1.alloc (.cells #[.int .i64 3, .string ⟨#[]⟩, .string ⟨#[]⟩, .string ⟨#[]⟩, .string ⟨#[]⟩, .string ⟨#[]⟩, .string ⟨#[]⟩, .string ⟨#[]⟩, .string ⟨#[]⟩] 32)).heap[u1.heap.size]? = some (.cells (credBox ⟨3, noneR, [], noneR, noneR, []⟩) 32 (0, 0)) := heap_alloc_new u1 (.cells #[.int .i64 3, .string ⟨#[]⟩, .string ⟨#[]⟩, .string ⟨#[]⟩, .string ⟨#[]⟩, .string ⟨#[]⟩, .string ⟨#[]⟩, .string ⟨#[]⟩, .string ⟨#[]⟩] 32)
  have HS : GSt D R w.heap.size u1.heap.size w (u1.alloc (.cells #[.int .i64 3, .string ⟨#[]⟩, .string ⟨#[]⟩, .string ⟨#[]⟩, .string ⟨#[]⟩, .string ⟨#[]⟩, .string ⟨#[]⟩, .string ⟨#[]⟩, .string ⟨#[]⟩] 32)) vb (numRest l) ⟨3, noneR, [], noneR, noneR, []⟩ :=
    ⟨blk_keep hR1 hcB id, hv1.keep hcB (fun _ _ => id), blk_keep hA1 hcB id, hB, hcu.trans hcB (fun _ _ h => h.elim), hRw, Nat.le_refl _, hAu, hDR, HD.out, hln⟩
  clear hcB hB hA1 hR1 hv1 hcu hAu hRw hDR hln HD
  have HE : Hid (credGet l = getHead 3 (numRest l)) := hid (by rw [credGet, if_pos hb, if_pos (by omega)]; rw [hk])
  clear hb hk
  obtain ⟨b0, b1, b2, b3, b4, b5, b6, b7, b8⟩ := cred_at_blk HS.bb
  simp only [Nat.zero_add, noneR] at b0 b1 b2 b3 b4 b5 b6 b7 b8
  generalize hA : w.heap.size = A at *
  have HA := hid hA
  clear hA
  go_wp2_with fail
  clear b0 b1 b2 b3 b4 b5 b6 b7 b8
  generalize u1.alloc (.cells #[.int .i64 3, .string ⟨#[]⟩, .string ⟨#[]⟩, .string ⟨#[]⟩, .string ⟨#[]⟩, .string ⟨#[]⟩, .string ⟨#[]⟩, .string ⟨#[]⟩, .string ⟨#[]⟩] 32) = v0 at *
  generalize u1.heap.size = B at *
  clear u1
  refine HS.role.mono ?_
  rintro e v1 (⟨p0, q0, vb0, HO0, rfl, HS1⟩ | ⟨HN, rfl, ao9, m9, cp9, hr9, hc9⟩)
  rotate_left
  · refine ⟨rfl, .inl ⟨_, ?_, rfl, ao9, m9, cp9, hr9, hc9⟩⟩
    rw [HE.out, getHead, if_neg (by rw [HN.out]; decide)]
  clear HS
  have HE1 : Hid (credGet l = getB ⟨3, (p0, q0), [], noneR, noneR, []⟩ (roleRest (numRest l))) := hid (by
    rw [HE.out, getHead, if_pos HO0.out.1, HO0.out.2.1]
    exact if_neg (by decide))
  clear HE
  have HE := HE1
  clear HE1
  obtain ⟨b0, b1, b2, b3, b4, b5, b6, b7, b8⟩ := cred_at_blk HS1.bb
  simp only [Nat.zero_add, noneR] at b0 b1 b2 b3 b4 b5 b6 b7 b8
  have g1 := froz_blk HS1.bb 1
  have g2 := froz_blk HS1.bb 2
  have HS : GSt D R A B w ((v1.setCell ⟨B, 1, none⟩ (.string ⟨p0.toArray⟩)).setCell ⟨B, 2, none⟩ (.string ⟨q0.toArray⟩)) vb0 (roleRest (numRest l)) ⟨3, (p0, q0), [], noneR, noneR, []⟩ := HS1.put ((setCell_chg v1 B 1 (.string ⟨p0.toArray⟩)).trans (setCell_chg _ B 2 (.string ⟨q0.toArray⟩)) (fun _ _ h => h)) (by have hset := (set_blk (set_blk HS1.bb 1 (.string ⟨p0.toArray⟩)) 2 (.string ⟨q0.toArray⟩)); simpa [credBox, noCred, noneR] using hset)
  clear HS1
  go_wp2_with fail
  clear b0 b1 b2 b3 b4 b5 b6 b7 b8 g1 g2
  generalize ((v1.setCell ⟨B, 1, none⟩ (.string ⟨p0.toArray⟩)).setCell ⟨B, 2, none⟩ (.string ⟨q0.toArray⟩)) = x0 at *
  clear v1
  refine HS.role.mono ?_
  rintro e v2 (⟨p1, q1, vb1, HO1, rfl, HS1⟩ | ⟨HN, rfl, ao9, m9, cp9, hr9, hc9⟩)
  rotate_left
  · refine ⟨rfl, .inl ⟨_, ?_, rfl, ao9, m9, cp9, hr9, hc9⟩⟩
    rw [HE.out, getB, if_neg (by rw [HN.out]; decide)]
  clear HS
  have HE1 : Hid (credGet l = getWord ⟨3, (p0, q0), [], (p1, q1), noneR, []⟩ (roleRest (roleRest (numRest l)))) := hid (by
    rw [HE.out, getB, if_pos HO1.out.1, HO1.out.2.1]
    exact if_pos rfl)
  clear HE
  have HE := HE1
  clear HE1
  obtain ⟨b0, b1, b2, b3, b4, b5, b6, b7, b8⟩ := cred_at_blk HS1.bb
  simp only [Nat.zero_add, noneR] at b0 b1 b2 b3 b4 b5 b6 b7 b8
  have g4 := froz_blk HS1.bb 4
  have g5 := froz_blk HS1.bb 5
  have HS : GSt D R A B w ((v2.setCell ⟨B, 4, none⟩ (.string ⟨p1.toArray⟩)).setCell ⟨B, 5, none⟩ (.string ⟨q1.toArray⟩)) vb1 (roleRest (roleRest (numRest l))) ⟨3, (p0, q0), [], (p1, q1), noneR, []⟩ := HS1.put ((setCell_chg v2 B 4 (.string ⟨p1.toArray⟩)).trans (setCell_chg _ B 5 (.string ⟨q1.toArray⟩)) (fun _ _ h => h)) (by have hset := (set_blk (set_blk HS1.bb 4 (.string ⟨p1.toArray⟩)) 5 (.string ⟨q1.toArray⟩)); simpa [credBox, noCred, noneR] using hset)
  clear HS1
  go_wp2_with fail
  clear b0 b1 b2 b3 b4 b5 b6 b7 b8 g4 g5
  generalize ((v2.setCell ⟨B, 4, none⟩ (.string ⟨p1.toArray⟩)).setCell ⟨B, 5, none⟩ (.string ⟨q1.toArray⟩)) = x1 at *
  clear v2
  refine HS.name.mono ?_
  rintro e v3 (⟨p2, vb2, HO2, rfl, HS1⟩ | ⟨HN, rfl, ao9, m9, cp9, hr9, hc9⟩)
  rotate_left
  · refine ⟨rfl, .inl ⟨_, ?_, rfl, ao9, m9, cp9, hr9, hc9⟩⟩
    rw [HE.out, getWord, if_neg (by rw [HN.out]; decide)]
  clear HS
  have HE1 : Hid (credGet l = getEnd ⟨3, (p0, q0), [], (p1, q1), noneR, p2⟩ (nameRest (roleRest (roleRest (numRest l))))) := hid (by
    rw [HE.out, getWord, if_pos HO2.out.1, HO2.out.2.1])
  clear HE
  have HE := HE1
  clear HE1
  obtain ⟨b0, b1, b2, b3, b4, b5, b6, b7, b8⟩ := cred_at_blk HS1.bb
  simp only [Nat.zero_add, noneR] at b0 b1 b2 b3 b4 b5 b6 b7 b8
  have g8 := froz_blk HS1.bb 8
  have HS : GSt D R A B w (v3.setCell ⟨B, 8, none⟩ (.string ⟨p2.toArray⟩)) vb2 (nameRest (roleRest (roleRest (numRest l)))) ⟨3, (p0, q0), [], (p1, q1), noneR, p2⟩ := HS1.put (setCell_chg v3 B 8 (.string ⟨p2.toArray⟩)) (by have hset := (set_blk HS1.bb 8 (.string ⟨p2.toArray⟩)); simpa [credBox, noCred, noneR] using hset)
  clear HS1
  obtain ⟨d0, d1, d2, d3, d4, d5, d6, d7, d8⟩ := cred_at_blk HS.bb
  simp only [Nat.zero_add, noneR] at d0 d1 d2 d3 d4 d5 d6 d7 d8
  go_wp2_with fail
  clear b0 b1 b2 b3 b4 b5 b6 b7 b8 d0 d1 d2 d3 d4 d5 d6 d7 d8 g8
  generalize (v3.setCell ⟨B, 8, none⟩ (.string ⟨p2.toArray⟩)) = x2 at *
  clear v3
  have y0a := HO0.out.2.2.1
  have y0b := HO0.out.2.2.2
  have y1a := HO1.out.2.2.1
  have y1b := HO1.out.2.2.2
  have y2 := HO2.out.2.2
  have hsh : credShort ⟨3, (p0, q0), [], (p1, q1), noneR, p2⟩ 9223372036854775807 := ⟨by show p0.length ≤ _; omega, by show q0.length ≤ _; omega, by simp, by show p1.length ≤ _; omega, by show q1.length ≤ _; omega, by simp [noneR], by simp [noneR], by show p2.length ≤ _; omega⟩
  refine (pcright ⟨3, (p0, q0), [], (p1, q1), noneR, p2⟩ _ hsh).mono ?_
  rintro e v9 ⟨rfl, hc9⟩
  have HT := HS.keep hc9
  clear HS hc9 hsh
  cases hr : isCred ⟨3, (p0, q0), [], (p1, q1), noneR, p2⟩ with
  | true =>
    have HF : Hid (credGet l = .ok ⟨3, (p0, q0), [], (p1, q1), noneR, p2⟩ (nameRest (roleRest (roleRest (numRest l))))) := hid (by rw [HE.out, getEnd]; exact if_pos hr)
    have hD := setCred_blk ⟨3, (p0, q0), [], (p1, q1), noneR, p2⟩ HT.ba
    have hck := setCred_chg v9 A ⟨3, (p0, q0), [], (p1, q1), noneR, p2⟩
    have hRA : ¬ R = A := by have := HT.rw_; have := HT.wa; omega
    have hrd := blk_keep HT.rd hck hRA
    have hbt := HT.bt.keep hck (fun i hi e => by have := HT.dl i hi; have := HT.wa; have : i = A := e; omega)
    have hcw : Chg (· = R) w (setCred v9 A ⟨3, (p0, q0), [], (p1, q1), noneR, p2⟩) := HT.ch.trans hck (fun i hi e => by have := HT.wa; have : i = A := e; omega)
    have HX := hid (And.intro hD (And.intro hrd (And.intro hbt hcw)))
    clear hD hck hRA hrd hbt hcw hr
    obtain ⟨b0, b1, b2, b3, b4, b5, b6, b7, b8⟩ := cred_at_blk HT.bb
    simp only [Nat.zero_add, noneR] at b0 b1 b2 b3 b4 b5 b6 b7 b8
    obtain ⟨a0, a1, a2, a3, a4, a5, a6, a7, a8⟩ := cred_at_blk HT.ba
    simp only [Nat.zero_add, noCred, noneR] at a0 a1 a2 a3 a4 a5 a6 a7 a8
    have f0 := froz_blk HT.ba 0
    have f1 := froz_blk HT.ba 1
    have f2 := froz_blk HT.ba 2
    have f3 := froz_blk HT.ba 3
    have f4 := froz_blk HT.ba 4
    have f5 := froz_blk HT.ba 5
    have f6 := froz_blk HT.ba 6
    have f7 := froz_blk HT.ba 7
    have f8 := froz_blk HT.ba 8
    clear HT
    go_wp2
    refine bodyPost_ret (results_get_cred rfl _ _ A ⟨3, (p0, q0), [], (p1, q1), noneR, p2⟩ rfl HX.out.1) rfl ?_
    exact .inr ⟨_, _, HF.out, rfl, _, HX.out.2.2.1, HX.out.2.1, HX.out.2.2.2⟩
  | false =>
    have HF : Hid (credGet l = .bad 11) := hid (by rw [HE.out, getEnd]; exact if_neg (by rw [hr]; decide))
    clear hr
    obtain ⟨ao8, cp8, e8⟩ := HT.bt.shape
    subst e8
    have r0 := cell_blk HT.rd 0
    have r2 := cell_blk HT.rd 2
    have f2 := froz_blk HT.rd 2
    simp only [List.getElem?_toArray, List.getElem?_cons_zero, List.getElem?_cons_succ] at r0 r2
    go_wp2_with fail
    refine (fail_stops R 11 (.bool true) _ rfl r0 r2 f2).mono ?_
    rintro e w9 ⟨rfl, rfl⟩
    exact ⟨rfl, .inl ⟨_, HF.out, rfl, _, _, _, set_blk HT.rd 2 (.int .i64 11), HT.ch.trans (setCell_chg v9 R 2 _) (fun _ _ h => h)⟩⟩

set_option maxRecDepth 100000 in
set_option maxHeartbeats 4000000 in
theorem pcget4 {D : Nat → Prop} {R : Nat} {v : Value} {l : List UInt8} {w : World} (hl : l.length ≤ 140737488355328) (hv : BytesAt D w v l) (hDR : ¬ D R) (hDl : ∀ i, D i → i < w.heap.size) (hR : ReaderAt w R true v 0) (hb : numBad l = 0) (hk : ((numOf l : Nat) : Int) = 4) :
    Calls Try.prog 60 #[.pointer (some ⟨R, 0, none⟩)] w (GotPostC D R l w) := by
  have HD := hid hDl
  have hRw : R < w.heap.size := lt_blk hR
  have hcA : Chg (fun _ => False) w (w.alloc (.cells #[.int .i64 0, .string ⟨#[]⟩, .string ⟨#[]⟩, .string ⟨#[]⟩, .string ⟨#[]⟩, .string ⟨#[]⟩, .string ⟨#[]⟩, .string ⟨#[]⟩, .string ⟨#[]⟩] 32)) := (Chg.refl _ w).alloc _
  have hA : (w.alloc (.cells #[.int .i64 0, .string ⟨#[]⟩, .string ⟨#[]⟩, .string ⟨#[]⟩, .string ⟨#[]⟩, .string ⟨#[]⟩, .string ⟨#[]⟩, .string ⟨#[]⟩, .string ⟨#[]⟩] 32)).heap[w.heap.size]? = some (.cells (credBox noCred) 32 (0, 0)) := heap_alloc_new w (.cells #[.int .i64 0, .string ⟨#[]⟩, .string ⟨#[]⟩, .string ⟨#[]⟩, .string ⟨#[]⟩, .string ⟨#[]⟩, .string ⟨#[]⟩, .string ⟨#[]⟩, .string ⟨#[]⟩] 32)
  have hR1 : ReaderAt (w.alloc (.cells #[.int .i64 0, .string ⟨#[]⟩, .string ⟨#[]⟩, .string ⟨#[]⟩, .string ⟨#[]⟩, .string ⟨#[]⟩, .string ⟨#[]⟩, .string ⟨#[]⟩, .string ⟨#[]⟩] 32)) R true v 0 := blk_keep hR hcA id
  have hv1 := hv.keep hcA (fun _ _ => id)
  have hnum := pnum_c hl hv1 hDR hR1 hb (k := 4) hk
  have hc1 : Chg (· = R) w (w.alloc (.cells #[.int .i64 0, .string ⟨#[]⟩, .string ⟨#[]⟩, .string ⟨#[]⟩, .string ⟨#[]⟩, .string ⟨#[]⟩, .string ⟨#[]⟩, .string ⟨#[]⟩, .string ⟨#[]⟩] 32)) := hcA.mono (fun _ _ h => h.elim)
  have hln : (numRest l).length ≤ 140737488355328 := by unfold numRest; rw [List.length_drop]; omega
  have HG := hid (And.intro hnum (And.intro hA (And.intro hc1 (And.intro hRw (And.intro hDR hln)))))
  clear hcA hA hR1 hv1 hnum hc1 hR hv hDl hRw hDR hln hl
  go_enter Try.func60, Try.ntmps60
  go_wp2_with fail
  obtain ⟨hnum, hA, hc1, hRw, hDR, hln⟩ := HG.out
  clear HG
  generalize w.alloc (.cells #[.int .i64 0, .string ⟨#[]⟩, .string ⟨#[]⟩, .string ⟨#[]⟩, .string ⟨#[]⟩, .string ⟨#[]⟩, .string ⟨#[]⟩, .string ⟨#[]⟩, .string ⟨#[]⟩] 32) = w1 at *
  refine hnum.mono ?_
  rintro e u1 ⟨rfl, vb, hv1, hR1, hch⟩
  have hA1 := blk_keep hA hch (show ¬ w.heap.size = R by omega)
  have hcu := hc1.trans hch (fun _ _ h => h)
  have hAu := lt_blk hA1
  clear hnum hA hc1 hch
  have hcB : Chg (fun _ => False) u1 (u1.alloc (.cells #[.int .i64 4, .string ⟨#[]⟩, .string ⟨#[]⟩, .string ⟨#[]⟩, .string ⟨#[]⟩, .string ⟨#[]⟩, .string ⟨#[]⟩, .string ⟨#[]⟩, .string ⟨#[]⟩] 32)) := (Chg.refl _ u1).alloc _
  have hB : (u1.alloc (.cells #[.int .i64 4, .string ⟨#[]⟩, .string ⟨#[]⟩, .string ⟨#[]⟩, .string ⟨#[]⟩, .string ⟨#[]⟩, .string ⟨#[]⟩, .string ⟨#[]⟩, .string ⟨#[]⟩] 32)).heap[u1.heap.size]? = some (.cells (credBox ⟨4, noneR, [], noneR, noneR, []⟩) 32 (0, 0)) := heap_alloc_new u1 (.cells #[.int .i64 4, .string ⟨#[]⟩, .string ⟨#[]⟩, .string ⟨#[]⟩, .string ⟨#[]⟩, .string ⟨#[]⟩, .string ⟨#[]⟩, .string ⟨#[]⟩, .string ⟨#[]⟩] 32)
  have HS : GSt D R w.heap.size u1.heap.size w (u1.alloc (.cells #[.int .i64 4, .string ⟨#[]⟩, .string ⟨#[]⟩, .string ⟨#[]⟩, .string ⟨#[]⟩, .string ⟨#[]⟩, .string ⟨#[]⟩, .string ⟨#[]⟩, .string ⟨#[]⟩] 32)) vb (numRest l) ⟨4, noneR, [], noneR, noneR, []⟩ :=
    ⟨blk_keep hR1 hcB id, hv1.keep hcB (fun _ _ => id), blk_keep hA1 hcB id, hB, hcu.trans hcB (fun _ _ h => h.elim), hRw, Nat.le_refl _, hAu, hDR, HD.out, hln⟩
  clear hcB hB hA1 hR1 hv1 hcu hAu hRw hDR hln HD
  have HE : Hid (credGet l = getHead 4 (numRest l)) := hid (by rw [credGet, if_pos hb, if_pos (by omega)]; rw [hk])
  clear hb hk
  obtain ⟨b0, b1, b2, b3, b4, b5, b6, b7, b8⟩ := cred_at_blk HS.bb
  simp only [Nat.zero_add, noneR] at b0 b1 b2 b3 b4 b5 b6 b7 b8
  generalize hA : w.heap.size = A at *
  have HA := hid hA
  clear hA
  go_wp2_with fail
  clear b0 b1 b2 b3 b4 b5 b6 b7 b8
  generalize u1.alloc (.cells #[.int .i64 4, .string ⟨#[]⟩, .string ⟨#[]⟩, .string ⟨#[]⟩, .string ⟨#[]⟩, .string ⟨#[]⟩, .string ⟨#[]⟩, .string ⟨#[]⟩, .string ⟨#[]⟩] 32) = v0 at *
  generalize u1.heap.size = B at *
  clear u1
  refine HS.role.mono ?_
  rintro e v1 (⟨p0, q0, vb0, HO0, rfl, HS1⟩ | ⟨HN, rfl, ao9, m9, cp9, hr9, hc9⟩)
  rotate_left
  · refine ⟨rfl, .inl ⟨_, ?_, rfl, ao9, m9, cp9, hr9, hc9⟩⟩
    rw [HE.out, getHead, if_neg (by rw [HN.out]; decide)]
  clear HS
  have HE1 : Hid (credGet l = getB ⟨4, (p0, q0), [], noneR, noneR, []⟩ (roleRest (numRest l))) := hid (by
    rw [HE.out, getHead, if_pos HO0.out.1, HO0.out.2.1]
    exact if_neg (by decide))
  clear HE
  have HE := HE1
  clear HE1
  obtain ⟨b0, b1, b2, b3, b4, b5, b6, b7, b8⟩ := cred_at_blk HS1.bb
  simp only [Nat.zero_add, noneR] at b0 b1 b2 b3 b4 b5 b6 b7 b8
  have g1 := froz_blk HS1.bb 1
  have g2 := froz_blk HS1.bb 2
  have HS : GSt D R A B w ((v1.setCell ⟨B, 1, none⟩ (.string ⟨p0.toArray⟩)).setCell ⟨B, 2, none⟩ (.string ⟨q0.toArray⟩)) vb0 (roleRest (numRest l)) ⟨4, (p0, q0), [], noneR, noneR, []⟩ := HS1.put ((setCell_chg v1 B 1 (.string ⟨p0.toArray⟩)).trans (setCell_chg _ B 2 (.string ⟨q0.toArray⟩)) (fun _ _ h => h)) (by have hset := (set_blk (set_blk HS1.bb 1 (.string ⟨p0.toArray⟩)) 2 (.string ⟨q0.toArray⟩)); simpa [credBox, noCred, noneR] using hset)
  clear HS1
  go_wp2_with fail
  clear b0 b1 b2 b3 b4 b5 b6 b7 b8 g1 g2
  generalize ((v1.setCell ⟨B, 1, none⟩ (.string ⟨p0.toArray⟩)).setCell ⟨B, 2, none⟩ (.string ⟨q0.toArray⟩)) = x0 at *
  clear v1
  refine HS.role.mono ?_
  rintro e v2 (⟨p1, q1, vb1, HO1, rfl, HS1⟩ | ⟨HN, rfl, ao9, m9, cp9, hr9, hc9⟩)
  rotate_left
  · refine ⟨rfl, .inl ⟨_, ?_, rfl, ao9, m9, cp9, hr9, hc9⟩⟩
    rw [HE.out, getB, if_neg (by rw [HN.out]; decide)]
  clear HS
  have HE1 : Hid (credGet l = getC ⟨4, (p0, q0), [], (p1, q1), noneR, []⟩ (roleRest (roleRest (numRest l)))) := hid (by
    rw [HE.out, getB, if_pos HO1.out.1, HO1.out.2.1]
    exact (if_neg (show ¬ (4 : Int) = 3 by decide)).trans (if_pos rfl))
  clear HE
  have HE := HE1
  clear HE1
  obtain ⟨b0, b1, b2, b3, b4, b5, b6, b7, b8⟩ := cred_at_blk HS1.bb
  simp only [Nat.zero_add, noneR] at b0 b1 b2 b3 b4 b5 b6 b7 b8
  have g4 := froz_blk HS1.bb 4
  have g5 := froz_blk HS1.bb 5
  have HS : GSt D R A B w ((v2.setCell ⟨B, 4, none⟩ (.string ⟨p1.toArray⟩)).setCell ⟨B, 5, none⟩ (.string ⟨q1.toArray⟩)) vb1 (roleRest (roleRest (numRest l))) ⟨4, (p0, q0), [], (p1, q1), noneR, []⟩ := HS1.put ((setCell_chg v2 B 4 (.string ⟨p1.toArray⟩)).trans (setCell_chg _ B 5 (.string ⟨q1.toArray⟩)) (fun _ _ h => h)) (by have hset := (set_blk (set_blk HS1.bb 4 (.string ⟨p1.toArray⟩)) 5 (.string ⟨q1.toArray⟩)); simpa [credBox, noCred, noneR] using hset)
  clear HS1
  go_wp2_with fail
  clear b0 b1 b2 b3 b4 b5 b6 b7 b8 g4 g5
  generalize ((v2.setCell ⟨B, 4, none⟩ (.string ⟨p1.toArray⟩)).setCell ⟨B, 5, none⟩ (.string ⟨q1.toArray⟩)) = x1 at *
  clear v2
  refine HS.role.mono ?_
  rintro e v3 (⟨p2, q2, vb2, HO2, rfl, HS1⟩ | ⟨HN, rfl, ao9, m9, cp9, hr9, hc9⟩)
  rotate_left
  · refine ⟨rfl, .inl ⟨_, ?_, rfl, ao9, m9, cp9, hr9, hc9⟩⟩
    rw [HE.out, getC, if_neg (by rw [HN.out]; decide)]
  clear HS
  have HE1 : Hid (credGet l = getEnd ⟨4, (p0, q0), [], (p1, q1), (p2, q2), []⟩ (roleRest (roleRest (roleRest (numRest l))))) := hid (by
    rw [HE.out, getC, if_pos HO2.out.1, HO2.out.2.1])
  clear HE
  have HE := HE1
  clear HE1
  obtain ⟨b0, b1, b2, b3, b4, b5, b6, b7, b8⟩ := cred_at_blk HS1.bb
  simp only [Nat.zero_add, noneR] at b0 b1 b2 b3 b4 b5 b6 b7 b8
  have g6 := froz_blk HS1.bb 6
  have g7 := froz_blk HS1.bb 7
  have HS : GSt D R A B w ((v3.setCell ⟨B, 6, none⟩ (.string ⟨p2.toArray⟩)).setCell ⟨B, 7, none⟩ (.string ⟨q2.toArray⟩)) vb2 (roleRest (roleRest (roleRest (numRest l)))) ⟨4, (p0, q0), [], (p1, q1), (p2, q2), []⟩ := HS1.put ((setCell_chg v3 B 6 (.string ⟨p2.toArray⟩)).trans (setCell_chg _ B 7 (.string ⟨q2.toArray⟩)) (fun _ _ h => h)) (by have hset := (set_blk (set_blk HS1.bb 6 (.string ⟨p2.toArray⟩)) 7 (.string ⟨q2.toArray⟩)); simpa [credBox, noCred, noneR] using hset)
  clear HS1
  obtain ⟨d0, d1, d2, d3, d4, d5, d6, d7, d8⟩ := cred_at_blk HS.bb
  simp only [Nat.zero_add] at d0 d1 d2 d3 d4 d5 d6 d7 d8
  go_wp2_with fail
  clear b0 b1 b2 b3 b4 b5 b6 b7 b8 d0 d1 d2 d3 d4 d5 d6 d7 d8 g6 g7
  generalize ((v3.setCell ⟨B, 6, none⟩ (.string ⟨p2.toArray⟩)).setCell ⟨B, 7, none⟩ (.string ⟨q2.toArray⟩)) = x2 at *
  clear v3
  have y0a := HO0.out.2.2.1
  have y0b := HO0.out.2.2.2
  have y1a := HO1.out.2.2.1
  have y1b := HO1.out.2.2.2
  have y2a := HO2.out.2.2.1
  have y2b := HO2.out.2.2.2
  have hsh : credShort ⟨4, (p0, q0), [], (p1, q1), (p2, q2), []⟩ 9223372036854775807 := ⟨by show p0.length ≤ _; omega, by show q0.length ≤ _; omega, by simp, by show p1.length ≤ _; omega, by show q1.length ≤ _; omega, by show p2.length ≤ _; omega, by show q2.length ≤ _; omega, by simp⟩
  refine (pcright ⟨4, (p0, q0), [], (p1, q1), (p2, q2), []⟩ _ hsh).mono ?_
  rintro e v9 ⟨rfl, hc9⟩
  have HT := HS.keep hc9
  clear HS hc9 hsh
  cases hr : isCred ⟨4, (p0, q0), [], (p1, q1), (p2, q2), []⟩ with
  | true =>
    have HF : Hid (credGet l = .ok ⟨4, (p0, q0), [], (p1, q1), (p2, q2), []⟩ (roleRest (roleRest (roleRest (numRest l))))) := hid (by rw [HE.out, getEnd]; exact if_pos hr)
    have hD := setCred_blk ⟨4, (p0, q0), [], (p1, q1), (p2, q2), []⟩ HT.ba
    have hck := setCred_chg v9 A ⟨4, (p0, q0), [], (p1, q1), (p2, q2), []⟩
    have hRA : ¬ R = A := by have := HT.rw_; have := HT.wa; omega
    have hrd := blk_keep HT.rd hck hRA
    have hbt := HT.bt.keep hck (fun i hi e => by have := HT.dl i hi; have := HT.wa; have : i = A := e; omega)
    have hcw : Chg (· = R) w (setCred v9 A ⟨4, (p0, q0), [], (p1, q1), (p2, q2), []⟩) := HT.ch.trans hck (fun i hi e => by have := HT.wa; have : i = A := e; omega)
    have HX := hid (And.intro hD (And.intro hrd (And.intro hbt hcw)))
    clear hD hck hRA hrd hbt hcw hr
    obtain ⟨b0, b1, b2, b3, b4, b5, b6, b7, b8⟩ := cred_at_blk HT.bb
    simp only [Nat.zero_add] at b0 b1 b2 b3 b4 b5 b6 b7 b8
    obtain ⟨a0, a1, a2, a3, a4, a5, a6, a7, a8⟩ := cred_at_blk HT.ba
    simp only [Nat.zero_add, noCred, noneR] at a0 a1 a2 a3 a4 a5 a6 a7 a8
    have f0 := froz_blk HT.ba 0
    have f1 := froz_blk HT.ba 1
    have f2 := froz_blk HT.ba 2
    have f3 := froz_blk HT.ba 3
    have f4 := froz_blk HT.ba 4
    have f5 := froz_blk HT.ba 5
    have f6 := froz_blk HT.ba 6
    have f7 := froz_blk HT.ba 7
    have f8 := froz_blk HT.ba 8
    clear HT
    go_wp2
    refine bodyPost_ret (results_get_cred rfl _ _ A ⟨4, (p0, q0), [], (p1, q1), (p2, q2), []⟩ rfl HX.out.1) rfl ?_
    exact .inr ⟨_, _, HF.out, rfl, _, HX.out.2.2.1, HX.out.2.1, HX.out.2.2.2⟩
  | false =>
    have HF : Hid (credGet l = .bad 11) := hid (by rw [HE.out, getEnd]; exact if_neg (by rw [hr]; decide))
    clear hr
    obtain ⟨ao8, cp8, e8⟩ := HT.bt.shape
    subst e8
    have r0 := cell_blk HT.rd 0
    have r2 := cell_blk HT.rd 2
    have f2 := froz_blk HT.rd 2
    simp only [List.getElem?_toArray, List.getElem?_cons_zero, List.getElem?_cons_succ] at r0 r2
    go_wp2_with fail
    refine (fail_stops R 11 (.bool true) _ rfl r0 r2 f2).mono ?_
    rintro e w9 ⟨rfl, rfl⟩
    exact ⟨rfl, .inl ⟨_, HF.out, rfl, _, _, _, set_blk HT.rd 2 (.int .i64 11), HT.ch.trans (setCell_chg v9 R 2 _) (fun _ _ h => h)⟩⟩

set_option maxRecDepth 100000 in
set_option maxHeartbeats 4000000 in
theorem pcget_off {D : Nat → Prop} {R : Nat} {v : Value} {l : List UInt8} {w : World} (hl : l.length ≤ 140737488355328) (hv : BytesAt D w v l) (hDR : ¬ D R) (hDl : ∀ i, D i → i < w.heap.size) (hR : ReaderAt w R true v 0) (hb : numBad l = 0) (n : Nat) (hn : numOf l = n) (hk : ¬ (1 ≤ n ∧ n ≤ 4)) :
    Calls Try.prog 60 #[.pointer (some ⟨R, 0, none⟩)] w (GotPostC D R l w) := by
  have HE : Hid (credGet l = .bad 11) := hid (by rw [credGet, if_pos hb, hn, if_neg hk])
  by_cases h0 : n = 0
  · have hk0 : ((numOf l : Nat) : Int) = 0 := by omega
    have HD := hid hDl
    have hRw : R < w.heap.size := lt_blk hR
    have hcA : Chg (fun _ => False) w (w.alloc (.cells #[.int .i64 0, .string ⟨#[]⟩, .string ⟨#[]⟩, .string ⟨#[]⟩, .string ⟨#[]⟩, .string ⟨#[]⟩, .string ⟨#[]⟩, .string ⟨#[]⟩, .string ⟨#[]⟩] 32)) := (Chg.refl _ w).alloc _
    have hA : (w.alloc (.cells #[.int .i64 0, .string ⟨#[]⟩, .string ⟨#[]⟩, .string ⟨#[]⟩, .string ⟨#[]⟩, .string ⟨#[]⟩, .string ⟨#[]⟩, .string ⟨#[]⟩, .string ⟨#[]⟩] 32)).heap[w.heap.size]? = some (.cells (credBox noCred) 32 (0, 0)) := heap_alloc_new w (.cells #[.int .i64 0, .string ⟨#[]⟩, .string ⟨#[]⟩, .string ⟨#[]⟩, .string ⟨#[]⟩, .string ⟨#[]⟩, .string ⟨#[]⟩, .string ⟨#[]⟩, .string ⟨#[]⟩] 32)
    have hR1 : ReaderAt (w.alloc (.cells #[.int .i64 0, .string ⟨#[]⟩, .string ⟨#[]⟩, .string ⟨#[]⟩, .string ⟨#[]⟩, .string ⟨#[]⟩, .string ⟨#[]⟩, .string ⟨#[]⟩, .string ⟨#[]⟩] 32)) R true v 0 := blk_keep hR hcA id
    have hv1 := hv.keep hcA (fun _ _ => id)
    have hnum := pnum_c hl hv1 hDR hR1 hb (k := 0) hk0
    have hc1 : Chg (· = R) w (w.alloc (.cells #[.int .i64 0, .string ⟨#[]⟩, .string ⟨#[]⟩, .string ⟨#[]⟩, .string ⟨#[]⟩, .string ⟨#[]⟩, .string ⟨#[]⟩, .string ⟨#[]⟩, .string ⟨#[]⟩] 32)) := hcA.mono (fun _ _ h => h.elim)
    have hln : (numRest l).length ≤ 140737488355328 := by unfold numRest; rw [List.length_drop]; omega
    have HG := hid (And.intro hnum (And.intro hA (And.intro hc1 (And.intro hRw (And.intro hDR hln)))))
    clear hcA hA hR1 hv1 hnum hc1 hR hv hDl hRw hDR hln hl
    go_enter Try.func60, Try.ntmps60
    go_wp2_with fail
    obtain ⟨hnum, hA, hc1, hRw, hDR, hln⟩ := HG.out
    clear HG
    generalize w.alloc (.cells #[.int .i64 0, .string ⟨#[]⟩, .string ⟨#[]⟩, .string ⟨#[]⟩, .string ⟨#[]⟩, .string ⟨#[]⟩, .string ⟨#[]⟩, .string ⟨#[]⟩, .string ⟨#[]⟩] 32) = w1 at *
    refine hnum.mono ?_
    rintro e u1 ⟨rfl, vb, hv1, hR1, hch⟩
    have hA1 := blk_keep hA hch (show ¬ w.heap.size = R by omega)
    have hcu := hc1.trans hch (fun _ _ h => h)
    have hAu := lt_blk hA1
    clear hnum hA hc1 hch
    clear hb hk0 hn hk h0
    have hcB : Chg (fun _ => False) u1 (u1.alloc (.cells #[.int .i64 0, .string ⟨#[]⟩, .string ⟨#[]⟩, .string ⟨#[]⟩, .string ⟨#[]⟩, .string ⟨#[]⟩, .string ⟨#[]⟩, .string ⟨#[]⟩, .string ⟨#[]⟩] 32)) := (Chg.refl _ u1).alloc _
    have hB : (u1.alloc (.cells #[.int .i64 0, .string ⟨#[]⟩, .string ⟨#[]⟩, .string ⟨#[]⟩, .string ⟨#[]⟩, .string ⟨#[]⟩, .string ⟨#[]⟩, .string ⟨#[]⟩, .string ⟨#[]⟩] 32)).heap[u1.heap.size]? = some (.cells (credBox ⟨0, noneR, [], noneR, noneR, []⟩) 32 (0, 0)) := heap_alloc_new u1 (.cells #[.int .i64 0, .string ⟨#[]⟩, .string ⟨#[]⟩, .string ⟨#[]⟩, .string ⟨#[]⟩, .string ⟨#[]⟩, .string ⟨#[]⟩, .string ⟨#[]⟩, .string ⟨#[]⟩] 32)
    have HS : GSt D R w.heap.size u1.heap.size w (u1.alloc (.cells #[.int .i64 0, .string ⟨#[]⟩, .string ⟨#[]⟩, .string ⟨#[]⟩, .string ⟨#[]⟩, .string ⟨#[]⟩, .string ⟨#[]⟩, .string ⟨#[]⟩, .string ⟨#[]⟩] 32)) vb (numRest l) ⟨0, noneR, [], noneR, noneR, []⟩ :=
      ⟨blk_keep hR1 hcB id, hv1.keep hcB (fun _ _ => id), blk_keep hA1 hcB id, hB, hcu.trans hcB (fun _ _ h => h.elim), hRw, Nat.le_refl _, hAu, hDR, HD.out, hln⟩
    clear hcB hB hA1 hR1 hv1 hcu hAu hRw hDR hln HD
    obtain ⟨b0, b1, b2, b3, b4, b5, b6, b7, b8⟩ := cred_at_blk HS.bb
    simp only [Nat.zero_add, noneR] at b0 b1 b2 b3 b4 b5 b6 b7 b8
    obtain ⟨ao8, cp8, e8⟩ := HS.bt.shape
    subst e8
    have r0 := cell_blk HS.rd 0
    have r2 := cell_blk HS.rd 2
    have f2 := froz_blk HS.rd 2
    simp only [List.getElem?_toArray, List.getElem?_cons_zero, List.getElem?_cons_succ] at r0 r2
    generalize hA : w.heap.size = A at *
    have HA := hid hA
    clear hA
    go_wp2_with fail
    refine (fail_stops R 11 (.bool true) _ rfl r0 r2 f2).mono ?_
    rintro e w9 ⟨rfl, rfl⟩
    exact ⟨rfl, .inl ⟨_, HE.out, rfl, _, _, _, set_blk HS.rd 2 (.int .i64 11), HS.ch.trans (setCell_chg _ R 2 _) (fun _ _ h => h)⟩⟩
  · have hkn : ((numOf l : Nat) : Int) = (n : Int) := by omega
    have z0 : decide ((n : Int) < 1) = false := by simpa using (show ¬ ((n : Int) < 1) by omega)
    have z4 : decide (4 < (n : Int)) = true := by simpa using (show 4 < (n : Int) by omega)
    have HD := hid hDl
    have hRw : R < w.heap.size := lt_blk hR
    have hcA : Chg (fun _ => False) w (w.alloc (.cells #[.int .i64 0, .string ⟨#[]⟩, .string ⟨#[]⟩, .string ⟨#[]⟩, .string ⟨#[]⟩, .string ⟨#[]⟩, .string ⟨#[]⟩, .string ⟨#[]⟩, .string ⟨#[]⟩] 32)) := (Chg.refl _ w).alloc _
    have hA : (w.alloc (.cells #[.int .i64 0, .string ⟨#[]⟩, .string ⟨#[]⟩, .string ⟨#[]⟩, .string ⟨#[]⟩, .string ⟨#[]⟩, .string ⟨#[]⟩, .string ⟨#[]⟩, .string ⟨#[]⟩] 32)).heap[w.heap.size]? = some (.cells (credBox noCred) 32 (0, 0)) := heap_alloc_new w (.cells #[.int .i64 0, .string ⟨#[]⟩, .string ⟨#[]⟩, .string ⟨#[]⟩, .string ⟨#[]⟩, .string ⟨#[]⟩, .string ⟨#[]⟩, .string ⟨#[]⟩, .string ⟨#[]⟩] 32)
    have hR1 : ReaderAt (w.alloc (.cells #[.int .i64 0, .string ⟨#[]⟩, .string ⟨#[]⟩, .string ⟨#[]⟩, .string ⟨#[]⟩, .string ⟨#[]⟩, .string ⟨#[]⟩, .string ⟨#[]⟩, .string ⟨#[]⟩] 32)) R true v 0 := blk_keep hR hcA id
    have hv1 := hv.keep hcA (fun _ _ => id)
    have hnum := pnum_c hl hv1 hDR hR1 hb (k := (n : Int)) hkn
    have hc1 : Chg (· = R) w (w.alloc (.cells #[.int .i64 0, .string ⟨#[]⟩, .string ⟨#[]⟩, .string ⟨#[]⟩, .string ⟨#[]⟩, .string ⟨#[]⟩, .string ⟨#[]⟩, .string ⟨#[]⟩, .string ⟨#[]⟩] 32)) := hcA.mono (fun _ _ h => h.elim)
    have hln : (numRest l).length ≤ 140737488355328 := by unfold numRest; rw [List.length_drop]; omega
    have HG := hid (And.intro hnum (And.intro hA (And.intro hc1 (And.intro hRw (And.intro hDR hln)))))
    clear hcA hA hR1 hv1 hnum hc1 hR hv hDl hRw hDR hln hl
    go_enter Try.func60, Try.ntmps60
    go_wp2_with fail
    obtain ⟨hnum, hA, hc1, hRw, hDR, hln⟩ := HG.out
    clear HG
    generalize w.alloc (.cells #[.int .i64 0, .string ⟨#[]⟩, .string ⟨#[]⟩, .string ⟨#[]⟩, .string ⟨#[]⟩, .string ⟨#[]⟩, .string ⟨#[]⟩, .string ⟨#[]⟩, .string ⟨#[]⟩] 32) = w1 at *
    refine hnum.mono ?_
    rintro e u1 ⟨rfl, vb, hv1, hR1, hch⟩
    have hA1 := blk_keep hA hch (show ¬ w.heap.size = R by omega)
    have hcu := hc1.trans hch (fun _ _ h => h)
    have hAu := lt_blk hA1
    clear hnum hA hc1 hch
    clear hb hkn hn hk h0
    have hcB : Chg (fun _ => False) u1 (u1.alloc (.cells #[.int .i64 (n : Int), .string ⟨#[]⟩, .string ⟨#[]⟩, .string ⟨#[]⟩, .string ⟨#[]⟩, .string ⟨#[]⟩, .string ⟨#[]⟩, .string ⟨#[]⟩, .string ⟨#[]⟩] 32)) := (Chg.refl _ u1).alloc _
    have hB : (u1.alloc (.cells #[.int .i64 (n : Int), .string ⟨#[]⟩, .string ⟨#[]⟩, .string ⟨#[]⟩, .string ⟨#[]⟩, .string ⟨#[]⟩, .string ⟨#[]⟩, .string ⟨#[]⟩, .string ⟨#[]⟩] 32)).heap[u1.heap.size]? = some (.cells (credBox ⟨(n : Int), noneR, [], noneR, noneR, []⟩) 32 (0, 0)) := heap_alloc_new u1 (.cells #[.int .i64 (n : Int), .string ⟨#[]⟩, .string ⟨#[]⟩, .string ⟨#[]⟩, .string ⟨#[]⟩, .string ⟨#[]⟩, .string ⟨#[]⟩, .string ⟨#[]⟩, .string ⟨#[]⟩] 32)
    have HS : GSt D R w.heap.size u1.heap.size w (u1.alloc (.cells #[.int .i64 (n : Int), .string ⟨#[]⟩, .string ⟨#[]⟩, .string ⟨#[]⟩, .string ⟨#[]⟩, .string ⟨#[]⟩, .string ⟨#[]⟩, .string ⟨#[]⟩, .string ⟨#[]⟩] 32)) vb (numRest l) ⟨(n : Int), noneR, [], noneR, noneR, []⟩ :=
      ⟨blk_keep hR1 hcB id, hv1.keep hcB (fun _ _ => id), blk_keep hA1 hcB id, hB, hcu.trans hcB (fun _ _ h => h.elim), hRw, Nat.le_refl _, hAu, hDR, HD.out, hln⟩
    clear hcB hB hA1 hR1 hv1 hcu hAu hRw hDR hln HD
    obtain ⟨b0, b1, b2, b3, b4, b5, b6, b7, b8⟩ := cred_at_blk HS.bb
    simp only [Nat.zero_add, noneR] at b0 b1 b2 b3 b4 b5 b6 b7 b8
    obtain ⟨ao8, cp8, e8⟩ := HS.bt.shape
    subst e8
    have r0 := cell_blk HS.rd 0
    have r2 := cell_blk HS.rd 2
    have f2 := froz_blk HS.rd 2
    simp only [List.getElem?_toArray, List.getElem?_cons_zero, List.getElem?_cons_succ] at r0 r2
    generalize hA : w.heap.size = A at *
    have HA := hid hA
    clear hA
    go_wp2_with fail
    refine (fail_stops R 11 (.bool true) _ rfl r0 r2 f2).mono ?_
    rintro e w9 ⟨rfl, rfl⟩
    exact ⟨rfl, .inl ⟨_, HE.out, rfl, _, _, _, set_blk HS.rd 2 (.int .i64 11), HS.ch.trans (setCell_chg _ R 2 _) (fun _ _ h => h)⟩⟩

set_option maxRecDepth 100000 in
theorem pcget_bad {D : Nat → Prop} {R : Nat} {v : Value} {l : List UInt8} {w : World} (hl : l.length ≤ 140737488355328) (hv : BytesAt D w v l) (_ : ¬ D R) (_ : ∀ i, D i → i < w.heap.size) (hR : ReaderAt w R true v 0) (hb : numBad l ≠ 0) :
    Calls Try.prog 60 #[.pointer (some ⟨R, 0, none⟩)] w (GotPostC D R l w) := by
  have HE : Hid (credGet l = .bad (numBad l)) := hid (by rw [credGet, if_neg hb])
  have hcA : Chg (fun _ => False) w (w.alloc (.cells #[.int .i64 0, .string ⟨#[]⟩, .string ⟨#[]⟩, .string ⟨#[]⟩, .string ⟨#[]⟩, .string ⟨#[]⟩, .string ⟨#[]⟩, .string ⟨#[]⟩, .string ⟨#[]⟩] 32)) := (Chg.refl _ w).alloc _
  have hR1 : ReaderAt (w.alloc (.cells #[.int .i64 0, .string ⟨#[]⟩, .string ⟨#[]⟩, .string ⟨#[]⟩, .string ⟨#[]⟩, .string ⟨#[]⟩, .string ⟨#[]⟩, .string ⟨#[]⟩, .string ⟨#[]⟩] 32)) R true v 0 := blk_keep hR hcA id
  have hv1 := hv.keep hcA (fun _ _ => id)
  have hnum := rnum_stops (most := 9223372036854775807) (by omega) hv1 hR1 (by rw [errNum_most]; exact hb)
  rw [errNum_most] at hnum
  have HG := hid (And.intro hnum (hcA.mono (T := (· = R)) (fun _ _ h => h.elim)))
  clear hcA hR1 hv1 hnum hR hv hl hb
  go_enter Try.func60, Try.ntmps60
  go_wp2_with fail
  refine HG.out.1.mono ?_
  rintro e w9 ⟨rfl, ao9, m9, cp9, hr9, hc9⟩
  exact ⟨rfl, .inl ⟨_, HE.out, rfl, ao9, m9, cp9, hr9, HG.out.2.trans hc9 (fun _ _ h => h)⟩⟩

theorem pcget_any {D : Nat → Prop} {R : Nat} {v : Value} {l : List UInt8} {w : World} (hl : l.length ≤ 140737488355328) (hv : BytesAt D w v l) (hDR : ¬ D R) (hDl : ∀ i, D i → i < w.heap.size) (hR : ReaderAt w R true v 0) :
    Calls Try.prog 60 #[.pointer (some ⟨R, 0, none⟩)] w (GotPostC D R l w) := by
  by_cases hb : numBad l = 0
  · by_cases hk : 1 ≤ numOf l ∧ numOf l ≤ 4
    · have h4 : numOf l = 1 ∨ numOf l = 2 ∨ numOf l = 3 ∨ numOf l = 4 := by omega
      rcases h4 with h | h | h | h
      · exact pcget1 hl hv hDR hDl hR hb (by rw [h]; rfl)
      · exact pcget2 hl hv hDR hDl hR hb (by rw [h]; rfl)
      · exact pcget3 hl hv hDR hDl hR hb (by rw [h]; rfl)
      · exact pcget4 hl hv hDR hDl hR hb (by rw [h]; rfl)
    · exact pcget_off hl hv hDR hDl hR hb _ rfl hk
  · exact pcget_bad hl hv hDR hDl hR hb

end Go.Proofs.Ytcdjjengkdbngaa
