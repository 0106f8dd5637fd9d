/- Get of a formula that was put. -/
import Derived.Test.YtjaplnainlbldaaFr19
import Derived.Test.YtjaplnainlbldaaFr8
import Derived.Test.YtjaplnainlbldaaFr9
namespace Go.Proofs.Ytjaplnainlbldaa
open Go.RowKit

theorem store5 {w : World} {Z : Nat} {x0 x1 x2 x3 x4 : Value} {T : TypeId} (hz : w.heap[Z]? = some (.cells #[x0, x1, x2, x3, x4] T (0, 0))) (a0 a1 a2 a3 a4 : Value) :
    (((((w.setCell ⟨Z, 0, none⟩ a0).setCell ⟨Z, 1, none⟩ a1).setCell ⟨Z, 2, none⟩ a2).setCell ⟨Z, 3, none⟩ a3).setCell ⟨Z, 4, none⟩ a4).heap[Z]? = some (.cells #[a0, a1, a2, a3, a4] T (0, 0)) ∧
    Chg (· = Z) w (((((w.setCell ⟨Z, 0, none⟩ a0).setCell ⟨Z, 1, none⟩ a1).setCell ⟨Z, 2, none⟩ a2).setCell ⟨Z, 3, none⟩ a3).setCell ⟨Z, 4, none⟩ a4) := by
  refine ⟨?_, ((((setCell_chg w Z 0 a0).trans (setCell_chg _ Z 1 a1) (fun _ _ h => h)).trans (setCell_chg _ Z 2 a2) (fun _ _ h => h)).trans (setCell_chg _ Z 3 a3) (fun _ _ h => h)).trans (setCell_chg _ Z 4 a4) (fun _ _ h => h)⟩
  have h0 := set_blk hz 0 a0
  have h1 := set_blk h0 1 a1
  have h2 := set_blk h1 2 a2
  have h3 := set_blk h2 3 a3
  have h4 := set_blk h3 4 a4
  simpa using h4

/-- A kid that was read; a row of one. -/
def SpecR.exT (B1 : Nat) (g : FmB) : SpecR (Chg (fun k => k < B1)) :=
  ⟨fun v w => ∃ (t : AT) (ao2 : Option Addr) (n2 cp2 : Nat), eraseA t = g ∧ t.v = .slice ao2 n2 cp2 ∧ v = .agg #[.int .i64 t.op, .int .i64 t.k, .string ⟨t.r.1.toArray⟩, .string ⟨t.r.2.toArray⟩, .slice ao2 n2 cp2] ∧ OwnA B1 w t ∧ (blksA t).Nodup, fun _ _ _ hc ⟨t, a, n, c, h1, h2, h3, h4, h5⟩ => ⟨t, a, n, c, h1, h2, h3, ownA_keep hc t h4 (fun b hb h => by have := (ownA_lt t h4 b hb).1; omega), h5⟩⟩
def RowOne (B1 : Nat) (g : FmB) (b : Nat) (t : AT) (w : World) : Prop := w.heap[b]? = some (.cells (cellsA t).toArray 58 (0, 0)) ∧ B1 ≤ b ∧ eraseA t = g ∧ t.v.oneCell' = true ∧ OwnA B1 w t ∧ (blksA t).Nodup
def SpecR.exS2 (B1 : Nat) (g : FmB) : SpecR (Chg (fun k => k < B1)) :=
  ⟨fun v w => ∃ b t, v = .slice (some ⟨b, 0, none⟩) 1 1 ∧ RowOne B1 g b t w, fun _ _ _ hc ⟨b, t, h1, h2, h3, h4, h5, h6, h7⟩ => ⟨b, t, h1, blk_keep h2 hc (by omega), h3, h4, h5, ownA_keep hc t h6 (fun b hb h => by have := (ownA_lt t h6 b hb).1; omega), h7⟩⟩
theorem cellsA_v {t : AT} {s : Value} (h : t.v = s) : (cellsA t).toArray = #[.int .i64 t.op, .int .i64 t.k, .string ⟨t.r.1.toArray⟩, .string ⟨t.r.2.toArray⟩, s] := by
  unfold cellsA
  rw [h]
theorem encFs_drop (l : List FmB) (j : Nat) (h : j < l.length) : encFs (l.drop j) = encF l[j] ++ encFs (l.drop (j + 1)) := by
  rw [List.drop_eq_getElem_cons h, encFs]
/-- The node's K. -/
theorem GetSt.putK {w : World} {R c Y Z : Nat} {D : Nat → Prop} {op kk : Int} {N : Nat} {bs : List UInt8} {v : Value} {ts : List AT} {w' : World} (hb : GetBl w R c Y Z D) (h : GetSt w R c Y Z D op kk N bs v v ts w') (x : Int) : GetSt w R c Y Z D op x N bs v v ts (w'.setCell ⟨Y, 1, none⟩ (.int .i64 x)) := by
  obtain ⟨l1, l2, l3, l4, l5⟩ := h.lt
  have b1 := hb.lr
  have b2 := hb.lc
  have b3 := hb.lz
  have b4 := hb.zy
  have hc := setCell_chg w' Y 1 (.int .i64 x)
  obtain ⟨vb, k1, k2⟩ := h.rd
  refine ⟨?_, blk_keep h.z hc (fun e => by have : Z = Y := e; omega), ownsRow_keep h.row hc (fun k hk e => by have : k = Y := e; have := (l4 k hk).1; omega), ownL_keep hc h.own (fun k hk e => by have : k = Y := e; have := (l5 k hk).1; omega), h.nd, blk_keep h.cnt hc (fun e => by have : c = Y := e; omega), ⟨vb, k1.keep hc (fun i hi e => by have : i = Y := e; have := hb.d i hi; omega), blk_keep k2 hc (fun e => by have : R = Y := e; omega)⟩, h.chg.trans hc (fun i hi e => by have : i = Y := e; omega)⟩
  have := set_blk h.y 1 (.int .i64 x)
  simpa using this

set_option maxRecDepth 100000 in
set_option maxHeartbeats 8000000 in
theorem fm_get : ∀ (n : Nat) (f : FmB), nodesF f ≤ n → rightF f = true → ∀ {D : Nat → Prop} (R c N deep : Nat) (v0 : Value) (rest : List UInt8) (w : World), BytesAt D w v0 (encF f ++ rest) → ReaderAt w R true v0 0 → w.heap[c]? = some (.cells #[.int .i64 (N : Nat)] 3 (0, 0)) → ¬ D R → ¬ D c → (∀ i, D i → i < w.heap.size) → R ≠ c → N + nodesF f ≤ 64 → deep + deepF f ≤ 7 → (encF f ++ rest).length ≤ 140737488355328 →
    Calls Try.prog 66 #[.pointer (some ⟨R, 0, none⟩), .int .i64 (deep : Nat), .pointer (some ⟨c, 0, none⟩)] w fun e w' => ∃ t : AT, eraseA t = f ∧ e = .returned (.agg #[.int .i64 t.op, .int .i64 t.k, .string ⟨t.r.1.toArray⟩, .string ⟨t.r.2.toArray⟩, t.v]) ∧ OwnA w.heap.size w' t ∧ (blksA t).Nodup ∧ (∃ vb, BytesAt D w' vb rest ∧ ReaderAt w' R true vb 0) ∧ w'.heap[c]? = some (.cells #[.int .i64 (N + nodesF f : Nat)] 3 (0, 0)) ∧ Chg (fun k => k = R ∨ k = c) w w' := by
  intro n
  induction n with
  | zero => intro f hf; have := nodesF_pos f; omega
  | succ n ih =>
  intro f hf hr D R c N deep v0 rest w hv hR hcn hDR hDc hDl hRc hN hdp hlen
  have hnf := nodesF_eq f
  have hdf := deepF_eq f
  have hnl := nodesL_len f.kids
  obtain ⟨op, k, r, kids⟩ := f
  simp only [FmB.kids] at *
  rw [rightF, Bool.and_eq_true] at hr
  have HIN := hid ih
  have HRL := hid (rightL_mem hr.1)
  have hcase := rightN_op hr.2
  have hop : 1 ≤ op ∧ op ≤ 4 := by omega
  have ho : ((op.toNat : Nat) : Int) = op := Int.toNat_of_nonneg (by omega)
  obtain ⟨X, hX⟩ : ∃ X, X = (if op = 1 then roleEnc r else (if op = 4 then enc k.toNat else []) ++ (enc kids.length ++ encFs kids)) := ⟨_, rfl⟩
  have hE : encF (.mk op k r kids) ++ rest = enc op.toNat ++ (X ++ rest) := by rw [encF, ← hX, List.append_assoc]
  rw [hE] at hv hlen
  have hlen2 := hlen
  rw [List.length_append] at hlen2
  have hRl := lt_blk hR
  have hcl := lt_blk hcn
  have hcZ : Chg (fun _ => False) w (w.alloc (.cells #[.int .i64 0, .int .i64 0, .string ⟨#[]⟩, .string ⟨#[]⟩, .slice none 0 0] 58)) := (Chg.refl _ w).alloc _
  have hZ0 := heap_alloc_new w (.cells #[.int .i64 0, .int .i64 0, .string ⟨#[]⟩, .string ⟨#[]⟩, .slice none 0 0] 58)
  have hn := rnum_enc (D := D) (R := R) (m := op.toNat) (v := v0) (rest := X ++ rest) (most := 9223372036854775807) (w := (w.alloc (.cells #[.int .i64 0, .int .i64 0, .string ⟨#[]⟩, .string ⟨#[]⟩, .slice none 0 0] 58))) (by omega) (by omega) (by omega) (hv.keep hcZ (fun _ _ => id)) hDR (blk_keep hR hcZ id)
  rw [ho] at hn
  have HNUM := hid hn
  have HCZ := hid hcZ
  have HZ0 := hid hZ0
  have HCN := hid (blk_keep hcn hcZ id)
  have HB := hid (And.intro hDR (And.intro hDc (And.intro hDl (And.intro hRc (And.intro hRl hcl)))))
  have HXE := hid hX
  have HLEN := hid (show (X ++ rest).length ≤ 140737488355328 by omega)
  clear hv hR hcn hDR hDc hDl hn hcZ hZ0 hE hX hr ih ho hlen2
  go_enter Try.func66, Try.ntmps66
  go_wp2_with fail
  refine HNUM.out.mono ?_
  rintro e w1 ⟨rfl, vb1, hbv, hrd, hc1⟩
  have hsz : (w.alloc (.cells #[.int .i64 0, .int .i64 0, .string ⟨#[]⟩, .string ⟨#[]⟩, .slice none 0 0] 58)).heap.size = w.heap.size + 1 := by simp
  have hZ1 := blk_keep HZ0.out hc1 (fun e => by omega)
  have hcn1 := blk_keep HCN.out hc1 (fun e => hRc e.symm)
  have hch1 : Chg (fun k => k = R ∨ k = c) w w1 := (HCZ.out.none9 (S := fun k => k = R ∨ k = c)).trans hc1 (fun _ _ e => .inl e)
  have hcY : Chg (fun _ => False) w1 (w1.alloc (.cells #[.int .i64 op, .int .i64 0, .string ⟨#[]⟩, .string ⟨#[]⟩, .slice none 0 0] 58)) := (Chg.refl _ w1).alloc _
  have hcnY := blk_keep hcn1 hcY id
  have c0 := cell_blk hcnY 0
  have z0 := froz_blk hcnY 0
  have hcn2 := set_blk hcnY 0 (.int .i64 ((N : Int) + 1))
  have c1 := cell_blk hcn2 0
  have hne : w1.heap.size ≠ c := by have := lt_blk hcn1; omega
  have hsc := setCell_chg (w1.alloc (.cells #[.int .i64 op, .int .i64 0, .string ⟨#[]⟩, .string ⟨#[]⟩, .slice none 0 0] 58)) c 0 (.int .i64 ((N : Int) + 1))
  have hY := blk_keep (heap_alloc_new w1 (.cells #[.int .i64 op, .int .i64 0, .string ⟨#[]⟩, .string ⟨#[]⟩, .slice none 0 0] 58)) hsc (fun e => hne e)
  have hwr : IntKind.i64.wrap ((N : Int) + 1) = (N : Int) + 1 := by rw [IntKind.wrap_i64]; omega
  have hch2 : Chg (fun k => k = R ∨ k = c) w ((w1.alloc (.cells #[.int .i64 op, .int .i64 0, .string ⟨#[]⟩, .string ⟨#[]⟩, .slice none 0 0] 58)).setCell ⟨c, 0, none⟩ (.int .i64 ((N : Int) + 1))) := (hch1.trans hcY (fun _ _ h => h.elim)).trans hsc (fun _ _ e => .inr e)
  have hZ2 := blk_keep (blk_keep hZ1 hcY id) hsc (fun e => by have : w.heap.size = c := e; omega)
  have hbv2 := (hbv.keep hcY (fun _ _ => id)).keep hsc (fun i hi e => HB.out.2.1 (e ▸ hi))
  have hrd2 := blk_keep (blk_keep hrd hcY id) hsc hRc
  have hYw : w.heap.size < w1.heap.size := by have := hc1.size; omega
  simp only [List.getElem?_toArray, List.getElem?_cons_zero, List.setIfInBounds_toArray, List.set_cons_zero] at c0 c1 hcn2
  have a1 : decide (op < 1) = false := decide_eq_false (by omega)
  have a2 : decide ((4 : Int) < op) = false := decide_eq_false (by omega)
  have a3 : decide ((6 : Int) < (deep : Int)) = false := decide_eq_false (by omega)
  have a4 : decide ((64 : Int) < (N : Int) + 1) = false := decide_eq_false (by omega)
  have s0 := cell_blk hY 0
  have s1 := cell_blk hY 1
  have s2 := cell_blk hY 2
  have s3 := cell_blk hY 3
  have s4 := cell_blk hY 4
  simp only [List.getElem?_toArray, List.getElem?_cons_zero, List.getElem?_cons_succ] at s0 s1 s2 s3 s4
  have HS2 := hid (And.intro hY (And.intro hZ2 (And.intro hcn2 (And.intro hch2 (And.intro hbv2 (And.intro hrd2 hYw))))))
  clear hbv hrd hc1 hZ1 hcn1 hch1 hcY hcnY hcn2 hY hsc hch2 hZ2 hbv2 hrd2 hYw HNUM HCZ HZ0 HCN hsz
  rcases hcase with ⟨h1, h2, h3, h4⟩ | ⟨h1, h2, h3, h4⟩ | ⟨h1, h2, h3, h4, h5, h6⟩
  · subst h1 h4
    have hz : kids = [] := List.eq_nil_of_length_eq_zero h3
    subst hz
    clear h3
    obtain ⟨hYb, hZb, hcb, hchb, hbvb, hrdb, hYw⟩ := HS2.out
    have hXr : X = roleEnc r := by rw [HXE.out]; rfl
    rw [hXr] at hbvb
    have hsz9 := hchb.size
    obtain ⟨e1, e2, e3⟩ := role_enc h2 rest
    have hrg := pget_reads (D := D) (R := R) (l := roleEnc r ++ rest) (by have := HLEN.out; rw [hXr] at this; exact this) hbvb HB.out.1 (fun i hi => Nat.lt_of_lt_of_le (HB.out.2.2.1 i hi) hsz9) hrdb e1
    unfold GetOkR at hrg
    rw [e2, e3] at hrg
    have HRG := hid hrg
    clear hYb hZb hcb hchb hbvb hrdb hYw hrg e1 e2 e3 hsz9 hXr
    go_wp2_with fail
    refine HRG.out.mono ?_
    rintro e w3 ⟨rfl, vb3, hbv3, hrd3, hc3⟩
    obtain ⟨hYb, hZb, hcb, hchb, hbvb, hrdb, hYw⟩ := HS2.out
    have hY3 := blk_keep hYb hc3 (fun e => by omega)
    have hZ3 := blk_keep hZb hc3 (fun e => by omega)
    have hcn3 := blk_keep hcb hc3 (fun e => hRc e.symm)
    have hch3 := hchb.trans hc3 (fun _ _ e => .inl e)
    have y0 := cell_blk hY3 0
    have y1 := cell_blk hY3 1
    have y2 := cell_blk hY3 2
    have y3 := cell_blk hY3 3
    have y4 := cell_blk hY3 4
    have q2 := froz_blk hY3 2
    have q3 := froz_blk hY3 3
    have r0 := cell_blk hZ3 0
    have r1 := cell_blk hZ3 1
    have r2 := cell_blk hZ3 2
    have r3 := cell_blk hZ3 3
    have r4 := cell_blk hZ3 4
    have g0 := froz_blk hZ3 0
    have g1 := froz_blk hZ3 1
    have g2 := froz_blk hZ3 2
    have g3 := froz_blk hZ3 3
    have g4 := froz_blk hZ3 4
    simp only [List.getElem?_toArray, List.getElem?_cons_zero, List.getElem?_cons_succ] at y0 y1 y2 y3 y4 r0 r1 r2 r3 r4
    have HS3 := hid (And.intro hY3 (And.intro hZ3 (And.intro hcn3 (And.intro hch3 (And.intro hbv3 (And.intro hrd3 hYw))))))
    clear hYb hZb hcb hchb hbvb hrdb hYw hY3 hZ3 hcn3 hch3 hbv3 hrd3 hc3 HRG HS2
    have hzy : w.heap.size ≠ w1.heap.size := by have := HS3.out.2.2.2.2.2.2; omega
    have hyz : w1.heap.size ≠ w.heap.size := fun e => hzy e.symm
    have hrl := role_len h2
    unfold roleV
    go_wp2
    obtain ⟨hY3, hZ3, hcn3, hch3, hbv3, hrd3, hYw⟩ := HS3.out
    have hsa := setCell_chg w3 w1.heap.size 2 (.string ⟨r.1.toArray⟩)
    have hsb := setCell_chg (w3.setCell ⟨w1.heap.size, 2, none⟩ (.string ⟨r.1.toArray⟩)) w1.heap.size 3 (.string ⟨r.2.toArray⟩)
    have hcab := hsa.trans hsb (fun _ _ h => h)
    obtain ⟨hend, hcz⟩ := store5 (blk_keep hZ3 hcab hzy) (.int .i64 1) (.int .i64 0) (.string ⟨r.1.toArray⟩) (.string ⟨r.2.toArray⟩) (.slice none 0 0)
    refine bodyPost_ret (results_cell_row (P := Try.prog) rfl _ _ w.heap.size 58 _ (0, 0) _ rfl hend Try.underlying58 rfl (by kernel_rfl)) rfl ?_
    have hcY : ∀ i, i < w.heap.size → ¬ i = w1.heap.size := fun i hi e => by omega
    have hcZ : ∀ i, i < w.heap.size → ¬ i = w.heap.size := fun i hi e => by omega
    refine ⟨.mk 1 0 r (.slice none 0 0) [], rfl, rfl, ⟨⟨by omega, by omega⟩, World.ownsRow_nil _ _ _ _, trivial⟩, by simp [blksA, blksL, Value.ownBlock], ⟨vb3, (hbv3.keep hcab (fun i hi => hcY i (HB.out.2.2.1 i hi))).keep hcz (fun i hi => hcZ i (HB.out.2.2.1 i hi)), blk_keep (blk_keep hrd3 hcab (hcY _ (by omega))) hcz (hcZ _ (by omega))⟩, ?_, (hch3.trans hcab (fun i hi e => (hcY i hi e).elim)).trans hcz (fun i hi e => (hcZ i hi e).elim)⟩
    have := blk_keep (blk_keep hcn3 hcab (hcY _ (by omega))) hcz (hcZ _ (by omega))
    rw [this]
    rfl
  · have HO1 := hid (show ¬ op = 1 by omega)
    have z1 : (op == 1) = false := by have := HO1.out; simpa using this
    have y1 := HO1.out
    have HO4 := hid (show ¬ op = 4 by omega)
    have z4 : (op == 4) = false := by have := HO4.out; simpa using this
    have y4 := HO4.out
    have HK0 := hid h4
    subst h2
    obtain ⟨hYb, hZb, hcb, hchb, hbvb, hrdb, hYw⟩ := HS2.out
    have hXr : X = enc kids.length ++ encFs kids := by rw [HXE.out, if_neg HO1.out, if_neg HO4.out, List.nil_append]
    subst hXr
    have hsz9 := hchb.size
    have HBL : Hid (GetBl w R c w1.heap.size w.heap.size D) := hid ⟨hRc, hRl, hcl, Nat.le_refl _, hYw, HB.out.2.2.1, HB.out.1, HB.out.2.1⟩
    have HS : Hid (GetSt w R c w1.heap.size w.heap.size D op 0 (N + 1) (enc kids.length ++ encFs kids ++ rest) (.slice none 0 0) (.slice none 0 0) [] ((w1.alloc (.cells #[.int .i64 op, .int .i64 0, .string ⟨#[]⟩, .string ⟨#[]⟩, .slice none 0 0] 58)).setCell ⟨c, 0, none⟩ (.int .i64 ((N : Int) + 1)))) := hid ⟨hYb, hZb, World.ownsRow_nil _ _ _ _, trivial, by simp [blksL, Value.ownBlock], hcb, ⟨vb1, hbvb, hrdb⟩, hchb⟩
    have HBT : Hid (∀ j, j < kids.length → (encFs (kids.drop j) ++ rest).length ≤ 140737488355328) := hid (fun j hj => by
      have h1 := HLEN.out
      have h2 : (encFs (kids.drop j)).length ≤ (encFs kids).length := by
        have e : encFs kids = encFs (kids.take j) ++ encFs (kids.drop j) := by rw [← encFs_app, List.take_append_drop]
        rw [e, List.length_append]
        omega
      simp only [List.length_append] at h1 ⊢
      omega)
    clear hYb hZb hcb hchb hbvb hrdb HS2 h1 h4
    have hn3 : Calls Try.prog 97 #[.pointer (some ⟨R, 0, none⟩), .int .i64 8] ((w1.alloc (.cells #[.int .i64 op, .int .i64 0, .string ⟨#[]⟩, .string ⟨#[]⟩, .slice none 0 0] 58)).setCell ⟨c, 0, none⟩ (.int .i64 ((N : Int) + 1))) fun e w' => e = .returned (.int .i64 (kids.length : Nat)) ∧ ∃ v', BytesAt D w' v' (encFs kids ++ rest) ∧ ReaderAt w' R true v' 0 ∧ Chg (· = R) ((w1.alloc (.cells #[.int .i64 op, .int .i64 0, .string ⟨#[]⟩, .string ⟨#[]⟩, .slice none 0 0] 58)).setCell ⟨c, 0, none⟩ (.int .i64 ((N : Int) + 1))) w' := by
      obtain ⟨vb, q1, q2⟩ := HS.out.rd
      try simp only [List.append_assoc] at q1
      exact rnum_enc (by omega) (by omega) (by have := HLEN.out; simp only [List.length_append] at this ⊢; omega) q1 HB.out.1 q2
    have HNUM3 := hid hn3
    clear hn3
    go_wp2_with fail
    refine HNUM3.out.mono ?_
    rintro e w3 ⟨rfl, vb3, hbv3, hrd3, hc3⟩
    have HS3 := hid (GetSt.call HBL.out HS.out (bs' := encFs kids ++ rest) (hc3.mono (fun _ _ e => .inl e)) (blk_keep HS.out.cnt hc3 (fun e => hRc e.symm)) ⟨vb3, hbv3, hrd3⟩)
    clear hbv3 hrd3 hc3 HNUM3 HS
    clear s0 s1 s2 s3 s4 c0 c1 z0 a1 a2 a3 a4
    generalize w1.heap.size = Y at *
    go_wp2
    go_loopw [52] (fun i wr => ∃ (j : Nat) (v : Value) (ts : List AT), j ≤ kids.length ∧ i = .int .i64 j ∧ eraseL ts = kids.take j ∧ Hid (GetSt w R c Y w.heap.size D op 0 (N + 1 + nodesL (kids.take j)) (encFs (kids.drop j) ++ rest) (v) (v) (ts) wr)) (fun i _ => kids.length - (intOf i).toNat)
    case atStart => exact ⟨0, .slice none 0 0, [], Nat.zero_le _, rfl, rfl, hid (by simp only [List.take_zero, nodesL, List.drop_zero, Nat.add_zero]; exact HS3.out)⟩
    case round =>
      obtain ⟨j, v, ts, hj, rfl, hts, hst⟩ := hrel
      by_cases hlt : j < kids.length
      · have hdr := encFs_drop kids j hlt
        have htk := List.take_succ_eq_append_getElem hlt
        have hnt := nodesL_get kids j hlt
        have hnt2 := nodesL_take kids (j + 1)
        have hmem : kids[j] ∈ kids := List.getElem_mem hlt
        have hrg := HRL.out kids[j] hmem
        have hdg := deepL_mem hmem
        have htl : ts.length = j := by have := congrArg List.length hts; rw [eraseL_len, List.length_take] at this; omega
        have hpos := nodesF_pos kids[j]
        have hng := nodesL_mem hmem
        generalize kids[j] = g at *
        obtain ⟨bs2, hbs⟩ : ∃ bs2, bs2 = encFs (kids.drop (j + 1)) ++ rest := ⟨_, rfl⟩
        obtain ⟨N1, hN1⟩ : ∃ N1, N1 = N + 1 + nodesL (kids.take j) := ⟨_, rfl⟩
        have hst1 := hst.out
        rw [hdr, List.append_assoc, ← hbs, ← hN1] at hst1
        have hbl : (encF g ++ bs2).length ≤ 140737488355328 := by
          obtain ⟨vb, q1, _⟩ := hst1.rd
          have := encF_len g hrg
          have h3 := HBT.out j hlt
          rw [hdr, List.append_assoc, ← hbs] at h3
          exact h3
        have HN2 : Hid (∀ (P : Nat → List UInt8 → Prop), True) := hid (fun _ => trivial)
        clear HN2
        have HN2 : Hid ((N1 + nodesF g, bs2) = (N + 1 + nodesL (kids.take (j + 1)), encFs (kids.drop (j + 1)) ++ rest)) := hid (by rw [hN1, hnt, hbs, Nat.add_assoc])
        obtain ⟨ao, cp, hv, _, _⟩ := rowV_shape hst1.row
        obtain ⟨q, hq⟩ : ∃ q, q = ts.length := ⟨_, rfl⟩
        rw [← hq] at hv
        subst hv
        have HQ := hid hq
        have HST0 := hid hst1
        have HTS := hid hts
        have HTK := hid htk
        have HLT := hid hlt
        have HYL := hid hst1.lt.1
        have HWD : Hid (IntKind.i64.wrap ((deep : Int) + 1) = (deep : Int) + 1) := hid (by rw [IntKind.wrap_i64]; omega)
        have HCALL : Hid (∀ w9, (GetSt w R c Y w.heap.size D op 0 N1 (encF g ++ bs2) (.slice ao q cp) (.slice ao q cp) (ts) w9 ∧ Chg (fun _ => False) wr w9) → Calls Try.prog 66 #[.pointer (some ⟨R, 0, none⟩), .int .i64 ((deep : Int) + 1), .pointer (some ⟨c, 0, none⟩)] w9 fun e w2 => ∃ (t : AT) (ao2 : Option Addr) (n2 cp2 : Nat), eraseA t = g ∧ t.v = .slice ao2 n2 cp2 ∧ e = .returned (.agg #[.int .i64 t.op, .int .i64 t.k, .string ⟨t.r.1.toArray⟩, .string ⟨t.r.2.toArray⟩, .slice ao2 n2 cp2]) ∧ OwnA wr.heap.size w2 t ∧ (blksA t).Nodup ∧ (GetSt w R c Y w.heap.size D op 0 (N1 + nodesF g) (bs2) (.slice ao q cp) (.slice ao q cp) (ts) w2 ∧ wr.heap.size ≤ w2.heap.size) ∧ Chg (fun k => k < wr.heap.size) w9 w2) := hid (fun w9 h9 => by
          obtain ⟨h9, hc9⟩ := h9
          obtain ⟨vb, q1, q2⟩ := h9.rd
          have hl9 := h9.lt
          have hl1 := hst1.lt
          have hbb := HBL.out
          refine (HIN.out g (by omega) hrg R c N1 (deep + 1) vb bs2 w9 q1 q2 h9.cnt hbb.dr hbb.dc (fun i hi => Nat.lt_of_lt_of_le (hbb.d i hi) hl9.2.2.1) hbb.rc (by omega) (by omega) hbl).mono ?_
          rintro e w2 ⟨t, k1, rfl, k2, k3, k4, k5, k6⟩
          obtain ⟨ao2, cp2, k7, _⟩ := own_fms k2
          have hs := hc9.size
          exact ⟨t, ao2, _, cp2, k1, k7, by rw [k7], ownA_low hs t k2, k3, ⟨GetSt.call hbb h9 k6 k5 k4, Nat.le_trans hs k6.size⟩, k6.mono (fun i _ e => by have := hbb.lr; have := hbb.lc; have := hl1.2.2.1; rcases e with rfl | rfl <;> omega)⟩)
        have HAPP : Hid (∀ w9 b t, (GetSt w R c Y w.heap.size D op 0 (N1 + nodesF g) (bs2) (.slice ao q cp) (.slice ao q cp) (ts) w9 ∧ wr.heap.size ≤ w9.heap.size) → RowOne wr.heap.size g b t w9 → ∃ v2 w5, (Builtin.append_ #[56, 56] 56 #[.slice ao q cp, .slice (some ⟨b, 0, none⟩) 1 1]).run Try.prog w9 = .ok v2 w5 ∧ (∃ t, eraseA t = g ∧ GetSt w R c Y w.heap.size D op 0 (N1 + nodesF g) (bs2) (.slice ao q cp) (v2) (ts ++ [t]) w5 ∧ wr.heap.size ≤ w5.heap.size) ∧ Chg (fun k => k < wr.heap.size) w9 w5) := hid (fun w9 b t h9 hro => by
          obtain ⟨h9, hs9⟩ := h9
          obtain ⟨m1, m2, m3, m4, m5, m6⟩ := hro
          have hl9 := h9.lt
          have hl1 := hst1.lt
          obtain ⟨v2, w5, a1, a2, a3, a4⟩ := run_append_fm 56 h9.row m1 m4 (by omega) (by omega)
          exact ⟨v2, w5, a1, ⟨t, m3, GetSt.app HBL.out h9 ⟨by omega, by omega, fun k hk => (hl1.2.2.2.1 k hk).2, fun k hk => (hl1.2.2.2.2 k hk).2⟩ m5 m6 a2 a3 a4, Nat.le_trans hs9 a3.size⟩, a3.mono (fun i _ e => (hl1.2.2.2.1 i e).2)⟩)
        clear hdr htk hnt hnt2 hmem hrg hdg hpos hng hbs hN1 hst hst1 hbl hq hts htl
        go_wp2
        refine wp_region_stateAD (Chg (fun k => k < wr.heap.size)) (Trio 6 8 10 62 (fun w9 => GetSt w R c Y w.heap.size D op 0 N1 (encF g ++ bs2) (.slice ao q cp) (.slice ao q cp) (ts) w9 ∧ Chg (fun _ => False) wr w9) (fun w9 => GetSt w R c Y w.heap.size D op 0 (N1 + nodesF g) (bs2) (.slice ao q cp) (.slice ao q cp) (ts) w9 ∧ wr.heap.size ≤ w9.heap.size) (fun v9 w9 => ∃ t, eraseA t = g ∧ GetSt w R c Y w.heap.size D op 0 (N1 + nodesF g) (bs2) (.slice ao q cp) (v9) (ts ++ [t]) w9 ∧ wr.heap.size ≤ w9.heap.size) (fun w9 => ∃ t v9, eraseA t = g ∧ GetSt w R c Y w.heap.size D op 0 (N1 + nodesF g) (bs2) (v9) (v9) (ts ++ [t]) w9)) (specAtR [.eq (.pointer (some ⟨R, 0, none⟩)), .eq (.int .i64 (deep : Nat)), .eq (.pointer (some ⟨c, 0, none⟩)), .any, .any, .any, .any, .eq (.pointer (some ⟨Y, 0, none⟩)), .any, .any, .any, .any, .any, .any, .any, .any, .any, .any, .any, .any, .any, .any, .any, .any, .any, .any, .any, .any, .any, .any, .any, .any, .any, .any, .any, .any, .any, .any, .any, .any, .any, .any, .any, .any, .any, .any, .any, .any, .any, .any, .any, .any, .any, .any, .eq (.pointer (some ⟨Y, 4, none⟩)), .eq (.slice ao q cp), .eq (.pointer (some ⟨R, 0, none⟩)), .eq (.int .i64 (deep : Nat)), .eq (.int .i64 ((deep : Int) + 1)), .eq (.pointer (some ⟨c, 0, none⟩)), .exT wr.heap.size g, .exS2 wr.heap.size g, .any, .eq (.pointer (some ⟨Y, 4, none⟩)), .any, .any]) [54, 55, 56, 57, 58, 59, 60, 61, 62, 63] [0, 1, 2, 7] (by kernel_rfl) (by kernel_rfl) (Trio.start (show (62 : Nat) < 66 by decide) ⟨HST0.out.quiet ((Chg.refl _ _).drew), (Chg.refl _ _).drew⟩) (fun t v w w' hc h => specAtR_st _ t v w w' hc h) (by rfl) (by kernel_rfl) ?starta ?obsa ?fina
        case starta =>
          simp only [List.forall_mem_cons]; exact ⟨⟨_, rfl, rfl⟩, ⟨_, rfl, rfl⟩, ⟨_, rfl, rfl⟩, ⟨_, rfl, rfl⟩, fun _ h => by cases h⟩
        case obsa =>
          skip
          refine ObsAD.cons none (by kernel_rfl) ?_ ?_
          · refine ObAD.plain fun L a w hi he hD hW hk K k => ?_
            obtain ⟨_, e7, rfl⟩ := hk 7 (by decide)
            clear hk
            have hS := hid (fun (v : Value) (w2 : World) (hc : Chg (fun _ => False) w w2) => hW.step (j := 0) (d := (some 54)) v (by decide) hc (fun _ _ h c => ⟨h.1.quiet c, h.2.trans c (fun _ _ h => h)⟩) (fun _ _ h c => ⟨h.1.quiet c, Nat.le_trans h.2 c.size⟩) (fun _ _ _ h c => by obtain ⟨t, h1, h2, h3⟩ := h; exact ⟨t, h1, h2.quiet c, Nat.le_trans h3 c.size⟩) (fun _ _ h c => by obtain ⟨t, v9, h1, h2⟩ := h; exact ⟨t, v9, h1, h2.quiet c⟩))
            clear hi he hW hD
            go_simp
            exact k _ _ (Chg.refl _ _) (hS.out _ _ (Chg.refl _ _)) rfl
          refine ObsAD.cons none (by kernel_rfl) ?_ ?_
          · refine ObAD.plain fun L a w hi he hD hW hk K k => ?_
            obtain ⟨_, e54, rfl⟩ := hk 54 (by decide)
            clear hk
            have hB := hW.early (by decide) hi (B := fun w9 => w9.heap[Y]? = some (.cells #[.int .i64 op, .int .i64 0, .string ⟨#[]⟩, .string ⟨#[]⟩, .slice ao q cp] 58 (0, 0))) (fun w h => h.1.y) (fun w h => h.1.y) (fun x w h => by obtain ⟨t, _, h, _⟩ := h; exact h.y)
            have f4 : w.cell? ⟨Y, 4, none⟩ = some (.slice ao q cp) := cell_blk hB 4
            clear hB
            have hS := hid (fun (v : Value) (w2 : World) (hc : Chg (fun _ => False) w w2) => hW.step (j := 1) (d := (some 55)) v (by decide) hc (fun _ _ h c => ⟨h.1.quiet c, h.2.trans c (fun _ _ h => h)⟩) (fun _ _ h c => ⟨h.1.quiet c, Nat.le_trans h.2 c.size⟩) (fun _ _ _ h c => by obtain ⟨t, h1, h2, h3⟩ := h; exact ⟨t, h1, h2.quiet c, Nat.le_trans h3 c.size⟩) (fun _ _ h c => by obtain ⟨t, v9, h1, h2⟩ := h; exact ⟨t, v9, h1, h2.quiet c⟩))
            clear hi he hW hD
            go_simp
            exact k _ _ (Chg.refl _ _) (hS.out _ _ (Chg.refl _ _)) rfl
          refine ObsAD.cons none (by kernel_rfl) ?_ ?_
          · refine ObAD.plain fun L a w hi he hD hW hk K k => ?_
            obtain ⟨_, e0, rfl⟩ := hk 0 (by decide)
            clear hk
            have hS := hid (fun (v : Value) (w2 : World) (hc : Chg (fun _ => False) w w2) => hW.step (j := 2) (d := (some 56)) v (by decide) hc (fun _ _ h c => ⟨h.1.quiet c, h.2.trans c (fun _ _ h => h)⟩) (fun _ _ h c => ⟨h.1.quiet c, Nat.le_trans h.2 c.size⟩) (fun _ _ _ h c => by obtain ⟨t, h1, h2, h3⟩ := h; exact ⟨t, h1, h2.quiet c, Nat.le_trans h3 c.size⟩) (fun _ _ h c => by obtain ⟨t, v9, h1, h2⟩ := h; exact ⟨t, v9, h1, h2.quiet c⟩))
            clear hi he hW hD
            go_simp
            exact k _ _ (Chg.refl _ _) (hS.out _ _ (Chg.refl _ _)) rfl
          refine ObsAD.cons none (by kernel_rfl) ?_ ?_
          · refine ObAD.plain fun L a w hi he hD hW hk K k => ?_
            obtain ⟨_, e1, rfl⟩ := hk 1 (by decide)
            clear hk
            have hS := hid (fun (v : Value) (w2 : World) (hc : Chg (fun _ => False) w w2) => hW.step (j := 3) (d := (some 57)) v (by decide) hc (fun _ _ h c => ⟨h.1.quiet c, h.2.trans c (fun _ _ h => h)⟩) (fun _ _ h c => ⟨h.1.quiet c, Nat.le_trans h.2 c.size⟩) (fun _ _ _ h c => by obtain ⟨t, h1, h2, h3⟩ := h; exact ⟨t, h1, h2.quiet c, Nat.le_trans h3 c.size⟩) (fun _ _ h c => by obtain ⟨t, v9, h1, h2⟩ := h; exact ⟨t, v9, h1, h2.quiet c⟩))
            clear hi he hW hD
            go_simp
            exact k _ _ (Chg.refl _ _) (hS.out _ _ (Chg.refl _ _)) rfl
          refine ObsAD.cons none (by kernel_rfl) ?_ ?_
          · refine ObAD.plain fun L a w hi he hD hW hk K k => ?_
            obtain ⟨_, e57, rfl⟩ := hk 57 (by decide)
            clear hk
            have e9 := HWD.out
            have hS := hid (fun (v : Value) (w2 : World) (hc : Chg (fun _ => False) w w2) => hW.step (j := 4) (d := (some 58)) v (by decide) hc (fun _ _ h c => ⟨h.1.quiet c, h.2.trans c (fun _ _ h => h)⟩) (fun _ _ h c => ⟨h.1.quiet c, Nat.le_trans h.2 c.size⟩) (fun _ _ _ h c => by obtain ⟨t, h1, h2, h3⟩ := h; exact ⟨t, h1, h2.quiet c, Nat.le_trans h3 c.size⟩) (fun _ _ h c => by obtain ⟨t, v9, h1, h2⟩ := h; exact ⟨t, v9, h1, h2.quiet c⟩))
            clear hi he hW hD
            go_simp
            exact k _ _ (Chg.refl _ _) (hS.out _ _ (Chg.refl _ _)) rfl
          refine ObsAD.cons none (by kernel_rfl) ?_ ?_
          · refine ObAD.plain fun L a w hi he hD hW hk K k => ?_
            obtain ⟨_, e2, rfl⟩ := hk 2 (by decide)
            clear hk
            have hS := hid (fun (v : Value) (w2 : World) (hc : Chg (fun _ => False) w w2) => hW.step (j := 5) (d := (some 59)) v (by decide) hc (fun _ _ h c => ⟨h.1.quiet c, h.2.trans c (fun _ _ h => h)⟩) (fun _ _ h c => ⟨h.1.quiet c, Nat.le_trans h.2 c.size⟩) (fun _ _ _ h c => by obtain ⟨t, h1, h2, h3⟩ := h; exact ⟨t, h1, h2.quiet c, Nat.le_trans h3 c.size⟩) (fun _ _ h c => by obtain ⟨t, v9, h1, h2⟩ := h; exact ⟨t, v9, h1, h2.quiet c⟩))
            clear hi he hW hD
            go_simp
            exact k _ _ (Chg.refl _ _) (hS.out _ _ (Chg.refl _ _)) rfl
          refine ObsAD.cons none (by kernel_rfl) ?_ ?_
          · refine ObAD.plain fun L a w hi he hD hW hk K k => ?_
            obtain ⟨_, e56, rfl⟩ := hk 56 (by decide)
            obtain ⟨_, e58, rfl⟩ := hk 58 (by decide)
            obtain ⟨_, e59, rfl⟩ := hk 59 (by decide)
            clear hk
            have h0 := hW.p0 hi
            have hq := HCALL.out w h0
            have HS := hid hW
            clear h0 he hD hW
            go_simp
            refine hq.mono ?_
            rintro e w5 ⟨t, ao2, n2, cp2, h1, h2, rfl, h3, h4, h5, h6⟩
            exact k _ _ h6 (HS.out.zeroth (by decide) (by decide) hi h5) ⟨t, ao2, n2, cp2, h1, h2, rfl, h3, h4⟩
          refine ObsAD.cons none (by kernel_rfl) ?_ ?_
          · refine ObAD.plain fun L a w hi he hD hW hk K k => ?_
            obtain ⟨_, e60, f60⟩ := hk 60 (by decide)
            clear hk
            obtain ⟨t, ao2, n2, cp2, h1, h2, rfl, h3, h4⟩ := f60
            have hsz := hW.early (by decide) hi (B := fun w9 => wr.heap.size ≤ w9.heap.size) (fun w h => h.2.size) (fun w h => h.2) (fun x w h => by obtain ⟨t, _, _, h⟩ := h; exact h)
            have HR1 : Hid (RowOne wr.heap.size g w.heap.size t (w.alloc (.cells #[.int .i64 t.op, .int .i64 t.k, .string ⟨t.r.1.toArray⟩, .string ⟨t.r.2.toArray⟩, .slice ao2 n2 cp2] 58))) := hid ⟨by have := heap_alloc_new w (.cells #[.int .i64 t.op, .int .i64 t.k, .string ⟨t.r.1.toArray⟩, .string ⟨t.r.2.toArray⟩, .slice ao2 n2 cp2] 58); rw [cellsA_v h2]; exact this, hsz, h1, by rw [h2]; rfl, ownA_keep ((Chg.refl (fun _ => False) w).alloc _) t h3 (fun _ _ => id), h4⟩
            clear h1 h2 h3 h4 hsz
            have hS := hid (fun (v : Value) (w2 : World) (hc : Chg (fun _ => False) w w2) => hW.step (j := 7) (d := (some 61)) v (by decide) hc (fun _ _ h c => ⟨h.1.quiet c, h.2.trans c (fun _ _ h => h)⟩) (fun _ _ h c => ⟨h.1.quiet c, Nat.le_trans h.2 c.size⟩) (fun _ _ _ h c => by obtain ⟨t, h1, h2, h3⟩ := h; exact ⟨t, h1, h2.quiet c, Nat.le_trans h3 c.size⟩) (fun _ _ h c => by obtain ⟨t, v9, h1, h2⟩ := h; exact ⟨t, v9, h1, h2.quiet c⟩))
            clear hi he hW hD
            go_simp
            exact k _ _ (Chg.none9 ((Chg.refl _ _).alloc _)) (hS.out _ _ ((Chg.refl _ _).alloc _)) ⟨_, t, rfl, HR1.out⟩
          refine ObsAD.cons none (by kernel_rfl) ?_ ?_
          · refine ObAD.plain fun L a w hi he hD hW hk K k => ?_
            obtain ⟨_, e55, rfl⟩ := hk 55 (by decide)
            obtain ⟨_, e61, f61⟩ := hk 61 (by decide)
            clear hk
            have hall := behind_all (n := 8) hD rfl he (by kernel_rfl)
            obtain ⟨b9, t9, rfl, hro⟩ := f61
            obtain ⟨v2, w5, hr, hF, hS⟩ := HAPP.out w b9 t9 (hW.p1 (hall 6 (by decide)) hi) hro
            clear he hD
            refine ob_appendK 56 rfl e55 e61 hr ?_
            exact k _ _ hS (hW.first (by decide) (by decide) (hall 6 (by decide)) hi hF) trivial
          refine ObsAD.cons none (by kernel_rfl) ?_ ?_
          · refine ObAD.plain fun L a w hi he hD hW hk K k => ?_
            obtain ⟨_, e7, rfl⟩ := hk 7 (by decide)
            clear hk
            have hS := hid (fun (v : Value) (w2 : World) (hc : Chg (fun _ => False) w w2) => hW.step (j := 9) (d := (some 63)) v (by decide) hc (fun _ _ h c => ⟨h.1.quiet c, h.2.trans c (fun _ _ h => h)⟩) (fun _ _ h c => ⟨h.1.quiet c, Nat.le_trans h.2 c.size⟩) (fun _ _ _ h c => by obtain ⟨t, h1, h2, h3⟩ := h; exact ⟨t, h1, h2.quiet c, Nat.le_trans h3 c.size⟩) (fun _ _ h c => by obtain ⟨t, v9, h1, h2⟩ := h; exact ⟨t, v9, h1, h2.quiet c⟩))
            clear hi he hW hD
            go_simp
            exact k _ _ (Chg.refl _ _) (hS.out _ _ (Chg.refl _ _)) rfl
          refine ObsAD.cons none (by kernel_rfl) ?_ ?_
          · refine ObAD.plain fun L a w hi he hD hW hk K k => ?_
            obtain ⟨_, e63, rfl⟩ := hk 63 (by decide)
            clear hk
            have hall := behind_all (n := 10) hD rfl he (by kernel_rfl)
            obtain ⟨v2, e62, hF⟩ := hW.p2 (hall 8 (by decide)) hi
            obtain ⟨t9, k1, k2, k3⟩ := hF
            obtain ⟨ao9, cp9, hv9, _, _⟩ := rowV_shape k2.row
            obtain ⟨q9, hq9⟩ : ∃ q9, q9 = (ts ++ [t9]).length := ⟨_, rfl⟩
            rw [← hq9] at hv9
            clear hq9
            subst hv9
            have f4 : w.cell? ⟨Y, 4, none⟩ = some (.slice ao q cp) := cell_blk k2.y 4
            have z4 := froz_blk k2.y 4
            obtain ⟨p1, p2⟩ := GetSt.put HBL.out k2
            have HS := hid (And.intro hW (And.intro hall (And.intro k1 (And.intro p1 p2))))
            have HYB := hid k3
            clear hall he hD hW hi k1 k2 k3 p1 p2
            go_simp
            exact k undef _ (HS.out.2.2.2.2.mono (fun i _ e => by have : i = Y := e; have := HYL.out; omega)) (HS.out.1.second (by decide) (by decide) HS.out.2.1 ⟨t9, _, HS.out.2.2.1, HS.out.2.2.2.1⟩) trivial
          exact ObsAD.nil
        case fina =>
          intro L vals w9 hL hWL hv
          have HEND := hid (hWL.p3 (hL 10 (by decide)))
          clear hL hWL hv
          simp only [putAll, List.setIfInBounds_toArray, List.set_cons_zero, List.set_cons_succ]
          go_wp2
          go_roundw
          case rel =>
            obtain ⟨t9, v9, k1, k2⟩ := HEND.out
            exact ⟨j + 1, v9, ts ++ [t9], HLT.out, by go_num, by rw [eraseL_map, List.map_append, ← eraseL_map, HTS.out, List.map_cons, List.map_nil, k1, HTK.out], hid (by obtain ⟨e1, e2⟩ := Prod.mk.inj HN2.out; rw [← e1, ← e2]; exact k2)⟩
          case measure => have := HLT.out; simp [intOf]; omega
      · have hje : j = kids.length := by omega
        have hst1 := hst.out
        rw [hje, List.take_length, List.drop_length] at hst1
        rw [hje, List.take_length] at hts
        have HTS := hid hts
        have HST1 := hid hst1
        obtain ⟨ao, cp, hv, _, _⟩ := rowV_shape hst1.row
        obtain ⟨q, hq⟩ : ∃ q, q = ts.length := ⟨_, rfl⟩
        rw [← hq] at hv
        subst hv
        have HQ := hid hq
        have y0 := cell_blk hst1.y 0
        have y1 := cell_blk hst1.y 1
        have y2 := cell_blk hst1.y 2
        have y3 := cell_blk hst1.y 3
        have y4 := cell_blk hst1.y 4
        have r0 := cell_blk hst1.z 0
        have r1 := cell_blk hst1.z 1
        have r2 := cell_blk hst1.z 2
        have r3 := cell_blk hst1.z 3
        have r4 := cell_blk hst1.z 4
        have g0 := froz_blk hst1.z 0
        have g1 := froz_blk hst1.z 1
        have g2 := froz_blk hst1.z 2
        have g3 := froz_blk hst1.z 3
        have g4 := froz_blk hst1.z 4
        simp only [List.getElem?_toArray, List.getElem?_cons_zero, List.getElem?_cons_succ] at y0 y1 y2 y3 y4 r0 r1 r2 r3 r4
        clear hst hst1 hts hje hq
        go_wp2
        obtain ⟨hend, hcz⟩ := store5 HST1.out.z (.int .i64 op) (.int .i64 0) (.string ⟨#[]⟩) (.string ⟨#[]⟩) (.slice ao q cp)
        refine bodyPost_ret (results_cell_row (P := Try.prog) rfl _ _ w.heap.size 58 _ (0, 0) _ rfl hend Try.underlying58 rfl (by kernel_rfl)) rfl ?_
        have hcZ : ∀ i, i < w.heap.size → ¬ i = w.heap.size := fun i hi e => by omega
        obtain ⟨vb, q1, q2⟩ := HST1.out.rd
        have hl := HST1.out.lt
        have hbb := HBL.out
        refine ⟨.mk op 0 ([], []) (.slice ao q cp) ts, by rw [eraseA, HTS.out, HK0.out], rfl, ⟨⟨by simp, by simp⟩, ?_, ?_⟩, HST1.out.nd, ⟨vb, q1.keep hcz (fun i hi => hcZ i (hbb.d i hi)), blk_keep q2 hcz (hcZ _ hbb.lr)⟩, ?_, HST1.out.chg.trans hcz (fun i hi e => (hcZ i hi e).elim)⟩
        · exact ownsRow_lowK (ownsRow_keep HST1.out.row hcz (fun k hk e => by have := (hl.2.2.2.1 k hk).1; have := hbb.zy; have : k = w.heap.size := e; omega)) (by have := hbb.zy; omega)
        · exact ownL_low (by have := hbb.zy; omega) (ownL_keep hcz HST1.out.own (fun k hk e => by have := (hl.2.2.2.2 k hk).1; have := hbb.zy; have : k = w.heap.size := e; omega))
        · have := blk_keep HST1.out.cnt hcz (hcZ _ hbb.lc)
          rw [this, nodesF, Nat.add_assoc]
  · have HO1 := hid (show ¬ op = 1 by omega)
    have z1 : (op == 1) = false := by have := HO1.out; simpa using this
    have y1 := HO1.out
    have HO4 := hid h1
    have z4 : (op == 4) = true := by have := HO4.out; simpa using this
    subst h2
    obtain ⟨hYb, hZb, hcb, hchb, hbvb, hrdb, hYw⟩ := HS2.out
    have hXr : X = enc k.toNat ++ (enc kids.length ++ encFs kids) := by rw [HXE.out, if_neg HO1.out, if_pos HO4.out]
    subst hXr
    have hsz9 := hchb.size
    have HBL : Hid (GetBl w R c w1.heap.size w.heap.size D) := hid ⟨hRc, hRl, hcl, Nat.le_refl _, hYw, HB.out.2.2.1, HB.out.1, HB.out.2.1⟩
    have HS : Hid (GetSt w R c w1.heap.size w.heap.size D op 0 (N + 1) (enc k.toNat ++ (enc kids.length ++ encFs kids) ++ rest) (.slice none 0 0) (.slice none 0 0) [] ((w1.alloc (.cells #[.int .i64 op, .int .i64 0, .string ⟨#[]⟩, .string ⟨#[]⟩, .slice none 0 0] 58)).setCell ⟨c, 0, none⟩ (.int .i64 ((N : Int) + 1)))) := hid ⟨hYb, hZb, World.ownsRow_nil _ _ _ _, trivial, by simp [blksL, Value.ownBlock], hcb, ⟨vb1, hbvb, hrdb⟩, hchb⟩
    have HBT : Hid (∀ j, j < kids.length → (encFs (kids.drop j) ++ rest).length ≤ 140737488355328) := hid (fun j hj => by
      have h1 := HLEN.out
      have h2 : (encFs (kids.drop j)).length ≤ (encFs kids).length := by
        have e : encFs kids = encFs (kids.take j) ++ encFs (kids.drop j) := by rw [← encFs_app, List.take_append_drop]
        rw [e, List.length_append]
        omega
      simp only [List.length_append] at h1 ⊢
      omega)
    clear hYb hZb hcb hchb hbvb hrdb HS2 h1
    have hn3 : Calls Try.prog 97 #[.pointer (some ⟨R, 0, none⟩), .int .i64 8] ((w1.alloc (.cells #[.int .i64 op, .int .i64 0, .string ⟨#[]⟩, .string ⟨#[]⟩, .slice none 0 0] 58)).setCell ⟨c, 0, none⟩ (.int .i64 ((N : Int) + 1))) fun e w' => e = .returned (.int .i64 k) ∧ ∃ v', BytesAt D w' v' (enc kids.length ++ (encFs kids ++ rest)) ∧ ReaderAt w' R true v' 0 ∧ Chg (· = R) ((w1.alloc (.cells #[.int .i64 op, .int .i64 0, .string ⟨#[]⟩, .string ⟨#[]⟩, .slice none 0 0] 58)).setCell ⟨c, 0, none⟩ (.int .i64 ((N : Int) + 1))) w' := by
      obtain ⟨vb, q1, q2⟩ := HS.out.rd
      try simp only [List.append_assoc] at q1
      have e8 : ((k.toNat : Nat) : Int) = k := Int.toNat_of_nonneg (by omega)
      rw [← e8]
      exact rnum_enc (by omega) (by omega) (by have := HLEN.out; simp only [List.length_append] at this ⊢; omega) q1 HB.out.1 q2
    have HNUM3 := hid hn3
    clear hn3
    go_wp2_with fail
    refine HNUM3.out.mono ?_
    rintro e w3 ⟨rfl, vb3, hbv3, hrd3, hc3⟩
    have HS3 := hid (GetSt.call HBL.out HS.out (bs' := enc kids.length ++ (encFs kids ++ rest)) (hc3.mono (fun _ _ e => .inl e)) (blk_keep HS.out.cnt hc3 (fun e => hRc e.symm)) ⟨vb3, hbv3, hrd3⟩)
    clear hbv3 hrd3 hc3 HNUM3 HS
    clear s0 s1 s2 s3 s4 c0 c1 z0 a1 a2 a3 a4
    have HS4 := hid (GetSt.putK HBL.out HS3.out k)
    have y0 := cell_blk HS3.out.y 0
    have y1c := cell_blk HS3.out.y 1
    have q1 := froz_blk HS3.out.y 1
    simp only [List.getElem?_toArray, List.getElem?_cons_zero, List.getElem?_cons_succ] at y0 y1c
    have hn5 : Calls Try.prog 97 #[.pointer (some ⟨R, 0, none⟩), .int .i64 8] (w3.setCell ⟨w1.heap.size, 1, none⟩ (.int .i64 k)) fun e w' => e = .returned (.int .i64 (kids.length : Nat)) ∧ ∃ v', BytesAt D w' v' (encFs kids ++ rest) ∧ ReaderAt w' R true v' 0 ∧ Chg (· = R) (w3.setCell ⟨w1.heap.size, 1, none⟩ (.int .i64 k)) w' := by
      obtain ⟨vb, q1, q2⟩ := HS4.out.rd
      try simp only [List.append_assoc] at q1
      exact rnum_enc (by omega) (by omega) (by have := HLEN.out; simp only [List.length_append] at this ⊢; omega) q1 HB.out.1 q2
    have HNUM5 := hid hn5
    clear hn5
    clear HS3
    go_wp2_with fail
    refine HNUM5.out.mono ?_
    rintro e w5 ⟨rfl, vb5, hbv5, hrd5, hc5⟩
    have HS5 := hid (GetSt.call HBL.out HS4.out (bs' := encFs kids ++ rest) (hc5.mono (fun _ _ e => .inl e)) (blk_keep HS4.out.cnt hc5 (fun e => hRc e.symm)) ⟨vb5, hbv5, hrd5⟩)
    clear hbv5 hrd5 hc5 HNUM5 HS4 y0 y1c q1
    generalize w1.heap.size = Y at *
    generalize hkI : k = kI at *
    have HKI := hid hkI
    clear hkI
    go_wp2
    go_loopw [52] (fun i wr => ∃ (j : Nat) (v : Value) (ts : List AT), j ≤ kids.length ∧ i = .int .i64 j ∧ eraseL ts = kids.take j ∧ Hid (GetSt w R c Y w.heap.size D op kI (N + 1 + nodesL (kids.take j)) (encFs (kids.drop j) ++ rest) (v) (v) (ts) wr)) (fun i _ => kids.length - (intOf i).toNat)
    case atStart => exact ⟨0, .slice none 0 0, [], Nat.zero_le _, rfl, rfl, hid (by simp only [List.take_zero, nodesL, List.drop_zero, Nat.add_zero]; exact HS5.out)⟩
    case round =>
      obtain ⟨j, v, ts, hj, rfl, hts, hst⟩ := hrel
      by_cases hlt : j < kids.length
      · have hdr := encFs_drop kids j hlt
        have htk := List.take_succ_eq_append_getElem hlt
        have hnt := nodesL_get kids j hlt
        have hnt2 := nodesL_take kids (j + 1)
        have hmem : kids[j] ∈ kids := List.getElem_mem hlt
        have hrg := HRL.out kids[j] hmem
        have hdg := deepL_mem hmem
        have htl : ts.length = j := by have := congrArg List.length hts; rw [eraseL_len, List.length_take] at this; omega
        have hpos := nodesF_pos kids[j]
        have hng := nodesL_mem hmem
        generalize kids[j] = g at *
        obtain ⟨bs2, hbs⟩ : ∃ bs2, bs2 = encFs (kids.drop (j + 1)) ++ rest := ⟨_, rfl⟩
        obtain ⟨N1, hN1⟩ : ∃ N1, N1 = N + 1 + nodesL (kids.take j) := ⟨_, rfl⟩
        have hst1 := hst.out
        rw [hdr, List.append_assoc, ← hbs, ← hN1] at hst1
        have hbl : (encF g ++ bs2).length ≤ 140737488355328 := by
          obtain ⟨vb, q1, _⟩ := hst1.rd
          have := encF_len g hrg
          have h3 := HBT.out j hlt
          rw [hdr, List.append_assoc, ← hbs] at h3
          exact h3
        have HN2 : Hid (∀ (P : Nat → List UInt8 → Prop), True) := hid (fun _ => trivial)
        clear HN2
        have HN2 : Hid ((N1 + nodesF g, bs2) = (N + 1 + nodesL (kids.take (j + 1)), encFs (kids.drop (j + 1)) ++ rest)) := hid (by rw [hN1, hnt, hbs, Nat.add_assoc])
        obtain ⟨ao, cp, hv, _, _⟩ := rowV_shape hst1.row
        obtain ⟨q, hq⟩ : ∃ q, q = ts.length := ⟨_, rfl⟩
        rw [← hq] at hv
        subst hv
        have HQ := hid hq
        have HST0 := hid hst1
        have HTS := hid hts
        have HTK := hid htk
        have HLT := hid hlt
        have HYL := hid hst1.lt.1
        have HWD : Hid (IntKind.i64.wrap ((deep : Int) + 1) = (deep : Int) + 1) := hid (by rw [IntKind.wrap_i64]; omega)
        have HCALL : Hid (∀ w9, (GetSt w R c Y w.heap.size D op kI N1 (encF g ++ bs2) (.slice ao q cp) (.slice ao q cp) (ts) w9 ∧ Chg (fun _ => False) wr w9) → Calls Try.prog 66 #[.pointer (some ⟨R, 0, none⟩), .int .i64 ((deep : Int) + 1), .pointer (some ⟨c, 0, none⟩)] w9 fun e w2 => ∃ (t : AT) (ao2 : Option Addr) (n2 cp2 : Nat), eraseA t = g ∧ t.v = .slice ao2 n2 cp2 ∧ e = .returned (.agg #[.int .i64 t.op, .int .i64 t.k, .string ⟨t.r.1.toArray⟩, .string ⟨t.r.2.toArray⟩, .slice ao2 n2 cp2]) ∧ OwnA wr.heap.size w2 t ∧ (blksA t).Nodup ∧ (GetSt w R c Y w.heap.size D op kI (N1 + nodesF g) (bs2) (.slice ao q cp) (.slice ao q cp) (ts) w2 ∧ wr.heap.size ≤ w2.heap.size) ∧ Chg (fun k => k < wr.heap.size) w9 w2) := hid (fun w9 h9 => by
          obtain ⟨h9, hc9⟩ := h9
          obtain ⟨vb, q1, q2⟩ := h9.rd
          have hl9 := h9.lt
          have hl1 := hst1.lt
          have hbb := HBL.out
          refine (HIN.out g (by omega) hrg R c N1 (deep + 1) vb bs2 w9 q1 q2 h9.cnt hbb.dr hbb.dc (fun i hi => Nat.lt_of_lt_of_le (hbb.d i hi) hl9.2.2.1) hbb.rc (by omega) (by omega) hbl).mono ?_
          rintro e w2 ⟨t, k1, rfl, k2, k3, k4, k5, k6⟩
          obtain ⟨ao2, cp2, k7, _⟩ := own_fms k2
          have hs := hc9.size
          exact ⟨t, ao2, _, cp2, k1, k7, by rw [k7], ownA_low hs t k2, k3, ⟨GetSt.call hbb h9 k6 k5 k4, Nat.le_trans hs k6.size⟩, k6.mono (fun i _ e => by have := hbb.lr; have := hbb.lc; have := hl1.2.2.1; rcases e with rfl | rfl <;> omega)⟩)
        have HAPP : Hid (∀ w9 b t, (GetSt w R c Y w.heap.size D op kI (N1 + nodesF g) (bs2) (.slice ao q cp) (.slice ao q cp) (ts) w9 ∧ wr.heap.size ≤ w9.heap.size) → RowOne wr.heap.size g b t w9 → ∃ v2 w5, (Builtin.append_ #[56, 56] 56 #[.slice ao q cp, .slice (some ⟨b, 0, none⟩) 1 1]).run Try.prog w9 = .ok v2 w5 ∧ (∃ t, eraseA t = g ∧ GetSt w R c Y w.heap.size D op kI (N1 + nodesF g) (bs2) (.slice ao q cp) (v2) (ts ++ [t]) w5 ∧ wr.heap.size ≤ w5.heap.size) ∧ Chg (fun k => k < wr.heap.size) w9 w5) := hid (fun w9 b t h9 hro => by
          obtain ⟨h9, hs9⟩ := h9
          obtain ⟨m1, m2, m3, m4, m5, m6⟩ := hro
          have hl9 := h9.lt
          have hl1 := hst1.lt
          obtain ⟨v2, w5, a1, a2, a3, a4⟩ := run_append_fm 56 h9.row m1 m4 (by omega) (by omega)
          exact ⟨v2, w5, a1, ⟨t, m3, GetSt.app HBL.out h9 ⟨by omega, by omega, fun k hk => (hl1.2.2.2.1 k hk).2, fun k hk => (hl1.2.2.2.2 k hk).2⟩ m5 m6 a2 a3 a4, Nat.le_trans hs9 a3.size⟩, a3.mono (fun i _ e => (hl1.2.2.2.1 i e).2)⟩)
        clear hdr htk hnt hnt2 hmem hrg hdg hpos hng hbs hN1 hst hst1 hbl hq hts htl
        go_wp2
        refine wp_region_stateAD (Chg (fun k => k < wr.heap.size)) (Trio 6 8 10 62 (fun w9 => GetSt w R c Y w.heap.size D op kI N1 (encF g ++ bs2) (.slice ao q cp) (.slice ao q cp) (ts) w9 ∧ Chg (fun _ => False) wr w9) (fun w9 => GetSt w R c Y w.heap.size D op kI (N1 + nodesF g) (bs2) (.slice ao q cp) (.slice ao q cp) (ts) w9 ∧ wr.heap.size ≤ w9.heap.size) (fun v9 w9 => ∃ t, eraseA t = g ∧ GetSt w R c Y w.heap.size D op kI (N1 + nodesF g) (bs2) (.slice ao q cp) (v9) (ts ++ [t]) w9 ∧ wr.heap.size ≤ w9.heap.size) (fun w9 => ∃ t v9, eraseA t = g ∧ GetSt w R c Y w.heap.size D op kI (N1 + nodesF g) (bs2) (v9) (v9) (ts ++ [t]) w9)) (specAtR [.eq (.pointer (some ⟨R, 0, none⟩)), .eq (.int .i64 (deep : Nat)), .eq (.pointer (some ⟨c, 0, none⟩)), .any, .any, .any, .any, .eq (.pointer (some ⟨Y, 0, none⟩)), .any, .any, .any, .any, .any, .any, .any, .any, .any, .any, .any, .any, .any, .any, .any, .any, .any, .any, .any, .any, .any, .any, .any, .any, .any, .any, .any, .any, .any, .any, .any, .any, .any, .any, .any, .any, .any, .any, .any, .any, .any, .any, .any, .any, .any, .any, .eq (.pointer (some ⟨Y, 4, none⟩)), .eq (.slice ao q cp), .eq (.pointer (some ⟨R, 0, none⟩)), .eq (.int .i64 (deep : Nat)), .eq (.int .i64 ((deep : Int) + 1)), .eq (.pointer (some ⟨c, 0, none⟩)), .exT wr.heap.size g, .exS2 wr.heap.size g, .any, .eq (.pointer (some ⟨Y, 4, none⟩)), .any, .any]) [54, 55, 56, 57, 58, 59, 60, 61, 62, 63] [0, 1, 2, 7] (by kernel_rfl) (by kernel_rfl) (Trio.start (show (62 : Nat) < 66 by decide) ⟨HST0.out.quiet ((Chg.refl _ _).drew), (Chg.refl _ _).drew⟩) (fun t v w w' hc h => specAtR_st _ t v w w' hc h) (by rfl) (by kernel_rfl) ?startb ?obsb ?finb
        case startb =>
          simp only [List.forall_mem_cons]; exact ⟨⟨_, rfl, rfl⟩, ⟨_, rfl, rfl⟩, ⟨_, rfl, rfl⟩, ⟨_, rfl, rfl⟩, fun _ h => by cases h⟩
        case obsb =>
          skip
          refine ObsAD.cons none (by kernel_rfl) ?_ ?_
          · refine ObAD.plain fun L a w hi he hD hW hk K k => ?_
            obtain ⟨_, e7, rfl⟩ := hk 7 (by decide)
            clear hk
            have hS := hid (fun (v : Value) (w2 : World) (hc : Chg (fun _ => False) w w2) => hW.step (j := 0) (d := (some 54)) v (by decide) hc (fun _ _ h c => ⟨h.1.quiet c, h.2.trans c (fun _ _ h => h)⟩) (fun _ _ h c => ⟨h.1.quiet c, Nat.le_trans h.2 c.size⟩) (fun _ _ _ h c => by obtain ⟨t, h1, h2, h3⟩ := h; exact ⟨t, h1, h2.quiet c, Nat.le_trans h3 c.size⟩) (fun _ _ h c => by obtain ⟨t, v9, h1, h2⟩ := h; exact ⟨t, v9, h1, h2.quiet c⟩))
            clear hi he hW hD
            go_simp
            exact k _ _ (Chg.refl _ _) (hS.out _ _ (Chg.refl _ _)) rfl
          refine ObsAD.cons none (by kernel_rfl) ?_ ?_
          · refine ObAD.plain fun L a w hi he hD hW hk K k => ?_
            obtain ⟨_, e54, rfl⟩ := hk 54 (by decide)
            clear hk
            have hB := hW.early (by decide) hi (B := fun w9 => w9.heap[Y]? = some (.cells #[.int .i64 op, .int .i64 kI, .string ⟨#[]⟩, .string ⟨#[]⟩, .slice ao q cp] 58 (0, 0))) (fun w h => h.1.y) (fun w h => h.1.y) (fun x w h => by obtain ⟨t, _, h, _⟩ := h; exact h.y)
            have f4 : w.cell? ⟨Y, 4, none⟩ = some (.slice ao q cp) := cell_blk hB 4
            clear hB
            have hS := hid (fun (v : Value) (w2 : World) (hc : Chg (fun _ => False) w w2) => hW.step (j := 1) (d := (some 55)) v (by decide) hc (fun _ _ h c => ⟨h.1.quiet c, h.2.trans c (fun _ _ h => h)⟩) (fun _ _ h c => ⟨h.1.quiet c, Nat.le_trans h.2 c.size⟩) (fun _ _ _ h c => by obtain ⟨t, h1, h2, h3⟩ := h; exact ⟨t, h1, h2.quiet c, Nat.le_trans h3 c.size⟩) (fun _ _ h c => by obtain ⟨t, v9, h1, h2⟩ := h; exact ⟨t, v9, h1, h2.quiet c⟩))
            clear hi he hW hD
            go_simp
            exact k _ _ (Chg.refl _ _) (hS.out _ _ (Chg.refl _ _)) rfl
          refine ObsAD.cons none (by kernel_rfl) ?_ ?_
          · refine ObAD.plain fun L a w hi he hD hW hk K k => ?_
            obtain ⟨_, e0, rfl⟩ := hk 0 (by decide)
            clear hk
            have hS := hid (fun (v : Value) (w2 : World) (hc : Chg (fun _ => False) w w2) => hW.step (j := 2) (d := (some 56)) v (by decide) hc (fun _ _ h c => ⟨h.1.quiet c, h.2.trans c (fun _ _ h => h)⟩) (fun _ _ h c => ⟨h.1.quiet c, Nat.le_trans h.2 c.size⟩) (fun _ _ _ h c => by obtain ⟨t, h1, h2, h3⟩ := h; exact ⟨t, h1, h2.quiet c, Nat.le_trans h3 c.size⟩) (fun _ _ h c => by obtain ⟨t, v9, h1, h2⟩ := h; exact ⟨t, v9, h1, h2.quiet c⟩))
            clear hi he hW hD
            go_simp
            exact k _ _ (Chg.refl _ _) (hS.out _ _ (Chg.refl _ _)) rfl
          refine ObsAD.cons none (by kernel_rfl) ?_ ?_
          · refine ObAD.plain fun L a w hi he hD hW hk K k => ?_
            obtain ⟨_, e1, rfl⟩ := hk 1 (by decide)
            clear hk
            have hS := hid (fun (v : Value) (w2 : World) (hc : Chg (fun _ => False) w w2) => hW.step (j := 3) (d := (some 57)) v (by decide) hc (fun _ _ h c => ⟨h.1.quiet c, h.2.trans c (fun _ _ h => h)⟩) (fun _ _ h c => ⟨h.1.quiet c, Nat.le_trans h.2 c.size⟩) (fun _ _ _ h c => by obtain ⟨t, h1, h2, h3⟩ := h; exact ⟨t, h1, h2.quiet c, Nat.le_trans h3 c.size⟩) (fun _ _ h c => by obtain ⟨t, v9, h1, h2⟩ := h; exact ⟨t, v9, h1, h2.quiet c⟩))
            clear hi he hW hD
            go_simp
            exact k _ _ (Chg.refl _ _) (hS.out _ _ (Chg.refl _ _)) rfl
          refine ObsAD.cons none (by kernel_rfl) ?_ ?_
          · refine ObAD.plain fun L a w hi he hD hW hk K k => ?_
            obtain ⟨_, e57, rfl⟩ := hk 57 (by decide)
            clear hk
            have e9 := HWD.out
            have hS := hid (fun (v : Value) (w2 : World) (hc : Chg (fun _ => False) w w2) => hW.step (j := 4) (d := (some 58)) v (by decide) hc (fun _ _ h c => ⟨h.1.quiet c, h.2.trans c (fun _ _ h => h)⟩) (fun _ _ h c => ⟨h.1.quiet c, Nat.le_trans h.2 c.size⟩) (fun _ _ _ h c => by obtain ⟨t, h1, h2, h3⟩ := h; exact ⟨t, h1, h2.quiet c, Nat.le_trans h3 c.size⟩) (fun _ _ h c => by obtain ⟨t, v9, h1, h2⟩ := h; exact ⟨t, v9, h1, h2.quiet c⟩))
            clear hi he hW hD
            go_simp
            exact k _ _ (Chg.refl _ _) (hS.out _ _ (Chg.refl _ _)) rfl
          refine ObsAD.cons none (by kernel_rfl) ?_ ?_
          · refine ObAD.plain fun L a w hi he hD hW hk K k => ?_
            obtain ⟨_, e2, rfl⟩ := hk 2 (by decide)
            clear hk
            have hS := hid (fun (v : Value) (w2 : World) (hc : Chg (fun _ => False) w w2) => hW.step (j := 5) (d := (some 59)) v (by decide) hc (fun _ _ h c => ⟨h.1.quiet c, h.2.trans c (fun _ _ h => h)⟩) (fun _ _ h c => ⟨h.1.quiet c, Nat.le_trans h.2 c.size⟩) (fun _ _ _ h c => by obtain ⟨t, h1, h2, h3⟩ := h; exact ⟨t, h1, h2.quiet c, Nat.le_trans h3 c.size⟩) (fun _ _ h c => by obtain ⟨t, v9, h1, h2⟩ := h; exact ⟨t, v9, h1, h2.quiet c⟩))
            clear hi he hW hD
            go_simp
            exact k _ _ (Chg.refl _ _) (hS.out _ _ (Chg.refl _ _)) rfl
          refine ObsAD.cons none (by kernel_rfl) ?_ ?_
          · refine ObAD.plain fun L a w hi he hD hW hk K k => ?_
            obtain ⟨_, e56, rfl⟩ := hk 56 (by decide)
            obtain ⟨_, e58, rfl⟩ := hk 58 (by decide)
            obtain ⟨_, e59, rfl⟩ := hk 59 (by decide)
            clear hk
            have h0 := hW.p0 hi
            have hq := HCALL.out w h0
            have HS := hid hW
            clear h0 he hD hW
            go_simp
            refine hq.mono ?_
            rintro e w5 ⟨t, ao2, n2, cp2, h1, h2, rfl, h3, h4, h5, h6⟩
            exact k _ _ h6 (HS.out.zeroth (by decide) (by decide) hi h5) ⟨t, ao2, n2, cp2, h1, h2, rfl, h3, h4⟩
          refine ObsAD.cons none (by kernel_rfl) ?_ ?_
          · refine ObAD.plain fun L a w hi he hD hW hk K k => ?_
            obtain ⟨_, e60, f60⟩ := hk 60 (by decide)
            clear hk
            obtain ⟨t, ao2, n2, cp2, h1, h2, rfl, h3, h4⟩ := f60
            have hsz := hW.early (by decide) hi (B := fun w9 => wr.heap.size ≤ w9.heap.size) (fun w h => h.2.size) (fun w h => h.2) (fun x w h => by obtain ⟨t, _, _, h⟩ := h; exact h)
            have HR1 : Hid (RowOne wr.heap.size g w.heap.size t (w.alloc (.cells #[.int .i64 t.op, .int .i64 t.k, .string ⟨t.r.1.toArray⟩, .string ⟨t.r.2.toArray⟩, .slice ao2 n2 cp2] 58))) := hid ⟨by have := heap_alloc_new w (.cells #[.int .i64 t.op, .int .i64 t.k, .string ⟨t.r.1.toArray⟩, .string ⟨t.r.2.toArray⟩, .slice ao2 n2 cp2] 58); rw [cellsA_v h2]; exact this, hsz, h1, by rw [h2]; rfl, ownA_keep ((Chg.refl (fun _ => False) w).alloc _) t h3 (fun _ _ => id), h4⟩
            clear h1 h2 h3 h4 hsz
            have hS := hid (fun (v : Value) (w2 : World) (hc : Chg (fun _ => False) w w2) => hW.step (j := 7) (d := (some 61)) v (by decide) hc (fun _ _ h c => ⟨h.1.quiet c, h.2.trans c (fun _ _ h => h)⟩) (fun _ _ h c => ⟨h.1.quiet c, Nat.le_trans h.2 c.size⟩) (fun _ _ _ h c => by obtain ⟨t, h1, h2, h3⟩ := h; exact ⟨t, h1, h2.quiet c, Nat.le_trans h3 c.size⟩) (fun _ _ h c => by obtain ⟨t, v9, h1, h2⟩ := h; exact ⟨t, v9, h1, h2.quiet c⟩))
            clear hi he hW hD
            go_simp
            exact k _ _ (Chg.none9 ((Chg.refl _ _).alloc _)) (hS.out _ _ ((Chg.refl _ _).alloc _)) ⟨_, t, rfl, HR1.out⟩
          refine ObsAD.cons none (by kernel_rfl) ?_ ?_
          · refine ObAD.plain fun L a w hi he hD hW hk K k => ?_
            obtain ⟨_, e55, rfl⟩ := hk 55 (by decide)
            obtain ⟨_, e61, f61⟩ := hk 61 (by decide)
            clear hk
            have hall := behind_all (n := 8) hD rfl he (by kernel_rfl)
            obtain ⟨b9, t9, rfl, hro⟩ := f61
            obtain ⟨v2, w5, hr, hF, hS⟩ := HAPP.out w b9 t9 (hW.p1 (hall 6 (by decide)) hi) hro
            clear he hD
            refine ob_appendK 56 rfl e55 e61 hr ?_
            exact k _ _ hS (hW.first (by decide) (by decide) (hall 6 (by decide)) hi hF) trivial
          refine ObsAD.cons none (by kernel_rfl) ?_ ?_
          · refine ObAD.plain fun L a w hi he hD hW hk K k => ?_
            obtain ⟨_, e7, rfl⟩ := hk 7 (by decide)
            clear hk
            have hS := hid (fun (v : Value) (w2 : World) (hc : Chg (fun _ => False) w w2) => hW.step (j := 9) (d := (some 63)) v (by decide) hc (fun _ _ h c => ⟨h.1.quiet c, h.2.trans c (fun _ _ h => h)⟩) (fun _ _ h c => ⟨h.1.quiet c, Nat.le_trans h.2 c.size⟩) (fun _ _ _ h c => by obtain ⟨t, h1, h2, h3⟩ := h; exact ⟨t, h1, h2.quiet c, Nat.le_trans h3 c.size⟩) (fun _ _ h c => by obtain ⟨t, v9, h1, h2⟩ := h; exact ⟨t, v9, h1, h2.quiet c⟩))
            clear hi he hW hD
            go_simp
            exact k _ _ (Chg.refl _ _) (hS.out _ _ (Chg.refl _ _)) rfl
          refine ObsAD.cons none (by kernel_rfl) ?_ ?_
          · refine ObAD.plain fun L a w hi he hD hW hk K k => ?_
            obtain ⟨_, e63, rfl⟩ := hk 63 (by decide)
            clear hk
            have hall := behind_all (n := 10) hD rfl he (by kernel_rfl)
            obtain ⟨v2, e62, hF⟩ := hW.p2 (hall 8 (by decide)) hi
            obtain ⟨t9, k1, k2, k3⟩ := hF
            obtain ⟨ao9, cp9, hv9, _, _⟩ := rowV_shape k2.row
            obtain ⟨q9, hq9⟩ : ∃ q9, q9 = (ts ++ [t9]).length := ⟨_, rfl⟩
            rw [← hq9] at hv9
            clear hq9
            subst hv9
            have f4 : w.cell? ⟨Y, 4, none⟩ = some (.slice ao q cp) := cell_blk k2.y 4
            have z4 := froz_blk k2.y 4
            obtain ⟨p1, p2⟩ := GetSt.put HBL.out k2
            have HS := hid (And.intro hW (And.intro hall (And.intro k1 (And.intro p1 p2))))
            have HYB := hid k3
            clear hall he hD hW hi k1 k2 k3 p1 p2
            go_simp
            exact k undef _ (HS.out.2.2.2.2.mono (fun i _ e => by have : i = Y := e; have := HYL.out; omega)) (HS.out.1.second (by decide) (by decide) HS.out.2.1 ⟨t9, _, HS.out.2.2.1, HS.out.2.2.2.1⟩) trivial
          exact ObsAD.nil
        case finb =>
          intro L vals w9 hL hWL hv
          have HEND := hid (hWL.p3 (hL 10 (by decide)))
          clear hL hWL hv
          simp only [putAll, List.setIfInBounds_toArray, List.set_cons_zero, List.set_cons_succ]
          go_wp2
          go_roundw
          case rel =>
            obtain ⟨t9, v9, k1, k2⟩ := HEND.out
            exact ⟨j + 1, v9, ts ++ [t9], HLT.out, by go_num, by rw [eraseL_map, List.map_append, ← eraseL_map, HTS.out, List.map_cons, List.map_nil, k1, HTK.out], hid (by obtain ⟨e1, e2⟩ := Prod.mk.inj HN2.out; rw [← e1, ← e2]; exact k2)⟩
          case measure => have := HLT.out; simp [intOf]; omega
      · have hje : j = kids.length := by omega
        have hst1 := hst.out
        rw [hje, List.take_length, List.drop_length] at hst1
        rw [hje, List.take_length] at hts
        have HTS := hid hts
        have HST1 := hid hst1
        obtain ⟨ao, cp, hv, _, _⟩ := rowV_shape hst1.row
        obtain ⟨q, hq⟩ : ∃ q, q = ts.length := ⟨_, rfl⟩
        rw [← hq] at hv
        subst hv
        have HQ := hid hq
        have y0 := cell_blk hst1.y 0
        have y1 := cell_blk hst1.y 1
        have y2 := cell_blk hst1.y 2
        have y3 := cell_blk hst1.y 3
        have y4 := cell_blk hst1.y 4
        have r0 := cell_blk hst1.z 0
        have r1 := cell_blk hst1.z 1
        have r2 := cell_blk hst1.z 2
        have r3 := cell_blk hst1.z 3
        have r4 := cell_blk hst1.z 4
        have g0 := froz_blk hst1.z 0
        have g1 := froz_blk hst1.z 1
        have g2 := froz_blk hst1.z 2
        have g3 := froz_blk hst1.z 3
        have g4 := froz_blk hst1.z 4
        simp only [List.getElem?_toArray, List.getElem?_cons_zero, List.getElem?_cons_succ] at y0 y1 y2 y3 y4 r0 r1 r2 r3 r4
        clear hst hst1 hts hje hq
        go_wp2
        obtain ⟨hend, hcz⟩ := store5 HST1.out.z (.int .i64 op) (.int .i64 kI) (.string ⟨#[]⟩) (.string ⟨#[]⟩) (.slice ao q cp)
        refine bodyPost_ret (results_cell_row (P := Try.prog) rfl _ _ w.heap.size 58 _ (0, 0) _ rfl hend Try.underlying58 rfl (by kernel_rfl)) rfl ?_
        have hcZ : ∀ i, i < w.heap.size → ¬ i = w.heap.size := fun i hi e => by omega
        obtain ⟨vb, q1, q2⟩ := HST1.out.rd
        have hl := HST1.out.lt
        have hbb := HBL.out
        refine ⟨.mk op kI ([], []) (.slice ao q cp) ts, by rw [eraseA, HTS.out, HKI.out], rfl, ⟨⟨by simp, by simp⟩, ?_, ?_⟩, HST1.out.nd, ⟨vb, q1.keep hcz (fun i hi => hcZ i (hbb.d i hi)), blk_keep q2 hcz (hcZ _ hbb.lr)⟩, ?_, HST1.out.chg.trans hcz (fun i hi e => (hcZ i hi e).elim)⟩
        · exact ownsRow_lowK (ownsRow_keep HST1.out.row hcz (fun k hk e => by have := (hl.2.2.2.1 k hk).1; have := hbb.zy; have : k = w.heap.size := e; omega)) (by have := hbb.zy; omega)
        · exact ownL_low (by have := hbb.zy; omega) (ownL_keep hcz HST1.out.own (fun k hk e => by have := (hl.2.2.2.2 k hk).1; have := hbb.zy; have : k = w.heap.size := e; omega))
        · have := blk_keep HST1.out.cnt hcz (hcZ _ hbb.lc)
          rw [this, nodesF, Nat.add_assoc]
end Go.Proofs.Ytjaplnainlbldaa
