/- Texts that the proof leans on, in one: FmGetW, FmHolds. -/
import Derived.Test.YtjaplnainlbldaaFr20
import Derived.Test.YtjaplnainlbldaaFr17
import Derived.Test.YtjaplnainlbldaaFr21
import Derived.Test.YtjaplnainlbldaaFr9
/- Get of a formula that was put; Read with the functions of layer 11's law. -/
namespace Go.Proofs.Ytjaplnainlbldaa
open Go.RowKit

set_option maxRecDepth 100000 in
set_option maxHeartbeats 4000000 in
theorem fm_Get {D : Nat → Prop} (f : FmB) (hf : isF f = true) (R : Nat) (v0 : Value) (rest : List UInt8) (w : World) (hv : BytesAt D w v0 (encF f ++ rest)) (hR : ReaderAt w R true v0 0) (hDR : ¬ D R) (hDl : ∀ i, D i → i < w.heap.size) (hlen : (encF f ++ rest).length ≤ 140737488355328) :
    Calls Try.prog 34 #[.pointer (some ⟨R, 0, none⟩)] w fun e w' => ∃ (t : AT) (ao : Option Addr) (q cp : Nat), eraseA t = f ∧ t.v = .slice ao q cp ∧ e = .returned (.agg #[.int .i64 t.op, .int .i64 t.k, .string ⟨t.r.1.toArray⟩, .string ⟨t.r.2.toArray⟩, .slice ao q cp]) ∧ OwnA w.heap.size w' t ∧ (blksA t).Nodup ∧ (∃ vb, BytesAt D w' vb rest ∧ ReaderAt w' R true vb 0) ∧ Chg (· = R) w w' := by
  have hif := isF_right hf
  have hRl := lt_blk hR
  have hc1 : Chg (fun _ => False) w (w.alloc (.cells #[.int .i64 0, .int .i64 0, .string ⟨#[]⟩, .string ⟨#[]⟩, .slice none 0 0] 58)) := (Chg.refl _ w).alloc _
  have hc2 : Chg (fun _ => False) w ((w.alloc (.cells #[.int .i64 0, .int .i64 0, .string ⟨#[]⟩, .string ⟨#[]⟩, .slice none 0 0] 58)).alloc (.cells #[.int .i64 0] 3)) := hc1.alloc _
  have hsz : (w.alloc (.cells #[.int .i64 0, .int .i64 0, .string ⟨#[]⟩, .string ⟨#[]⟩, .slice none 0 0] 58)).heap.size = w.heap.size + 1 := by simp
  have hC := heap_alloc_new (w.alloc (.cells #[.int .i64 0, .int .i64 0, .string ⟨#[]⟩, .string ⟨#[]⟩, .slice none 0 0] 58)) (.cells #[.int .i64 0] 3)
  rw [hsz] at hC
  have hZ := blk_keep (heap_alloc_new w (.cells #[.int .i64 0, .int .i64 0, .string ⟨#[]⟩, .string ⟨#[]⟩, .slice none 0 0] 58)) ((Chg.refl (fun _ => False) (w.alloc (.cells #[.int .i64 0, .int .i64 0, .string ⟨#[]⟩, .string ⟨#[]⟩, .slice none 0 0] 58))).alloc (.cells #[.int .i64 0] 3)) id
  have hdc : ¬ D (w.heap.size + 1) := fun h => by have := hDl _ h; omega
  have hg := fm_get (nodesF f) f (Nat.le_refl _) hif.2.2 (D := D) R (w.heap.size + 1) 0 1 v0 rest ((w.alloc (.cells #[.int .i64 0, .int .i64 0, .string ⟨#[]⟩, .string ⟨#[]⟩, .slice none 0 0] 58)).alloc (.cells #[.int .i64 0] 3)) (hv.keep hc2 (fun _ _ => id)) (blk_keep hR hc2 id) hC hDR hdc (fun i hi => Nat.lt_of_lt_of_le (hDl i hi) hc2.size) (by omega) (by omega) (by omega) hlen
  have HG := hid hg
  have HZ := hid hZ
  have HC2 := hid hc2
  have HSZ := hid (And.intro hsz (And.intro hdc hDl))
  clear hc1 hc2 hsz hC hZ hdc hg hv hR
  go_enter Try.func34, Try.ntmps34
  go_wp2_with fail
  refine HG.out.mono ?_
  rintro e w3 ⟨t, h1, rfl, h2, h3, ⟨vb, h4, h5⟩, h6, h7⟩
  obtain ⟨ao, cp, h8, h9, h10, h11⟩ := own_fms h2
  have hzs : ((w.alloc (.cells #[.int .i64 0, .int .i64 0, .string ⟨#[]⟩, .string ⟨#[]⟩, .slice none 0 0] 58)).alloc (.cells #[.int .i64 0] 3)).heap.size = w.heap.size + 2 := by simp
  rw [hzs] at h2 h10
  have hbl := ownA_lt t h2
  have hZ3 := blk_keep HZ.out h7 (fun e => by rcases e with e | e <;> omega)
  have hch3 : Chg (· = R) w w3 := (HC2.out.none9 (S := (· = R))).trans h7 (fun i hi e => by rcases e with e | e <;> omega)
  have hdn := deep_nodes f
  obtain ⟨op, k, r, v, kids⟩ := t
  simp only [AT.op, AT.k, AT.r, AT.v, AT.kids] at *
  subst h8
  have hal : Chg (fun _ => False) w3 (w3.alloc (.cells #[.int .i64 op, .int .i64 k, .string ⟨r.1.toArray⟩, .string ⟨r.2.toArray⟩, .slice ao kids.length cp] 58)) := (Chg.refl _ w3).alloc _
  rw [eraseA] at h1
  subst h1
  have hrt := fm_right _ (.mk op k r (eraseL kids)) ao cp (w3.alloc (.cells #[.int .i64 op, .int .i64 k, .string ⟨r.1.toArray⟩, .string ⟨r.2.toArray⟩, .slice ao kids.length cp] 58)) (h10.keep hal (fun _ _ => id)) (fun i hi => Nat.lt_of_lt_of_le hi.2 hal.size) h11 (by omega)
  rw [hf] at hrt
  simp only [FmB.op, FmB.k, FmB.r, FmB.kids, eraseL_len] at hrt
  obtain ⟨q, hq⟩ : ∃ q, q = kids.length := ⟨_, rfl⟩
  have hnb := heap_alloc_new w3 (.cells #[.int .i64 op, .int .i64 k, .string ⟨r.1.toArray⟩, .string ⟨r.2.toArray⟩, .slice ao kids.length cp] 58)
  rw [← hq] at hrt hnb hal ⊢
  have HRT := hid hrt
  have s0 := cell_blk hnb 0
  have s1 := cell_blk hnb 1
  have s2 := cell_blk hnb 2
  have s3 := cell_blk hnb 3
  have s4 := cell_blk hnb 4
  simp only [List.getElem?_toArray, List.getElem?_cons_zero, List.getElem?_cons_succ] at s0 s1 s2 s3 s4
  have hZ4 := blk_keep hZ3 hal id
  have HS := hid (And.intro h2 (And.intro h3 (And.intro h4 (And.intro h5 (And.intro hch3 (And.intro hbl hZ4))))))
  have HAL := hid hal
  have HNB := hid hnb
  have HQ := hid hq
  clear HG HZ HC2 h2 h3 h4 h5 h6 h7 h9 h10 h11 hbl hZ3 hch3 hdn hal hrt hq hnb hZ4 hif hzs
  go_wp2_with fail
  refine HRT.out.mono ?_
  rintro e w5 ⟨rfl, hc5⟩
  obtain ⟨h2, h3, h4, h5, hch3, hbl, hZ4⟩ := HS.out
  have hcc := HAL.out.trans hc5 (fun _ _ h => h)
  have hnb := blk_keep HNB.out hc5 id
  have hZ5 := blk_keep hZ4 hc5 id
  clear s0 s1 s2 s3 s4
  have s0 := cell_blk hnb 0
  have s1 := cell_blk hnb 1
  have s2 := cell_blk hnb 2
  have s3 := cell_blk hnb 3
  have s4 := cell_blk hnb 4
  simp only [List.getElem?_toArray, List.getElem?_cons_zero, List.getElem?_cons_succ] at s0 s1 s2 s3 s4
  have r0 := cell_blk hZ5 0
  have r1 := cell_blk hZ5 1
  have r2 := cell_blk hZ5 2
  have r3 := cell_blk hZ5 3
  have r4 := cell_blk hZ5 4
  have g0 := froz_blk hZ5 0
  have g1 := froz_blk hZ5 1
  have g2 := froz_blk hZ5 2
  have g3 := froz_blk hZ5 3
  have g4 := froz_blk hZ5 4
  simp only [List.getElem?_toArray, List.getElem?_cons_zero, List.getElem?_cons_succ] at r0 r1 r2 r3 r4
  have HE := hid (And.intro (ownA_keep hcc _ h2 (fun _ _ => id)) (And.intro h3 (And.intro (h4.keep hcc (fun _ _ => id)) (And.intro (blk_keep h5 hcc id) (And.intro (hch3.trans hcc (fun _ _ h => h.elim)) (And.intro hbl hZ5))))))
  clear HS HAL HNB HRT h2 h3 h4 h5 hch3 hbl hZ4 hcc hnb hZ5 hc5
  go_wp2
  obtain ⟨h2, h3, h4, h5, hch, hbl, hZ5⟩ := HE.out
  obtain ⟨hend, hcz⟩ := store5 hZ5 (.int .i64 op) (.int .i64 k) (.string ⟨r.1.toArray⟩) (.string ⟨r.2.toArray⟩) (.slice ao q cp)
  refine bodyPost_ret (results_cell_row (P := Try.prog) rfl _ _ w.heap.size 58 _ (0, 0) _ rfl hend Try.underlying58 rfl (by kernel_rfl)) rfl ?_
  have hcZ : ∀ i, i < w.heap.size → ¬ i = w.heap.size := fun i hi e => by omega
  exact ⟨.mk op k r (.slice ao kids.length cp) kids, ao, q, cp, rfl, by rw [HQ.out]; rfl, rfl, ownA_low (by omega) _ (ownA_keep hcz _ h2 (fun b hb e => by have := (hbl b hb).1; have : b = w.heap.size := e; omega)), h3, ⟨vb, h4.keep hcz (fun i hi => hcZ i (HSZ.out.2.2 i hi)), blk_keep h5 hcz (hcZ _ hRl)⟩, hch.trans hcz (fun i hi e => (hcZ i hi e).elim)⟩

set_option maxRecDepth 100000 in
set_option maxHeartbeats 4000000 in
theorem fm_clos3 {D : Nat → Prop} (f : FmB) (hf : isF f = true) (R X : Nat) (v0 : Value) (rest : List UInt8) (w : World) (hv : BytesAt D w v0 (encF f ++ rest)) (hR : ReaderAt w R true v0 0) (hX : w.heap[X]? = some (.cells #[.int .i64 0, .int .i64 0, .string ⟨#[]⟩, .string ⟨#[]⟩, .slice none 0 0] 58 (0, 0))) (hRX : R ≠ X) (hDR : ¬ D R) (hDX : ¬ D X) (hDl : ∀ i, D i → i < w.heap.size) (hlen : (encF f ++ rest).length ≤ 140737488355328) :
    Calls Try.prog 33 #[.pointer (some ⟨R, 0, none⟩), .pointer (some ⟨X, 0, none⟩)] w fun e w' => ∃ (t : AT) (ao : Option Addr) (q cp : Nat), eraseA t = f ∧ t.v = .slice ao q cp ∧ e = .returned (.tuple #[]) ∧ w'.heap[X]? = some (.cells #[.int .i64 t.op, .int .i64 t.k, .string ⟨t.r.1.toArray⟩, .string ⟨t.r.2.toArray⟩, .slice ao q cp] 58 (0, 0)) ∧ OwnA w.heap.size w' t ∧ (blksA t).Nodup ∧ (∃ vb, BytesAt D w' vb rest ∧ ReaderAt w' R true vb 0) ∧ Chg (fun k => k = R ∨ k = X) w w' := by
  have HG := hid (fm_Get f hf R v0 rest w hv hR hDR hDl hlen)
  have hXl := lt_blk hX
  have hRl := lt_blk hR
  have HX := hid (And.intro hX (And.intro hDX hDl))
  clear hv hR hX hDX hDl hDR hlen
  go_enter Try.func33, Try.ntmps33
  go_wp2_with fail
  refine HG.out.mono ?_
  rintro e w3 ⟨t, ao, q, cp, h1, h2, rfl, h3, h4, ⟨vb, h5, h6⟩, h7⟩
  have hX3 := blk_keep HX.out.1 h7 (fun e => hRX e.symm)
  have r0 := cell_blk hX3 0
  have r1 := cell_blk hX3 1
  have r2 := cell_blk hX3 2
  have r3 := cell_blk hX3 3
  have r4 := cell_blk hX3 4
  have g0 := froz_blk hX3 0
  have g1 := froz_blk hX3 1
  have g2 := froz_blk hX3 2
  have g3 := froz_blk hX3 3
  have g4 := froz_blk hX3 4
  simp only [List.getElem?_toArray, List.getElem?_cons_zero, List.getElem?_cons_succ] at r0 r1 r2 r3 r4
  have HE := hid (And.intro h1 (And.intro h2 (And.intro h3 (And.intro h4 (And.intro h5 (And.intro h6 (And.intro h7 hX3)))))))
  clear HG h1 h2 h3 h4 h5 h6 h7 hX3
  go_wp2
  go_end0
  obtain ⟨h1, h2, h3, h4, h5, h6, h7, hX3⟩ := HE.out
  obtain ⟨hend, hcz⟩ := store5 hX3 (.int .i64 t.op) (.int .i64 t.k) (.string ⟨t.r.1.toArray⟩) (.string ⟨t.r.2.toArray⟩) (.slice ao q cp)
  exact ⟨t, ao, q, cp, h1, h2, rfl, hend, ownA_keep hcz _ h3 (fun b hb e => by have := (ownA_lt t h3 b hb).1; have : b = X := e; omega), h4, ⟨vb, h5.keep hcz (fun i hi e => HX.out.2.1 ((show i = X from e) ▸ hi)), blk_keep h6 hcz hRX⟩, (h7.mono (T := fun k => k = R ∨ k = X) (fun _ _ e => .inl e)).trans hcz (fun _ _ e => .inr e)⟩

set_option maxRecDepth 100000 in
set_option maxHeartbeats 4000000 in
theorem fm_closF {D : Nat → Prop} (f : FmB) (hf : isF f = true) (R X : Nat) (v0 : Value) (rest : List UInt8) (w : World) (hv : BytesAt D w v0 (encF f ++ rest)) (hR : ReaderAt w R true v0 0) (hX : w.heap[X]? = some (.cells #[.int .i64 0, .int .i64 0, .string ⟨#[]⟩, .string ⟨#[]⟩, .slice none 0 0] 58 (0, 0))) (hRX : R ≠ X) (hDR : ¬ D R) (hDX : ¬ D X) (hDl : ∀ i, D i → i < w.heap.size) (hlen : (encF f ++ rest).length ≤ 140737488355328) :
    Calls Try.prog 54 #[.pointer (some ⟨R, 0, none⟩), .pointer (some ⟨X, 0, none⟩)] w fun e w' => ∃ (t : AT) (ao : Option Addr) (q cp : Nat), eraseA t = f ∧ t.v = .slice ao q cp ∧ e = .returned (.tuple #[]) ∧ w'.heap[X]? = some (.cells #[.int .i64 t.op, .int .i64 t.k, .string ⟨t.r.1.toArray⟩, .string ⟨t.r.2.toArray⟩, .slice ao q cp] 58 (0, 0)) ∧ OwnA w.heap.size w' t ∧ (blksA t).Nodup ∧ (∃ vb, BytesAt D w' vb rest ∧ ReaderAt w' R true vb 0) ∧ Chg (fun k => k = R ∨ k = X) w w' := by
  have HG := hid (fm_Get f hf R v0 rest w hv hR hDR hDl hlen)
  have hXl := lt_blk hX
  have hRl := lt_blk hR
  have HX := hid (And.intro hX (And.intro hDX hDl))
  clear hv hR hX hDX hDl hDR hlen
  go_enter Try.func54, Try.ntmps54
  go_wp2_with fail
  refine HG.out.mono ?_
  rintro e w3 ⟨t, ao, q, cp, h1, h2, rfl, h3, h4, ⟨vb, h5, h6⟩, h7⟩
  have hX3 := blk_keep HX.out.1 h7 (fun e => hRX e.symm)
  have r0 := cell_blk hX3 0
  have r1 := cell_blk hX3 1
  have r2 := cell_blk hX3 2
  have r3 := cell_blk hX3 3
  have r4 := cell_blk hX3 4
  have g0 := froz_blk hX3 0
  have g1 := froz_blk hX3 1
  have g2 := froz_blk hX3 2
  have g3 := froz_blk hX3 3
  have g4 := froz_blk hX3 4
  simp only [List.getElem?_toArray, List.getElem?_cons_zero, List.getElem?_cons_succ] at r0 r1 r2 r3 r4
  have HE := hid (And.intro h1 (And.intro h2 (And.intro h3 (And.intro h4 (And.intro h5 (And.intro h6 (And.intro h7 hX3)))))))
  clear HG h1 h2 h3 h4 h5 h6 h7 hX3
  go_wp2
  go_end0
  obtain ⟨h1, h2, h3, h4, h5, h6, h7, hX3⟩ := HE.out
  obtain ⟨hend, hcz⟩ := store5 hX3 (.int .i64 t.op) (.int .i64 t.k) (.string ⟨t.r.1.toArray⟩) (.string ⟨t.r.2.toArray⟩) (.slice ao q cp)
  exact ⟨t, ao, q, cp, h1, h2, rfl, hend, ownA_keep hcz _ h3 (fun b hb e => by have := (ownA_lt t h3 b hb).1; have : b = X := e; omega), h4, ⟨vb, h5.keep hcz (fun i hi e => HX.out.2.1 ((show i = X from e) ▸ hi)), blk_keep h6 hcz hRX⟩, (h7.mono (T := fun k => k = R ∨ k = X) (fun _ _ e => .inl e)).trans hcz (fun _ _ e => .inr e)⟩

theorem fm_read3_enter (args : Array Value) (w : World) : (callFunc 33 args).run Try.prog w = .ok (.enter 33 args) w := enters Try.func33 rfl rfl args w
set_option maxRecDepth 100000 in
theorem fm_read3 {D : Nat → Prop} (f : FmB) (hf : isF f = true) (ao : Option Addr) (cp n X : Nat) (w : World) (_ : n = (encF f).length) (hv : BytesAt D w (.slice ao n cp) (encF f)) (hX : w.heap[X]? = some (.cells #[.int .i64 0, .int .i64 0, .string ⟨#[]⟩, .string ⟨#[]⟩, .slice none 0 0] 58 (0, 0))) (hDX : ¬ D X) (hDl : ∀ i, D i → i < w.heap.size) (hlen : (encF f).length ≤ 140737488355328) :
    Calls Try.prog 32 #[.slice ao n cp, .func (.func 33) #[] #[.pointer (some ⟨X, 0, none⟩)]] w fun e w' => e = .returned (.int .i64 0) ∧ ∃ (t : AT) (ao2 : Option Addr) (q cp2 : Nat), eraseA t = f ∧ t.v = .slice ao2 q cp2 ∧ w'.heap[X]? = some (.cells #[.int .i64 t.op, .int .i64 t.k, .string ⟨t.r.1.toArray⟩, .string ⟨t.r.2.toArray⟩, .slice ao2 q cp2] 58 (0, 0)) ∧ OwnA w.heap.size w' t ∧ (blksA t).Nodup ∧ Chg (fun k => k = X) w w' := by
  have lX := lt_blk hX
  have hrw := readWorld_chg w (.slice ao n cp) (fun _ => False)
  have hv' := hv.keep hrw (fun _ _ h => h)
  have hdr : ¬ D (w.heap.size + 1) := fun h => by have := hDl _ h; omega
  have hdl : ∀ i, D i → i < (readWorld w (.slice ao n cp)).heap.size := fun i hi => by have := hDl i hi; rw [readWorld_size]; omega
  rw [← List.append_nil (encF f)] at hv'
  have hcl := fm_clos3 f hf (w.heap.size + 1) X _ [] (readWorld w (.slice ao n cp)) hv' (readWorld_R w _) (blk_keep hX hrw id) (by omega) hdr hDX hdl (by rw [List.append_nil]; exact hlen)
  refine (read_returns (T := fun k => k = X) (P := fun w1 => ∃ (t : AT) (ao2 : Option Addr) (q cp2 : Nat), eraseA t = f ∧ t.v = .slice ao2 q cp2 ∧ w1.heap[X]? = some (.cells #[.int .i64 t.op, .int .i64 t.k, .string ⟨t.r.1.toArray⟩, .string ⟨t.r.2.toArray⟩, .slice ao2 q cp2] 58 (0, 0)) ∧ OwnA (w.heap.size + 3) w1 t ∧ (blksA t).Nodup) (n := 0) (by rintro k rfl; omega) fm_read3_enter ?_).mono ?_
  · refine hcl.mono ?_
    rintro e w1 ⟨t, ao2, q, cp2, h1, h2, rfl, h3, h4, h5, ⟨vb, h6, h7⟩, h8⟩
    obtain ⟨ao3, cp3, hvb⟩ : ∃ ao3 cp3, vb = .slice ao3 0 cp3 := by
      rcases h6 with ⟨ao3, cp3, e, _⟩ | ⟨b3, o3, c3, e, _⟩
      · exact ⟨ao3, cp3, e⟩
      · exact ⟨_, c3, e⟩
    subst hvb
    exact ⟨rfl, ⟨⟨ao3, 0, cp3, h7, fun _ => rfl⟩, h8⟩, t, ao2, q, cp2, h1, h2, h3, by rw [readWorld_size] at h4; exact h4, h5⟩
  · rintro e w' ⟨rfl, w1, ⟨t, ao2, q, cp2, h1, h2, h3, h4, h5⟩, hle⟩
    have hlt := ownA_lt t h4
    exact ⟨rfl, t, ao2, q, cp2, h1, h2, blk_keep h3 hle.2.1 (by omega), ownA_low (by omega) t (ownA_keep hle.2.1 t h4 (fun b hb e => by have := (hlt b hb).1; omega)), h5, hle.2.2⟩

theorem fm_readF_enter (args : Array Value) (w : World) : (callFunc 54 args).run Try.prog w = .ok (.enter 54 args) w := enters Try.func54 rfl rfl args w
set_option maxRecDepth 100000 in
theorem fm_readF {D : Nat → Prop} (f : FmB) (hf : isF f = true) (ao : Option Addr) (cp n X : Nat) (w : World) (_ : n = (encF f).length) (hv : BytesAt D w (.slice ao n cp) (encF f)) (hX : w.heap[X]? = some (.cells #[.int .i64 0, .int .i64 0, .string ⟨#[]⟩, .string ⟨#[]⟩, .slice none 0 0] 58 (0, 0))) (hDX : ¬ D X) (hDl : ∀ i, D i → i < w.heap.size) (hlen : (encF f).length ≤ 140737488355328) :
    Calls Try.prog 32 #[.slice ao n cp, .func (.func 54) #[] #[.pointer (some ⟨X, 0, none⟩)]] w fun e w' => e = .returned (.int .i64 0) ∧ ∃ (t : AT) (ao2 : Option Addr) (q cp2 : Nat), eraseA t = f ∧ t.v = .slice ao2 q cp2 ∧ w'.heap[X]? = some (.cells #[.int .i64 t.op, .int .i64 t.k, .string ⟨t.r.1.toArray⟩, .string ⟨t.r.2.toArray⟩, .slice ao2 q cp2] 58 (0, 0)) ∧ OwnA w.heap.size w' t ∧ (blksA t).Nodup ∧ Chg (fun k => k = X) w w' := by
  have lX := lt_blk hX
  have hrw := readWorld_chg w (.slice ao n cp) (fun _ => False)
  have hv' := hv.keep hrw (fun _ _ h => h)
  have hdr : ¬ D (w.heap.size + 1) := fun h => by have := hDl _ h; omega
  have hdl : ∀ i, D i → i < (readWorld w (.slice ao n cp)).heap.size := fun i hi => by have := hDl i hi; rw [readWorld_size]; omega
  rw [← List.append_nil (encF f)] at hv'
  have hcl := fm_closF f hf (w.heap.size + 1) X _ [] (readWorld w (.slice ao n cp)) hv' (readWorld_R w _) (blk_keep hX hrw id) (by omega) hdr hDX hdl (by rw [List.append_nil]; exact hlen)
  refine (read_returns (T := fun k => k = X) (P := fun w1 => ∃ (t : AT) (ao2 : Option Addr) (q cp2 : Nat), eraseA t = f ∧ t.v = .slice ao2 q cp2 ∧ w1.heap[X]? = some (.cells #[.int .i64 t.op, .int .i64 t.k, .string ⟨t.r.1.toArray⟩, .string ⟨t.r.2.toArray⟩, .slice ao2 q cp2] 58 (0, 0)) ∧ OwnA (w.heap.size + 3) w1 t ∧ (blksA t).Nodup) (n := 0) (by rintro k rfl; omega) fm_readF_enter ?_).mono ?_
  · refine hcl.mono ?_
    rintro e w1 ⟨t, ao2, q, cp2, h1, h2, rfl, h3, h4, h5, ⟨vb, h6, h7⟩, h8⟩
    obtain ⟨ao3, cp3, hvb⟩ : ∃ ao3 cp3, vb = .slice ao3 0 cp3 := by
      rcases h6 with ⟨ao3, cp3, e, _⟩ | ⟨b3, o3, c3, e, _⟩
      · exact ⟨ao3, cp3, e⟩
      · exact ⟨_, c3, e⟩
    subst hvb
    exact ⟨rfl, ⟨⟨ao3, 0, cp3, h7, fun _ => rfl⟩, h8⟩, t, ao2, q, cp2, h1, h2, h3, by rw [readWorld_size] at h4; exact h4, h5⟩
  · rintro e w' ⟨rfl, w1, ⟨t, ao2, q, cp2, h1, h2, h3, h4, h5⟩, hle⟩
    have hlt := ownA_lt t h4
    exact ⟨rfl, t, ao2, q, cp2, h1, h2, blk_keep h3 hle.2.1 (by omega), ownA_low (by omega) t (ownA_keep hle.2.1 t h4 (fun b hb e => by have := (hlt b hb).1; omega)), h5, hle.2.2⟩
end Go.Proofs.Ytjaplnainlbldaa

/- Is a formula true? -/
namespace Go.Proofs.Ytjaplnainlbldaa
open Go.RowKit

/-- A function's value says which roles there are. -/
def AskR (gf : Nat) (fi cap : Array Value) (T : RoleB → Bool) (w : World) : Prop :=
  ∀ (r : RoleB) (W : World), r.1.length ≤ 9223372036854775807 → r.2.length ≤ 9223372036854775807 → Chg (fun _ => False) w W → Calls Try.prog gf (fi.push (.agg #[.string ⟨r.1.toArray⟩, .string ⟨r.2.toArray⟩]) ++ cap) W fun e w' => e = .returned (.bool (T r)) ∧ Chg (fun _ => False) W w'
theorem AskR.later {gf : Nat} {fi cap : Array Value} {T : RoleB → Bool} {w w' : World} (h : AskR gf fi cap T w) (hc : Chg (fun _ => False) w w') : AskR gf fi cap T w' := fun r W h1 h2 hW => h r W h1 h2 (hc.trans hW (fun _ _ h => h))

theorem fm_least (op k : Int) (r : RoleB) (ao : Option Addr) (n cp : Nat) (w : World) :
    Calls Try.prog 93 #[.agg #[.int .i64 op, .int .i64 k, .string ⟨r.1.toArray⟩, .string ⟨r.2.toArray⟩, .slice ao n cp]] w fun e w' => e = .returned (.int .i64 (leastN op k n)) ∧ Chg (fun _ => False) w w' := by
  have hc : Chg (fun _ => False) w (w.alloc (.cells #[.int .i64 op, .int .i64 k, .string ⟨r.1.toArray⟩, .string ⟨r.2.toArray⟩, .slice ao n cp] 58)) := (Chg.refl _ w).alloc _
  have hb := heap_alloc_new w (.cells #[.int .i64 op, .int .i64 k, .string ⟨r.1.toArray⟩, .string ⟨r.2.toArray⟩, .slice ao n cp] 58)
  have s0 := cell_blk hb 0
  have s1 := cell_blk hb 1
  have s2 := cell_blk hb 2
  have s3 := cell_blk hb 3
  have s4 := cell_blk hb 4
  simp only [List.getElem?_toArray, List.getElem?_cons_zero, List.getElem?_cons_succ] at s0 s1 s2 s3 s4
  have HC := hid hc
  clear hc hb
  go_enter Try.func93, Try.ntmps93
  by_cases h2 : op = 2
  · subst h2
    go_wp2
    go_ret
    exact ⟨by simp [leastN], HC.out⟩
  · have z2 : decide (op = 2) = false := decide_eq_false h2
    by_cases h3 : op = 3
    · subst h3
      go_wp2
      go_ret
      exact ⟨by simp [leastN], HC.out⟩
    · have z3 : decide (op = 3) = false := decide_eq_false h3
      go_wp2
      go_ret
      exact ⟨by simp [leastN, h2, h3], HC.out⟩

set_option maxRecDepth 100000 in
set_option maxHeartbeats 4000000 in
theorem fm_holds {D : Nat → Prop} (gf : Nat) (fi cap : Array Value) (T : RoleB → Bool) (eg : ∀ args w, (callFunc gf args).run Try.prog w = .ok (.enter gf args) w) : ∀ (n : Nat) (f : FmB) (ao : Option Addr) (cp : Nat) (w : World), FmsAt D w n ao f.kids → FmOk f → nodesF f ≤ 1048576 → AskR gf fi cap T w →
    Calls Try.prog 60 #[.agg #[.int .i64 f.op, .int .i64 f.k, .string ⟨f.r.1.toArray⟩, .string ⟨f.r.2.toArray⟩, .slice ao f.kids.length cp], .func (.func gf) fi cap] w fun e w' => e = .returned (.bool (holdsF T f)) ∧ Chg (fun _ => False) w w' := by
  intro n
  induction n using Nat.strongRecOn with
  | _ n ih =>
  intro f ao cp w h hok hN hask
  have hnl := nodesL_len f.kids
  have hnf := nodesF_eq f
  have HX := hid h
  have HIN := hid ih
  have HOK := hid hok
  have HAS := hid hask
  have hcA : Chg (fun _ => False) w (w.alloc (.cells #[.int .i64 f.op, .int .i64 f.k, .string ⟨f.r.1.toArray⟩, .string ⟨f.r.2.toArray⟩, .slice ao f.kids.length cp] 58)) := (Chg.refl _ w).alloc _
  have hb := heap_alloc_new w (.cells #[.int .i64 f.op, .int .i64 f.k, .string ⟨f.r.1.toArray⟩, .string ⟨f.r.2.toArray⟩, .slice ao f.kids.length cp] 58)
  have s0 := cell_blk hb 0
  have s1 := cell_blk hb 1
  have s2 := cell_blk hb 2
  have s3 := cell_blk hb 3
  have s4 := cell_blk hb 4
  simp only [List.getElem?_toArray, List.getElem?_cons_zero, List.getElem?_cons_succ] at s0 s1 s2 s3 s4
  have HC0 := hid hcA
  have HB0 := hid hb
  have HASK := hid (hask f.r (w.alloc (.cells #[.int .i64 f.op, .int .i64 f.k, .string ⟨f.r.1.toArray⟩, .string ⟨f.r.2.toArray⟩, .slice ao f.kids.length cp] 58)) hok.1 hok.2 hcA)
  clear h ih hok hcA hb hask
  go_enter Try.func60, Try.ntmps60
  have hhf := holdsF_eq T f
  by_cases h1 : f.op = 1
  · rw [if_pos h1] at hhf
    rw [h1] at s0
    have HASK1 := HASK.out
    rw [h1] at HASK1
    have HASK2 := hid HASK1
    have HC1 := HC0.out
    rw [h1] at HC1
    have HC9 := hid HC1
    clear HASK1 HC1
    go_wp2_with fail
    refine HASK2.out.mono ?_
    rintro e w2 ⟨rfl, hc2⟩
    have HC2 := hid (HC9.out.trans hc2 (fun _ _ h => h))
    clear hc2 HASK HASK2 HC9 s0 s1 s2 s3 s4
    go_wp2
    go_ret
    rw [hhf]
    exact ⟨rfl, HC2.out⟩
  · rw [if_neg h1] at hhf
    have z0 : (f.op == 1) = false := by simpa using h1
    have HHF := hid hhf
    clear hhf HASK
    go_wp2
    go_loopw [5, 18] (fun s i wr => ∃ j q : Nat, j ≤ f.kids.length ∧ i = .int .i64 j ∧ s = .int .i64 (q : Nat) ∧ q ≤ j ∧ Hid (q = holdsN T (f.kids.take j)) ∧ Hid (Chg (fun _ => False) (w.alloc (.cells #[.int .i64 f.op, .int .i64 f.k, .string ⟨f.r.1.toArray⟩, .string ⟨f.r.2.toArray⟩, .slice ao f.kids.length cp] 58)) wr)) (fun _ i _ => f.kids.length - (intOf i).toNat)
    case atStart => exact ⟨0, 0, Nat.zero_le _, rfl, rfl, Nat.le_refl _, hid (by simp [holdsN]), hid (Chg.refl _ _)⟩
    case round =>
      obtain ⟨j, q, hj, rfl, rfl, hqj, hq, hrel⟩ := hrel
      by_cases hlt : j < f.kids.length
      · have hcw := HC0.out.trans hrel.out (fun _ _ h => h)
        obtain ⟨b, off, hao, hDb, hat⟩ := (HX.out.keep hcw (fun _ _ => id)) j hlt
        obtain ⟨d, ao2, cp2, hd2, ⟨a0, a1, a2, a3, a4⟩, hok2, hz2, hkids⟩ := hat.open_
        have hns := holdsN_snoc T (f.kids.take j) f.kids[j]
        rw [← List.take_succ_eq_append_getElem hlt, ← hq.out] at hns
        have hle1 := nodesL_mem (List.getElem_mem hlt)
        generalize f.kids[j] = g at *
        have HNS := hid hns
        have hcB : Chg (fun _ => False) wr (wr.alloc (.cells #[.int .i64 g.op, .int .i64 g.k, .string ⟨g.r.1.toArray⟩, .string ⟨g.r.2.toArray⟩, .slice ao2 g.kids.length cp2] 58)) := (Chg.refl _ wr).alloc _
        have hnb := heap_alloc_new wr (.cells #[.int .i64 g.op, .int .i64 g.k, .string ⟨g.r.1.toArray⟩, .string ⟨g.r.2.toArray⟩, .slice ao2 g.kids.length cp2] 58)
        have t0 := cell_blk hnb 0
        have t1 := cell_blk hnb 1
        have t2 := cell_blk hnb 2
        have t3 := cell_blk hnb 3
        have t4 := cell_blk hnb 4
        simp only [List.getElem?_toArray, List.getElem?_cons_zero, List.getElem?_cons_succ] at t0 t1 t2 t3 t4
        have HIH := hid (HIN.out d hd2 g ao2 cp2 (wr.alloc (.cells #[.int .i64 g.op, .int .i64 g.k, .string ⟨g.r.1.toArray⟩, .string ⟨g.r.2.toArray⟩, .slice ao2 g.kids.length cp2] 58)) (hkids.keep hcB (fun _ _ => id)) hok2 (by omega) (HAS.out.later (hcw.trans hcB (fun _ _ h => h))))
        have HC1 := hid (hcw.trans hcB (fun _ _ h => h))
        have HC2 := hid (hrel.out.trans hcB (fun _ _ h => h))
        have HLT := hid hlt
        have HZ := hid z0
        clear hcB hnb hrel hkids hat hle1 hok2 hd2 hns hcw hq s0 s1 s2 s3 s4 z0
        subst hao
        go_wp2_with fail
        refine HIH.out.mono ?_
        rintro e w3 ⟨rfl, hc3⟩
        have HC3 := hid (HC2.out.trans hc3 (fun _ _ h => h))
        clear HIH HC2 HC1 hc3 a0 a1 a2 a3 a4 t0 t1 t2 t3 t4
        have HQJ := hid hqj
        cases hg : holdsF T g with
        | false =>
          have HQ2 : Hid (q = holdsN T (f.kids.take (j + 1))) := hid (by rw [HNS.out, hg]; rfl)
          clear hg
          go_wp2
          go_roundw
          case rel => exact ⟨j + 1, q, HLT.out, by go_num, rfl, by omega, HQ2, HC3⟩
          case measure => have := HLT.out; simp [intOf]; omega
        | true =>
          have HQ2 : Hid (q + 1 = holdsN T (f.kids.take (j + 1))) := hid (by rw [HNS.out, hg]; rfl)
          clear hg
          go_wp2
          go_roundw
          case rel => exact ⟨j + 1, q + 1, HLT.out, by go_num, by go_num, by omega, HQ2, HC3⟩
          case measure => have := HLT.out; simp [intOf]; omega
      · have hje : j = f.kids.length := by omega
        have hr := hrel.out
        have hq2 := hq.out
        rw [hje, List.take_length] at hq2
        have HQ := hid hq2
        have HR := hid hr
        have HLE := hid (fm_least f.op f.k f.r ao f.kids.length cp wr)
        have hb := blk_keep HB0.out hr id
        clear hr hrel hq hq2 s0 s1 s2 s3 s4
        have s0 := cell_blk hb 0
        have s1 := cell_blk hb 1
        have s2 := cell_blk hb 2
        have s3 := cell_blk hb 3
        have s4 := cell_blk hb 4
        simp only [List.getElem?_toArray, List.getElem?_cons_zero, List.getElem?_cons_succ] at s0 s1 s2 s3 s4
        clear hb hje
        go_wp2_with fail
        refine HLE.out.mono ?_
        rintro e w3 ⟨rfl, hc3⟩
        have HC3 := hid ((HC0.out.trans HR.out (fun _ _ h => h)).trans hc3 (fun _ _ h => h))
        clear hc3 HLE s0 s1 s2 s3 s4
        go_wp2
        go_ret
        rw [HHF.out, ← HQ.out]
        exact ⟨rfl, HC3.out⟩
end Go.Proofs.Ytjaplnainlbldaa
