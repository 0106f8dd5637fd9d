/- A right formula is brought into shape, in memory of the call's own. -/
import Derived.Test.YtcbfieodjbfjdaaNc23
import Derived.Laws.MakeOwn
namespace Go.Proofs.Ytcbfieodjbfjdaa
open Go.RowKit Go.Lib Go.Sort

theorem run_makeFms (n : Nat) (hn : n ≤ 1000000) (w : World) : (Instr.makeSlice 24 (.int .i64 n) (.int .i64 n)).run Try.prog w = .ok (.slice (some ⟨w.heap.size, 0, none⟩) n n) (w.alloc (.cells (madeCells fmZero.toArray (n * 5)) 26)) := by
  obtain ⟨i0, hi, hz0, hz1, hz2⟩ := info_parts Try.info26
  have := run_make (P := Try.prog) w 24 26 i0 (.agg fmZero.toArray) Try.underlying24b hi hz0 .i64 .i64 n n (by omega) (Int.le_refl _) (by rw [hz2]; omega) (by omega)
  rw [hz1] at this
  simpa [Value.cells] using this
theorem hold_made (w : World) (n : Nat) : HoldA (w.alloc (.cells (madeCells fmZero.toArray (n * 5)) 26)) w.heap.size n (List.replicate n (default : AT)).toArray := by
  refine ⟨⟨_, heap_alloc_new w _, size_madeCells _ _⟩, fun j hj i hi => ?_⟩
  have hj' : j < n := by simpa using hj
  have e : (List.replicate n (default : AT)).toArray[j]! = default := by simp [hj']
  rw [e, cell_blk (heap_alloc_new w _)]
  have hlt : j * 5 + i < n * 5 := by omega
  have : (madeCells fmZero.toArray (n * 5))[j * 5 + i]? = some (fmZero.toArray[(j * 5 + i) % 5]!) := by
    unfold madeCells
    simp [hlt, fmZero]
  rw [this, show (j * 5 + i) % 5 = i by omega]
  rcases (show i = 0 ∨ i = 1 ∨ i = 2 ∨ i = 3 ∨ i = 4 by omega) with rfl | rfl | rfl | rfl | rfl <;> rfl

/-- Within the loop, behind the first j Kids. -/
structure BrIn (w : World) (f : FmB) (ao : Option Addr) (cp n j : Nat) (ts : List AT) (wr : World) : Prop where
  len : ts.length = j
  sh : ShapeL (f.kids.take j) (ts.map eraseA)
  hold : HoldA wr (w.heap.size + 2) n (ts ++ List.replicate (n - j) (default : AT)).toArray
  own : OwnL w.heap.size wr ts
  nd : (blksL ts).Nodup
  lo : ∀ b ∈ blksL ts, w.heap.size + 3 ≤ b
  a : wr.heap[w.heap.size]? = some (.cells #[.int .i64 f.op, .int .i64 f.k, .string ⟨f.r.1.toArray⟩, .string ⟨f.r.2.toArray⟩, .slice ao f.kids.length cp] 26 (0, 0))
  z : wr.heap[w.heap.size + 1]? = some (.cells #[.int .i64 0, .int .i64 0, .string ⟨#[]⟩, .string ⟨#[]⟩, .slice none 0 0] 26 (0, 0))
  chg : Chg (fun _ => False) w wr
theorem set_mid (ts : List AT) (x : AT) (n : Nat) (h : ts.length < n) : (ts ++ List.replicate (n - ts.length) (default : AT)).toArray.setIfInBounds ts.length x = ((ts ++ [x]) ++ List.replicate (n - (ts.length + 1)) (default : AT)).toArray := by
  obtain ⟨m, hm⟩ : ∃ m, n - ts.length = m + 1 := ⟨n - ts.length - 1, by omega⟩
  rw [hm, show n - (ts.length + 1) = m by omega, List.replicate_succ]
  simp
theorem BrIn.step {w : World} {f : FmB} {ao : Option Addr} {cp n j : Nat} {ts : List AT} {wr w1 w2 : World} {x : AT} (h : BrIn w f ao cp n j ts wr) (hn : n = f.kids.length) (hj : j < n) (hc1 : Chg (fun _ => False) wr w1) (hx : OwnA w1.heap.size w2 x) (hnd : (blksA x).Nodup) (hsh : ShapeR (f.kids[j]'(by omega)) (eraseA x)) (hc2 : Chg (fun _ => False) w1 w2) :
    BrIn w f ao cp n (j + 1) (ts ++ [x]) (putA w2 (w.heap.size + 2) (j * 5) x) := by
  have hc : Chg (fun _ => False) wr w2 := hc1.trans hc2 (fun _ _ h => h)
  have hG := h.hold.blk
  obtain ⟨cur, hG, _⟩ := hG
  have hGl := lt_blk hG
  have hs1 := hc1.size
  have hcp : Chg (fun k => k = w.heap.size + 2) w2 (putA w2 (w.heap.size + 2) (j * 5) x) := by rw [putA_eq]; exact chg_setCellsA _ _ _
  have hxl := ownA_lt x hx
  have htl := ownL_lt h.own
  have hlen := h.len
  refine ⟨by simp [hlen], ?_, ?_, ?_, ?_, ?_, blk_keep (blk_keep h.a hc id) hcp (by omega), blk_keep (blk_keep h.z hc id) hcp (by omega), (h.chg.trans hc (fun _ _ h => h)).trans hcp (fun i hi e => by omega)⟩
  · rw [List.take_succ_eq_append_getElem (by omega), List.map_append]
    exact h.sh.snoc hsh
  · have := (h.hold.keep hc id).set (k := j) (u := x) (by simp [hlen]; omega) (by simp [hlen]; omega)
    have e := set_mid ts x n (by omega)
    rw [hlen] at e
    rw [e] at this
    exact this
  · refine (ownL_all _ _ _).2 fun t ht => ?_
    rcases List.mem_append.1 ht with ht | ht
    · have ht0 := (ownL_all _ _ _).1 h.own t ht
      exact ownA_keep hcp t (ownA_keep hc t ht0 (fun _ _ => id)) (fun b hb e => by
        have := h.lo b (by rw [blksL_flat]; exact List.mem_flatMap.2 ⟨t, ht, hb⟩)
        omega)
    · rw [List.mem_singleton.1 ht]
      have := h.chg.size
      exact ownA_low (by omega) x (ownA_keep hcp x hx (fun b hb e => by have := (hxl b hb).1; omega))
  · rw [blksL_app, blksL_one]
    refine List.nodup_append.2 ⟨h.nd, hnd, fun a ha b hb e => ?_⟩
    have := (htl a ha).2
    have := (hxl b hb).1
    omega
  · intro b hb
    rw [blksL_app, blksL_one, List.mem_append] at hb
    rcases hb with hb | hb
    · exact h.lo b hb
    · have := (hxl b hb).1
      omega
theorem BrIn.rw {w : World} {f : FmB} {ao : Option Addr} {cp n : Nat} {ts : List AT} {wr : World} (h : BrIn w f ao cp n n ts wr) (hn : n ≤ 4000) : OwnRw w.heap.size wr (.slice (some ⟨w.heap.size + 2, 0, none⟩) n n) ts := by
  have hh := h.hold
  rw [Nat.sub_self, List.replicate_zero, List.append_nil] at hh
  have hr := hh.own (B := w.heap.size) (by omega) (by rw [h.len]; exact Nat.le_refl _) (by unfold maxLen; omega)
  rw [h.len] at hr
  refine ⟨by rw [h.len]; exact hr, h.own, List.nodup_append.2 ⟨by simp [Value.ownBlock], h.nd, fun a ha b hb e => ?_⟩⟩
  have ha : a = w.heap.size + 2 := by simpa [Value.ownBlock] using ha
  have := h.lo b hb
  omega

set_option maxRecDepth 100000 in
set_option maxHeartbeats 8000000 in
theorem pbrought {D : Nat → Prop} : ∀ (N : Nat) (f : FmB), nodesF f ≤ N → ∀ (m : Nat) (ao : Option Addr) (cp : Nat) (w : World), FmsAt D w m ao f.kids → (∀ i, D i → i < w.heap.size) → FmOk f → rightF f = true → nodesF f ≤ 4000 →
    Calls Try.prog 25 #[.agg #[.int .i64 f.op, .int .i64 f.k, .string ⟨f.r.1.toArray⟩, .string ⟨f.r.2.toArray⟩, .slice ao f.kids.length cp]] w (ShapePost w.heap.size w [] (ShapeR f)) := by
  intro N
  induction N with
  | zero => intro f hf; have := nodesF_pos f; omega
  | succ N ih =>
  intro f hNf m ao cp w h hD hok hr hN4
  have hrn := hr
  rw [rightF_eq, Bool.and_eq_true] at hrn
  have hcA : Chg (fun _ => False) w (w.alloc (.cells #[.int .i64 f.op, .int .i64 f.k, .string ⟨f.r.1.toArray⟩, .string ⟨f.r.2.toArray⟩, .slice ao f.kids.length cp] 26)) := (Chg.refl _ w).alloc _
  have hba0 := heap_alloc_new w (.cells #[.int .i64 f.op, .int .i64 f.k, .string ⟨f.r.1.toArray⟩, .string ⟨f.r.2.toArray⟩, .slice ao f.kids.length cp] 26)
  have s0 := cell_blk hba0 0
  have s1 := cell_blk hba0 1
  have s2 := cell_blk hba0 2
  have s3 := cell_blk hba0 3
  have s4 := cell_blk hba0 4
  simp only [List.getElem?_toArray, List.getElem?_cons_zero, List.getElem?_cons_succ] at s0 s1 s2 s3 s4
  by_cases h1 : f.op = 1
  · have hpr : ShapeR f (.mk 1 0 f.r []) := by rw [shapeR_eq, if_pos h1]
    have hz1 : (w.alloc (.cells #[.int .i64 f.op, .int .i64 f.k, .string ⟨f.r.1.toArray⟩, .string ⟨f.r.2.toArray⟩, .slice ao f.kids.length cp] 26)).heap.size = w.heap.size + 1 := by simp
    have HX := hid (And.intro hok (And.intro hpr (And.intro hcA hz1)))
    clear ih hNf h hD hok hr hN4 hrn hcA hba0 hpr hz1
    obtain ⟨fo, fk, fr, fl⟩ := f
    simp only [FmB.op, FmB.k, FmB.r, FmB.kids] at *
    subst h1
    go_enter Try.func25, Try.ntmps25
    go_wp2
    refine bodyPost_ret (results_cell_row (P := Try.prog) rfl _ _ (w.heap.size + 1) 26 _ (0, 0) _ rfl (by
      have := heap_alloc_new (w.alloc (.cells #[.int .i64 1, .int .i64 fk, .string ⟨fr.1.toArray⟩, .string ⟨fr.2.toArray⟩, .slice ao fl.length cp] 26)) (.cells #[.int .i64 1, .int .i64 0, .string ⟨fr.1.toArray⟩, .string ⟨fr.2.toArray⟩, .slice none 0 0] 26)
      rw [HX.out.2.2.2] at this
      exact this) Try.underlying26 rfl (by kernel_rfl)) rfl ?_
    refine ⟨.mk 1 0 fr (.slice none 0 0) [], rfl, ?_, by simp [blksA, blksL, Value.ownBlock], fun b hb => by simp [blksA, blksL, Value.ownBlock] at hb, HX.out.2.1, HX.out.2.2.1.alloc _⟩
    rw [ownA_eq]
    exact ⟨HX.out.1, World.ownsRow_nil _ _ _ _, trivial⟩
  · have z1 : (f.op == 1) = false := by simpa using h1
    have hnk : f.kids.length ≤ 4000 := by have := nodesL_len f.kids; have := nodesF_eq f; omega
    have hmk := run_makeFms f.kids.length (by omega)
    have hst0 : BrIn w f ao cp f.kids.length 0 [] (((w.alloc (.cells #[.int .i64 f.op, .int .i64 f.k, .string ⟨f.r.1.toArray⟩, .string ⟨f.r.2.toArray⟩, .slice ao f.kids.length cp] 26)).alloc (.cells #[.int .i64 0, .int .i64 0, .string ⟨#[]⟩, .string ⟨#[]⟩, .slice none 0 0] 26)).alloc (.cells (madeCells fmZero.toArray (f.kids.length * 5)) 26)) := by
      have e1 : (w.alloc (.cells #[.int .i64 f.op, .int .i64 f.k, .string ⟨f.r.1.toArray⟩, .string ⟨f.r.2.toArray⟩, .slice ao f.kids.length cp] 26)).heap.size = w.heap.size + 1 := by simp
      have e2 : ((w.alloc (.cells #[.int .i64 f.op, .int .i64 f.k, .string ⟨f.r.1.toArray⟩, .string ⟨f.r.2.toArray⟩, .slice ao f.kids.length cp] 26)).alloc (.cells #[.int .i64 0, .int .i64 0, .string ⟨#[]⟩, .string ⟨#[]⟩, .slice none 0 0] 26)).heap.size = w.heap.size + 2 := by simp
      have k1 := (Chg.refl (fun _ => False) (w.alloc (.cells #[.int .i64 f.op, .int .i64 f.k, .string ⟨f.r.1.toArray⟩, .string ⟨f.r.2.toArray⟩, .slice ao f.kids.length cp] 26))).alloc (.cells #[.int .i64 0, .int .i64 0, .string ⟨#[]⟩, .string ⟨#[]⟩, .slice none 0 0] 26)
      have k2 := (Chg.refl (fun _ => False) ((w.alloc (.cells #[.int .i64 f.op, .int .i64 f.k, .string ⟨f.r.1.toArray⟩, .string ⟨f.r.2.toArray⟩, .slice ao f.kids.length cp] 26)).alloc (.cells #[.int .i64 0, .int .i64 0, .string ⟨#[]⟩, .string ⟨#[]⟩, .slice none 0 0] 26))).alloc (.cells (madeCells fmZero.toArray (f.kids.length * 5)) 26)
      have hh := hold_made ((w.alloc (.cells #[.int .i64 f.op, .int .i64 f.k, .string ⟨f.r.1.toArray⟩, .string ⟨f.r.2.toArray⟩, .slice ao f.kids.length cp] 26)).alloc (.cells #[.int .i64 0, .int .i64 0, .string ⟨#[]⟩, .string ⟨#[]⟩, .slice none 0 0] 26)) f.kids.length
      rw [e2] at hh
      have hz := heap_alloc_new (w.alloc (.cells #[.int .i64 f.op, .int .i64 f.k, .string ⟨f.r.1.toArray⟩, .string ⟨f.r.2.toArray⟩, .slice ao f.kids.length cp] 26)) (.cells #[.int .i64 0, .int .i64 0, .string ⟨#[]⟩, .string ⟨#[]⟩, .slice none 0 0] 26)
      rw [e1] at hz
      exact ⟨rfl, by rw [List.take_zero]; rw [List.map_nil, ShapeL], by rw [Nat.sub_zero, List.nil_append]; exact hh, trivial, by simp [blksL], fun b hb => by simp [blksL] at hb, blk_keep (blk_keep hba0 k1 id) k2 id, blk_keep hz k2 id, (hcA.trans k1 (fun _ _ h => h)).trans k2 (fun _ _ h => h)⟩
    have HST0 := hid hst0
    have H := hid (And.intro h (And.intro hD (And.intro hok (And.intro hrn (And.intro hN4 hNf)))))
    have HIH := hid ih
    clear ih hNf h hD hok hr hN4 hrn hcA hba0 hst0
    go_enter Try.func25, Try.ntmps25
    go_wp2
    clear hmk s0 s1 s2 s3 s4
    go_loopw [19] (fun i wr => ∃ (j : Nat) (ts : List AT), j ≤ f.kids.length ∧ i = .int .i64 j ∧ Hid (BrIn w f ao cp f.kids.length j ts wr)) (fun i _ => f.kids.length - (intOf i).toNat)
    case atStart => exact ⟨0, [], Nat.zero_le _, rfl, HST0⟩
    case round =>
      obtain ⟨j, ts, hj, rfl, hrel⟩ := hrel
      have HX0 := hrel
      by_cases hlt : j < f.kids.length
      · obtain ⟨b, off, hao, hDb, hat⟩ := (H.out.1.keep hrel.out.chg (fun _ _ => id)) j hlt
        obtain ⟨d, ao2, cp2, hd2, ⟨a0, a1, a2, a3, a4⟩, hok2, hz2, hkids⟩ := hat.open_
        have hSTP := fun (x : AT) (w1 w2 : World) c1 (e : OwnA w1.heap.size w2 x) e1 e2 e3 => hrel.out.step (x := x) (w1 := w1) (w2 := w2) rfl hlt c1 e e1 e2 e3
        have hle1 := nodesL_mem (List.getElem_mem hlt)
        have hrg := rightL_mem H.out.2.2.2.1.1 _ (List.getElem_mem hlt)
        generalize f.kids[j] = g at *
        have hng : nodesF g ≤ N ∧ nodesF g ≤ 4000 := by have := H.out.2.2.2.2.1; have := H.out.2.2.2.2.2; have := nodesF_eq f; omega
        have hcB : Chg (fun _ => False) wr (wr.alloc (.cells #[.int .i64 g.op, .int .i64 g.k, .string ⟨g.r.1.toArray⟩, .string ⟨g.r.2.toArray⟩, .slice ao2 g.kids.length cp2] 26)) := (Chg.refl _ wr).alloc _
        have hnb := heap_alloc_new wr (.cells #[.int .i64 g.op, .int .i64 g.k, .string ⟨g.r.1.toArray⟩, .string ⟨g.r.2.toArray⟩, .slice ao2 g.kids.length cp2] 26)
        have t0 := cell_blk hnb 0
        have t1 := cell_blk hnb 1
        have t2 := cell_blk hnb 2
        have t3 := cell_blk hnb 3
        have t4 := cell_blk hnb 4
        simp only [List.getElem?_toArray, List.getElem?_cons_zero, List.getElem?_cons_succ] at t0 t1 t2 t3 t4
        have hDl : ∀ i, D i → i < (wr.alloc (.cells #[.int .i64 g.op, .int .i64 g.k, .string ⟨g.r.1.toArray⟩, .string ⟨g.r.2.toArray⟩, .slice ao2 g.kids.length cp2] 26)).heap.size := fun i hi => by have := H.out.2.1 i hi; have := hrel.out.chg.size; have := hcB.size; omega
        have HB := hid (HIH.out g hng.1 d ao2 cp2 _ (hkids.keep hcB (fun _ _ => id)) hDl hok2 hrg hng.2)
        have HC := hid (And.intro hcB hSTP)
        subst hao
        clear hSTP hle1 hrg hng hcB hnb hDl hat hkids hok2 hz2 hd2 hDb hrel
        go_wp2_with fail
        refine HB.out.mono ?_
        rintro e w2 ⟨x, rfl, g1, g2, g3, g4, g5⟩
        have hend := HC.out.2 x _ w2 HC.out.1 g1 g2 g4 g5
        have hhold := HX0.out.hold.keep (HC.out.1.trans g5 (fun _ _ h => h)) id
        have hjl := HX0.out.len
        have hc := hhold.fm (j := j) (by simp [hjl]; omega)
        have hfz := hhold.froz
        obtain ⟨xo, xc, hv, _⟩ := own_fms g1
        obtain ⟨xn, hxn⟩ : ∃ xn, xn = x.kids.length := ⟨_, rfl⟩
        rw [← hxn] at hv
        obtain ⟨xop, xk, xr, xv, xkids⟩ := x
        simp only [AT.v] at hv
        subst hv
        obtain ⟨c0, c1, c2, c3, c4⟩ := hc
        have z00 := hfz (j * 5)
        have z01 := hfz (j * 5 + 1)
        have z02 := hfz (j * 5 + 2)
        have z03 := hfz (j * 5 + 3)
        have z04 := hfz (j * 5 + 4)
        unfold putA at hend
        simp only [AT.op, AT.k, AT.r, AT.v] at hend
        have HEND := hid hend
        clear hend hhold hjl hfz g1 g2 g3 g4 g5 hxn HB HC HX0
        unfold fmV
        simp only [AT.op, AT.k, AT.r, AT.v]
        go_wp2
        go_roundw
        case rel => exact ⟨j + 1, _, hlt, by go_num, HEND⟩
        case measure => simp [intOf]; omega
      · have hje : j = f.kids.length := by omega
        have hbr := hrel.out
        rw [hje] at hbr
        have hsh := hbr.sh
        rw [List.take_length] at hsh
        have hrw := hbr.rw hnk
        have hlen : f.kids.length = ts.length := hbr.len.symm
        have hsz := hbr.chg.size
        have hnn : nodesL (eraseL ts) ≤ 4000 := by
          have h5 := shapeL_nodes hsh
          have h6 := nodesF_eq f
          have h7 := H.out.2.2.2.2.1
          rw [eraseL_map]
          omega
        have s0 := cell_blk hbr.a 0
        have s1 := cell_blk hbr.a 1
        simp only [List.getElem?_toArray, List.getElem?_cons_zero, List.getElem?_cons_succ] at s0 s1
        have hzl := lt_blk hbr.z
        obtain ⟨cur, hGb, _⟩ := hbr.hold.blk
        have hGl := lt_blk hGb
        have HX := hid (And.intro hbr (And.intro hsh (show w.heap.size + 2 ≤ wr.heap.size by omega)))
        have HY := hid (And.intro hrw (And.intro hlen (And.intro hsz hnn)))
        clear hbr hrel HX0 hsh hrw hlen hsz hnn hzl hGb hGl hje
        by_cases h4 : f.op = 4
        · have hkb : 0 ≤ f.k ∧ f.k ≤ 4000 := by rcases rightN_op H.out.2.2.2.1.2 with h | h | h <;> omega
          have z4 : (f.op == 4) = true := by simpa using h4
          have HA := hid (patLeast (B := w.heap.size) f.k hkb (some ⟨w.heap.size + 2, 0, none⟩) f.kids.length f.kids.length ts wr HY.out.2.1 HY.out.1 HY.out.2.2.1 HY.out.2.2.2)
          clear hkb
          go_wp2_with fail
          refine HA.out.mono ?_
          rintro e w2 ⟨x, rfl, g1, g2, g3, g4, g5⟩
          have hz2 := blk_keep HX.out.1.z g5 id
          obtain ⟨xo, xc, hv, _⟩ := own_fms g1
          obtain ⟨xn, hxn⟩ : ∃ xn, xn = x.kids.length := ⟨_, rfl⟩
          rw [← hxn] at hv
          obtain ⟨xop, xk, xr, xv, xkids⟩ := x
          simp only [AT.v] at hv
          subst hv
          have r0 := cell_blk hz2 0
          have r1 := cell_blk hz2 1
          have r2 := cell_blk hz2 2
          have r3 := cell_blk hz2 3
          have r4 := cell_blk hz2 4
          have f0 := froz_blk hz2 0
          have f1 := froz_blk hz2 1
          have f2 := froz_blk hz2 2
          have f3 := froz_blk hz2 3
          have f4 := froz_blk hz2 4
          simp only [List.getElem?_toArray, List.getElem?_cons_zero, List.getElem?_cons_succ] at r0 r1 r2 r3 r4
          have hbs : ∀ b ∈ blksA (.mk xop xk xr (.slice xo xn xc) xkids), w.heap.size + 2 ≤ b := fun b hb => by
            rcases g3 b hb with h | h
            · have := HX.out.1.lo b h; omega
            · have := HX.out.2.2; omega
          have hsh : ShapeR f (eraseA (.mk xop xk xr (.slice xo xn xc) xkids)) := by
            rw [shapeR_eq, if_neg h1]
            exact ⟨ts.map eraseA, HX.out.2.1, by rw [if_pos h4]; exact g4⟩
          have HZ := hid (And.intro hz2 (And.intro g1 (And.intro g2 (And.intro hbs (And.intro hsh (HX.out.1.chg.trans g5 (fun _ _ h => h)))))))
          clear hz2 g1 g2 g3 g4 g5 hxn HA hbs hsh
          unfold fmV
          simp only [AT.op, AT.k, AT.r, AT.v]
          go_wp2
          obtain ⟨hend, hcz⟩ := store5n HZ.out.1 (.int .i64 xop) (.int .i64 xk) (.string ⟨xr.1.toArray⟩) (.string ⟨xr.2.toArray⟩) (.slice xo xn xc)
          refine bodyPost_ret (results_cell_row (P := Try.prog) rfl _ _ (w.heap.size + 1) 26 _ (0, 0) _ rfl hend Try.underlying26 rfl (by kernel_rfl)) rfl ?_
          exact ⟨_, rfl, ownA_keep hcz _ HZ.out.2.1 (fun b hb e => by have := HZ.out.2.2.2.1 b hb; have e : b = w.heap.size + 1 := e; omega), HZ.out.2.2.1, fun b hb => .inr (by have := HZ.out.2.2.2.1 b hb; omega), HZ.out.2.2.2.2.1, HZ.out.2.2.2.2.2.trans hcz (fun i hi e => by have : i = w.heap.size + 1 := e; omega)⟩
        · have hop : f.op = 2 ∨ f.op = 3 := by rcases rightN_op H.out.2.2.2.1.2 with h | h | h <;> omega
          have z4 : (f.op == 4) = false := by simpa using h4
          have HA := hid (pjoined (B := w.heap.size) f.op hop (some ⟨w.heap.size + 2, 0, none⟩) f.kids.length f.kids.length ts wr HY.out.2.1 HY.out.1 HY.out.2.2.1 HY.out.2.2.2)
          clear hop
          go_wp2_with fail
          refine HA.out.mono ?_
          rintro e w2 ⟨x, rfl, g1, g2, g3, g4, g5⟩
          have hz2 := blk_keep HX.out.1.z g5 id
          obtain ⟨xo, xc, hv, _⟩ := own_fms g1
          obtain ⟨xn, hxn⟩ : ∃ xn, xn = x.kids.length := ⟨_, rfl⟩
          rw [← hxn] at hv
          obtain ⟨xop, xk, xr, xv, xkids⟩ := x
          simp only [AT.v] at hv
          subst hv
          have r0 := cell_blk hz2 0
          have r1 := cell_blk hz2 1
          have r2 := cell_blk hz2 2
          have r3 := cell_blk hz2 3
          have r4 := cell_blk hz2 4
          have f0 := froz_blk hz2 0
          have f1 := froz_blk hz2 1
          have f2 := froz_blk hz2 2
          have f3 := froz_blk hz2 3
          have f4 := froz_blk hz2 4
          simp only [List.getElem?_toArray, List.getElem?_cons_zero, List.getElem?_cons_succ] at r0 r1 r2 r3 r4
          have hbs : ∀ b ∈ blksA (.mk xop xk xr (.slice xo xn xc) xkids), w.heap.size + 2 ≤ b := fun b hb => by
            rcases g3 b hb with h | h
            · have := HX.out.1.lo b h; omega
            · have := HX.out.2.2; omega
          have hsh : ShapeR f (eraseA (.mk xop xk xr (.slice xo xn xc) xkids)) := by
            rw [shapeR_eq, if_neg h1]
            exact ⟨ts.map eraseA, HX.out.2.1, by rw [if_neg h4]; exact g4⟩
          have HZ := hid (And.intro hz2 (And.intro g1 (And.intro g2 (And.intro hbs (And.intro hsh (HX.out.1.chg.trans g5 (fun _ _ h => h)))))))
          clear hz2 g1 g2 g3 g4 g5 hxn HA hbs hsh
          unfold fmV
          simp only [AT.op, AT.k, AT.r, AT.v]
          go_wp2
          obtain ⟨hend, hcz⟩ := store5n HZ.out.1 (.int .i64 xop) (.int .i64 xk) (.string ⟨xr.1.toArray⟩) (.string ⟨xr.2.toArray⟩) (.slice xo xn xc)
          refine bodyPost_ret (results_cell_row (P := Try.prog) rfl _ _ (w.heap.size + 1) 26 _ (0, 0) _ rfl hend Try.underlying26 rfl (by kernel_rfl)) rfl ?_
          exact ⟨_, rfl, ownA_keep hcz _ HZ.out.2.1 (fun b hb e => by have := HZ.out.2.2.2.1 b hb; have e : b = w.heap.size + 1 := e; omega), HZ.out.2.2.1, fun b hb => .inr (by have := HZ.out.2.2.2.1 b hb; omega), HZ.out.2.2.2.2.1, HZ.out.2.2.2.2.2.trans hcz (fun i hi e => by have : i = w.heap.size + 1 := e; omega)⟩
end Go.Proofs.Ytcbfieodjbfjdaa
