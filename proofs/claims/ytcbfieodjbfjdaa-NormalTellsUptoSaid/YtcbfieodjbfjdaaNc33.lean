/- The document's Shape. -/
import Derived.Test.YtcbfieodjbfjdaaNc32
import Derived.Test.YtcbfieodjbfjdaaNc24
namespace Go.Proofs.Ytcbfieodjbfjdaa
open Go.RowKit

/-- Within Shape's first loop, behind the first j Kids. -/
structure BrD (D : Nat → Prop) (w : World) (f : FmB) (ao : Option Addr) (cp : Nat) (j : Nat) (v : Value) (ls : List DE) (wr : World) : Prop where
  row : wr.ownsRow (w.heap.size + 2) 26 5 v ls.length (rowD ls)
  ok : ∀ x ∈ ls, DOk (fun i => D i ∨ (w.heap.size + 2 ≤ i ∧ i < wr.heap.size ∧ v.ownBlock ≠ some i)) wr x
  sh : ShapeL (f.kids.take j) (ls.map (·.f))
  a : wr.heap[w.heap.size]? = some (.cells #[.int .i64 f.op, .int .i64 f.k, .string ⟨f.r.1.toArray⟩, .string ⟨f.r.2.toArray⟩, .slice ao f.kids.length cp] 26 (0, 0))
  z : wr.heap[w.heap.size + 1]? = some (.cells #[.int .i64 0, .int .i64 0, .string ⟨#[]⟩, .string ⟨#[]⟩, .slice none 0 0] 26 (0, 0))
  chg : Chg (fun _ => False) w wr
theorem BrD.step {D : Nat → Prop} {w : World} {f : FmB} {ao : Option Addr} {cp j : Nat} {v v' : Value} {ls : List DE} {wr w1 w2 w3 w5 : World} {x : DE} (h : BrD D w f ao cp j v ls wr) (hD : ∀ i, D i → i < w.heap.size) (hj : j < f.kids.length) (hc1 : Chg (fun _ => False) wr w1)
    (hx : DOk (fun i => D i ∨ (w1.heap.size ≤ i ∧ i < w2.heap.size)) w2 x) (hsh : ShapeR f.kids[j] x.f) (hc2 : Chg (fun _ => False) w1 w2) (hc3 : Chg (fun _ => False) w2 w3) (hrow : w5.ownsRow (w.heap.size + 2) 26 5 v' (ls ++ [x]).length (rowD (ls ++ [x]))) (hc5 : Chg (fun k => v.ownBlock = some k) w3 w5) (hv' : v'.ownBlock = v.ownBlock ∨ v'.ownBlock = some w3.heap.size) : BrD D w f ao cp (j + 1) v' (ls ++ [x]) w5 := by
  have hv : ∀ k, v.ownBlock = some k → w.heap.size + 2 ≤ k ∧ k < wr.heap.size := fun k hk => h.row.lt k hk
  have s1 := hc1.size
  have s2 := hc2.size
  have s3 := hc3.size
  have s5 := hc5.size
  have s0 := h.chg.size
  have sz := lt_blk h.z
  have h13 := (hc1.trans hc2 (fun _ _ h => h)).trans hc3 (fun _ _ h => h)
  refine ⟨hrow, fun y hy => ?_, ?_, blk_keep (blk_keep h.a h13 id) hc5 (fun e => by have := hv _ e; omega), blk_keep (blk_keep h.z h13 id) hc5 (fun e => by have := hv _ e; omega), (h.chg.trans h13 (fun _ _ h => h)).trans hc5 (fun i hi e => by have := hv _ e; omega)⟩
  · rcases List.mem_append.1 hy with hy | hy
    · refine (((h.ok y hy).keep h13 (fun _ _ => id)).keep hc5 (fun i hi e => ?_)).wide (fun i hi => ?_)
      · rcases hi with hi | hi
        · have := hv _ e; have := hD i hi; omega
        · exact hi.2.2 e
      · rcases hi with hi | hi
        · exact .inl hi
        · refine .inr ⟨hi.1, by omega, ?_⟩
          rcases hv' with e | e
          · rw [e]; exact hi.2.2
          · rw [e]; intro e2; cases e2; omega
    · rw [List.mem_singleton.1 hy]
      refine ((hx.keep hc3 (fun _ _ => id)).keep hc5 (fun i hi e => ?_)).wide (fun i hi => ?_)
      · rcases hi with hi | hi
        · have := hv _ e; have := hD i hi; omega
        · have := hv _ e; omega
      · rcases hi with hi | hi
        · exact .inl hi
        · refine .inr ⟨by omega, by omega, ?_⟩
          rcases hv' with e | e
          · rw [e]; intro e2; have := hv _ e2; omega
          · rw [e]; intro e2; cases e2; omega
  · rw [List.take_succ_eq_append_getElem hj, List.map_append]
    exact h.sh.snoc hsh

/-- Within Shape's second loop, behind the first j Kids. -/
structure AtD (D : Nat → Prop) (w : World) (q0 : Int) (ks : List DE) (j : Nat) (q : Int) (v : Value) (ls : List DE) (wr : World) : Prop where
  row : wr.ownsRow w.heap.size 26 5 v ls.length (rowD ls)
  ok : ∀ x ∈ ls, DOk D w x
  eq : ls.map (·.f) = restN ((ks.take j).map (·.f))
  kk : q = q0 - truesN ((ks.take j).map (·.f))
  chg : Chg (fun _ => False) w wr
theorem AtD.start (D : Nat → Prop) (w : World) (q0 : Int) (ks : List DE) : AtD D w q0 ks 0 q0 (.slice none 0 0) [] w :=
  ⟨World.ownsRow_nil _ _ _ _, fun _ h => (by cases h), rfl, by simp [truesN], Chg.refl _ _⟩
theorem AtD.keep {D : Nat → Prop} {w : World} {q0 : Int} {ks : List DE} {j : Nat} {q : Int} {v : Value} {ls : List DE} {wr w1 : World} (h : AtD D w q0 ks j q v ls wr) (hc : Chg (fun _ => False) wr w1) : AtD D w q0 ks j q v ls w1 :=
  ⟨ownsRow_keep h.row hc (fun _ _ => id), h.ok, h.eq, h.kk, h.chg.trans hc (fun _ _ h => h)⟩
theorem AtD.step {D : Nat → Prop} {w : World} {q0 : Int} {ks : List DE} {j : Nat} {q q' : Int} {v v' : Value} {ls us : List DE} {w1 w' : World} (h : AtD D w q0 ks j q v ls w1) (hj : j < ks.length) (hus : ∀ x ∈ us, DOk D w x)
    (heq : us.map (·.f) = if isC ks[j].f then [] else [ks[j].f]) (hq : q' = q - (if isC ks[j].f = true ∧ ks[j].f.op = 2 then 1 else 0))
    (hrow : w'.ownsRow w.heap.size 26 5 v' (ls ++ us).length (rowD (ls ++ us))) (hc : Chg (fun k => v.ownBlock = some k) w1 w') : AtD D w q0 ks (j + 1) q' v' (ls ++ us) w' := by
  have e1 : ks.take (j + 1) = ks.take j ++ [ks[j]] := List.take_succ_eq_append_getElem hj
  have hv : ∀ k, v.ownBlock = some k → w.heap.size ≤ k := fun k hk => (h.row.lt k hk).1
  have hj2 : j < (ks.map (·.f)).length := by simpa using hj
  refine ⟨hrow, fun x hx => (List.mem_append.1 hx).elim (h.ok x) (hus x), ?_, ?_, h.chg.trans hc (fun i hi e => by have := hv _ e; omega)⟩
  · have := rest_take (ks.map (·.f)) j hj2
    rw [List.map_append, h.eq, heq, List.map_take, List.map_take, this]
    simp
  · have := trues_take (ks.map (·.f)) j hj2
    have h1 := h.kk
    rw [List.map_take] at h1 ⊢
    rw [this, hq, h1]
    simp only [List.getElem_map]
    split <;> omega
theorem AtD.nodes {D : Nat → Prop} {w : World} {q0 : Int} {ks : List DE} {j : Nat} {q : Int} {v : Value} {ls : List DE} {wr : World} (h : AtD D w q0 ks j q v ls wr) : nodesL (ls.map (·.f)) ≤ nodesL (ks.map (·.f)) := by
  have h1 := nodes_rest ((ks.take j).map (·.f))
  have h2 := nodesL_take (ks.map (·.f)) j
  rw [h.eq]
  rw [← List.map_take] at h2
  omega

set_option maxRecDepth 100000 in
set_option maxHeartbeats 16000000 in
theorem rnshape {D : Nat → Prop} (SB : Nat) : ∀ (N : Nat) (f : FmB), nodesF f ≤ N → ∀ (m : Nat) (ao : Option Addr) (cp : Nat) (w : World), FmsAt D w m ao f.kids → (∀ i, D i → i < w.heap.size) → FmOk f → rightF f = true → nodesF f ≤ 64 → (ao = none → cp = 0) → w.heap[SB]? = some (.cells #[.bool false] 51 (0, 0)) →
    Calls Try.prog 27 #[.pointer (some ⟨SB, 0, none⟩), .agg #[.int .i64 f.op, .int .i64 f.k, .string ⟨f.r.1.toArray⟩, .string ⟨f.r.2.toArray⟩, .slice ao f.kids.length cp]] w (DPost D w (ShapeR f)) := by
  intro N
  induction N with
  | zero => intro f hf; have := nodesF_pos f; omega
  | succ N ih =>
  intro f hNf m ao cp w h hD hok hr hN4 hzc hs
  have hrn := hr
  rw [rightF_eq, Bool.and_eq_true] at hrn
  have hcA : Chg (fun _ => False) w (w.alloc (.cells #[.int .i64 f.op, .int .i64 f.k, .string ⟨f.r.1.toArray⟩, .string ⟨f.r.2.toArray⟩, .slice ao f.kids.length cp] 26)) := (Chg.refl _ w).alloc _
  have hba0 := heap_alloc_new w (.cells #[.int .i64 f.op, .int .i64 f.k, .string ⟨f.r.1.toArray⟩, .string ⟨f.r.2.toArray⟩, .slice ao f.kids.length cp] 26)
  have s0 := cell_blk hba0 0
  have s1 := cell_blk hba0 1
  have s2 := cell_blk hba0 2
  have s3 := cell_blk hba0 3
  have s4 := cell_blk hba0 4
  simp only [List.getElem?_toArray, List.getElem?_cons_zero, List.getElem?_cons_succ] at s0 s1 s2 s3 s4
  by_cases h1 : f.op = 1
  · have hff : f = .mk 1 0 f.r [] := by
      obtain ⟨fo, fk, fr, fl⟩ := f
      simp only [FmB.op] at h1
      subst h1
      rcases rightN_op hrn.2 with h | h | h
      · have h3 := h.2.2.1
        have h4 := h.2.2.2
        simp only [FmB.kids, FmB.k, List.length_eq_zero_iff] at h3 h4
        rw [h3, h4]
        rfl
      · exact absurd h.1 (by simp [FmB.op])
      · exact absurd h.1 (by simp [FmB.op])
    have hpr : ShapeR f f := by rw [shapeR_eq, if_pos h1]; exact hff
    have hz1 : (w.alloc (.cells #[.int .i64 f.op, .int .i64 f.k, .string ⟨f.r.1.toArray⟩, .string ⟨f.r.2.toArray⟩, .slice ao f.kids.length cp] 26)).heap.size = w.heap.size + 1 := by simp
    have HX := hid (And.intro hpr (And.intro hcA (And.intro hz1 (And.intro h (And.intro hok (And.intro hzc (And.intro hN4 h1)))))))
    have zo : (f.op == 1) = true := by simpa using h1
    clear ih hNf h hD hok hr hN4 hrn hcA hba0 hpr hz1 hff hs hzc h1
    go_enter Try.func27, Try.ntmps27
    go_wp2
    have hz5 := heap_alloc_new (w.alloc (.cells #[.int .i64 f.op, .int .i64 f.k, .string ⟨f.r.1.toArray⟩, .string ⟨f.r.2.toArray⟩, .slice ao f.kids.length cp] 26)) (.cells #[.int .i64 f.op, .int .i64 f.k, .string ⟨f.r.1.toArray⟩, .string ⟨f.r.2.toArray⟩, .slice ao f.kids.length cp] 26)
    rw [HX.out.2.2.1] at hz5
    refine bodyPost_ret (results_cell_row (P := Try.prog) rfl _ _ (w.heap.size + 1) 26 _ (0, 0) _ rfl hz5 Try.underlying26 rfl (by kernel_rfl)) rfl ?_
    exact ⟨⟨f, ao, cp⟩, rfl, ⟨⟨m, (HX.out.2.2.2.1.keep (HX.out.2.1.alloc _) (fun _ _ => id)).mono (fun i hi => .inl hi)⟩, HX.out.2.2.2.2.1, HX.out.2.2.2.2.2.1, (by have := HX.out.2.2.2.2.2.2.1; show nodesF f ≤ 4000; omega), fun h9 => absurd HX.out.2.2.2.2.2.2.2 h9⟩, HX.out.1, HX.out.2.1.alloc _⟩
  · have z1 : (f.op == 1) = false := by simpa using h1
    have hnk : f.kids.length ≤ 63 := by have := nodesL_len f.kids; have := nodesF_eq f; omega
    have hst0 : BrD D w f ao cp 0 (.slice none 0 0) [] ((w.alloc (.cells #[.int .i64 f.op, .int .i64 f.k, .string ⟨f.r.1.toArray⟩, .string ⟨f.r.2.toArray⟩, .slice ao f.kids.length cp] 26)).alloc (.cells #[.int .i64 0, .int .i64 0, .string ⟨#[]⟩, .string ⟨#[]⟩, .slice none 0 0] 26)) := by
      have e1 : (w.alloc (.cells #[.int .i64 f.op, .int .i64 f.k, .string ⟨f.r.1.toArray⟩, .string ⟨f.r.2.toArray⟩, .slice ao f.kids.length cp] 26)).heap.size = w.heap.size + 1 := by simp
      have k1 := (Chg.refl (fun _ => False) (w.alloc (.cells #[.int .i64 f.op, .int .i64 f.k, .string ⟨f.r.1.toArray⟩, .string ⟨f.r.2.toArray⟩, .slice ao f.kids.length cp] 26))).alloc (.cells #[.int .i64 0, .int .i64 0, .string ⟨#[]⟩, .string ⟨#[]⟩, .slice none 0 0] 26)
      have hz := heap_alloc_new (w.alloc (.cells #[.int .i64 f.op, .int .i64 f.k, .string ⟨f.r.1.toArray⟩, .string ⟨f.r.2.toArray⟩, .slice ao f.kids.length cp] 26)) (.cells #[.int .i64 0, .int .i64 0, .string ⟨#[]⟩, .string ⟨#[]⟩, .slice none 0 0] 26)
      rw [e1] at hz
      exact ⟨World.ownsRow_nil _ _ _ _, fun _ h => (by cases h), by rw [List.take_zero]; rw [List.map_nil, ShapeL], blk_keep hba0 k1 id, hz, hcA.trans k1 (fun _ _ h => h)⟩
    have HST0 := hid hst0
    have H := hid (And.intro h (And.intro hD (And.intro hok (And.intro hrn (And.intro hN4 (And.intro hNf hs))))))
    have HIH := hid ih
    clear ih hNf h hD hok hr hN4 hrn hcA hba0 hst0 hs hzc
    go_enter Try.func27, Try.ntmps27
    go_wp2
    clear s0 s1 s2 s3 s4
    go_loopw [5, 19] (fun v i wr => ∃ (j : Nat) (ls : List DE) (lo : Option Addr) (ln lc : Nat), j ≤ f.kids.length ∧ i = .int .i64 j ∧ v = .slice lo ln lc ∧ Hid (ln = ls.length ∧ BrD D w f ao cp j (.slice lo ln lc) ls wr)) (fun _ i _ => f.kids.length - (intOf i).toNat)
    case atStart => exact ⟨0, [], none, 0, 0, Nat.zero_le _, rfl, rfl, hid ⟨rfl, HST0.out⟩⟩
    case round =>
      obtain ⟨j, ls, lo, ln, lc, hj, rfl, rfl, hrel⟩ := hrel
      by_cases hlt : j < f.kids.length
      · obtain ⟨b, off, hao, hDb, hat⟩ := (H.out.1.keep hrel.out.2.chg (fun _ _ => id)) j hlt
        obtain ⟨d, ao2, cp2, hd2, ⟨a0, a1, a2, a3, a4⟩, hok2, hz2, hkids⟩ := hat.open_
        have hSTP := fun (v' : Value) (x : DE) (w1 w2 w3 w5 : World) c1 c2 c3 c4 c5 c6 c7 c8 => hrel.out.2.step (v' := v') (x := x) (w1 := w1) (w2 := w2) (w3 := w3) (w5 := w5) H.out.2.1 hlt c1 c2 c3 c4 c5 c6 c7 c8
        have hle1 := nodesL_mem (List.getElem_mem hlt)
        have hrg := rightL_mem H.out.2.2.2.1.1 _ (List.getElem_mem hlt)
        have hnl : ls.length ≤ 63 := by have h9 := hrel.out.2.sh.len; rw [List.length_map, List.length_take] at h9; omega
        generalize f.kids[j] = g at *
        have hng : nodesF g ≤ N ∧ nodesF g ≤ 64 := by have := H.out.2.2.2.2.1; have := H.out.2.2.2.2.2.1; have := nodesF_eq f; omega
        have hcB : Chg (fun _ => False) wr (wr.alloc (.cells #[.int .i64 g.op, .int .i64 g.k, .string ⟨g.r.1.toArray⟩, .string ⟨g.r.2.toArray⟩, .slice ao2 g.kids.length cp2] 26)) := (Chg.refl _ wr).alloc _
        have hnb := heap_alloc_new wr (.cells #[.int .i64 g.op, .int .i64 g.k, .string ⟨g.r.1.toArray⟩, .string ⟨g.r.2.toArray⟩, .slice ao2 g.kids.length cp2] 26)
        have t0 := cell_blk hnb 0
        have t1 := cell_blk hnb 1
        have t2 := cell_blk hnb 2
        have t3 := cell_blk hnb 3
        have t4 := cell_blk hnb 4
        simp only [List.getElem?_toArray, List.getElem?_cons_zero, List.getElem?_cons_succ] at t0 t1 t2 t3 t4
        have hDl : ∀ i, D i → i < (wr.alloc (.cells #[.int .i64 g.op, .int .i64 g.k, .string ⟨g.r.1.toArray⟩, .string ⟨g.r.2.toArray⟩, .slice ao2 g.kids.length cp2] 26)).heap.size := fun i hi => by have := H.out.2.1 i hi; have := hrel.out.2.chg.size; have := hcB.size; omega
        have HB := hid (HIH.out g hng.1 d ao2 cp2 _ (hkids.keep hcB (fun _ _ => id)) hDl hok2 hrg hng.2 hz2 (blk_keep (blk_keep H.out.2.2.2.2.2.2 hrel.out.2.chg id) hcB id))
        have HC := hid (And.intro hcB (And.intro hSTP (And.intro hrel.out (And.intro hnl hcB.size))))
        subst hao
        clear hSTP hle1 hrg hng hcB hnb hDl hat hkids hok2 hz2 hd2 hDb hrel hnl
        go_wp2_with fail
        refine HB.out.mono ?_
        clear HB
        rintro e w2 ⟨x, rfl, dx, rx, cx⟩
        have hcC : Chg (fun _ => False) w2 (w2.alloc (.cells #[.int .i64 x.f.op, .int .i64 x.f.k, .string ⟨x.f.r.1.toArray⟩, .string ⟨x.f.r.2.toArray⟩, .slice x.ao x.f.kids.length x.cp] 26)) := (Chg.refl _ w2).alloc _
        have hsz := HC.out.2.2.1.2.chg.size
        have hsb := HC.out.2.2.2.2
        have hsx := cx.size
        have hsc := hcC.size
        have hzz := lt_blk HC.out.2.2.1.2.z
        have hnl := HC.out.2.2.2.1
        obtain ⟨v', w5, hap, hrow5, hc5, hv5⟩ := runD 24 (us := [x]) (ownsRow_keep (ownsRow_keep (ownsRow_keep HC.out.2.2.1.2.row HC.out.1 (fun _ _ => id)) cx (fun _ _ => id)) hcC (fun _ _ => id)) (some ⟨w2.heap.size, 0, none⟩) 1 1 rfl (fun e => by cases e) (fun a e => by cases e; rfl) (rd_new w2 x) (by simp; omega) (by omega)
        have hj5 := HC.out.2.1 v' x _ w2 _ w5 HC.out.1 dx rx cx hcC hrow5 hc5 hv5
        obtain ⟨lo5, lc5, hv6, _⟩ := rowD_shape hrow5
        subst hv6
        have hln := HC.out.2.2.1.1
        obtain ⟨ln5, hln5⟩ : ∃ ln5, ln5 = (ls ++ [x]).length := ⟨_, rfl⟩
        rw [← hln5] at hap hj5
        have HEND := hid (And.intro hln5 hj5)
        clear hcC hsz hsb hsx hsc hzz hnl hrow5 hc5 hv5 hj5 hln5 hln HC dx rx cx a0 a1 a2 a3 a4 t0 t1 t2 t3 t4
        unfold valD at *
        go_wp2_with (at_builtin; refine wpList_append_runb rfl (.tmp 23) (.tmp 27) 24 rfl rfl rfl hap ?_)
        clear hap
        go_wp2
        go_roundw
        case rel => exact ⟨j + 1, _, lo5, ln5, lc5, hlt, by go_num, rfl, HEND⟩
        case measure => simp [intOf]; omega
      · have hje : j = f.kids.length := by omega
        have hbr := hrel.out.2
        rw [hje] at hbr
        have hsh := hbr.sh
        rw [List.take_length] at hsh
        have hln := hrel.out.1
        have hlen : ls.length = f.kids.length := by have h9 := hsh.len; rw [List.length_map] at h9; exact h9
        have hnn : nodesL (ls.map (·.f)) ≤ 63 := by
          have h5 := shapeL_nodes hsh
          have h6 := nodesF_eq f
          have h7 := H.out.2.2.2.2.1
          omega
        have hNF : ∀ x ∈ ls, NF x.f := fun x hx => shapeL_NF H.out.2.2.2.1.1 hsh _ (List.mem_map.2 ⟨x, hx, rfl⟩)
        have hok9 : ∀ x ∈ ls, DOk (fun i => D i ∨ (w.heap.size + 2 ≤ i ∧ i < wr.heap.size)) wr x := fun x hx => (hbr.ok x hx).wide (fun i hi => hi.imp id (fun h => ⟨h.1, h.2.1⟩))
        have hsw := hbr.chg.size
        have hD9 : ∀ i, (D i ∨ (w.heap.size + 2 ≤ i ∧ i < wr.heap.size)) → i < wr.heap.size := fun i hi => hi.elim (fun h => by have := H.out.2.1 i h; omega) (fun h => h.2)
        have hs9 := blk_keep H.out.2.2.2.2.2.2 hbr.chg id
        have s0 := cell_blk hbr.a 0
        have s1 := cell_blk hbr.a 1
        have s2 := cell_blk hbr.a 2
        have s3 := cell_blk hbr.a 3
        have s4 := cell_blk hbr.a 4
        simp only [List.getElem?_toArray, List.getElem?_cons_zero, List.getElem?_cons_succ] at s0 s1 s2 s3 s4
        have HX := hid (And.intro hbr (And.intro hsh (And.intro hnn (And.intro hNF (And.intro hok9 (And.intro hD9 (And.intro hs9 (And.intro hln hlen))))))))
        have hll : ln ≤ 63 := by omega
        clear hln hlen hbr hrel hsh hnn hNF hok9 hsw hD9 hs9 hje hj
        by_cases h4 : f.op = 4
        · have hkb : 0 ≤ f.k ∧ f.k ≤ 64 := by rcases rightN_op H.out.2.2.2.1.2 with h | h | h <;> omega
          have z4 : ¬ f.op < 4 := by omega
          have zb4 : decide (f.op < 4) = false := by simp; omega
          go_wp2
          clear s0 s1 s2 s3 s4 hlt
          generalize wr = w9 at *
          go_loopw [8, 9, 42] (fun kv v i wr => ∃ (j : Nat) (q : Int) (rs : List DE) (lo2 : Option Addr) (rn rc : Nat), j ≤ ln ∧ i = .int .i64 j ∧ v = .slice lo2 rn rc ∧ kv = .int .i64 q ∧ (-64 ≤ q ∧ q ≤ 64) ∧ Hid (rn = rs.length ∧ AtD (fun i => D i ∨ (w.heap.size + 2 ≤ i ∧ i < w9.heap.size)) w9 f.k ls j q (.slice lo2 rn rc) rs wr)) (fun _ _ i _ => ln - (intOf i).toNat)
          case atStart => exact ⟨0, f.k, [], none, 0, 0, Nat.zero_le _, rfl, rfl, rfl, ⟨by omega, hkb.2⟩, hid ⟨rfl, AtD.start _ w9 f.k ls⟩⟩
          case round =>
            obtain ⟨j, q, rs, lo2, rn, rc, hj, rfl, rfl, rfl, hqb, hrel⟩ := hrel
            by_cases hlt : j < ln
            · have hjk : j < ls.length := by have := HX.out.2.2.2.2.2.2.2.1; omega
              obtain ⟨b0, off0, hlo, a0, a1, a2, a3, a4⟩ := ((own_rd (by have := HX.out.1.row; have hln := HX.out.2.2.2.2.2.2.2.1; rw [hln] at this; exact this)).keep hrel.out.2.chg) j hjk
              have hkm := List.getElem_mem hjk
              have hkd := HX.out.2.2.2.2.1 _ hkm
              have hkN := HX.out.2.2.2.1 _ hkm
              have hST := fun (q' : Int) (v' : Value) (us : List DE) (w1 w' : World) (h1 : Chg (fun _ => False) wr w1) a b c d e => (hrel.out.2.keep h1).step (q' := q') (v' := v') (us := us) (w' := w') hjk a b c d e
              have hrl : rs.length ≤ 63 := by
                have h1 := hrel.out.2.nodes
                have h2 := nodesL_len (rs.map (·.f))
                rw [List.length_map] at h2
                have := HX.out.2.2.1
                omega
              have htr : (truesN ((ls.take (j + 1)).map (·.f)) : Int) ≤ 63 := by
                have h1 := trues_len ((ls.take (j + 1)).map (·.f))
                rw [List.length_map, List.length_take] at h1
                omega
              generalize ls[j] = k at *
              have hcA : Chg (fun _ => False) wr (wr.alloc (.cells #[.int .i64 k.f.op, .int .i64 k.f.k, .string ⟨k.f.r.1.toArray⟩, .string ⟨k.f.r.2.toArray⟩, .slice k.ao k.f.kids.length k.cp] 26)) := (Chg.refl _ wr).alloc _
              have hyb := heap_alloc_new wr (.cells #[.int .i64 k.f.op, .int .i64 k.f.k, .string ⟨k.f.r.1.toArray⟩, .string ⟨k.f.r.2.toArray⟩, .slice k.ao k.f.kids.length k.cp] 26)
              have y0 := cell_blk hyb 0
              have y1 := cell_blk hyb 1
              have y2 := cell_blk hyb 2
              have y3 := cell_blk hyb 3
              have y4 := cell_blk hyb 4
              simp only [List.getElem?_toArray, List.getElem?_cons_zero, List.getElem?_cons_succ] at y0 y1 y2 y3 y4
              have HNO := hid (rnnone k.f.op k.f.k k.f.r k.ao k.f.kids.length k.cp 2 (wr.alloc (.cells #[.int .i64 k.f.op, .int .i64 k.f.k, .string ⟨k.f.r.1.toArray⟩, .string ⟨k.f.r.2.toArray⟩, .slice k.ao k.f.kids.length k.cp] 26)))
              have hci : (decide (k.f.op = 2) && decide (k.f.kids.length = 0)) = (isC k.f && decide (k.f.op = 2)) := by
                unfold isC
                rw [Bool.eq_iff_iff]
                simp only [Bool.and_eq_true, decide_eq_true_eq, List.length_eq_zero_iff]
                constructor
                · rintro ⟨h1, h2⟩; exact ⟨⟨by omega, h2⟩, h1⟩
                · rintro ⟨⟨_, h2⟩, h1⟩; exact ⟨h1, h2⟩
              have hci3 : (decide (k.f.op = 3) && decide (k.f.kids.length = 0)) = (isC k.f && decide (k.f.op = 3)) := by
                unfold isC
                rw [Bool.eq_iff_iff]
                simp only [Bool.and_eq_true, decide_eq_true_eq, List.length_eq_zero_iff]
                constructor
                · rintro ⟨h1, h2⟩; exact ⟨⟨by omega, h2⟩, h1⟩
                · rintro ⟨⟨_, h2⟩, h1⟩; exact ⟨h1, h2⟩
              rw [hci] at HNO
              have hcon : isC k.f = true → k.f.op = 2 ∨ k.f.op = 3 := fun e => (NF_const hkN e).1
              obtain ⟨b2, hb2⟩ : ∃ b2, b2 = (isC k.f && decide (k.f.op = 2)) := ⟨_, rfl⟩
              obtain ⟨b3, hb3⟩ : ∃ b3, b3 = (isC k.f && decide (k.f.op = 3)) := ⟨_, rfl⟩
              rw [← hb2] at HNO
              have hS2 : b2 = true → ∀ (w1 : World), Chg (fun _ => False) wr w1 → AtD (fun i => D i ∨ (w.heap.size + 2 ≤ i ∧ i < w9.heap.size)) w9 f.k ls (j + 1) (q - 1) (.slice lo2 rn rc) rs w1 := fun e w1 hc => by
                rw [hb2, Bool.and_eq_true, decide_eq_true_eq] at e
                have := hST (q - 1) (.slice lo2 rn rc) [] w1 w1 hc (fun _ h => by cases h) (by rw [if_pos e.1]; rfl) (by rw [if_pos e]) (by rw [List.append_nil]; exact (hrel.out.2.keep hc).row) (Chg.refl _ _)
                rw [List.append_nil] at this
                exact this
              have hS3 : b2 = false → b3 = true → ∀ (w1 : World), Chg (fun _ => False) wr w1 → AtD (fun i => D i ∨ (w.heap.size + 2 ≤ i ∧ i < w9.heap.size)) w9 f.k ls (j + 1) q (.slice lo2 rn rc) rs w1 := fun e2 e w1 hc => by
                rw [hb3, Bool.and_eq_true, decide_eq_true_eq] at e
                have := hST q (.slice lo2 rn rc) [] w1 w1 hc (fun _ h => by cases h) (by rw [if_pos e.1]; rfl) (by rw [if_neg (by rintro ⟨_, h⟩; omega)]; omega) (by rw [List.append_nil]; exact (hrel.out.2.keep hc).row) (Chg.refl _ _)
                rw [List.append_nil] at this
                exact this
              have hS4 : b2 = false → b3 = false → ∀ (v' : Value) (w1 w' : World), Chg (fun _ => False) wr w1 → w'.ownsRow w9.heap.size 26 5 v' (rs ++ [k]).length (rowD (rs ++ [k])) → Chg (fun z => Value.ownBlock (.slice lo2 rn rc) = some z) w1 w' → AtD (fun i => D i ∨ (w.heap.size + 2 ≤ i ∧ i < w9.heap.size)) w9 f.k ls (j + 1) q v' (rs ++ [k]) w' := fun e2 e3 v' w1 w' h1 h2 h3 => by
                have hno : isC k.f = false := by
                  cases hh : isC k.f with
                  | false => rfl
                  | true =>
                    rw [hh, Bool.true_and] at hb2 hb3
                    rcases hcon hh with h | h
                    · rw [e2] at hb2; simp [h] at hb2
                    · rw [e3] at hb3; simp [h] at hb3
                exact hST q v' [k] w1 w' h1 (fun x hx => by rw [List.mem_singleton.1 hx]; exact hkd) (by rw [hno]; rfl) (by rw [if_neg (by rw [hno]; rintro ⟨h, _⟩; cases h)]; omega) h2 h3
              have hqq : b2 = true → -64 ≤ q - 1 := fun e => by
                have h5 := (hS2 e wr (Chg.refl _ _)).kk
                have := hkb.1
                omega
              have hr3 : ∀ wz, Calls Try.prog 51 #[.agg #[.int .i64 k.f.op, .int .i64 k.f.k, .string ⟨k.f.r.1.toArray⟩, .string ⟨k.f.r.2.toArray⟩, .slice k.ao k.f.kids.length k.cp], .int .i64 3] wz fun e w' => e = .returned (.bool b3) ∧ Chg (fun _ => False) wz w' := fun wz => by
                have := rnnone k.f.op k.f.k k.f.r k.ao k.f.kids.length k.cp 3 wz
                rw [hci3, ← hb3] at this
                exact this
              have HR3 := hid hr3
              have HY := hid (And.intro hrel.out (And.intro hcA (And.intro hyb (And.intro hrl (And.intro hS2 (And.intro hS3 hS4))))))
              have hww := hcA.size
              have hwx := hrel.out.2.chg.size
              have HW := hid (And.intro hww hwx)
              subst hlo
              clear hkm hkd hkN hST hrl htr hcA hyb hci hci3 hcon hb2 hb3 hS2 hS3 hS4 hr3 hrel hjk hww hwx
              go_wp2_with fail
              refine HNO.out.mono ?_
              clear HNO
              rintro e w2 ⟨rfl, hc2⟩
              have hyb2 := blk_keep HY.out.2.2.1 hc2 id
              have HCB := hid (And.intro (HY.out.2.1.trans hc2 (fun _ _ h => h)) (And.intro hyb2 hc2.size))
              clear y0 y1 y2 y3 y4
              have y0 := cell_blk hyb2 0
              have y1 := cell_blk hyb2 1
              have y2 := cell_blk hyb2 2
              have y3 := cell_blk hyb2 3
              have y4 := cell_blk hyb2 4
              simp only [List.getElem?_toArray, List.getElem?_cons_zero, List.getElem?_cons_succ] at y0 y1 y2 y3 y4
              clear hyb2 hc2
              cases b2 with
              | true =>
                have hq1 := hqq rfl
                have HEND := hid (And.intro HY.out.1.1 (HY.out.2.2.2.2.1 rfl _ HCB.out.1))
                clear hqq HY HR3 HCB HW a0 a1 a2 a3 a4
                go_wp2
                go_roundw
                case rel => exact ⟨j + 1, q - 1, rs, lo2, rn, rc, hlt, by go_num, rfl, by go_num, ⟨by omega, by omega⟩, HEND⟩
                case measure => simp [intOf]; omega
              | false =>
                have HR := hid (HR3.out w2)
                clear hqq HR3
                go_wp2_with fail
                refine HR.out.mono ?_
                clear HR
                rintro e w6 ⟨rfl, hc6⟩
                have hyb6 := blk_keep HCB.out.2.1 hc6 id
                have hcD := HCB.out.1.trans hc6 (fun _ _ h => h)
                clear y0 y1 y2 y3 y4
                have y0 := cell_blk hyb6 0
                have y1 := cell_blk hyb6 1
                have y2 := cell_blk hyb6 2
                have y3 := cell_blk hyb6 3
                have y4 := cell_blk hyb6 4
                simp only [List.getElem?_toArray, List.getElem?_cons_zero, List.getElem?_cons_succ] at y0 y1 y2 y3 y4
                cases b3 with
                | true =>
                  have HEND := hid (And.intro HY.out.1.1 (HY.out.2.2.2.2.2.1 (by first | rfl | trivial) (by first | rfl | trivial) _ hcD))
                  clear HY HCB HW a0 a1 a2 a3 a4 hc6 hyb6 hcD
                  go_wp2
                  go_roundw
                  case rel => exact ⟨j + 1, q, rs, lo2, rn, rc, hlt, by go_num, rfl, rfl, hqb, HEND⟩
                  case measure => simp [intOf]; omega
                | false =>
                  have hcC : Chg (fun _ => False) w6 (w6.alloc (.cells #[.int .i64 k.f.op, .int .i64 k.f.k, .string ⟨k.f.r.1.toArray⟩, .string ⟨k.f.r.2.toArray⟩, .slice k.ao k.f.kids.length k.cp] 26)) := (Chg.refl _ w6).alloc _
                  have hs1 := hcC.size
                  have hs2 := hcD.size
                  have hs3 := HY.out.1.2.chg.size
                  have hrl := HY.out.2.2.2.1
                  obtain ⟨v', w5, hap, hrow5, hc5, _⟩ := runD 24 (us := [k]) (ownsRow_keep (ownsRow_keep HY.out.1.2.row hcD (fun _ _ => id)) hcC (fun _ _ => id)) (some ⟨w6.heap.size, 0, none⟩) 1 1 rfl (fun e => by cases e) (fun a e => by cases e; rfl) (rd_new w6 k) (by simp; omega) (by omega)
                  have hj5 := HY.out.2.2.2.2.2.2 (by first | rfl | trivial) (by first | rfl | trivial) v' _ w5 (hcD.trans hcC (fun _ _ h => h)) hrow5 hc5
                  obtain ⟨lo5, lc5, hv5, _⟩ := rowD_shape hrow5
                  subst hv5
                  have hrn := HY.out.1.1
                  obtain ⟨ln5, hln5⟩ : ∃ ln5, ln5 = (rs ++ [k]).length := ⟨_, rfl⟩
                  rw [← hln5] at hap hj5
                  have HEND := hid (And.intro hln5 hj5)
                  clear HCB HW a0 a1 a2 a3 a4 hc6 hyb6 hcD hcC hs1 hs2 hs3 hrl hrow5 hc5 hj5 hln5 HY hrn
                  go_wp2_with (at_builtin; refine wpList_append_runb rfl (.tmp 53) (.tmp 55) 24 rfl rfl rfl hap ?_)
                  clear hap
                  go_wp2
                  go_roundw
                  case rel => exact ⟨j + 1, q, _, lo5, ln5, lc5, hlt, by go_num, rfl, rfl, hqb, HEND⟩
                  case measure => simp [intOf]; omega
            · have hje : j = ln := by omega
              have hat := hrel.out.2
              rw [hje, HX.out.2.2.2.2.2.2.2.1] at hat
              have hrn := hrel.out.1
              have heq := hat.eq
              have hkk := hat.kk
              rw [List.take_length] at heq hkk
              have hrq : restN (ls.map (·.f)) = rs.map (·.f) := heq.symm
              have hrln : (restN (ls.map (·.f))).length = rn := by rw [hrq, List.length_map, hrn]
              have hnr : nodesL (rs.map (·.f)) ≤ 63 := by have := hat.nodes; have := HX.out.2.2.1; omega
              have hrl : rn ≤ 63 := by have h2 := nodesL_len (rs.map (·.f)); rw [List.length_map] at h2; omega
              have hNFr : ∀ x ∈ rs, NF x.f := fun x hx => by
                have hm : x.f ∈ restN (ls.map (·.f)) := by rw [hrq]; exact List.mem_map.2 ⟨x, hx, rfl⟩
                obtain ⟨y, hy, hye⟩ := List.mem_map.1 (List.mem_filter.1 hm).1
                rw [← hye]
                exact HX.out.2.2.2.1 y hy
              have hok2 : ∀ x ∈ rs, DOk (fun i => D i ∨ (w.heap.size + 2 ≤ i ∧ i < w9.heap.size)) wr x := fun x hx => (hat.ok x hx).keep hat.chg (fun _ _ => id)
              have hsw := hat.chg.size
              have hcw := HX.out.1.chg.trans hat.chg (fun _ _ h => h)
              have hz9 := blk_keep HX.out.1.z hat.chg id
              have hD2 : ∀ i, (D i ∨ (w.heap.size + 2 ≤ i ∧ i < w9.heap.size)) → i < wr.heap.size := fun i hi => by have := HX.out.2.2.2.2.2.1 i hi; omega
              have hs2 := blk_keep HX.out.2.2.2.2.2.2.1 hat.chg id
              have hrd2 : RdD wr lo2 rs := own_rd (by have := hat.row; rw [hrn] at this; exact this)
              have hJ := fun (op : Int) (hop : op = 2 ∨ op = 3) => rnjoin SB op hop lo2 rn rc rs wr hrn hrd2 hok2 hD2 hs2 hNFr hnr
              rw [← hrq] at hJ
              have HS := hid (rnsorted (D := fun i => D i ∨ (w.heap.size + 2 ≤ i ∧ i < w9.heap.size)) false lo2 rn rc rs wr hrn hrd2 hok2 (by omega))
              have HJ := hid hJ
              have r0 := cell_blk hz9 0
              have r1 := cell_blk hz9 1
              have r2 := cell_blk hz9 2
              have r3 := cell_blk hz9 3
              have r4 := cell_blk hz9 4
              have g0 := froz_blk hz9 0
              have g1 := froz_blk hz9 1
              have g2 := froz_blk hz9 2
              have g3 := froz_blk hz9 3
              have g4 := froz_blk hz9 4
              simp only [List.getElem?_toArray, List.getElem?_cons_zero, List.getElem?_cons_succ] at r0 r1 r2 r3 r4
              have HZ := hid (And.intro hz9 hcw)
              have HY := hid (And.intro hrq (And.intro hok2 (And.intro hnr (And.intro hsw (And.intro hkk (And.intro hrln hrn))))))
              clear hje hat heq hrq hnr hNFr hok2 hcw hz9 hD2 hs2 hrd2 hJ hsw hrel hj hkk hrln hrn
              by_cases c1 : q ≤ 0
              · go_wp2
                obtain ⟨hend, hcz⟩ := storeR HZ.out.1 (.int .i64 2) (.int .i64 0) (.string ⟨#[]⟩) (.string ⟨#[]⟩) (.slice none 0 0)
                refine bodyPost_ret (results_cell_row (P := Try.prog) rfl _ _ (w.heap.size + 1) 26 _ (0, 0) _ rfl hend Try.underlying26 rfl (by kernel_rfl)) rfl ?_
                exact ⟨⟨.mk 2 0 ([], []) [], none, 0⟩, rfl, ⟨⟨0, FmsAt.nil _ _ _ _⟩, ⟨by simp [FmB.r], by simp [FmB.r]⟩, fun _ => rfl, by simp [nodesF, nodesL], fun _ a ha => by cases ha⟩, (by
                  show ShapeR f (.mk 2 0 ([], []) [])
                  rw [shapeR_eq, if_neg h1]
                  exact ⟨_, HX.out.2.1, by rw [if_pos h4]; exact .inl ⟨by rw [← HY.out.2.2.2.2.1]; exact c1, rfl⟩⟩), HZ.out.2.trans hcz (fun i hi e => by have e2 : i = w.heap.size + 1 := e; omega)⟩
              · have c1' : 0 < q := by omega
                by_cases c2 : (rn : Int) < q
                · go_wp2
                  obtain ⟨hend, hcz⟩ := storeR HZ.out.1 (.int .i64 3) (.int .i64 0) (.string ⟨#[]⟩) (.string ⟨#[]⟩) (.slice none 0 0)
                  refine bodyPost_ret (results_cell_row (P := Try.prog) rfl _ _ (w.heap.size + 1) 26 _ (0, 0) _ rfl hend Try.underlying26 rfl (by kernel_rfl)) rfl ?_
                  exact ⟨⟨.mk 3 0 ([], []) [], none, 0⟩, rfl, ⟨⟨0, FmsAt.nil _ _ _ _⟩, ⟨by simp [FmB.r], by simp [FmB.r]⟩, fun _ => rfl, by simp [nodesF, nodesL], fun _ a ha => by cases ha⟩, (by
                    show ShapeR f (.mk 3 0 ([], []) [])
                    rw [shapeR_eq, if_neg h1]
                    exact ⟨_, HX.out.2.1, by rw [if_pos h4]; exact .inr (.inl ⟨by rw [← HY.out.2.2.2.2.1]; exact c1', by rw [← HY.out.2.2.2.2.1, HY.out.2.2.2.2.2.1]; exact c2, rfl⟩)⟩), HZ.out.2.trans hcz (fun i hi e => by have e2 : i = w.heap.size + 1 := e; omega)⟩
                · by_cases c3 : q = rn
                  · have z3 : (q == (rn : Int)) = true := by simpa using c3
                    have HA := hid (HJ.out 2 (.inl rfl))
                    clear HJ HS
                    go_wp2_with fail
                    refine HA.out.mono ?_
                    clear HA
                    rintro e w2 ⟨x, rfl, dx, rx, cx⟩
                    have hz2 := blk_keep HZ.out.1 cx id
                    have hcw2 := HZ.out.2.trans cx (fun _ _ h => h)
                    have hzl := lt_blk HZ.out.1
                    have hsx := cx.size
                    have dE : DOk (fun i => D i ∨ (w.heap.size + 2 ≤ i ∧ i < w2.heap.size)) w2 x := dx.wide (fun i hi => by
                      have hsw := HY.out.2.2.2.1
                      rcases hi with (hi | hi) | hi
                      · exact .inl hi
                      · exact .inr ⟨hi.1, by omega⟩
                      · exact .inr ⟨by omega, hi.2⟩)
                    have rE : ShapeR f x.f := by
                      rw [shapeR_eq, if_neg h1]
                      exact ⟨_, HX.out.2.1, by rw [if_pos h4]; exact .inr (.inr (.inl ⟨by rw [← HY.out.2.2.2.2.1]; exact c1', by rw [← HY.out.2.2.2.2.1, HY.out.2.2.2.2.2.1]; exact c3, rx⟩))⟩
                    have r0 := cell_blk hz2 0
                    have r1 := cell_blk hz2 1
                    have r2 := cell_blk hz2 2
                    have r3 := cell_blk hz2 3
                    have r4 := cell_blk hz2 4
                    have g0 := froz_blk hz2 0
                    have g1 := froz_blk hz2 1
                    have g2 := froz_blk hz2 2
                    have g3 := froz_blk hz2 3
                    have g4 := froz_blk hz2 4
                    simp only [List.getElem?_toArray, List.getElem?_cons_zero, List.getElem?_cons_succ] at r0 r1 r2 r3 r4
                    have HZ := hid (And.intro hz2 (And.intro hcw2 (And.intro dE rE)))
                    clear hz2 hcw2 hzl hsx dE rE dx rx cx HY HX
                    unfold valD
                    go_wp2
                    obtain ⟨hend, hcz⟩ := storeR HZ.out.1 (.int .i64 x.f.op) (.int .i64 x.f.k) (.string ⟨x.f.r.1.toArray⟩) (.string ⟨x.f.r.2.toArray⟩) (.slice x.ao x.f.kids.length x.cp)
                    refine bodyPost_ret (results_cell_row (P := Try.prog) rfl _ _ (w.heap.size + 1) 26 _ (0, 0) _ rfl hend Try.underlying26 rfl (by kernel_rfl)) rfl ?_
                    have hsz := hcz.size
                    exact ⟨x, rfl, (HZ.out.2.2.1.keep hcz (fun i hi e => by have e2 : i = w.heap.size + 1 := e; exact hi.elim (fun h => by have := H.out.2.1 i h; omega) (fun h => by omega))).wide (fun i hi => hi.imp id (fun h => ⟨by omega, by omega⟩)), HZ.out.2.2.2, HZ.out.2.1.trans hcz (fun i hi e => by have e2 : i = w.heap.size + 1 := e; omega)⟩
                  · have z3 : (q == (rn : Int)) = false := by simpa using c3
                    have c3' : q < (rn : Int) := by omega
                    by_cases c4 : q = 1
                    · have z5 : (q == 1) = true := by simpa using c4
                      have HA := hid (HJ.out 3 (.inr rfl))
                      clear HJ HS
                      go_wp2_with fail
                      refine HA.out.mono ?_
                      clear HA
                      rintro e w2 ⟨x, rfl, dx, rx, cx⟩
                      have hz2 := blk_keep HZ.out.1 cx id
                      have hcw2 := HZ.out.2.trans cx (fun _ _ h => h)
                      have hzl := lt_blk HZ.out.1
                      have hsx := cx.size
                      have dE : DOk (fun i => D i ∨ (w.heap.size + 2 ≤ i ∧ i < w2.heap.size)) w2 x := dx.wide (fun i hi => by
                        have hsw := HY.out.2.2.2.1
                        rcases hi with (hi | hi) | hi
                        · exact .inl hi
                        · exact .inr ⟨hi.1, by omega⟩
                        · exact .inr ⟨by omega, hi.2⟩)
                      have rE : ShapeR f x.f := by
                        rw [shapeR_eq, if_neg h1]
                        exact ⟨_, HX.out.2.1, by rw [if_pos h4]; exact .inr (.inr (.inr (.inl ⟨by rw [← HY.out.2.2.2.2.1]; exact c1', by rw [← HY.out.2.2.2.2.1, HY.out.2.2.2.2.2.1]; exact c3', by rw [← HY.out.2.2.2.2.1]; exact c4, rx⟩)))⟩
                      have r0 := cell_blk hz2 0
                      have r1 := cell_blk hz2 1
                      have r2 := cell_blk hz2 2
                      have r3 := cell_blk hz2 3
                      have r4 := cell_blk hz2 4
                      have g0 := froz_blk hz2 0
                      have g1 := froz_blk hz2 1
                      have g2 := froz_blk hz2 2
                      have g3 := froz_blk hz2 3
                      have g4 := froz_blk hz2 4
                      simp only [List.getElem?_toArray, List.getElem?_cons_zero, List.getElem?_cons_succ] at r0 r1 r2 r3 r4
                      have HZ := hid (And.intro hz2 (And.intro hcw2 (And.intro dE rE)))
                      clear hz2 hcw2 hzl hsx dE rE dx rx cx HY HX
                      unfold valD
                      go_wp2
                      obtain ⟨hend, hcz⟩ := storeR HZ.out.1 (.int .i64 x.f.op) (.int .i64 x.f.k) (.string ⟨x.f.r.1.toArray⟩) (.string ⟨x.f.r.2.toArray⟩) (.slice x.ao x.f.kids.length x.cp)
                      refine bodyPost_ret (results_cell_row (P := Try.prog) rfl _ _ (w.heap.size + 1) 26 _ (0, 0) _ rfl hend Try.underlying26 rfl (by kernel_rfl)) rfl ?_
                      have hsz := hcz.size
                      exact ⟨x, rfl, (HZ.out.2.2.1.keep hcz (fun i hi e => by have e2 : i = w.heap.size + 1 := e; exact hi.elim (fun h => by have := H.out.2.1 i h; omega) (fun h => by omega))).wide (fun i hi => hi.imp id (fun h => ⟨by omega, by omega⟩)), HZ.out.2.2.2, HZ.out.2.1.trans hcz (fun i hi e => by have e2 : i = w.heap.size + 1 := e; omega)⟩
                    · have z5 : (q == 1) = false := by simpa using c4
                      clear HJ
                      go_wp2_with fail
                      refine HS.out.mono ?_
                      clear HS
                      rintro e w6 ⟨os, oo, oc, rfl, hrow6, hmem, hkept, hc6⟩
                      have hz6 := blk_keep HZ.out.1 hc6 id
                      have hcw6 := HZ.out.2.trans hc6 (fun _ _ h => h)
                      have hzl := lt_blk HZ.out.1
                      obtain ⟨m, hm⟩ : ∃ m, m = os.length := ⟨_, rfl⟩
                      have r0 := cell_blk hz6 0
                      have r1 := cell_blk hz6 1
                      have r2 := cell_blk hz6 2
                      have r3 := cell_blk hz6 3
                      have r4 := cell_blk hz6 4
                      have g0 := froz_blk hz6 0
                      have g1 := froz_blk hz6 1
                      have g2 := froz_blk hz6 2
                      have g3 := froz_blk hz6 3
                      have g4 := froz_blk hz6 4
                      simp only [List.getElem?_toArray, List.getElem?_cons_zero, List.getElem?_cons_succ] at r0 r1 r2 r3 r4
                      rw [← hm]
                      have HW := hid (And.intro hz6 (And.intro hcw6 (And.intro hrow6 (And.intro hmem (And.intro hkept (And.intro hc6 (And.intro hm hzl)))))))
                      clear hz6 hcw6 hrow6 hmem hkept hc6 hm hzl
                      go_wp2
                      obtain ⟨hend, hcz⟩ := storeR HW.out.1 (.int .i64 4) (.int .i64 q) (.string ⟨#[]⟩) (.string ⟨#[]⟩) (.slice oo m oc)
                      refine bodyPost_ret (results_cell_row (P := Try.prog) rfl _ _ (w.heap.size + 1) 26 _ (0, 0) _ rfl hend Try.underlying26 rfl (by kernel_rfl)) rfl ?_
                      have hme := HW.out.2.2.2.2.2.2.1
                      have hzl := HW.out.2.2.2.2.2.2.2
                      have hsz := hcz.size
                      have hs6 := HW.out.2.2.2.2.2.1.size
                      have hsw := HY.out.2.2.2.1
                      have hD0 : ∀ i, (D i ∨ (w.heap.size + 2 ≤ i ∧ i < w9.heap.size)) → ¬ i = w.heap.size + 1 := fun i hi => hi.elim (fun h => by have := H.out.2.1 i h; omega) (fun h => by omega)
                      have hcwz := HW.out.2.1.trans hcz (fun i hi e => by have e2 : i = w.heap.size + 1 := e; omega)
                      have hrw := HW.out.2.2.1
                      obtain ⟨lo9, lc9, hv9, hv9z, _, hv9s⟩ := rowD_shape hrw
                      cases hv9
                      have hrw2 := ownsRow_keep hrw hcz (fun i hi e => by have e2 : i = w.heap.size + 1 := e; have := (hrw.lt i hi).1; omega)
                      obtain ⟨N9, hfm⟩ := own_fmsD hrw2 (fun x hx => ((HY.out.2.1 x (HW.out.2.2.2.1 x hx)).keep HW.out.2.2.2.2.2.1 (fun _ _ => id)).keep hcz (fun i hi e => hD0 i hi e))
                      obtain ⟨S9, k1, k2, k3⟩ := HW.out.2.2.2.2.1
                      rw [if_neg (by decide)] at k3
                      have hn5 := nodesL_perm k1
                      have hn6 := HY.out.2.2.1
                      have hkk := HY.out.2.2.2.2.1
                      refine ⟨⟨.mk 4 q ([], []) (os.map (·.f)), oo, oc⟩, ?_, ⟨⟨N9, hfm.mono (fun i hi => ?_)⟩, ⟨by simp [FmB.r], by simp [FmB.r]⟩, hv9z, ?_, fun _ a ha => (hv9s a ha).2⟩, ?_, hcwz⟩
                      · rw [hme]
                        show _ = Ending.returned (.agg #[_, _, _, _, .slice oo (os.map (·.f)).length oc])
                        rw [List.length_map]
                        rfl
                      · rcases hi with (hi | hi) | hi
                        · exact .inl hi
                        · exact .inr ⟨by omega, by omega⟩
                        · exact .inr ⟨by omega, hi.2⟩
                      · show nodesF (.mk 4 q ([], []) (os.map (·.f))) ≤ 4000
                        rw [nodesF_eq]
                        show 1 + nodesL (os.map (·.f)) ≤ 4000
                        rw [k3]
                        omega
                      · show ShapeR f (.mk 4 q ([], []) (os.map (·.f)))
                        rw [shapeR_eq, if_neg h1]
                        refine ⟨_, HX.out.2.1, ?_⟩
                        rw [if_pos h4]
                        have hr9 := HY.out.2.2.2.2.2.1
                        refine .inr (.inr (.inr (.inr ⟨by rw [← hkk]; omega, by rw [← hkk, hr9]; exact c3', S9, by rw [HY.out.1]; exact k1, k2, by rw [← hkk, k3]⟩)))
        · have hop : f.op = 2 ∨ f.op = 3 := by rcases rightN_op H.out.2.2.2.1.2 with h | h | h <;> omega
          have z4 : f.op < 4 := by omega
          have zb4 : decide (f.op < 4) = true := by simp; omega
          have HA := hid (rnjoin SB f.op hop lo ln lc ls wr HX.out.2.2.2.2.2.2.2.1 (own_rd (by have := HX.out.1.row; have hln := HX.out.2.2.2.2.2.2.2.1; rw [hln] at this; exact this)) HX.out.2.2.2.2.1 HX.out.2.2.2.2.2.1 HX.out.2.2.2.2.2.2.1 HX.out.2.2.2.1 HX.out.2.2.1)
          clear hop
          go_wp2_with fail
          refine HA.out.mono ?_
          clear HA
          rintro e w2 ⟨x, rfl, dx, rx, cx⟩
          have hz2 := blk_keep HX.out.1.z cx id
          have hcw2 := HX.out.1.chg.trans cx (fun _ _ h => h)
          have hzl := lt_blk HX.out.1.z
          have hsx := cx.size
          have dE : DOk (fun i => D i ∨ (w.heap.size + 2 ≤ i ∧ i < w2.heap.size)) w2 x := dx.wide (fun i hi => by
            rcases hi with (hi | hi) | hi
            · exact .inl hi
            · exact .inr ⟨hi.1, by omega⟩
            · exact .inr ⟨by omega, hi.2⟩)
          have rE : ShapeR f x.f := by
            rw [shapeR_eq, if_neg h1]
            exact ⟨_, HX.out.2.1, by rw [if_neg h4]; exact rx⟩
          have r0 := cell_blk hz2 0
          have r1 := cell_blk hz2 1
          have r2 := cell_blk hz2 2
          have r3 := cell_blk hz2 3
          have r4 := cell_blk hz2 4
          have g0 := froz_blk hz2 0
          have g1 := froz_blk hz2 1
          have g2 := froz_blk hz2 2
          have g3 := froz_blk hz2 3
          have g4 := froz_blk hz2 4
          simp only [List.getElem?_toArray, List.getElem?_cons_zero, List.getElem?_cons_succ] at r0 r1 r2 r3 r4
          have HZ := hid (And.intro hz2 (And.intro hcw2 (And.intro dE rE)))
          clear hz2 hcw2 hzl hsx dE rE dx rx cx HX
          unfold valD
          go_wp2
          obtain ⟨hend, hcz⟩ := storeR HZ.out.1 (.int .i64 x.f.op) (.int .i64 x.f.k) (.string ⟨x.f.r.1.toArray⟩) (.string ⟨x.f.r.2.toArray⟩) (.slice x.ao x.f.kids.length x.cp)
          refine bodyPost_ret (results_cell_row (P := Try.prog) rfl _ _ (w.heap.size + 1) 26 _ (0, 0) _ rfl hend Try.underlying26 rfl (by kernel_rfl)) rfl ?_
          have hsz := hcz.size
          exact ⟨x, rfl, (HZ.out.2.2.1.keep hcz (fun i hi e => by have e2 : i = w.heap.size + 1 := e; exact hi.elim (fun h => by have := H.out.2.1 i h; omega) (fun h => by omega))).wide (fun i hi => hi.imp id (fun h => ⟨by omega, by omega⟩)), HZ.out.2.2.2, HZ.out.2.1.trans hcz (fun i hi e => by have e2 : i = w.heap.size + 1 := e; omega)⟩
end Go.Proofs.Ytcbfieodjbfjdaa
