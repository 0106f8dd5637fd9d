/- The document's join. -/
import Derived.Test.YtcbfieodjbfjdaaNc31
import Derived.Test.YtcbfieodjbfjdaaNc26
namespace Go.Proofs.Ytcbfieodjbfjdaa
open Go.RowKit

theorem FmAt.moreD {D : Nat → Prop} {w : World} {b o : Nat} {f : FmB} : ∀ (k n : Nat), FmAt D w n b o f → FmAt D w (n + k) b o f
  | 0, _, h => h
  | k + 1, n, h => by rw [Nat.add_succ]; exact (FmAt.moreD k n h).up
theorem FmsAt.moreD {D : Nat → Prop} {w : World} {ao : Option Addr} {ls : List FmB} {n m : Nat} (h : FmsAt D w n ao ls) (hm : n ≤ m) : FmsAt D w m ao ls := fun i hi => by
  obtain ⟨b, off, h1, h2, h3⟩ := h i hi
  have := FmAt.moreD (m - n) n h3
  rw [show n + (m - n) = m by omega] at this
  exact ⟨b, off, h1, h2, this⟩
theorem ex_list {α : Type} {P : Nat → α → Prop} : ∀ (n : Nat), (∀ i, i < n → ∃ x, P i x) → ∃ l : List α, l.length = n ∧ ∀ i (h : i < l.length), P i l[i]
  | 0, _ => ⟨[], rfl, fun i h => absurd h (by simp)⟩
  | n + 1, h => by
    obtain ⟨l, h1, h2⟩ := ex_list n (fun i hi => h i (by omega))
    obtain ⟨x, hx⟩ := h n (by omega)
    refine ⟨l ++ [x], by simp [h1], fun i hi => ?_⟩
    by_cases e : i < l.length
    · rw [List.getElem_append_left e]; exact h2 i e
    · have : i = n := by simp at hi; omega
      subst this
      have h3 : (l ++ [x])[i]'hi = x := by simp [h1]
      rw [h3]
      exact hx
/-- The Kids of a formula that can be read. -/
theorem DOk.kids {D : Nat → Prop} {w : World} {e : DE} (h : DOk D w e) (hno : ∀ x ∈ e.f.kids, isC x = false) : ∃ es : List DE, es.map (·.f) = e.f.kids ∧ RdD w e.ao es ∧ ∀ x ∈ es, DOk D w x := by
  obtain ⟨n, hn⟩ := h.at_
  obtain ⟨l, h1, h2⟩ := ex_list (P := fun i (x : DE) => ∃ (hi : i < e.f.kids.length), x.f = e.f.kids[i] ∧ DOk D w x ∧ ∃ b off, e.ao = some ⟨b, off, none⟩ ∧ CellsE w b (off + i * 5) x) e.f.kids.length (fun i hi => by
    obtain ⟨b, off, k1, k2, k3⟩ := hn i hi
    obtain ⟨m, ao, cp, k4, ⟨c0, c1, c2, c3, c4⟩, k5, k6, k7⟩ := k3.open_
    have hnk := nodesL_mem (List.getElem_mem hi)
    have := nodesF_eq e.f
    have := h.n
    refine ⟨⟨e.f.kids[i], ao, cp⟩, hi, rfl, ⟨⟨m, k7⟩, k5, k6, by show nodesF e.f.kids[i] ≤ 4000; omega, fun h1 a ha => ?_⟩, b, off, k1, c0, c1, c2, c3, c4⟩
    have hc := hno _ (List.getElem_mem hi)
    have hne : e.f.kids[i].kids ≠ [] := fun h0 => by
      rw [isC, decide_eq_false_iff_not] at hc
      exact hc ⟨h1, h0⟩
    obtain ⟨b2, o2, e2, _⟩ := k7 0 (List.length_pos_iff.2 hne)
    have ha2 : ao = some a := ha
    rw [e2] at ha2
    cases ha2
    rfl)
  refine ⟨l, ?_, fun j hj => ?_, fun x hx => ?_⟩
  · apply List.ext_getElem
    · simp [h1]
    · intro i hi1 hi2
      obtain ⟨_, e1, _⟩ := h2 i (by simpa using hi1)
      simp [e1]
  · obtain ⟨_, _, _, b, off, k1, k2⟩ := h2 j hj
    exact ⟨b, off, k1, k2⟩
  · obtain ⟨i, hi, rfl⟩ := List.getElem_of_mem hx
    obtain ⟨_, _, k, _⟩ := h2 i hi
    exact k
theorem fms_bound {D : Nat → Prop} {w : World} : ∀ (os : List DE), (∀ x ∈ os, DOk D w x) → ∃ N, ∀ x ∈ os, FmsAt D w N x.ao x.f.kids
  | [], _ => ⟨0, fun _ h => by cases h⟩
  | x :: l, h => by
    obtain ⟨N, hN⟩ := fms_bound l (fun y hy => h y (List.mem_cons_of_mem _ hy))
    obtain ⟨n, hn⟩ := (h x (by simp)).at_
    refine ⟨max n N, fun y hy => ?_⟩
    rcases List.mem_cons.1 hy with rfl | hy
    · exact hn.moreD (by omega)
    · exact (hN y hy).moreD (by omega)
/-- A row of the call's own, as Kids. -/
theorem own_fmsD {B : Nat} {D : Nat → Prop} {w : World} {oo : Option Addr} {oc n : Nat} {os : List DE} (hrow : w.ownsRow B 26 5 (.slice oo n oc) os.length (rowD os)) (hok : ∀ x ∈ os, DOk D w x) : ∃ N, FmsAt (fun i => D i ∨ (B ≤ i ∧ i < w.heap.size)) w N oo (os.map (·.f)) := by
  obtain ⟨N, hN⟩ := fms_bound os hok
  refine ⟨N + 1, fun i hi => ?_⟩
  have hi2 : i < os.length := by simpa using hi
  obtain ⟨b, off, e, c0, c1, c2, c3, c4⟩ := own_rd hrow i hi2
  have hx := hok _ (List.getElem_mem hi2)
  have hb : B ≤ b ∧ b < w.heap.size := by
    have := hrow.lt b (by rw [e]; rfl)
    exact this
  refine ⟨b, off, e, .inr hb, ?_⟩
  rw [List.getElem_map]
  exact ⟨c0, c1, c2, c3, hx.ok, _, _, c4, hx.z, (hN _ (List.getElem_mem hi2)).mono (fun i h => .inl h)⟩

theorem set_same {w : World} {b : Nat} {v : Value} {ty : TypeId} {z : Nat × Nat} (h : w.heap[b]? = some (.cells #[v] ty z)) : w.setCell ⟨b, 0, none⟩ v = w := by
  have key : (w.setCell ⟨b, 0, none⟩ v).heap = w.heap := by
    unfold World.setCell
    apply Array.ext_getElem?
    intro i
    simp only [Array.getElem?_modify]
    by_cases e : b = i
    · subst e
      rw [if_pos rfl, h]
      simp
    · rw [if_neg e]
  cases w
  unfold World.setCell at key ⊢
  simp only at key ⊢
  rw [key]

/-- Within join's first loop, behind the first j Kids. -/
structure JIn (D : Nat → Prop) (w : World) (op : Int) (ks : List DE) (j : Nat) (v : Value) (ls : List DE) (wr : World) : Prop where
  row : wr.ownsRow (w.heap.size + 1) 26 5 v ls.length (rowD ls)
  ok : ∀ x ∈ ls, DOk D w x
  eq : ls.map (·.f) = flatN op ((ks.take j).map (·.f))
  no : ∀ k ∈ (ks.take j).map (·.f), k.op ≠ op → isC k = false
  z : wr.heap[w.heap.size]? = some (.cells #[.int .i64 0, .int .i64 0, .string ⟨#[]⟩, .string ⟨#[]⟩, .slice none 0 0] 26 (0, 0))
  chg : Chg (fun _ => False) w wr
theorem JIn.start (D : Nat → Prop) (w : World) (op : Int) (ks : List DE) : JIn D w op ks 0 (.slice none 0 0) [] (w.alloc (.cells #[.int .i64 0, .int .i64 0, .string ⟨#[]⟩, .string ⟨#[]⟩, .slice none 0 0] 26)) :=
  ⟨World.ownsRow_nil _ _ _ _, fun _ h => (by cases h), rfl, fun _ h => (by cases h), heap_alloc_new w _, (Chg.refl _ w).alloc _⟩
theorem JIn.keep {D : Nat → Prop} {w : World} {op : Int} {ks : List DE} {j : Nat} {v : Value} {ls : List DE} {wr w1 : World} (h : JIn D w op ks j v ls wr) (hc : Chg (fun _ => False) wr w1) : JIn D w op ks j v ls w1 :=
  ⟨ownsRow_keep h.row hc (fun _ _ => id), h.ok, h.eq, h.no, blk_keep h.z hc id, h.chg.trans hc (fun _ _ h => h)⟩
theorem flat_takeD (op : Int) (ks : List FmB) (j : Nat) (h : j < ks.length) : flatN op (ks.take (j + 1)) = flatN op (ks.take j) ++ (if ks[j].op = op then ks[j].kids else [ks[j]]) := by
  unfold flatN
  rw [List.take_succ_eq_append_getElem h, List.flatMap_append]
  simp
theorem JIn.step {D : Nat → Prop} {w : World} {op : Int} {ks : List DE} {j : Nat} {v v' : Value} {ls us : List DE} {w1 w' : World} (h : JIn D w op ks j v ls w1) (hj : j < ks.length) (hus : ∀ x ∈ us, DOk D w x) (heq : us.map (·.f) = if ks[j].f.op = op then ks[j].f.kids else [ks[j].f]) (hno : ks[j].f.op ≠ op → isC ks[j].f = false)
    (hrow : w'.ownsRow (w.heap.size + 1) 26 5 v' (ls ++ us).length (rowD (ls ++ us))) (hc : Chg (fun k => v.ownBlock = some k) w1 w') : JIn D w op ks (j + 1) v' (ls ++ us) w' := by
  have hv : ∀ k, v.ownBlock = some k → w.heap.size + 1 ≤ k := fun k hk => (h.row.lt k hk).1
  have e1 : ks.take (j + 1) = ks.take j ++ [ks[j]] := List.take_succ_eq_append_getElem hj
  refine ⟨hrow, fun x hx => (List.mem_append.1 hx).elim (h.ok x) (hus x), ?_, ?_, blk_keep h.z hc (fun e => by have := hv _ e; omega), h.chg.trans hc (fun i hi e => by have := hv _ e; omega)⟩
  · have hj2 : j < (ks.map (·.f)).length := by simpa using hj
    have := flat_takeD op (ks.map (·.f)) j hj2
    rw [List.map_append, h.eq, heq, List.map_take, List.map_take, this]
    simp
  · intro k hk
    rw [e1, List.map_append, List.mem_append] at hk
    rcases hk with hk | hk
    · exact h.no k hk
    · have : k = ks[j].f := by simpa using hk
      subst this
      exact hno
theorem JIn.nodes {D : Nat → Prop} {w : World} {op : Int} {ks : List DE} {j : Nat} {v : Value} {ls : List DE} {wr : World} (h : JIn D w op ks j v ls wr) : nodesL (ls.map (·.f)) ≤ nodesL (ks.map (·.f)) := by
  have h1 := nodes_flat op ((ks.take j).map (·.f))
  have h2 := nodesL_take (ks.map (·.f)) j
  rw [h.eq]
  rw [← List.map_take] at h2
  omega
/-- What a function of the document's hands back that brings formulas into shape. -/
def DPost (D : Nat → Prop) (w : World) (R : FmB → Prop) (e : Ending) (w' : World) : Prop :=
  ∃ x : DE, e = .returned (valD x) ∧ DOk (fun i => D i ∨ (w.heap.size ≤ i ∧ i < w'.heap.size)) w' x ∧ R x.f ∧ Chg (fun _ => False) w w'
theorem DOk.wide {D E : Nat → Prop} {w : World} {x : DE} (h : DOk D w x) (hD : ∀ i, D i → E i) : DOk E w x := ⟨by obtain ⟨n, hn⟩ := h.at_; exact ⟨n, hn.mono hD⟩, h.ok, h.z, h.n, h.sp⟩
theorem storeR {w : World} {Z : Nat} {x0 x1 x2 x3 x4 : Value} {ty : TypeId} (hz : w.heap[Z]? = some (.cells #[x0, x1, x2, x3, x4] ty (0, 0))) (a0 a1 a2 a3 a4 : Value) :
    (((((w.setCell ⟨Z, 0, none⟩ a0).setCell ⟨Z, 1, none⟩ a1).setCell ⟨Z, 2, none⟩ a2).setCell ⟨Z, 3, none⟩ a3).setCell ⟨Z, 4, none⟩ a4).heap[Z]? = some (.cells #[a0, a1, a2, a3, a4] ty (0, 0)) ∧
    Chg (· = Z) w (((((w.setCell ⟨Z, 0, none⟩ a0).setCell ⟨Z, 1, none⟩ a1).setCell ⟨Z, 2, none⟩ a2).setCell ⟨Z, 3, none⟩ a3).setCell ⟨Z, 4, none⟩ a4) := by
  refine ⟨?_, ((((setCell_chg w Z 0 a0).trans (setCell_chg _ Z 1 a1) (fun _ _ h => h)).trans (setCell_chg _ Z 2 a2) (fun _ _ h => h)).trans (setCell_chg _ Z 3 a3) (fun _ _ h => h)).trans (setCell_chg _ Z 4 a4) (fun _ _ h => h)⟩
  have h0 := set_blk hz 0 a0
  have h1 := set_blk h0 1 a1
  have h2 := set_blk h1 2 a2
  have h3 := set_blk h2 3 a3
  have h4 := set_blk h3 4 a4
  simpa using h4

set_option maxRecDepth 100000 in
set_option maxHeartbeats 8000000 in
theorem rnjoin {D : Nat → Prop} (SB : Nat) (op : Int) (hop : op = 2 ∨ op = 3) (ao : Option Addr) (n cp : Nat) (ks : List DE) (w : World) (hn : n = ks.length) (hrd : RdD w ao ks) (hok : ∀ e ∈ ks, DOk D w e) (hD : ∀ i, D i → i < w.heap.size) (hs : w.heap[SB]? = some (.cells #[.bool false] 51 (0, 0))) (hNF : ∀ e ∈ ks, NF e.f) (hN : nodesL (ks.map (·.f)) ≤ 63) :
    Calls Try.prog 50 #[.pointer (some ⟨SB, 0, none⟩), .int .i64 op, .slice ao n cp] w (DPost D w (JoinR op (ks.map (·.f)))) := by
  have hnb : n ≤ 63 := by have := nodesL_len (ks.map (·.f)); rw [List.length_map] at this; omega
  have H := hid (And.intro hn (And.intro hrd (And.intro hok (And.intro hD (And.intro hs (And.intro hNF (And.intro hN hop)))))))
  have h5 : IntKind.i64.wrap (5 - op) = 5 - op := by rw [IntKind.wrap_i64]; rcases hop with rfl | rfl <;> omega
  have hsl := lt_blk hs
  have HSL := hid hsl
  clear hn hrd hok hD hs hNF hN hop hsl
  go_enter Try.func50, Try.ntmps50
  go_wp2
  go_loopw [7, 14] (fun v i wr => ∃ (j : Nat) (ls : List DE) (lo : Option Addr) (ln lc : Nat), j ≤ n ∧ i = .int .i64 j ∧ v = .slice lo ln lc ∧ Hid (ln = ls.length ∧ JIn D w op ks j (.slice lo ln lc) ls wr)) (fun _ i _ => n - (intOf i).toNat)
  case atStart => exact ⟨0, [], none, 0, 0, Nat.zero_le _, rfl, rfl, hid ⟨rfl, JIn.start D w op ks⟩⟩
  case round =>
    obtain ⟨j, ls, lo, ln, lc, hj, rfl, rfl, hrel⟩ := hrel
    by_cases hlt : j < n
    · have hjk : j < ks.length := by rw [← H.out.1]; exact hlt
      obtain ⟨b0, off0, rfl, a0, a1, a2, a3, a4⟩ := (H.out.2.1.keep hrel.out.2.chg) j hjk
      have hkm := List.getElem_mem hjk
      have hkd := H.out.2.2.1 _ hkm
      have hkN := H.out.2.2.2.2.2.1 _ hkm
      have hST := fun (v' : Value) (us : List DE) (w1 w' : World) (h1 : Chg (fun _ => False) wr w1) a b c d e => (hrel.out.2.keep h1).step (v' := v') (us := us) (w' := w') hjk a b c d e
      have hmx : ks[j].f ∈ ks.map (·.f) := List.mem_map.2 ⟨_, hkm, rfl⟩
      have hnl : ls.length ≤ 63 := by
        have h1 := hrel.out.2.nodes
        have h2 := nodesL_len (ls.map (·.f))
        rw [List.length_map] at h2
        have := H.out.2.2.2.2.2.2.1
        omega
      have hnk : ks[j].f.kids.length ≤ 4000 := by
        have h1 := nodesL_len ks[j].f.kids
        have h2 := nodesF_eq ks[j].f
        have h3 := hkd.n
        omega
      generalize ks[j] = k at *
      have hcA : Chg (fun _ => False) wr (wr.alloc (.cells #[.int .i64 k.f.op, .int .i64 k.f.k, .string ⟨k.f.r.1.toArray⟩, .string ⟨k.f.r.2.toArray⟩, .slice k.ao k.f.kids.length k.cp] 26)) := (Chg.refl _ wr).alloc _
      have hyb := heap_alloc_new wr (.cells #[.int .i64 k.f.op, .int .i64 k.f.k, .string ⟨k.f.r.1.toArray⟩, .string ⟨k.f.r.2.toArray⟩, .slice k.ao k.f.kids.length k.cp] 26)
      have y0 := cell_blk hyb 0
      have y1 := cell_blk hyb 1
      have y2 := cell_blk hyb 2
      have y3 := cell_blk hyb 3
      have y4 := cell_blk hyb 4
      simp only [List.getElem?_toArray, List.getElem?_cons_zero, List.getElem?_cons_succ] at y0 y1 y2 y3 y4
      have hwz := lt_blk hrel.out.2.z
      by_cases heq : k.f.op = op
      · have zop : (k.f.op == op) = true := by simpa using heq
        have hkno : ∀ x ∈ k.f.kids, isC x = false := fun x hx => by
          have hh := ((NF_eq k.f).1 hkN).2
          have := H.out.2.2.2.2.2.2.2
          rcases hh with h | h | h
          · omega
          · exact (h.2.2.2.2.1 x hx).1
          · omega
        obtain ⟨es, he1, he2, he3⟩ := hkd.kids hkno
        have hln : k.f.kids.length = es.length := by rw [← he1, List.length_map]
        obtain ⟨v', w5, hap, hrow5, hc5, _⟩ := runD 24 (hrel.out.2.keep hcA).row k.ao k.f.kids.length k.cp hln hkd.z (hkd.spot (by have := H.out.2.2.2.2.2.2.2; omega)) ((he2.keep hrel.out.2.chg).keep hcA) (by omega) (by have := hcA.size; omega)
        have hj5 := hST v' es _ w5 hcA he3 (by rw [if_pos heq]; exact he1) (fun e => absurd heq e) hrow5 hc5
        obtain ⟨lo5, lc5, hv5, _⟩ := rowD_shape hrow5
        subst hv5
        obtain ⟨ln5, hln5⟩ : ∃ ln5, ln5 = (ls ++ es).length := ⟨_, rfl⟩
        rw [← hln5] at hap hj5
        have HEND := hid (And.intro hln5 hj5)
        clear hkm hkd hkN hST hmx hnl hnk hcA hyb hwz hkno he1 he2 he3 hln hrow5 hc5 hj5 hln5 hrel hjk heq
        go_wp2_with (at_builtin; refine wpList_append_runb rfl (.tmp 22) (.tmp 24) 24 rfl rfl rfl hap ?_)
        clear hap y0 y1 y2 y3 y4 a0 a1 a2 a3 a4
        go_wp2
        go_roundw
        case rel => exact ⟨j + 1, _, lo5, ln5, lc5, hlt, by go_num, rfl, HEND⟩
        case measure => simp [intOf]; omega
      · have zop : (k.f.op == op) = false := by simpa using heq
        have HNO := hid (rnnone k.f.op k.f.k k.f.r k.ao k.f.kids.length k.cp (5 - op) (wr.alloc (.cells #[.int .i64 k.f.op, .int .i64 k.f.k, .string ⟨k.f.r.1.toArray⟩, .string ⟨k.f.r.2.toArray⟩, .slice k.ao k.f.kids.length k.cp] 26)))
        have hci : (decide (k.f.op = 5 - op) && decide (k.f.kids.length = 0)) = isC k.f := by
          unfold isC
          rw [Bool.eq_iff_iff]
          simp only [Bool.and_eq_true, decide_eq_true_eq, List.length_eq_zero_iff]
          have := H.out.2.2.2.2.2.2.2
          constructor
          · rintro ⟨h1, h2⟩; exact ⟨by omega, h2⟩
          · rintro ⟨h1, h2⟩
            have h3 := (NF_const hkN (decide_eq_true ⟨h1, h2⟩)).1
            exact ⟨by omega, h2⟩
        rw [hci] at HNO
        have hhe : isC k.f = true → JoinR op (ks.map (·.f)) (.mk (5 - op) 0 ([], []) []) := fun e => .inl ⟨k.f, hmx, heq, e, by
          obtain ⟨h3, h4⟩ := NF_const hkN e
          have := H.out.2.2.2.2.2.2.2
          rw [h4]
          congr 1
          omega⟩
        obtain ⟨bc, hbc⟩ : ∃ bc, bc = isC k.f := ⟨_, rfl⟩
        rw [← hbc] at HNO hhe
        have hST2 : ∀ (v' : Value) (w1 w' : World), bc = false → Chg (fun _ => False) wr w1 → w'.ownsRow (w.heap.size + 1) 26 5 v' (ls ++ [k]).length (rowD (ls ++ [k])) → Chg (fun q => Value.ownBlock (.slice lo ln lc) = some q) w1 w' → JIn D w op ks (j + 1) v' (ls ++ [k]) w' := fun v' w1 w' hb h1 h2 h3 => hST v' [k] w1 w' h1 (fun x hx => by rw [List.mem_singleton.1 hx]; exact hkd) (by rw [if_neg heq]; rfl) (fun _ => by rw [← hbc]; exact hb) h2 h3
        have HX := hid (And.intro hrel.out (And.intro hcA (And.intro hyb (And.intro hnl (And.intro hhe hST2)))))
        clear hkm hkd hkN hST hmx hnl hnk hcA hyb hwz hci hhe hbc hST2 hrel hjk heq
        go_wp2_with fail
        refine HNO.out.mono ?_
        clear HNO
        rintro e w2 ⟨rfl, hc2⟩
        have hyb2 := blk_keep HX.out.2.2.1 hc2 id
        have hcB := HX.out.2.1.trans hc2 (fun _ _ h => h)
        have hj2 := HX.out.1.2.keep hcB
        clear y0 y1 y2 y3 y4
        have y0 := cell_blk hyb2 0
        have y1 := cell_blk hyb2 1
        have y2 := cell_blk hyb2 2
        have y3 := cell_blk hyb2 3
        have y4 := cell_blk hyb2 4
        simp only [List.getElem?_toArray, List.getElem?_cons_zero, List.getElem?_cons_succ] at y0 y1 y2 y3 y4
        cases bc with
        | true =>
          have r0 := cell_blk hj2.z 0
          have r1 := cell_blk hj2.z 1
          have r2 := cell_blk hj2.z 2
          have r3 := cell_blk hj2.z 3
          have r4 := cell_blk hj2.z 4
          have g0 := froz_blk hj2.z 0
          have g1 := froz_blk hj2.z 1
          have g2 := froz_blk hj2.z 2
          have g3 := froz_blk hj2.z 3
          have g4 := froz_blk hj2.z 4
          simp only [List.getElem?_toArray, List.getElem?_cons_zero, List.getElem?_cons_succ] at r0 r1 r2 r3 r4
          have HJ := hid hj2
          clear hyb2 hcB hj2 hc2 a0 a1 a2 a3 a4
          go_wp2
          obtain ⟨hend, hcz⟩ := storeR HJ.out.z (.int .i64 (5 - op)) (.int .i64 0) (.string ⟨#[]⟩) (.string ⟨#[]⟩) (.slice none 0 0)
          refine bodyPost_ret (results_cell_row (P := Try.prog) rfl _ _ w.heap.size 26 _ (0, 0) _ rfl hend Try.underlying26 rfl (by kernel_rfl)) rfl ?_
          exact ⟨⟨.mk (5 - op) 0 ([], []) [], none, 0⟩, rfl, ⟨⟨0, FmsAt.nil _ _ _ _⟩, ⟨by simp [FmB.r], by simp [FmB.r]⟩, fun _ => rfl, by simp [nodesF, nodesL], fun _ a ha => by cases ha⟩, (HX.out.2.2.2.2.1 (by first | rfl | trivial)), HJ.out.chg.trans hcz (fun i hi e => by have : i = w.heap.size := e; omega)⟩
        | false =>
          have hcC : Chg (fun _ => False) w2 (w2.alloc (.cells #[.int .i64 k.f.op, .int .i64 k.f.k, .string ⟨k.f.r.1.toArray⟩, .string ⟨k.f.r.2.toArray⟩, .slice k.ao k.f.kids.length k.cp] 26)) := (Chg.refl _ w2).alloc _
          have hwz := lt_blk hj2.z
          have hwz2 := hcC.size
          have hnl := HX.out.2.2.2.1
          obtain ⟨v', w5, hap, hrow5, hc5, _⟩ := runD 24 (us := [k]) (hj2.keep hcC).row (some ⟨w2.heap.size, 0, none⟩) 1 1 rfl (fun e => by cases e) (fun a e => by cases e; rfl) (rd_new w2 k) (by simp; omega) (by omega)
          have hj5 := HX.out.2.2.2.2.2 v' _ w5 rfl (hcB.trans hcC (fun _ _ h => h)) hrow5 hc5
          obtain ⟨lo5, lc5, hv5, _⟩ := rowD_shape hrow5
          subst hv5
          obtain ⟨ln5, hln5⟩ : ∃ ln5, ln5 = (ls ++ [k]).length := ⟨_, rfl⟩
          rw [← hln5] at hap hj5
          have HEND := hid (And.intro hln5 hj5)
          clear hyb2 hcB hj2 hc2 a0 a1 a2 a3 a4 hcC hwz hwz2 hnl hrow5 hc5 hj5 hln5 HX
          go_wp2_with (at_builtin; refine wpList_append_runb rfl (.tmp 33) (.tmp 35) 24 rfl rfl rfl hap ?_)
          clear hap
          go_wp2
          go_roundw
          case rel => exact ⟨j + 1, _, lo5, ln5, lc5, hlt, by go_num, rfl, HEND⟩
          case measure => simp [intOf]; omega
    · have hje : j = n := by omega
      have hji := hrel.out.2
      rw [hje] at hji
      have hln := hrel.out.1
      have hll : ln ≤ 63 := by
        have h1 := hji.nodes
        have h2 := nodesL_len (ls.map (·.f))
        rw [List.length_map] at h2
        have := H.out.2.2.2.2.2.2.1
        omega
      have heqf := hji.eq
      have hnof := hji.no
      rw [H.out.1, List.take_length] at heqf hnof
      have hflat : ∀ x ∈ ls, isC x.f = false := fun x hx => by
        have hm : x.f ∈ flatN op (ks.map (·.f)) := by rw [← heqf]; exact List.mem_map.2 ⟨x, hx, rfl⟩
        exact (flat_ok H.out.2.2.2.2.2.2.2 (fun k hk => by obtain ⟨e, he, rfl⟩ := List.mem_map.1 hk; exact H.out.2.2.2.2.2.1 e he) hnof hm).2.1
      have HX := hid (And.intro hji (And.intro hln (And.intro heqf (And.intro hnof hflat))))
      clear hrel hji hln heqf hnof hflat hje hj
      go_wp2
      generalize wr = w9 at *
      go_loopw [40] (fun i wr => ∃ m : Nat, m ≤ ln ∧ i = .int .i64 m ∧ Hid (Chg (fun _ => False) w9 wr)) (fun i _ => ln - (intOf i).toNat)
      case atStart => exact ⟨0, Nat.zero_le _, rfl, hid (Chg.refl _ _)⟩
      case round =>
        obtain ⟨m, hm, rfl, hrel⟩ := hrel
        by_cases hml : m < ln
        · have hmk : m < ls.length := by rw [← HX.out.2.1]; exact hml
          have hrd5 := (own_rd (by have := HX.out.1.row; exact this)).keep hrel.out
          obtain ⟨b1, off1, rfl, a0, a1, a2, a3, a4⟩ := hrd5 m hmk
          have hno := HX.out.2.2.2.2 _ (List.getElem_mem hmk)
          generalize ls[m] = k at *
          have hcA : Chg (fun _ => False) wr (wr.alloc (.cells #[.int .i64 k.f.op, .int .i64 k.f.k, .string ⟨k.f.r.1.toArray⟩, .string ⟨k.f.r.2.toArray⟩, .slice k.ao k.f.kids.length k.cp] 26)) := (Chg.refl _ _).alloc _
          have hyb := heap_alloc_new wr (.cells #[.int .i64 k.f.op, .int .i64 k.f.k, .string ⟨k.f.r.1.toArray⟩, .string ⟨k.f.r.2.toArray⟩, .slice k.ao k.f.kids.length k.cp] 26)
          have y0 := cell_blk hyb 0
          have y1 := cell_blk hyb 1
          have y2 := cell_blk hyb 2
          have y3 := cell_blk hyb 3
          have y4 := cell_blk hyb 4
          simp only [List.getElem?_toArray, List.getElem?_cons_zero, List.getElem?_cons_succ] at y0 y1 y2 y3 y4
          have HNO := hid (rnnone k.f.op k.f.k k.f.r k.ao k.f.kids.length k.cp (5 - op) (wr.alloc (.cells #[.int .i64 k.f.op, .int .i64 k.f.k, .string ⟨k.f.r.1.toArray⟩, .string ⟨k.f.r.2.toArray⟩, .slice k.ao k.f.kids.length k.cp] 26)))
          have hci : (decide (k.f.op = 5 - op) && decide (k.f.kids.length = 0)) = false := by
            rw [← hno]
            unfold isC
            rw [Bool.eq_iff_iff]
            unfold isC at hno
            rw [decide_eq_false_iff_not] at hno
            simp only [Bool.and_eq_true, decide_eq_true_eq, List.length_eq_zero_iff]
            have := H.out.2.2.2.2.2.2.2
            exact ⟨fun h => absurd ⟨by omega, h.2⟩ hno, fun h => absurd h hno⟩
          rw [hci] at HNO
          have HCA := hid (hrel.out.trans hcA (fun _ _ h => h))
          clear hrd5 hno hcA hyb hci hrel hmk
          go_wp2_with fail
          refine HNO.out.mono ?_
          clear HNO
          rintro e w2 ⟨rfl, hc2⟩
          have HCB := hid (HCA.out.trans hc2 (fun _ _ h => h))
          clear hc2 HCA a0 a1 a2 a3 a4 y0 y1 y2 y3 y4
          go_wp2
          go_roundw
          case rel => exact ⟨m + 1, hml, by go_num, HCB⟩
          case measure => simp [intOf]; omega
        · have hrow5 := ownsRow_keep HX.out.1.row hrel.out (fun _ _ => id)
          have hcw := HX.out.1.chg.trans hrel.out (fun _ _ h => h)
          have hz5 := blk_keep HX.out.1.z hrel.out id
          have HSO := hid (rnsorted (D := D) true lo ln lc ls wr HX.out.2.1 (own_rd hrow5) (fun x hx => (HX.out.1.ok x hx).keep hcw (fun _ _ => id)) (by have := HX.out.2.1; omega))
          have HY := hid (And.intro hcw hz5)
          clear hrow5 hcw hz5 hrel hm
          go_wp2_with fail
          refine HSO.out.mono ?_
          clear HSO
          rintro e w6 ⟨os, oo, oc, rfl, hrow6, hmem, hkept, hc6⟩
          have hz6 := blk_keep HY.out.2 hc6 id
          have hcw6 := HY.out.1.trans hc6 (fun _ _ h => h)
          have hsb := blk_keep H.out.2.2.2.2.1 hcw6 id
          have hzlt := lt_blk HY.out.2
          have hol : os.length ≤ 63 := by
            have h1 := hkept.len
            rw [List.length_map, List.length_map] at h1
            have := HX.out.2.1
            omega
          obtain ⟨m, hm⟩ : ∃ m, m = os.length := ⟨_, rfl⟩
          have hdo : ∀ x ∈ os, DOk D w6 x := fun x hx => (HX.out.1.ok x (hmem x hx)).keep hcw6 (fun _ _ => id)
          have hjr : JoinR op (ks.map (·.f)) (oneN op (os.map (·.f))) := by
            obtain ⟨S, h1, h2, h3⟩ := hkept
            rw [if_pos rfl] at h3
            exact .inr ⟨HX.out.2.2.2.1, S, by rw [← HX.out.2.2.1]; exact h1, h2, by rw [h3]⟩
          have hnn : nodesL (os.map (·.f)) ≤ 63 := by
            obtain ⟨S, h1, h2, h3⟩ := hkept
            rw [if_pos rfl] at h3
            have h4 := nodesL_sub (cmpct_sub S)
            have h5 := nodesL_perm h1
            have h6 := HX.out.1.nodes
            have h7 := H.out.2.2.2.2.2.2.1
            rw [h3]
            omega
          have b0 := cell_blk hsb 0
          have bf := froz_blk hsb 0
          simp only [List.getElem?_toArray, List.getElem?_cons_zero] at b0
          have hss := set_same hsb
          have r0 := cell_blk hz6 0
          have r1 := cell_blk hz6 1
          have r2 := cell_blk hz6 2
          have r3 := cell_blk hz6 3
          have r4 := cell_blk hz6 4
          have g0 := froz_blk hz6 0
          have g1 := froz_blk hz6 1
          have g2 := froz_blk hz6 2
          have g3 := froz_blk hz6 3
          have g4 := froz_blk hz6 4
          simp only [List.getElem?_toArray, List.getElem?_cons_zero, List.getElem?_cons_succ] at r0 r1 r2 r3 r4
          have z64 : ¬ (64 : Int) < (m : Int) := by omega
          have hm63 : m ≤ 63 := by omega
          rw [← hm]
          have HZ := hid (And.intro hz6 (And.intro hcw6 (And.intro hrow6 (And.intro hdo (And.intro hjr (And.intro hnn (And.intro hm hzlt)))))))
          have hwl := HSL.out
          have hsne : SB ≠ w.heap.size := by omega
          clear hz6 hcw6 hrow6 hdo hjr hnn hmem hkept hc6 hsb hol HY hml hzlt
          by_cases h1 : m = 1
          · subst h1
            obtain ⟨x, hx⟩ : ∃ x, os = [x] := List.length_eq_one_iff.1 HZ.out.2.2.2.2.2.2.1.symm
            subst hx
            obtain ⟨b1, off1, rfl, a0, a1, a2, a3, a4⟩ := (own_rd HZ.out.2.2.1) 0 (by simp)
            simp only [List.getElem_cons_zero, Nat.zero_mul, Nat.add_zero] at a0 a1 a2 a3 a4
            clear hm
            go_wp2
            obtain ⟨hend, hcz⟩ := storeR HZ.out.1 (.int .i64 x.f.op) (.int .i64 x.f.k) (.string ⟨x.f.r.1.toArray⟩) (.string ⟨x.f.r.2.toArray⟩) (.slice x.ao x.f.kids.length x.cp)
            refine bodyPost_ret (results_cell_row (P := Try.prog) rfl _ _ w.heap.size 26 _ (0, 0) _ rfl hend Try.underlying26 rfl (by kernel_rfl)) rfl ?_
            exact ⟨x, rfl, ((HZ.out.2.2.2.1 x (by simp)).keep hcz (fun i hi e => by have := H.out.2.2.2.1 i hi; have e2 : i = w.heap.size := e; omega)).wide (fun i hi => .inl hi), HZ.out.2.2.2.2.1, HZ.out.2.1.trans hcz (fun i hi e => by have e2 : i = w.heap.size := e; omega)⟩
          · have z1 : ((m : Int) == 1) = false := by simp; omega
            clear hm
            go_wp2
            have hd : decide ((64 : Int) < (m : Int)) = false := by simp; omega
            rw [hd, hss]
            obtain ⟨hend, hcz⟩ := storeR HZ.out.1 (.int .i64 op) (.int .i64 0) (.string ⟨#[]⟩) (.string ⟨#[]⟩) (.slice oo m oc)
            refine bodyPost_ret (results_cell_row (P := Try.prog) rfl _ _ w.heap.size 26 _ (0, 0) _ rfl hend Try.underlying26 rfl (by kernel_rfl)) rfl ?_
            have hme := HZ.out.2.2.2.2.2.2.1
            have hzl := HZ.out.2.2.2.2.2.2.2
            have hsz := hcz.size
            have hcwz := HZ.out.2.1.trans hcz (fun i hi e => by have e2 : i = w.heap.size := e; omega)
            have hrw := HZ.out.2.2.1
            obtain ⟨lo9, lc9, hv9, hv9z, _, hv9s⟩ := rowD_shape hrw
            cases hv9
            have hrw2 := ownsRow_keep hrw hcz (fun i hi e => by have e2 : i = w.heap.size := e; have := (hrw.lt i hi).1; omega)
            obtain ⟨N9, hfm⟩ := own_fmsD hrw2 (fun x hx => (HZ.out.2.2.2.1 x hx).keep hcz (fun i hi e => by have := H.out.2.2.2.1 i hi; have e2 : i = w.heap.size := e; omega))
            have hJ := HZ.out.2.2.2.2.1
            have hnl9 := HZ.out.2.2.2.2.2.1
            rw [show oneN op (os.map (·.f)) = .mk op 0 ([], []) (os.map (·.f)) by
              unfold oneN
              split
              · next h9 => exfalso; have := congrArg List.length h9; rw [List.length_map] at this; simp at this; omega
              · rfl] at hJ
            refine ⟨⟨.mk op 0 ([], []) (os.map (·.f)), oo, oc⟩, ?_, ⟨⟨N9, hfm.mono (fun i hi => hi.imp id (fun h => ⟨by omega, h.2⟩))⟩, ⟨by simp [FmB.r], by simp [FmB.r]⟩, hv9z, ?_, fun _ a ha => (hv9s a ha).2⟩, hJ, hcwz⟩
            · rw [hme]
              show _ = Ending.returned (.agg #[_, _, _, _, .slice oo (os.map (·.f)).length oc])
              rw [List.length_map]
              rfl
            · show nodesF (.mk op 0 ([], []) (os.map (·.f))) ≤ 4000
              rw [nodesF_eq]
              show 1 + nodesL (os.map (·.f)) ≤ 4000
              omega
end Go.Proofs.Ytcbfieodjbfjdaa
