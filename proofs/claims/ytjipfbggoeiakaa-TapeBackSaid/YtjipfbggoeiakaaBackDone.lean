/- TapeBack's pen and its list of what was written, while its first loop runs. -/
import Derived.Test.YtjipfbggoeiakaaBackOps
namespace Go.Proofs.Ytjipfbggoeiakaa
open Go.RowKit

/-- The three cells of an operation. -/
def opCells (p : OpR × Value) : List Value := [.int .i64 p.1.kind, .int .i64 p.1.n, p.2]
def opsCells : List (OpR × Value) → List Value
  | [] => []
  | p :: l => opCells p ++ opsCells l

theorem opsCells_snoc (l : List (OpR × Value)) (p : OpR × Value) : opsCells (l ++ [p]) = opsCells l ++ opCells p := by
  induction l with
  | nil => simp [opsCells]
  | cons q l ih => simp [opsCells, ih]

theorem opsCells_length (l : List (OpR × Value)) : (opsCells l).length = l.length * 3 := by
  induction l with
  | nil => rfl
  | cons q l ih => simp only [opsCells, List.length_append, ih, List.length_cons, opCells, List.length_nil]; omega

theorem opsCells_get : ∀ (l : List (OpR × Value)) (i j : Nat) (h : i < l.length), j < 3 → (opsCells l)[i * 3 + j]? = (opCells l[i])[j]?
  | [], _, _, h, _ => by simp at h
  | q :: l, 0, j, _, hj => by
    rw [opsCells, Nat.zero_mul, Nat.zero_add, List.getElem?_append_left (by simpa [opCells] using hj)]
    rfl
  | q :: l, i + 1, j, h, hj => by
    rw [opsCells, List.getElem?_append_right (by simp [opCells]; omega), show (i + 1) * 3 + j - (opCells q).length = i * 3 + j from by simp [opCells]; omega]
    exact opsCells_get l i j (by simpa using h) hj

theorem encAll_append (a b : List OpR) : encAll (a ++ b) = encAll a ++ encAll b := by
  induction a with
  | nil => rfl
  | cons x a ih => simp only [List.cons_append, encAll, ih, List.append_assoc]

/-- The pen, in P, holds acc; the list, in the box V, holds ps: in rows of their own. -/
structure InvB (P V : Nat) (acc : List UInt8) (ps : List (OpR × Value)) (w wr : World) : Prop where
  both : ∃ a c a2 c2, PenAt (V + 1) wr P a c acc ∧ wr.heap[V]? = some (.cells #[.slice a2 ps.length c2] 22 (0, 0)) ∧ wr.ownsRow (V + 1) 29 3 (.slice a2 ps.length c2) ps.length (opsCells ps) ∧ ∀ g, rowOf a = some g → rowOf a2 ≠ some g
  chg : Chg (fun _ => False) w wr

theorem ownsRow_keep {S : Nat → Prop} {B E n s : Nat} {w w' : World} {v : Value} {xs : List Value} (h : w.ownsRow B E s v n xs) (hc : Chg S w w') (hr : ∀ k, v.ownBlock = some k → ¬ S k) : w'.ownsRow B E s v n xs := by
  refine ⟨h.1, ?_⟩
  rcases h.2 with hn | ⟨g, cap, cur, hv, hg, hh, r⟩
  · exact .inl hn
  · exact .inr ⟨g, cap, cur, hv, hg, blk_keep hh hc (hr g (by rw [hv]; rfl)), r⟩

theorem ownsRow_lt {B E n s : Nat} {w : World} {v : Value} {xs : List Value} (h : w.ownsRow B E s v n xs) (k : Nat) (hk : v.ownBlock = some k) : B ≤ k ∧ k < w.heap.size := by
  rcases h.2 with ⟨hn, _⟩ | ⟨g, cap, cur, hv, hg, hh, r⟩
  · rw [hn] at hk; cases hk
  · rw [hv] at hk; cases hk; exact ⟨hg, lt_blk hh⟩

theorem InvB.keep {P V : Nat} {acc : List UInt8} {ps : List (OpR × Value)} {w wr w' : World} (h : InvB P V acc ps w wr) (hc : Chg (fun _ => False) wr w') : InvB P V acc ps w w' := by
  obtain ⟨⟨a, c, a2, c2, h1, h2, h3, h4⟩, h5⟩ := h
  exact ⟨⟨a, c, a2, c2, h1.keep hc id (fun _ _ => id), blk_keep h2 hc id, ownsRow_keep h3 hc (fun _ _ => id), h4⟩, h5.trans hc (fun _ _ h => h)⟩

/-- A call of the pen. -/
theorem InvB.pstep {P V : Nat} {acc acc' : List UInt8} {ps : List (OpR × Value)} {w wr w' : World} {a a2 : Option Addr} {c c2 : Nat} (hPV : P < V) (hw : w.heap.size ≤ P) (h1 : PenAt (V + 1) wr P a c acc) (h2 : wr.heap[V]? = some (.cells #[.slice a2 ps.length c2] 22 (0, 0)))
    (h3 : wr.ownsRow (V + 1) 29 3 (.slice a2 ps.length c2) ps.length (opsCells ps)) (h4 : ∀ g, rowOf a = some g → rowOf a2 ≠ some g) (h5 : Chg (fun _ => False) w wr) (hp : PenPost (V + 1) P a acc' wr w') : InvB P V acc' ps w w' := by
  obtain ⟨a', c', hp', hpc⟩ := hp
  have hrow : ∀ k, rowOf a = some k → V + 1 ≤ k := fun k hk => (h1.row.lt k ((rowOf_block _ _ _).trans hk)).1
  have hrow2 : ∀ k, rowOf a2 = some k → V + 1 ≤ k ∧ k < wr.heap.size := fun k hk => ownsRow_lt h3 k ((rowOf_block _ _ _).trans hk)
  refine ⟨⟨a', c', a2, c2, hp', blk_keep h2 hpc.chg ?_, ownsRow_keep h3 hpc.chg ?_, ?_⟩, h5.trans hpc.chg ?_⟩
  · rintro (h | h)
    · omega
    · have := hrow _ h; omega
  · rintro k hk (h | h)
    · rw [rowOf_block] at hk
      have := hrow2 k hk
      omega
    · rw [rowOf_block] at hk
      exact h4 k h hk
  · intro g hg hg2
    rcases hpc.row with h | ⟨g', h, hg'⟩
    · exact h4 g (h.symm.trans hg) hg2
    · rw [h] at hg
      cases hg
      have := hrow2 _ hg2
      omega
  · rintro i hi (h | h)
    · omega
    · have := hrow _ h; omega

/-- The list grows by one. -/
theorem InvB.dstep {P V : Nat} {acc : List UInt8} {ps : List (OpR × Value)} {p : OpR × Value} {w wr wa w1 : World} {a a2 : Option Addr} {c c2 sz : Nat} {v' : Value} (hPV : P < V) (hw : w.heap.size ≤ P) (h1 : PenAt (V + 1) wr P a c acc) (h2 : wr.heap[V]? = some (.cells #[.slice a2 ps.length c2] 22 (0, 0)))
    (h3 : wr.ownsRow (V + 1) 29 3 (.slice a2 ps.length c2) ps.length (opsCells ps)) (h4 : ∀ g, rowOf a = some g → rowOf a2 ≠ some g) (h5 : Chg (fun _ => False) w wr) (hwa : Chg (fun _ => False) wr wa)
    (hown : w1.ownsRow (V + 1) 29 3 v' (ps.length + 1) (opsCells ps ++ opCells p)) (hgrow : wa.grownBy w1 (Value.ownBlock (.slice a2 ps.length c2))) (hat : v'.ownBlock = Value.ownBlock (.slice a2 ps.length c2) ∨ v'.ownBlock = some sz) (hsz : wr.heap.size ≤ sz) :
    ∃ a' c', v' = .slice a' (ps.length + 1) c' ∧ w1.cell? ⟨V, 0, none⟩ = some (.slice a2 ps.length c2) ∧ w1.frozen? ⟨V, 0, none⟩ = false ∧ InvB P V acc (ps ++ [p]) w (w1.setCell ⟨V, 0, none⟩ (.slice a' (ps.length + 1) c')) := by
  have hrow : ∀ k, rowOf a = some k → V + 1 ≤ k ∧ k < wr.heap.size := fun k hk => h1.row.lt k ((rowOf_block _ _ _).trans hk)
  have hrow2 : ∀ k, rowOf a2 = some k → V + 1 ≤ k ∧ k < wr.heap.size := fun k hk => ownsRow_lt h3 k ((rowOf_block _ _ _).trans hk)
  have hch : Chg (fun k => rowOf a2 = some k) wr w1 := (hwa.mono (fun _ _ h => h.elim)).grown hgrow (fun k e _ => (rowOf_block _ _ _).symm.trans e)
  have hV1 := blk_keep h2 hch (fun h => by have := hrow2 _ h; omega)
  obtain ⟨a', c', rfl⟩ : ∃ a' c', v' = .slice a' (ps.length + 1) c' := by
    rcases hown.2 with ⟨rfl, h0⟩ | ⟨g, cap', cur, rfl, _⟩
    · omega
    · exact ⟨_, _, rfl⟩
  have hc0 := cell_blk hV1 0
  simp only [List.getElem?_toArray, List.getElem?_cons_zero] at hc0
  have hset := setCell_chg w1 V 0 (.slice a' (ps.length + 1) c')
  have hl : (ps ++ [p]).length = ps.length + 1 := by simp
  have hl1 := lt_blk h1.cell
  have hlV := lt_blk h2
  have hs1 := hch.size
  have hrow' : ∀ k, rowOf a' = some k → V + 1 ≤ k := fun k hk => (ownsRow_lt hown k ((rowOf_block _ _ _).trans hk)).1
  refine ⟨a', c', rfl, hc0, froz_blk hV1 0, ⟨a, c, a', c', (h1.keep hch ?_ ?_).keep hset (by omega) ?_, ?_, ?_, ?_⟩, (h5.trans hch ?_).trans hset ?_⟩
  · intro h; have := hrow2 _ h; omega
  · intro k hk h; exact h4 k hk h
  · intro k hk h; have := hrow k hk; omega
  · rw [hl]; exact set_blk hV1 0 _
  · rw [hl, opsCells_snoc]
    exact ownsRow_keep hown hset (fun k hk h => by rw [rowOf_block] at hk; have := hrow' k hk; omega)
  · intro g hg hg2
    have := hrow g hg
    rw [rowOf_block, rowOf_block] at hat
    rcases hat with h | h
    · exact h4 g hg (h.symm.trans hg2)
    · rw [h] at hg2
      cases hg2
      omega
  · intro i hi h; have := hrow2 _ h; omega
  · intro i hi h; omega

/-- What the list holds can be read as operations. -/
theorem ops_of_done {V LO : Nat} {w : World} {a2 : Option Addr} {c2 : Nat} {ps : List (OpR × Value)} (h : w.ownsRow (V + 1) 29 3 (.slice a2 ps.length c2) ps.length (opsCells ps))
    (he : ∀ p ∈ ps, BytesAt (fun k => k < LO) w p.2 p.1.b ∧ (-9223372036854775808 ≤ p.1.kind ∧ p.1.kind ≤ 9223372036854775807) ∧ (-9223372036854775808 ≤ p.1.n ∧ p.1.n ≤ 9223372036854775807)) :
    OpsAt (fun k => k < LO ∨ rowOf a2 = some k) w a2 (ps.map (·.1)) := by
  intro i hi
  have hi' : i < ps.length := by simpa using hi
  rcases h.2 with ⟨_, h0⟩ | ⟨g, cap, cur, hv, hg, hh, r⟩
  · omega
  · cases hv
    have hc : ∀ j, j < 3 → w.cell? ⟨g, i * 3 + j, none⟩ = (opCells ps[i])[j]? := by
      intro j hj
      have hx := opsCells_get ps i j hi' hj
      have hlt : j < (opCells ps[i]).length := hj
      rw [List.getElem?_eq_getElem hlt] at hx ⊢
      have := h.cells (g := g) rfl (i * 3 + j) _ hx
      rw [add_off, Nat.zero_add] at this
      exact this
    obtain ⟨hb, hk, hn⟩ := he ps[i] (List.getElem_mem hi')
    refine ⟨g, 0, rfl, .inr rfl, ?_⟩
    simp only [List.getElem_map, Nat.zero_add]
    exact ⟨⟨hc 0 (by omega), hk⟩, ⟨hc 1 (by omega), hn⟩, _, hc 2 (by omega), hb.mono (fun _ h => .inl h)⟩

end Go.Proofs.Ytjipfbggoeiakaa
