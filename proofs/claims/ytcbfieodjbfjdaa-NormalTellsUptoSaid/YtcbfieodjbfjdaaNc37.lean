/- Texts that the proof leans on, in one: NpSameM, NpIn. -/
import Derived.Test.YtcbfieodjbfjdaaNc16
import Derived.Test.YtcbfieodjbfjdaaNc36
/- Same of any formula and one of the call's own: what lies in memory while pairs of nodes are asked (FmSameM, with the call's own as the second of a pair). -/
namespace Go.Proofs.Ytcbfieodjbfjdaa
open Go.RowKit

def itCellsB (p : It) : List Value := [.pointer (some p.pb), .pointer (some p.pa)]
def rowPB (its : List It) : List Value := its.flatMap itCellsB
theorem rowPB_len (l : List It) : (rowPB l).length = l.length * 2 := by
  unfold rowPB
  induction l with
  | nil => rfl
  | cons x l ih => rw [List.flatMap_cons, List.length_append, ih, List.length_cons]; simp [itCellsB]; omega
theorem rowPB_snoc (l : List It) (x : It) : rowPB (l ++ [x]) = rowPB l ++ itCellsB x := by simp [rowPB]

theorem FzAt.keep {w w' : World} {S : Nat → Prop} (hc : Chg S w w') (hn : ∀ b, ¬ S b → b < w.heap.size → w'.heap[b]? = w.heap[b]?) : ∀ (n : Nat) {D : Nat → Prop} {m b o : Nat} {f : FmB}, FmAt D w m b o f → (∀ i, D i → ¬ S i) → ¬ S b → FzAt w n b o f → FzAt w' n b o f
  | 0, _, _, _, _, _, _, _, _, _ => trivial
  | n + 1, D, m, b, o, f, hf, hD, hb, hz => by
    obtain ⟨d, ao, cp, _, ⟨c0, _, _, _, c4⟩, _, _, hk⟩ := hf.open_
    have hlt : b < w.heap.size := World.block_lt_of_cell? w ⟨b, o, none⟩ c0
    have hbk := hn b hb hlt
    refine ⟨?_, fun ao2 cp2 h4 i hi b' off hao => ?_⟩
    · have := hz.1
      unfold World.frozen? at this ⊢
      rw [hbk]
      exact this
    · have h5 : w'.cell? ⟨b, o + 4, none⟩ = w.cell? ⟨b, o + 4, none⟩ := by
        unfold World.cell?
        simp only [hbk]
      rw [h5] at h4
      obtain ⟨b2, off2, e, hDb, hfk⟩ := hk i hi
      have e2 := h4
      rw [c4] at e2
      simp only [Option.some.injEq, Value.slice.injEq, true_and] at e2
      obtain ⟨rfl, rfl⟩ := e2
      rw [e] at hao
      cases hao
      exact FzAt.keep hc hn n hfk hD (hD _ hDb) (hz.2 _ _ h4 i hi _ _ e)

/-- An item, whose other side is not frozen. -/
structure ItZ (B : Nat) (w2 : World) (L0 : Nat) (D : Nat → Prop) (p : It) : Prop where
  ok : ItOk B w2 L0 D p
  fz : ∀ n, FzAt w2 n p.b.1 p.b.2 p.g
theorem ItZ.thaw {B : Nat} {w2 : World} {L0 : Nat} {D : Nat → Prop} {p : It} (h : ItZ B w2 L0 D p) : Thaw w2 p.pb := by
  obtain ⟨m, hm⟩ := h.ok.fm
  obtain ⟨_, _, _, _, ⟨c0, _⟩, _⟩ := hm.open_
  refine ⟨?_, (h.fz 1).1⟩
  show ∃ cs ty z, w2.heap[p.b.1]? = some (.cells cs ty z)
  unfold World.cell? at c0
  simp only at c0
  split at c0
  · exact ⟨_, _, _, by assumption⟩
  · cases c0
/-- The Kids of an item, in a row. -/
theorem ItZ.kids2 {B : Nat} {w2 : World} {L0 : Nat} {D : Nat → Prop} (hD : ∀ i, D i → i < L0) {p : It} (h : ItZ B w2 L0 D p) (hl : p.s.kids.length = p.g.kids.length) : ∃ (ao bo : Option Addr) (cp bp : Nat) (KI : List It), p.s.v = .slice ao p.s.kids.length cp ∧ w2.cell? ⟨p.b.1, p.b.2 + 4, none⟩ = some (.slice bo p.g.kids.length bp) ∧ KI.length = p.s.kids.length ∧ (∀ q ∈ KI, ItZ B w2 L0 D q) ∧ blksS KI = blksL p.s.kids ∧ nodesS KI = nodesL (eraseL p.s.kids) ∧ ((∀ q ∈ KI, eraseA q.s = q.g) ↔ eraseL p.s.kids = p.g.kids) ∧
    ∀ j (hj : j < KI.length), ∃ gK gB oB, ao = some ⟨gK, 0, none⟩ ∧ bo = some ⟨gB, oB, none⟩ ∧ p.s.v.ownBlock = some gK ∧ KI[j].a = (gK, j * 5) ∧ KI[j].b = (gB, oB + j * 5) := by
  obtain ⟨ao, bo, cp, bp, h1, h2, h3⟩ := h.ok.kids hD hl
  by_cases he : p.s.kids = []
  · refine ⟨ao, bo, cp, bp, [], h1, h2, by rw [he]; rfl, fun _ h => (by cases h), by rw [he]; rfl, by rw [he]; rfl, ?_, fun j hj => absurd hj (by simp)⟩
    rw [he]
    have : p.g.kids = [] := List.eq_nil_of_length_eq_zero (by rw [← hl, he]; rfl)
    rw [this]
    exact ⟨fun _ => rfl, fun _ _ h => (by cases h)⟩
  · obtain ⟨gK, gB, oB, k1, k2, k3, k4⟩ := h3 he
    have hb := kidIts_blks gK gB oB 0 _ _ hl
    have hget := kidIts_get gK gB oB 0 _ _ hl
    have hlen := kidIts_len gK gB oB 0 _ _ hl
    refine ⟨ao, bo, cp, bp, kidIts gK gB oB 0 p.s.kids p.g.kids, h1, h2, hlen, fun q hq => ⟨k4 q hq, fun n => ?_⟩, hb.1, hb.2, kidIts_same gK gB oB 0 _ _ hl, fun j hj => ⟨gK, gB, oB, k1, k2, k3, ?_, ?_⟩⟩
    · obtain ⟨j, hj, rfl⟩ := List.getElem_of_mem hq
      have hj2 : j < p.s.kids.length := by rw [hlen] at hj; exact hj
      rw [hget j hj2, Nat.zero_add]
      exact (h.fz (n + 1)).2 bo bp h2 j (by omega) gB oB k2
    · rw [hlen] at hj
      rw [hget j hj, Nat.zero_add]
    · rw [hlen] at hj
      rw [hget j hj, Nat.zero_add]

/-- A key of the map: its second pointer lies in a block that is none of bs. -/
def KeyZ (w2 : World) (L0 : Nat) (bs : List Nat) (e : MapEntry) : Prop := ∃ a' b' : Addr, e.key = .agg #[.pointer (some b'), .pointer (some a')] ∧ Thaw w2 b' ∧ b'.block < L0 ∧ (∃ cs ty, w2.heap[a'.block]? = some (.cells cs ty (0, 0))) ∧ a'.block < L0 ∧ a'.block ∉ bs

theorem run_append_itB {B : Nat} {w : World} {v : Value} {its : List It} {p : It} (ty : TypeId) (hown : w.ownsRow B 69 2 v its.length (rowPB its)) {b : Nat} (hb : w.heap[b]? = some (.cells (itCellsB p).toArray 69 (0, 0))) (hlen : its.length ≤ 100000) (hB : B ≤ w.heap.size) :
    ∃ v' w', (Builtin.append_ #[70, 70] ty #[v, .slice (some ⟨b, 0, none⟩) 1 1]).run Try.prog w = .ok v' w' ∧ w'.ownsRow B 69 2 v' (its ++ [p]).length (rowPB (its ++ [p])) ∧ Chg (fun k => v.ownBlock = some k) w w' ∧ (v'.ownBlock = v.ownBlock ∨ v'.ownBlock = some w.heap.size) := by
  obtain ⟨i0, hi, hz0, hz1, hz2⟩ := info_parts Try.info69
  obtain ⟨v', w', k1, k2, k3, k4⟩ := run_append_own_atD (P := Try.prog) w B 70 ty 69 i0 (.agg #[.pointer none, .pointer none]) 2 16 Try.underlying70 hi hz0 hz1 hz2 rfl (by decide) v _ _ hown ⟨b, 0, none⟩ 1 1 (itCellsB p) rfl
    (fun j u hj => by
      have h := cell_blk hb j
      rw [List.getElem?_toArray, hj] at h
      rw [add_off, Nat.zero_add]
      exact h) (fun u hu => by
      simp only [itCellsB, List.mem_cons, List.not_mem_nil, or_false] at hu
      rcases hu with rfl | rfl <;> rfl) (by unfold maxLen; omega) (by omega) hB
  exact ⟨v', w', k1, by rw [List.length_append, List.length_singleton, rowPB_snoc]; exact k2, (Chg.refl _ w).grown k3 fun k e _ => e, k4.2⟩

/-- The last one is taken. -/
theorem row_cutB {B : Nat} {w : World} {v : Value} {its : List It} {p : It} (h : w.ownsRow B 69 2 v (its ++ [p]).length (rowPB (its ++ [p]))) : ∃ gL cp, v = .slice (some ⟨gL, 0, none⟩) (its.length + 1) cp ∧ B ≤ gL ∧ gL < w.heap.size ∧ its.length + 1 ≤ cp ∧ cp ≤ maxLen ∧ w.cell? ⟨gL, its.length * 2, none⟩ = some (.pointer (some p.pb)) ∧ w.cell? ⟨gL, its.length * 2 + 1, none⟩ = some (.pointer (some p.pa)) ∧ w.ownsRow B 69 2 (.slice (some ⟨gL, 0, none⟩) its.length cp) its.length (rowPB its) := by
  have hl : (its ++ [p]).length = its.length + 1 := by simp
  rw [hl, rowPB_snoc] at h
  rcases h.2 with ⟨_, h0⟩ | ⟨gL, cap, cur, rfl, hg, hh, k1, k2, k3, k4⟩
  · omega
  · have hc := fun i u (hi : (rowPB its ++ itCellsB p)[i]? = some u) => h.cells (g := gL) rfl i u hi
    have e0 := hc (its.length * 2) (.pointer (some p.pb)) (by rw [List.getElem?_append_right (by rw [rowPB_len]; omega), rowPB_len, Nat.sub_self]; rfl)
    have e1 := hc (its.length * 2 + 1) (.pointer (some p.pa)) (by rw [List.getElem?_append_right (by rw [rowPB_len]; omega), rowPB_len, Nat.add_sub_cancel_left]; rfl)
    rw [add_off, Nat.zero_add] at e0 e1
    refine ⟨gL, cap, rfl, hg, lt_blk hh, k1, k2, e0, e1, rowPB_len its, .inr ⟨gL, cap, cur, rfl, hg, hh, by omega, k2, k3, ?_⟩⟩
    have := congrArg (List.take (its.length * 2)) k4
    rw [List.take_take, List.take_append_of_le_length (by rw [rowPB_len]; omega), Nat.min_eq_left (by omega)] at this
    rw [this, ← rowPB_len, List.take_length]
end Go.Proofs.Ytcbfieodjbfjdaa

/- Same of any formula and one of the call's own: within the loop over the Kids of a pair. -/
namespace Go.Proofs.Ytcbfieodjbfjdaa
open Go.RowKit

/-- A key that was entered for one of the first j of a row. -/
def KeyJZ (w2 : World) (L0 : Nat) (KI : List It) (j : Nat) (e : MapEntry) : Prop := ∃ (i : Nat) (h : i < KI.length) (b' : Addr), i < j ∧ e.key = .agg #[.pointer (some b'), .pointer (some KI[i].pa)] ∧ Thaw w2 b' ∧ b'.block < L0
theorem Thaw.keep {S : Nat → Prop} {w w' : World} {a : Addr} (h : Thaw w a) (hc : Chg S w w') (hS : ¬ S a.block) : Thaw w' a := by
  obtain ⟨⟨cs, ty, z, h1⟩, h2⟩ := h
  have hb := hc.block a.block (lt_blk h1) hS
  refine ⟨⟨cs, ty, z, hb.trans h1⟩, ?_⟩
  unfold World.frozen? at h2 ⊢
  rw [hb]
  exact h2

/-- Within the loop over the Kids of p, behind the first j. -/
structure SameZ (w2 : World) (L0 Q : Nat) (p : It) (its0 KI : List It) (bs : List Nat) (n1 j : Nat) (v9 : Value) (es9 : Array MapEntry) (ck9 : Nat) (wr : World) : Prop where
  row : wr.ownsRow L0 69 2 v9 (its0 ++ KI.take j).length (rowPB (its0 ++ KI.take j))
  map : wr.heap[L0 + 1]? = some (.map es9 ck9)
  keys : ∀ e ∈ es9.toList, KeyZ w2 L0 bs e ∨ KeyJZ w2 L0 KI j e
  size : es9.size = n1 + j
  nm : v9.ownBlock ≠ some (L0 + 1)
  nq : v9.ownBlock ≠ some Q
  q : wr.heap[Q]? = some (.cells #[.pointer (some ⟨p.b.1, p.b.2, none⟩), .pointer (some ⟨p.a.1, p.a.2, none⟩)] 69 (0, 0))
  chg : Chg (fun k => L0 ≤ k) w2 wr

theorem SameZ.push {B : Nat} {DD : Nat → Prop} {w2 : World} {L0 Q : Nat} {p : It} {its0 KI : List It} {bs : List Nat} {n1 j : Nat} {v9 : Value} {es9 : Array MapEntry} {ck9 : Nat} {wr : World} (h : SameZ w2 L0 Q p its0 KI bs n1 j v9 es9 ck9 wr) (hj : j < KI.length) (hlen : its0.length + KI.length ≤ 99000) (hi : ∀ q ∈ KI, ItZ B w2 L0 DD q) {gK gB oB : Nat} (hg : gK ∈ bs) (hka : ∀ i (hi : i < KI.length), KI[i].a = (gK, i * 5)) (hkb : KI[j].b = (gB, oB + j * 5)) (hQ : L0 ≤ Q ∧ Q ≠ L0 + 1) (wp : World) (b : Nat) (cA : Chg (fun _ => False) wr wp) (hbl : wr.heap.size ≤ b) (hb : wp.heap[b]? = some (.cells #[.pointer (some ⟨gB, oB + j * 5, none⟩), .pointer (some ⟨gK, j * 5, none⟩)] 69 (0, 0))) :
    ∃ w1, (Instr.lookup 71 (.map (some (L0 + 1))) (.agg #[.pointer (some ⟨gB, oB + j * 5, none⟩), .pointer (some ⟨gK, j * 5, none⟩)]) true).run Try.prog wp = .ok (.tuple #[.agg #[], .bool false]) w1 ∧ w1.heap = wp.heap ∧
    ∃ w6, (Instr.mapUpdate 71 (.map (some (L0 + 1))) (.agg #[.pointer (some ⟨gB, oB + j * 5, none⟩), .pointer (some ⟨gK, j * 5, none⟩)]) (.agg #[])).run Try.prog (w1.alloc (.cells #[] 65)) = .ok () w6 ∧ w6.heap[b]? = some (.cells #[.pointer (some ⟨gB, oB + j * 5, none⟩), .pointer (some ⟨gK, j * 5, none⟩)] 69 (0, 0)) ∧
      ∃ v10 w8, (Builtin.append_ #[70, 70] 70 #[v9, .slice (some ⟨w6.heap.size, 0, none⟩) 1 1]).run Try.prog (w6.alloc (.cells #[.pointer (some ⟨gB, oB + j * 5, none⟩), .pointer (some ⟨gK, j * 5, none⟩)] 69)) = .ok v10 w8 ∧ ∃ es10 ck10, SameZ w2 L0 Q p its0 KI bs n1 (j + 1) v10 es10 ck10 w8 := by
  have hit := hi KI[j] (List.getElem_mem hj)
  have hpa : KI[j].pa = ⟨gK, j * 5, none⟩ := by unfold It.pa; rw [hka j hj]
  have hpb : KI[j].pb = ⟨gB, oB + j * 5, none⟩ := by unfold It.pb; rw [hkb]
  have hgl : gK < L0 := by have := hit.ok.la; rw [hka j hj] at this; exact this
  have hgbl : gB < L0 := by have := hit.ok.lb; rw [hkb] at this; exact this
  have hth : Thaw w2 ⟨gB, oB + j * 5, none⟩ := by have := hit.thaw; rw [hpb] at this; exact this
  have hpl : ∃ cs ty, w2.heap[gK]? = some (.cells cs ty (0, 0)) := by have := hit.ok.pl; rw [hka j hj] at this; exact this
  have hM := lt_blk h.map
  have hQl := lt_blk h.q
  have keyh : ∀ w9, Chg (fun _ => False) wr w9 → NewK w9 (⟨gK, j * 5, none⟩ : Addr) es9.toList ∧ Thaw w9 ⟨gB, oB + j * 5, none⟩ ∧ (∃ ca ta, w9.heap[(⟨gK, j * 5, none⟩ : Addr).block]? = some (.cells ca ta (0, 0))) := fun w9 hc9 => by
    have hall := h.chg.trans hc9 (fun _ _ h => h.elim)
    refine ⟨fun e he => ?_, hth.keep hall (by show ¬ L0 ≤ gB; omega), ?_⟩
    · rcases h.keys e he with ⟨a', b', k1, k5, k6, ⟨cs, ty, k2⟩, k3, k4⟩ | ⟨i, hi2, b', k1, k2, k5, k6⟩
      · exact ⟨b', a', k1, k5.keep hall (by show ¬ L0 ≤ b'.block; omega), fun e => k4 (by rw [← e]; exact hg), cs, ty, blk_keep k2 hall (by show ¬ L0 ≤ a'.block; omega)⟩
      · have hpa2 : KI[i].pa = ⟨gK, i * 5, none⟩ := by unfold It.pa; rw [hka i hi2]
        rw [hpa2] at k2
        obtain ⟨cs, ty, k3⟩ := hpl
        exact ⟨b', _, k2, k5.keep hall (by show ¬ L0 ≤ b'.block; omega), fun e => by injection e with _ e; omega, cs, ty, blk_keep k3 hall (by show ¬ L0 ≤ gK; omega)⟩
    · obtain ⟨cs, ty, k3⟩ := hpl
      exact ⟨cs, ty, blk_keep k3 hall (by show ¬ L0 ≤ gK; omega)⟩
  obtain ⟨w1, l1, l2⟩ := look_pairD wp (L0 + 1) es9 ck9 ⟨gB, oB + j * 5, none⟩ ⟨gK, j * 5, none⟩ (blk_keep h.map cA id) (keyh _ cA).1 (keyh _ cA).2.1 (keyh _ cA).2.2
  have cA1 : Chg (fun _ => False) wr w1 := cA.trans l2.1 (fun _ _ h => h)
  have cB : Chg (fun _ => False) wr (w1.alloc (.cells #[] 65)) := cA1.alloc _
  obtain ⟨w6, m1, m2, m3⟩ := put_pairD (w1.alloc (.cells #[] 65)) (L0 + 1) es9 ck9 ⟨gB, oB + j * 5, none⟩ ⟨gK, j * 5, none⟩ (blk_keep h.map cB id) (keyh _ cB).1 (keyh _ cB).2.1 (keyh _ cB).2.2
  have hb1 : w1.heap[b]? = some (.cells #[.pointer (some ⟨gB, oB + j * 5, none⟩), .pointer (some ⟨gK, j * 5, none⟩)] 69 (0, 0)) := by rw [l2.2]; exact hb
  refine ⟨w1, l1, l2.2, w6, m1, ?_, ?_⟩
  · exact blk_keep (blk_keep hb1 ((Chg.refl (fun _ => False) w1).alloc _) id) m3 (by show ¬ b = L0 + 1; omega)
  have c6 : Chg (fun k => k = L0 + 1) wr w6 := (cB.mono (T := fun k => k = L0 + 1) (fun _ _ h => h.elim)).trans m3 (fun _ _ h => h)
  have cQ : Chg (fun _ => False) w6 (w6.alloc (.cells #[.pointer (some ⟨gB, oB + j * 5, none⟩), .pointer (some ⟨gK, j * 5, none⟩)] 69)) := (Chg.refl _ w6).alloc _
  have c7 : Chg (fun k => k = L0 + 1) wr (w6.alloc (.cells #[.pointer (some ⟨gB, oB + j * 5, none⟩), .pointer (some ⟨gK, j * 5, none⟩)] 69)) := c6.trans cQ (fun _ _ h => h.elim)
  have hrow7 : (w6.alloc (.cells #[.pointer (some ⟨gB, oB + j * 5, none⟩), .pointer (some ⟨gK, j * 5, none⟩)] 69)).ownsRow L0 69 2 v9 (its0 ++ KI.take j).length (rowPB (its0 ++ KI.take j)) := ownsRow_keep h.row c7 (fun k hk e => h.nm (by rw [hk, e]))
  have hcell : (itCellsB KI[j]).toArray = #[.pointer (some ⟨gB, oB + j * 5, none⟩), .pointer (some ⟨gK, j * 5, none⟩)] := by unfold itCellsB; rw [hpa, hpb]
  have hb7 : (w6.alloc (.cells #[.pointer (some ⟨gB, oB + j * 5, none⟩), .pointer (some ⟨gK, j * 5, none⟩)] 69)).heap[w6.heap.size]? = some (.cells (itCellsB KI[j]).toArray 69 (0, 0)) := by rw [hcell]; exact heap_alloc_new w6 (.cells #[.pointer (some ⟨gB, oB + j * 5, none⟩), .pointer (some ⟨gK, j * 5, none⟩)] 69)
  have hll : (its0 ++ KI.take j).length ≤ 99000 := by rw [List.length_append, List.length_take]; omega
  have hL0w : L0 ≤ wr.heap.size := by omega
  obtain ⟨v10, w8, a1, a2, a3, a4⟩ := run_append_itB (p := KI[j]) 70 hrow7 hb7 (by omega) (by have := c7.size; omega)
  refine ⟨v10, w8, a1, es9.push ⟨.agg #[.pointer (some ⟨gB, oB + j * 5, none⟩), .pointer (some ⟨gK, j * 5, none⟩)], .agg #[], ck9⟩, ck9 + 1, ?_⟩
  have htk : its0 ++ KI.take (j + 1) = (its0 ++ KI.take j) ++ [KI[j]] := by rw [List.take_succ_eq_append_getElem hj, List.append_assoc]
  have c8 : Chg (fun k => k = L0 + 1 ∨ v9.ownBlock = some k) wr w8 := (c7.mono (T := fun k => k = L0 + 1 ∨ v9.ownBlock = some k) (fun _ _ e => .inl e)).trans a3 (fun _ _ e => .inr e)
  have hown : ∀ k, v9.ownBlock = some k → L0 ≤ k := fun k hk => (h.row.lt k hk).1
  have h7s := c7.size
  refine ⟨by rw [htk]; exact a2, ?_, fun e he => ?_, by rw [Array.size_push, h.size, Nat.add_assoc], fun e => ?_, fun e => ?_, blk_keep h.q c8 (fun e => e.elim (fun e => hQ.2 e) (fun e => h.nq e)), h.chg.trans c8 (fun i _ e => e.elim (fun e => by omega) (fun e => hown i e))⟩
  · exact blk_keep (blk_keep m2 cQ id) a3 (fun e => h.nm e)
  · rw [Array.toList_push, List.mem_append] at he
    rcases he with he | he
    · rcases h.keys e he with k | ⟨i, hi2, b', k1, k2⟩
      · exact .inl k
      · exact .inr ⟨i, hi2, b', by omega, k2⟩
    · rw [List.mem_singleton.1 he]
      exact .inr ⟨j, hj, ⟨gB, oB + j * 5, none⟩, by omega, by rw [hpa], hth, hgbl⟩
  · rcases a4 with a4 | a4
    · exact h.nm (a4.symm.trans e)
    · rw [a4] at e; injection e with e; omega
  · rcases a4 with a4 | a4
    · exact h.nq (a4.symm.trans e)
    · rw [a4] at e; injection e with e; omega

theorem SameZ.leave {B : Nat} {DD : Nat → Prop} {w2 : World} {L0 Q : Nat} {p : It} {its0 KI : List It} {n1 NN : Nat} {v9 : Value} {es9 : Array MapEntry} {ck9 : Nat} {wr : World} {E : Prop} {ao3 bo3 : Option Addr} (h : SameZ w2 L0 Q p its0 KI (blksS (its0 ++ [p])) n1 KI.length v9 es9 ck9 wr) (k2 : ∀ q ∈ its0 ++ [p], ItZ B w2 L0 DD q) (k3 : (blksS (its0 ++ [p])).Nodup) (k7 : nodesS (its0 ++ [p]) + 1 + n1 = NN + (its0 ++ [p]).length ∧ (its0 ++ [p]).length ≤ n1 + 1) (k8 : E ↔ ∀ q ∈ its0 ++ [p], eraseA q.s = q.g)
    (hpp : p.s.op = p.g.op ∧ p.s.k = p.g.k ∧ p.s.r = p.g.r ∧ p.s.kids.length = p.g.kids.length) (i4 : ∀ q ∈ KI, ItZ B w2 L0 DD q) (i5 : blksS KI = blksL p.s.kids) (i6 : nodesS KI = nodesL (eraseL p.s.kids)) (i7 : (∀ q ∈ KI, eraseA q.s = q.g) ↔ eraseL p.s.kids = p.g.kids)
    (i8 : ∀ j (hj : j < KI.length), ∃ gK gB oB, ao3 = some (⟨gK, 0, none⟩ : Addr) ∧ bo3 = some (⟨gB, oB, none⟩ : Addr) ∧ p.s.v.ownBlock = some gK ∧ KI[j].a = (gK, j * 5) ∧ KI[j].b = (gB, oB + j * 5)) :
    (wr.ownsRow L0 69 2 v9 (its0 ++ KI).length (rowPB (its0 ++ KI)) ∧ (∀ q ∈ its0 ++ KI, ItZ B w2 L0 DD q) ∧ (blksS (its0 ++ KI)).Nodup ∧ wr.heap[L0 + 1]? = some (.map es9 ck9) ∧ (∀ e ∈ es9.toList, KeyZ w2 L0 (blksS (its0 ++ KI)) e) ∧ v9.ownBlock ≠ some (L0 + 1) ∧ (nodesS (its0 ++ KI) + 1 + es9.size = NN + (its0 ++ KI).length ∧ (its0 ++ KI).length ≤ es9.size + 1) ∧ (E ↔ ∀ q ∈ its0 ++ KI, eraseA q.s = q.g) ∧ Chg (fun k => L0 ≤ k) w2 wr) ∧ lenOfV v9 = (its0 ++ KI).length ∧ mapSize wr (L0 + 1) = n1 + KI.length ∧ n1 + 1 ≤ NN + its0.length := by
  have htk : KI.take KI.length = KI := List.take_of_length_le (Nat.le_refl _)
  have hrow := h.row
  rw [htk] at hrow
  have hbp : blksS [p] = blksA p.s := by simp [blksS]
  have hb1 : blksS (its0 ++ [p]) = blksS its0 ++ (p.s.v.ownBlock.toList ++ blksL p.s.kids) := by rw [blksS_app, hbp, blksA_eq]
  have hb2 : blksS (its0 ++ KI) = blksS its0 ++ blksL p.s.kids := by rw [blksS_app, i5]
  have hnd := k3
  rw [hb1, List.nodup_append] at hnd
  obtain ⟨d1, d2, d3⟩ := hnd
  rw [List.nodup_append] at d2
  obtain ⟨d4, d5, d6⟩ := d2
  have hsub : ∀ b ∈ blksS (its0 ++ KI), b ∈ blksS (its0 ++ [p]) := fun b hb => by
    rw [hb2, List.mem_append] at hb
    rw [hb1, List.mem_append, List.mem_append]
    exact hb.elim .inl (fun q => .inr (.inr q))
  have n3 : nodesS (its0 ++ [p]) = nodesS its0 + nodesF (eraseA p.s) := by rw [nodesS_app]; simp [nodesS]
  have n4 : nodesF (eraseA p.s) = 1 + nodesL (eraseL p.s.kids) := by rw [nodesF_eq, eraseA_eq]; rfl
  have n5 : nodesS (its0 ++ KI) = nodesS its0 + nodesL (eraseL p.s.kids) := by rw [nodesS_app, i6]
  have n6 := h.size
  have n7 := k7
  rw [n3, n4, List.length_append, List.length_singleton] at n7
  have hl : (its0 ++ KI).length = its0.length + KI.length := List.length_append
  refine ⟨⟨hrow, fun q hq => (List.mem_append.1 hq).elim (fun q1 => k2 q (List.mem_append_left _ q1)) (i4 q), ?_, h.map, fun e he => ?_, h.nm, ⟨by rw [n5, n6, hl]; omega, by rw [n6, hl]; omega⟩, ?_, h.chg⟩, ?_, ?_, by omega⟩
  · rw [hb2, List.nodup_append]
    exact ⟨d1, d5, fun a ha b hb => d3 a ha b (List.mem_append_right _ hb)⟩
  · rcases h.keys e he with ⟨a', b', q1, q5, q6, q2, q3, q4⟩ | ⟨i, hi, b', q1, q2, q5, q6⟩
    · exact ⟨a', b', q1, q5, q6, q2, q3, fun hb => q4 (hsub _ hb)⟩
    · obtain ⟨gK, gB, oB, _, _, r1, r2, _⟩ := i8 i hi
      have hit := i4 KI[i] (List.getElem_mem hi)
      have hka : KI[i].a.1 = gK := by rw [r2]
      refine ⟨KI[i].pa, b', q2, q5, q6, hit.ok.pl, hit.ok.la, fun hb => ?_⟩
      have hb : gK ∈ blksS (its0 ++ KI) := by rw [← hka]; exact hb
      rw [hb2, List.mem_append] at hb
      have hgo : gK ∈ p.s.v.ownBlock.toList := by rw [r1]; simp
      rcases hb with hb | hb
      · exact d3 _ hb _ (List.mem_append_left _ hgo) rfl
      · exact d6 _ hgo _ hb rfl
  · rw [k8]
    constructor
    · intro hh q hq
      rcases List.mem_append.1 hq with hq | hq
      · exact hh q (List.mem_append_left _ hq)
      · exact i7.2 ((fm_same_parts _ _).1 (hh p (by simp))).2 q hq
    · intro hh q hq
      rcases List.mem_append.1 hq with hq | hq
      · exact hh q (List.mem_append_left _ hq)
      · rw [List.mem_singleton.1 hq]
        exact (fm_same_parts _ _).2 ⟨hpp, i7.1 (fun q hq => hh q (List.mem_append_right _ hq))⟩
  · rcases hrow.2 with ⟨e, e0⟩ | ⟨g, cap, cur, e, _⟩
    · rw [e, e0]; rfl
    · rw [e]; rfl
  · unfold mapSize
    rw [h.map]
    exact n6

end Go.Proofs.Ytcbfieodjbfjdaa
