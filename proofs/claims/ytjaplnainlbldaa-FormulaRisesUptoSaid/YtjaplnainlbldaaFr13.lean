/- Texts that the proof leans on, in one: FmSameM, FmPtrK. -/
import Derived.Test.YtjaplnainlbldaaFr11
import Derived.Test.YtjaplnainlbldaaFr12
import Derived.Test.YtjaplnainlbldaaFr2
/- Same of two formulas: what lies in memory while pairs of nodes are asked. -/
namespace Go.Proofs.Ytjaplnainlbldaa
open Go.RowKit

/-- A pair of nodes that is left to be asked: where each lies, and what it is. -/
structure It where
  s : AT
  a : Nat × Nat
  g : FmB
  b : Nat × Nat
def It.pa (p : It) : Addr := ⟨p.a.1, p.a.2, none⟩
def It.pb (p : It) : Addr := ⟨p.b.1, p.b.2, none⟩
def itCells (p : It) : List Value := [.pointer (some p.pa), .pointer (some p.pb)]
def rowP (its : List It) : List Value := its.flatMap itCells
def blksS (its : List It) : List Nat := its.flatMap (fun p => blksA p.s)
def nodesS (its : List It) : Nat := (its.map (fun p => nodesF (eraseA p.s))).sum

theorem rowP_len (l : List It) : (rowP l).length = l.length * 2 := by
  unfold rowP
  induction l with
  | nil => rfl
  | cons x l ih => rw [List.flatMap_cons, List.length_append, ih, List.length_cons]; simp [itCells]; omega
theorem rowP_snoc (l : List It) (x : It) : rowP (l ++ [x]) = rowP l ++ itCells x := by simp [rowP]
theorem blksS_app (l m : List It) : blksS (l ++ m) = blksS l ++ blksS m := by simp [blksS]
theorem nodesS_app (l m : List It) : nodesS (l ++ m) = nodesS l + nodesS m := by simp [nodesS]
theorem nodesS_len (l : List It) : l.length ≤ nodesS l := by
  unfold nodesS
  induction l with
  | nil => simp
  | cons x l ih => have := nodesF_pos (eraseA x.s); rw [List.map_cons, List.sum_cons, List.length_cons]; omega

/-- The items of two rows of Kids. -/
def kidIts (gK gB oB : Nat) : Nat → List AT → List FmB → List It
  | i, s :: ss, g :: gs => ⟨s, (gK, i * 5), g, (gB, oB + i * 5)⟩ :: kidIts gK gB oB (i + 1) ss gs
  | _, [], _ => []
  | _, _ :: _, [] => []
theorem kidIts_len (gK gB oB : Nat) : ∀ (i : Nat) (ss : List AT) (gs : List FmB), ss.length = gs.length → (kidIts gK gB oB i ss gs).length = ss.length
  | _, [], _, _ => rfl
  | _, _ :: _, [], h => by simp at h
  | i, s :: ss, g :: gs, h => by rw [kidIts, List.length_cons, kidIts_len gK gB oB (i + 1) ss gs (by simpa using h), List.length_cons]
theorem kidIts_get (gK gB oB : Nat) : ∀ (i : Nat) (ss : List AT) (gs : List FmB) (hl : ss.length = gs.length) (j : Nat) (hj : j < ss.length), (kidIts gK gB oB i ss gs)[j]'(by rw [kidIts_len gK gB oB i ss gs hl]; exact hj) = ⟨ss[j], (gK, (i + j) * 5), gs[j]'(by omega), (gB, oB + (i + j) * 5)⟩
  | _, [], _, _, j, hj => absurd hj (by simp)
  | _, _ :: _, [], h, _, _ => by simp at h
  | i, s :: ss, g :: gs, h, 0, hj => by simp [kidIts]
  | i, s :: ss, g :: gs, h, j + 1, hj => by
    have := kidIts_get gK gB oB (i + 1) ss gs (by simpa using h) j (by simpa using hj)
    simp only [kidIts, List.getElem_cons_succ]
    rw [this]
    simp only [show i + 1 + j = i + (j + 1) by omega]
theorem kidIts_blks (gK gB oB : Nat) : ∀ (i : Nat) (ss : List AT) (gs : List FmB), ss.length = gs.length → blksS (kidIts gK gB oB i ss gs) = blksL ss ∧ nodesS (kidIts gK gB oB i ss gs) = nodesL (eraseL ss)
  | _, [], _, _ => ⟨rfl, rfl⟩
  | _, _ :: _, [], h => by simp at h
  | i, s :: ss, g :: gs, h => by
    obtain ⟨h1, h2⟩ := kidIts_blks gK gB oB (i + 1) ss gs (by simpa using h)
    simp only [kidIts, blksS, nodesS, List.flatMap_cons, List.map_cons, List.sum_cons, blksL, eraseL, nodesL] at h1 h2 ⊢
    exact ⟨by rw [h1], by rw [h2]⟩
theorem kidIts_same (gK gB oB : Nat) : ∀ (i : Nat) (ss : List AT) (gs : List FmB), ss.length = gs.length → ((∀ p ∈ kidIts gK gB oB i ss gs, eraseA p.s = p.g) ↔ eraseL ss = gs)
  | _, [], [], _ => ⟨fun _ => rfl, fun _ _ h => (by cases h)⟩
  | _, [], _ :: _, h => by simp at h
  | _, _ :: _, [], h => by simp at h
  | i, s :: ss, g :: gs, h => by
    have ih := kidIts_same gK gB oB (i + 1) ss gs (by simpa using h)
    simp only [kidIts, eraseL, List.cons.injEq]
    rw [← ih]
    exact ⟨fun h => ⟨h _ List.mem_cons_self, fun p hp => h p (List.mem_cons_of_mem _ hp)⟩, fun h p hp => (List.mem_cons.1 hp).elim (fun e => by rw [e]; exact h.1) (h.2 p)⟩

theorem fm_same_parts (s : AT) (g : FmB) : eraseA s = g ↔ (s.op = g.op ∧ s.k = g.k ∧ s.r = g.r ∧ s.kids.length = g.kids.length) ∧ eraseL s.kids = g.kids := by
  obtain ⟨op, k, r, v, kids⟩ := s
  obtain ⟨op2, k2, r2, kids2⟩ := g
  simp only [eraseA, AT.op, AT.k, AT.r, AT.kids, FmB.op, FmB.k, FmB.r, FmB.kids, FmB.mk.injEq]
  constructor
  · rintro ⟨h1, h2, h3, h4⟩
    exact ⟨⟨h1, h2, h3, by rw [← h4, eraseL_len]⟩, h4⟩
  · rintro ⟨⟨h1, h2, h3, _⟩, h4⟩
    exact ⟨h1, h2, h3, h4⟩

/-- An item is as it says: in the world w2, whose blocks from L0 on may change. -/
structure ItOk (B : Nat) (w2 : World) (L0 : Nat) (D : Nat → Prop) (p : It) : Prop where
  ca : ∀ j, j < 5 → w2.cell? ⟨p.a.1, p.a.2 + j, none⟩ = (cellsA p.s)[j]?
  pl : ∃ cs ty, w2.heap[p.a.1]? = some (.cells cs ty (0, 0))
  la : p.a.1 < L0
  own : OwnA B w2 p.s
  lo : ∀ b ∈ blksA p.s, b < L0
  fm : ∃ m, FmAt D w2 m p.b.1 p.b.2 p.g
  lb : p.b.1 < L0

/-- The Kids of an item are items. -/
theorem ItOk.kids {B : Nat} {w2 : World} {L0 : Nat} {D : Nat → Prop} (hD : ∀ i, D i → i < L0) {p : It} (h : ItOk B w2 L0 D p) (hl : p.s.kids.length = p.g.kids.length) : ∃ (ao bo : Option Addr) (cp bp : Nat), p.s.v = .slice ao p.s.kids.length cp ∧ w2.cell? ⟨p.b.1, p.b.2 + 4, none⟩ = some (.slice bo p.g.kids.length bp) ∧
    (p.s.kids ≠ [] → ∃ gK gB oB, ao = some ⟨gK, 0, none⟩ ∧ bo = some ⟨gB, oB, none⟩ ∧ p.s.v.ownBlock = some gK ∧ ∀ q ∈ kidIts gK gB oB 0 p.s.kids p.g.kids, ItOk B w2 L0 D q) := by
  have h0 := h.own
  rw [ownA_eq] at h0
  obtain ⟨h1, h2, h3⟩ := h0
  obtain ⟨ao, cp, hv, hz, hle⟩ := rowV_shape h2
  obtain ⟨m, hm⟩ := h.fm
  obtain ⟨d, bo, bp, hd, ⟨_, _, _, _, c4⟩, _, _, hk⟩ := hm.open_
  refine ⟨ao, bo, cp, bp, hv, c4, fun hne => ?_⟩
  have hpos : 0 < p.s.kids.length := List.length_pos_iff.2 hne
  rcases h2.2 with ⟨e, h0⟩ | ⟨gK, cap, cur, e, hg, hh, k1, k2, k3, k4⟩
  · omega
  · rw [e] at hv
    injection hv with hv _ hcp
    subst hv
    obtain ⟨gB, oB, hbo, hDb, _⟩ := hk 0 (by omega)
    refine ⟨gK, gB, oB, rfl, hbo, by rw [e]; rfl, fun q hq => ?_⟩
    obtain ⟨j, hj, rfl⟩ := List.getElem_of_mem hq
    rw [kidIts_len gK gB oB 0 _ _ hl] at hj
    rw [kidIts_get gK gB oB 0 _ _ hl j hj, Nat.zero_add]
    have hmem : p.s.kids[j] ∈ p.s.kids := List.getElem_mem hj
    have hbl : ∀ b ∈ blksA p.s.kids[j], b ∈ blksA p.s := fun b hb => by
      rw [blksA_eq p.s, blksL_flat]
      exact List.mem_append_right _ (List.mem_flatMap.2 ⟨_, hmem, hb⟩)
    obtain ⟨gB2, oB2, e2, hDb2, hfm⟩ := hk j (by omega)
    rw [hbo] at e2
    cases e2
    refine ⟨fun i hi => ?_, ⟨_, _, hh⟩, h.lo gK (by rw [blksA_eq, e]; exact List.mem_append_left _ (by simp [Value.ownBlock])), (ownL_all _ _ _).1 h3 _ hmem, fun b hb => h.lo b (hbl b hb), ⟨d, hfm⟩, hD _ hDb2⟩
    have hget := rowA_get p.s.kids j i hj hi
    have hs : i < (cellsA p.s.kids[j]).length := by simpa [cellsA] using hi
    rw [List.getElem?_eq_getElem hs] at hget ⊢
    rw [e] at h2
    have := h2.cells (g := gK) rfl (j * 5 + i) _ hget
    rw [add_off, Nat.zero_add] at this
    exact this

/-- The Kids of an item, in a row. -/
theorem ItOk.kids2 {B : Nat} {w2 : World} {L0 : Nat} {D : Nat → Prop} (hD : ∀ i, D i → i < L0) {p : It} (h : ItOk B w2 L0 D p) (hl : p.s.kids.length = p.g.kids.length) : ∃ (ao bo : Option Addr) (cp bp : Nat) (KI : List It), p.s.v = .slice ao p.s.kids.length cp ∧ w2.cell? ⟨p.b.1, p.b.2 + 4, none⟩ = some (.slice bo p.g.kids.length bp) ∧ KI.length = p.s.kids.length ∧ (∀ q ∈ KI, ItOk B w2 L0 D q) ∧ blksS KI = blksL p.s.kids ∧ nodesS KI = nodesL (eraseL p.s.kids) ∧ ((∀ q ∈ KI, eraseA q.s = q.g) ↔ eraseL p.s.kids = p.g.kids) ∧
    ∀ j (hj : j < KI.length), ∃ gK gB oB, ao = some ⟨gK, 0, none⟩ ∧ bo = some ⟨gB, oB, none⟩ ∧ p.s.v.ownBlock = some gK ∧ KI[j].a = (gK, j * 5) ∧ KI[j].b = (gB, oB + j * 5) := by
  obtain ⟨ao, bo, cp, bp, h1, h2, h3⟩ := h.kids hD hl
  by_cases he : p.s.kids = []
  · refine ⟨ao, bo, cp, bp, [], h1, h2, by rw [he]; rfl, fun _ h => (by cases h), by rw [he]; rfl, by rw [he]; rfl, ?_, fun j hj => absurd hj (by simp)⟩
    rw [he]
    have : p.g.kids = [] := List.eq_nil_of_length_eq_zero (by rw [← hl, he]; rfl)
    rw [this]
    exact ⟨fun _ => rfl, fun _ _ h => (by cases h)⟩
  · obtain ⟨gK, gB, oB, k1, k2, k3, k4⟩ := h3 he
    have hb := kidIts_blks gK gB oB 0 _ _ hl
    refine ⟨ao, bo, cp, bp, kidIts gK gB oB 0 p.s.kids p.g.kids, h1, h2, kidIts_len gK gB oB 0 _ _ hl, k4, hb.1, hb.2, kidIts_same gK gB oB 0 _ _ hl, fun j hj => ⟨gK, gB, oB, k1, k2, k3, ?_, ?_⟩⟩
    · rw [kidIts_len gK gB oB 0 _ _ hl] at hj
      rw [kidIts_get gK gB oB 0 _ _ hl j hj, Nat.zero_add]
    · rw [kidIts_len gK gB oB 0 _ _ hl] at hj
      rw [kidIts_get gK gB oB 0 _ _ hl j hj, Nat.zero_add]

/-- A key of the map: its first pointer lies in a block that is none of bs, unless it was entered for one of the first j of the row g. -/
def KeyOk (w2 : World) (L0 : Nat) (bs : List Nat) (e : MapEntry) : Prop := ∃ a' b' : Addr, e.key = .agg #[.pointer (some a'), .pointer (some b')] ∧ (∃ cs ty, w2.heap[a'.block]? = some (.cells cs ty (0, 0))) ∧ a'.block < L0 ∧ a'.block ∉ bs
/-- The row of what is left. -/
theorem Try.info122 : (Try.prog.info? 122).map (fun i => (i.zero, i.size, i.bytes)) = some (some (.agg #[.pointer none, .pointer none]), 2, 16) := by kernel_rfl
theorem run_append_it {B : Nat} {w : World} {v : Value} {its : List It} {p : It} (ty : TypeId) (hown : w.ownsRow B 122 2 v its.length (rowP its)) {b : Nat} (hb : w.heap[b]? = some (.cells (itCells p).toArray 122 (0, 0))) (hlen : its.length ≤ 100000) (hB : B ≤ w.heap.size) :
    ∃ v' w', (Builtin.append_ #[123, 123] ty #[v, .slice (some ⟨b, 0, none⟩) 1 1]).run Try.prog w = .ok v' w' ∧ w'.ownsRow B 122 2 v' (its ++ [p]).length (rowP (its ++ [p])) ∧ Chg (fun k => v.ownBlock = some k) w w' ∧ (v'.ownBlock = v.ownBlock ∨ v'.ownBlock = some w.heap.size) := by
  obtain ⟨i0, hi, hz0, hz1, hz2⟩ := info_parts Try.info122
  obtain ⟨v', w', k1, k2, k3, k4⟩ := run_append_own_at (P := Try.prog) w B 123 ty 122 i0 (.agg #[.pointer none, .pointer none]) 2 16 Try.underlying123 hi hz0 hz1 hz2 rfl (by decide) v _ _ hown ⟨b, 0, none⟩ 1 1 (itCells p) rfl
    (fun j u hj => by
      have h := cell_blk hb j
      rw [List.getElem?_toArray, hj] at h
      rw [add_off, Nat.zero_add]
      exact h) (fun u hu => by
      simp only [itCells, List.mem_cons, List.not_mem_nil, or_false] at hu
      rcases hu with rfl | rfl <;> rfl) (by unfold maxLen; omega) (by omega) hB
  exact ⟨v', w', k1, by rw [List.length_append, List.length_singleton, rowP_snoc]; exact k2, (Chg.refl _ w).grown k3 fun k e _ => e, k4.2⟩

/-- The last one is taken. -/
theorem row_cut {B : Nat} {w : World} {v : Value} {its : List It} {p : It} (h : w.ownsRow B 122 2 v (its ++ [p]).length (rowP (its ++ [p]))) : ∃ gL cp, v = .slice (some ⟨gL, 0, none⟩) (its.length + 1) cp ∧ B ≤ gL ∧ gL < w.heap.size ∧ its.length + 1 ≤ cp ∧ cp ≤ maxLen ∧ w.cell? ⟨gL, its.length * 2, none⟩ = some (.pointer (some p.pa)) ∧ w.cell? ⟨gL, its.length * 2 + 1, none⟩ = some (.pointer (some p.pb)) ∧ w.ownsRow B 122 2 (.slice (some ⟨gL, 0, none⟩) its.length cp) its.length (rowP its) := by
  have hl : (its ++ [p]).length = its.length + 1 := by simp
  rw [hl, rowP_snoc] at h
  rcases h.2 with ⟨_, h0⟩ | ⟨gL, cap, cur, rfl, hg, hh, k1, k2, k3, k4⟩
  · omega
  · have hc := fun i u (hi : (rowP its ++ itCells p)[i]? = some u) => h.cells (g := gL) rfl i u hi
    have e0 := hc (its.length * 2) (.pointer (some p.pa)) (by rw [List.getElem?_append_right (by rw [rowP_len]; omega), rowP_len, Nat.sub_self]; rfl)
    have e1 := hc (its.length * 2 + 1) (.pointer (some p.pb)) (by rw [List.getElem?_append_right (by rw [rowP_len]; omega), rowP_len, Nat.add_sub_cancel_left]; rfl)
    rw [add_off, Nat.zero_add] at e0 e1
    refine ⟨gL, cap, rfl, hg, lt_blk hh, k1, k2, e0, e1, rowP_len its, .inr ⟨gL, cap, cur, rfl, hg, hh, by omega, k2, k3, ?_⟩⟩
    have := congrArg (List.take (its.length * 2)) k4
    rw [List.take_take, List.take_append_of_le_length (by rw [rowP_len]; omega), Nat.min_eq_left (by omega)] at this
    rw [this, ← rowP_len, List.take_length]
def mapSize (w : World) (M : Nat) : Nat := match w.heap[M]? with
  | some (.map es _) => es.size
  | _ => 0
end Go.Proofs.Ytjaplnainlbldaa

/- Maps whose keys are pointers; the row of pointers to what is left. -/
namespace Go.Proofs.Ytjaplnainlbldaa
open Go.RowKit

/-- The keys that a map of pointers has: none of them is a's. -/
theorem findq_none (w : World) (a : Addr) : ∀ (es : List MapEntry) (i : Nat), (∀ e ∈ es, ∃ a' : Addr, e.key = .pointer (some a') ∧ a ≠ a' ∧ (∃ ca ta, w.heap[a'.block]? = some (.cells ca ta (0, 0)))) → (∃ ca ta, w.heap[a.block]? = some (.cells ca ta (0, 0))) →
    (Instr.findAsking 120 (.pointer (some a)) es i).run Try.prog w = .ok none w := by
  intro es
  induction es with
  | nil => intro i _ _; rfl
  | cons e es ih =>
    intro i h ha
    obtain ⟨a', hk, hne, ca', ta', ha'⟩ := h e (by simp)
    obtain ⟨ca, ta, ha2⟩ := ha
    have h1 : (Op.equal 120 (.pointer (some a)) e.key).run Try.prog w = .ok false w := by
      rw [hk]
      exact eq_ptrK 9999 w hne ha2 ha'
    unfold Instr.findAsking
    simp only [Sem.run_bind, h1, Result.andThen_ok, Bool.false_eq_true, if_false]
    exact ih (i + 1) (fun e he => h e (by simp [he])) ⟨ca, ta, ha2⟩

theorem findq_noneK (w : World) (a : Addr) (es : List MapEntry) (h : ∀ e ∈ es, ∃ a' : Addr, e.key = .pointer (some a') ∧ a ≠ a' ∧ (∃ ca ta, w.heap[a'.block]? = some (.cells ca ta (0, 0)))) (ha : ∃ ca ta, w.heap[a.block]? = some (.cells ca ta (0, 0))) :
    (Instr.findKey 120 (.pointer (some a)) es).run Try.prog w = .ok none w := by
  unfold Instr.findKey
  simp only [Sem.run_bind, run_underlying Try.underlying120, Result.andThen_ok]
  cases es with
  | nil => rfl
  | cons e es =>
    have h1 := findq_none w a (e :: es) 0 h ha
    obtain ⟨a', hk, _⟩ := h e (by simp)
    simp only [Instr.findNow, Instr.sameNow]
    exact h1

theorem check_ptrK (empty : Bool) (a : Addr) (w : World) : (Instr.checkKey empty 10000 120 (.pointer (some a))).run Try.prog w = .ok () w := by
  cases empty <;> kernel_rfl

/-- A look-up of a pointer that isn't there. -/
theorem look_ptr (w : World) (M : Nat) (es : Array MapEntry) (clock : Nat) (a : Addr) (hM : w.heap[M]? = some (.map es clock)) (h : ∀ e ∈ es.toList, ∃ a' : Addr, e.key = .pointer (some a') ∧ a ≠ a' ∧ (∃ ca ta, w.heap[a'.block]? = some (.cells ca ta (0, 0)))) (ha : ∃ ca ta, w.heap[a.block]? = some (.cells ca ta (0, 0))) :
    (Instr.lookup 161 (.map (some M)) (.pointer (some a)) true).run Try.prog w = .ok (.tuple #[.agg #[], .bool false]) w := by
  have h1 := findq_noneK w a es.toList h ha
  have h2 := check_ptrK es.isEmpty a w
  unfold Instr.lookup
  have hz : (zeroValue 99).run Try.prog w = .ok (.agg #[]) w := by kernel_rfl
  have hg : (getObj M).run Try.prog w = .ok (.map es clock) w := MapKept.run_getObj_map hM
  simp [run_underlying Try.underlying161, hg, h1, h2, hz]

/-- A pointer is entered. -/
theorem put_ptr (w : World) (M : Nat) (es : Array MapEntry) (clock : Nat) (a : Addr) (hM : w.heap[M]? = some (.map es clock)) (h : ∀ e ∈ es.toList, ∃ a' : Addr, e.key = .pointer (some a') ∧ a ≠ a' ∧ (∃ ca ta, w.heap[a'.block]? = some (.cells ca ta (0, 0)))) (ha : ∃ ca ta, w.heap[a.block]? = some (.cells ca ta (0, 0))) :
    ∃ w', (Instr.mapUpdate 161 (.map (some M)) (.pointer (some a)) (.agg #[])).run Try.prog w = .ok () w' ∧ w'.heap[M]? = some (.map (es.push ⟨.pointer (some a), .agg #[], clock⟩) (clock + 1)) ∧ Chg (· = M) w w' := by
  have h1 := findq_noneK w a es.toList h ha
  have h2 := check_ptrK false a w
  unfold Instr.mapUpdate
  have hg : (getObj M).run Try.prog w = .ok (.map es clock) w := MapKept.run_getObj_map hM
  have hs := MapKept.run_setObj_map (P := Try.prog) (.map (es.push ⟨.pointer (some a), .agg #[], clock⟩) (clock + 1)) hM
  simp [run_underlying Try.underlying161, hg, h1, h2, hs]
  have hh := MapKept.heap_set (o' := .map (es.push ⟨.pointer (some a), .agg #[], clock⟩) (clock + 1)) hM
  exact ⟨hh.1, ⟨rfl, rfl, rfl, by simp, fun i hi hne => hh.2 i hne⟩⟩


def rowQ (gK j : Nat) : List Value := (List.range j).map (fun i => .pointer (some ⟨gK, i * 5, none⟩))
theorem rowQ_len (gK j : Nat) : (rowQ gK j).length = j := by simp [rowQ]
theorem rowQ_snoc (gK j : Nat) : rowQ gK (j + 1) = rowQ gK j ++ [.pointer (some ⟨gK, j * 5, none⟩)] := by simp [rowQ, List.range_succ]
theorem Try.info120 : (Try.prog.info? 120).map (fun i => (i.zero, i.size, i.bytes)) = some (some (.pointer none), 1, 8) := by kernel_rfl
theorem run_append_q {B : Nat} {w : World} {v : Value} {gK j : Nat} (ty : TypeId) (hown : w.ownsRow B 120 1 v j (rowQ gK j)) {b : Nat} (hb : w.heap[b]? = some (.cells #[.pointer (some ⟨gK, j * 5, none⟩)] 120 (0, 0))) (hlen : j ≤ 100000) (hB : B ≤ w.heap.size) :
    ∃ v' w', (Builtin.append_ #[160, 160] ty #[v, .slice (some ⟨b, 0, none⟩) 1 1]).run Try.prog w = .ok v' w' ∧ w'.ownsRow B 120 1 v' (j + 1) (rowQ gK (j + 1)) ∧ Chg (fun k => v.ownBlock = some k) w w' ∧ (v'.ownBlock = v.ownBlock ∨ v'.ownBlock = some w.heap.size) := by
  obtain ⟨i0, hi, hz0, hz1, hz2⟩ := info_parts Try.info120
  obtain ⟨v', w', k1, k2, k3, k4⟩ := run_append_own_at (P := Try.prog) w B 160 ty 120 i0 (.pointer none) 1 8 Try.underlying160 hi hz0 hz1 hz2 rfl (by decide) v _ _ hown ⟨b, 0, none⟩ 1 1 [.pointer (some ⟨gK, j * 5, none⟩)] rfl
    (fun i u hj => by
      have h := cell_blk hb i
      rw [List.getElem?_toArray, hj] at h
      rw [add_off, Nat.zero_add]
      exact h) (fun u hu => by rw [List.mem_singleton.1 hu]; rfl) (by unfold maxLen; omega) (by omega) hB
  exact ⟨v', w', k1, by rw [rowQ_snoc]; exact k2, (Chg.refl _ w).grown k3 fun k e _ => e, k4.2⟩

theorem Try.info24' : (Try.prog.info? 24).map (fun i => (i.zero, i.size, i.bytes)) = some (some (.agg #[.string ⟨#[]⟩, .string ⟨#[]⟩]), 2, 32) := by kernel_rfl
theorem run_append_rl {B : Nat} {w : World} {v : Value} {ls : List RoleB} {r : RoleB} (ty : TypeId) (hown : w.ownsRow B 24 2 v ls.length (roleRow ls)) {b : Nat} (hb : w.heap[b]? = some (.cells #[.string ⟨r.1.toArray⟩, .string ⟨r.2.toArray⟩] 24 (0, 0))) (hlen : ls.length ≤ 100000) (hB : B ≤ w.heap.size) :
    ∃ v' w', (Builtin.append_ #[59, 59] ty #[v, .slice (some ⟨b, 0, none⟩) 1 1]).run Try.prog w = .ok v' w' ∧ w'.ownsRow B 24 2 v' (ls ++ [r]).length (roleRow (ls ++ [r])) ∧ Chg (fun k => v.ownBlock = some k) w w' ∧ (v'.ownBlock = v.ownBlock ∨ v'.ownBlock = some w.heap.size) := by
  obtain ⟨i0, hi, hz0, hz1, hz2⟩ := info_parts Try.info24'
  obtain ⟨v', w', k1, k2, k3, k4⟩ := run_append_own_at (P := Try.prog) w B 59 ty 24 i0 (.agg #[.string ⟨#[]⟩, .string ⟨#[]⟩]) 2 32 Try.underlying59 hi hz0 hz1 hz2 rfl (by decide) v _ _ hown ⟨b, 0, none⟩ 1 1 [.string ⟨r.1.toArray⟩, .string ⟨r.2.toArray⟩] rfl
    (fun i u hj => by
      have h := cell_blk hb i
      rw [List.getElem?_toArray, hj] at h
      rw [add_off, Nat.zero_add]
      exact h) (fun u hu => by
      simp only [List.mem_cons, List.not_mem_nil, or_false] at hu
      rcases hu with rfl | rfl <;> rfl) (by unfold maxLen; omega) (by omega) hB
  exact ⟨v', w', k1, by rw [List.length_append, List.length_singleton, show roleRow (ls ++ [r]) = roleRow ls ++ [.string ⟨r.1.toArray⟩, .string ⟨r.2.toArray⟩] by simp [roleRow, roleCells]]; exact k2, (Chg.refl _ w).grown k3 fun k e _ => e, k4.2⟩
end Go.Proofs.Ytjaplnainlbldaa
