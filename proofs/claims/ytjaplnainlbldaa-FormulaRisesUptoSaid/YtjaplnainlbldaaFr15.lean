/- Atoms of a formula whose Kids are all Atoms. -/
import Derived.Test.YtjaplnainlbldaaFr13
import Derived.Test.YtjaplnainlbldaaFr14
import Derived.StillTailTactics
namespace Go.Proofs.Ytjaplnainlbldaa
open Go.RowKit

theorem run_makeMapQ (w : World) : (Instr.makeMap 161 none).run Try.prog w = .ok (.map (some w.heap.size)) (w.alloc (.map #[] 0)) := by
  simp [Instr.makeMap, Result.andThen]

theorem wpList_append_runQ {P : Program} {w w' : World} {ops : Array Oper} {rest : List Oper} {o : Oper} {a : Act} {Q : Exit → Act → World → Prop} (hgd : o.guard = none) (s x : Operand) (t : TypeId)
    (ho : o.op = .call { callee := .builtin .append, args := #[s, x], argTypes := #[t, t] }) {v y v' : Value} (hs : a.eval s = v) (hx : a.eval x = y) (hr : (Builtin.append_ #[t, t] o.type #[v, y]).run P w = .ok v' w')
    (h : wpList P ops Q rest (a.put o.dst v') w') : wpList P ops Q (o :: rest) a w := by
  refine wpList_plain hgd fun K hK => ?_
  unfold Oper.wp execOp
  simp only [ho, resolve, invoke, builtin, Sem.run_bind, Sem.run_pure, Result.andThen_ok, List.map_toArray, List.map_cons, List.map_nil, hs, hx, hr]
  exact hK _ _ h

structure AtIn (w2 : World) (L0 gK j : Nat) (v9 : Value) (es9 : Array MapEntry) (ck9 : Nat) (wr : World) : Prop where
  row : wr.ownsRow L0 120 1 v9 j (rowQ gK j)
  map : wr.heap[L0 + 1]? = some (.map es9 ck9)
  keys : ∀ e ∈ es9.toList, ∃ i, i < j ∧ e.key = .pointer (some ⟨gK, i * 5, none⟩)
  size : es9.size = j
  nm : v9.ownBlock ≠ some (L0 + 1)
  chg : Chg (fun k => L0 ≤ k) w2 wr

theorem AtIn.push {w2 : World} {L0 gK j : Nat} {v9 : Value} {es9 : Array MapEntry} {ck9 : Nat} {wr : World} (h : AtIn w2 L0 gK j v9 es9 ck9 wr) (hj : j ≤ 90000) (hgl : gK < L0) (hpl : ∃ cs ty, w2.heap[gK]? = some (.cells cs ty (0, 0))) (wp : World) (cA : Chg (fun _ => False) wr wp) :
    (Instr.lookup 161 (.map (some (L0 + 1))) (.pointer (some ⟨gK, j * 5, none⟩)) true).run Try.prog wp = .ok (.tuple #[.agg #[], .bool false]) wp ∧
    (Instr.lookup 161 (.map (some (L0 + 1))) (.pointer (some ⟨gK, j * 5, none⟩)) true).run Try.prog (wp.alloc (.cells #[] 99)) = .ok (.tuple #[.agg #[], .bool false]) (wp.alloc (.cells #[] 99)) ∧
    ∃ w6, (Instr.mapUpdate 161 (.map (some (L0 + 1))) (.pointer (some ⟨gK, j * 5, none⟩)) (.agg #[])).run Try.prog (wp.alloc (.cells #[] 99)) = .ok () w6 ∧
      ∃ v10 w8, (Builtin.append_ #[160, 160] 160 #[v9, .slice (some ⟨w6.heap.size, 0, none⟩) 1 1]).run Try.prog (w6.alloc (.cells #[.pointer (some ⟨gK, j * 5, none⟩)] 120)) = .ok v10 w8 ∧ ∃ es10 ck10, AtIn w2 L0 gK (j + 1) v10 es10 ck10 w8 := by
  have hM := lt_blk h.map
  have cB : Chg (fun _ => False) wr (wp.alloc (.cells #[] 99)) := cA.alloc _
  obtain ⟨cs, ty, hpl⟩ := hpl
  have keyh : ∀ w9, Chg (fun _ => False) wr w9 → (∀ e ∈ es9.toList, ∃ a' : Addr, e.key = .pointer (some a') ∧ (⟨gK, j * 5, none⟩ : Addr) ≠ a' ∧ (∃ ca ta, w9.heap[a'.block]? = some (.cells ca ta (0, 0)))) ∧ (∃ ca ta, w9.heap[(⟨gK, j * 5, none⟩ : Addr).block]? = some (.cells ca ta (0, 0))) := fun w9 hc9 => by
    have hg := blk_keep hpl (h.chg.trans hc9 (fun _ _ h => h.elim)) (by show ¬ L0 ≤ gK; omega)
    refine ⟨fun e he => ?_, cs, ty, hg⟩
    obtain ⟨i, k1, k2⟩ := h.keys e he
    exact ⟨_, k2, fun e => by injection e with _ e; omega, cs, ty, hg⟩
  have l1 := look_ptr wp (L0 + 1) es9 ck9 ⟨gK, j * 5, none⟩ (blk_keep h.map cA id) (keyh _ cA).1 (keyh _ cA).2
  have l2 := look_ptr (wp.alloc (.cells #[] 99)) (L0 + 1) es9 ck9 ⟨gK, j * 5, none⟩ (blk_keep h.map cB id) (keyh _ cB).1 (keyh _ cB).2
  obtain ⟨w6, m1, m2, m3⟩ := put_ptr (wp.alloc (.cells #[] 99)) (L0 + 1) es9 ck9 ⟨gK, j * 5, none⟩ (blk_keep h.map cB id) (keyh _ cB).1 (keyh _ cB).2
  refine ⟨l1, l2, w6, m1, ?_⟩
  have c6 : Chg (fun k => k = L0 + 1) wr w6 := (cB.mono (T := fun k => k = L0 + 1) (fun _ _ h => h.elim)).trans m3 (fun _ _ h => h)
  have cQ : Chg (fun _ => False) w6 (w6.alloc (.cells #[.pointer (some ⟨gK, j * 5, none⟩)] 120)) := (Chg.refl _ w6).alloc _
  have c7 : Chg (fun k => k = L0 + 1) wr (w6.alloc (.cells #[.pointer (some ⟨gK, j * 5, none⟩)] 120)) := c6.trans cQ (fun _ _ h => h.elim)
  have hrow7 : (w6.alloc (.cells #[.pointer (some ⟨gK, j * 5, none⟩)] 120)).ownsRow L0 120 1 v9 j (rowQ gK j) := ownsRow_keep h.row c7 (fun k hk e => h.nm (by rw [hk, e]))
  obtain ⟨v10, w8, a1, a2, a3, a4⟩ := run_append_q 160 hrow7 (heap_alloc_new w6 (.cells #[.pointer (some ⟨gK, j * 5, none⟩)] 120)) (by omega) (by have := c7.size; omega)
  refine ⟨v10, w8, a1, es9.push ⟨.pointer (some ⟨gK, j * 5, none⟩), .agg #[], ck9⟩, ck9 + 1, ?_⟩
  have c8 : Chg (fun k => k = L0 + 1 ∨ v9.ownBlock = some k) wr w8 := (c7.mono (T := fun k => k = L0 + 1 ∨ v9.ownBlock = some k) (fun _ _ e => .inl e)).trans a3 (fun _ _ e => .inr e)
  have hown : ∀ k, v9.ownBlock = some k → L0 ≤ k := fun k hk => (h.row.lt k hk).1
  have h7s := c7.size
  refine ⟨a2, ?_, fun e he => ?_, by rw [Array.size_push, h.size], fun e => ?_, h.chg.trans c8 (fun i _ e => e.elim (fun e => by omega) (fun e => hown i e))⟩
  · exact blk_keep (blk_keep m2 cQ id) a3 (fun e => h.nm e)
  · rw [Array.toList_push, List.mem_append] at he
    rcases he with he | he
    · obtain ⟨i, k1, k2⟩ := h.keys e he
      exact ⟨i, by omega, k2⟩
    · rw [List.mem_singleton.1 he]
      exact ⟨j, by omega, rfl⟩
  · rcases a4 with a4 | a4
    · exact h.nm (a4.symm.trans e)
    · rw [a4] at e; injection e with e; omega

/-- Behind the first round: of the Kids, the first j are left. -/
structure AtB (w2 : World) (L0 gK : Nat) (rs : List RoleB) (j : Nat) (u v : Value) (wr : World) : Prop where
  le : j ≤ rs.length
  row : wr.ownsRow L0 120 1 v j (rowQ gK j)
  got : wr.ownsRow L0 24 2 u (rs.drop j).reverse.length (roleRow (rs.drop j).reverse)
  un : ∀ k, u.ownBlock = some k → v.ownBlock ≠ some k
  map : ∃ es ck, wr.heap[L0 + 1]? = some (.map es ck) ∧ es.size = rs.length
  nm : u.ownBlock ≠ some (L0 + 1)
  chg : Chg (fun k => L0 ≤ k) w2 wr

theorem rowQ_cut {B gK j : Nat} {w : World} {v : Value} (h : w.ownsRow B 120 1 v (j + 1) (rowQ gK (j + 1))) : ∃ gL cp, v = .slice (some ⟨gL, 0, none⟩) (j + 1) cp ∧ B ≤ gL ∧ gL < w.heap.size ∧ j + 1 ≤ cp ∧ cp ≤ maxLen ∧ w.cell? ⟨gL, j, none⟩ = some (.pointer (some ⟨gK, j * 5, none⟩)) ∧ w.ownsRow B 120 1 (.slice (some ⟨gL, 0, none⟩) j cp) j (rowQ gK j) := by
  rw [rowQ_snoc] at h
  rcases h.2 with ⟨_, h0⟩ | ⟨gL, cap, cur, rfl, hg, hh, k1, k2, k3, k4⟩
  · omega
  · have hc := fun i u (hi : (rowQ gK j ++ [.pointer (some ⟨gK, j * 5, none⟩)])[i]? = some u) => h.cells (g := gL) rfl i u hi
    have e0 := hc j (.pointer (some ⟨gK, j * 5, none⟩)) (by rw [List.getElem?_append_right (by rw [rowQ_len]; omega), rowQ_len, Nat.sub_self]; rfl)
    rw [add_off, Nat.zero_add] at e0
    refine ⟨gL, cap, rfl, hg, lt_blk hh, k1, k2, e0, by rw [rowQ_len]; omega, .inr ⟨gL, cap, cur, rfl, hg, hh, by omega, k2, k3, ?_⟩⟩
    have := congrArg (List.take j) k4
    rw [List.take_take, List.take_append_of_le_length (by rw [rowQ_len]; omega)] at this
    have h2 : List.take j (rowQ gK j) = rowQ gK j := List.take_of_length_le (by rw [rowQ_len]; omega)
    rw [h2] at this
    rw [← this]
    congr 1
    omega

theorem rowQ_lenOf {B gK j : Nat} {w : World} {v : Value} (h : w.ownsRow B 120 1 v j (rowQ gK j)) : lenOfV v = j := by
  rcases h.2 with ⟨e, e0⟩ | ⟨g, cap, cur, e, _⟩
  · rw [e, e0]; rfl
  · rw [e]; rfl

theorem AtB.take {w2 : World} {L0 gK : Nat} {rs : List RoleB} {j : Nat} {u v : Value} {wr : World} (h : AtB w2 L0 gK rs (j + 1) u v wr) (hn : rs.length ≤ 90000) (hL : L0 ≤ wr.heap.size) (wp : World) (cA : Chg (fun _ => False) wr wp) : ∃ gL cpL, v = .slice (some ⟨gL, 0, none⟩) (j + 1) cpL ∧ j + 1 ≤ cpL ∧ wr.cell? ⟨gL, j, none⟩ = some (.pointer (some ⟨gK, j * 5, none⟩)) ∧
    ∃ u' w8, (Builtin.append_ #[59, 59] 59 #[u, .slice (some ⟨wp.heap.size, 0, none⟩) 1 1]).run Try.prog (wp.alloc (.cells #[.string ⟨(rs[j]'h.le).1.toArray⟩, .string ⟨(rs[j]'h.le).2.toArray⟩] 24)) = .ok u' w8 ∧ AtB w2 L0 gK rs j u' (.slice (some ⟨gL, 0, none⟩) j cpL) w8 := by
  obtain ⟨gL, cpL, rfl, j1, j2, j3, j4, j5, j6⟩ := rowQ_cut h.row
  have hj := h.le
  have cB : Chg (fun _ => False) wr (wp.alloc (.cells #[.string ⟨(rs[j]'h.le).1.toArray⟩, .string ⟨(rs[j]'h.le).2.toArray⟩] 24)) := cA.alloc _
  have hg2 := ownsRow_keep h.got cB (fun _ _ => id)
  obtain ⟨u', w8, a1, a2, a3, a4⟩ := run_append_rl (r := rs[j]'h.le) 59 hg2 (heap_alloc_new wp _) (by simp; omega) (by have := cB.size; omega)
  have c8 : Chg (fun k => u.ownBlock = some k) wr w8 := (cB.mono (fun _ _ h => h.elim)).trans a3 (fun _ _ e => e)
  have hrev : (rs.drop j).reverse = (rs.drop (j + 1)).reverse ++ [rs[j]'h.le] := by rw [List.drop_eq_getElem_cons h.le, List.reverse_cons]
  obtain ⟨es, ck, m1, m2⟩ := h.map
  refine ⟨gL, cpL, rfl, j3, j5, u', w8, a1, by omega, ownsRow_keep j6 c8 (fun k hk e => h.un k e hk), by rw [hrev]; exact a2, fun k e e2 => ?_, ⟨es, ck, blk_keep m1 c8 (fun e => h.nm e), m2⟩, fun e => ?_, h.chg.trans c8 (fun i _ e => (h.got.lt i e).1)⟩
  · rcases a4 with a4 | a4
    · exact h.un k (a4.symm.trans e) e2
    · rw [a4] at e
      have e2 : some gL = some k := e2
      have e3 := Option.some.inj e
      have e4 := Option.some.inj e2
      have := cA.size
      have hsz : (wp.alloc (.cells #[.string ⟨(rs[j]'h.le).1.toArray⟩, .string ⟨(rs[j]'h.le).2.toArray⟩] 24)).heap.size = wp.heap.size + 1 := by simp
      rw [hsz] at e3
      omega
  · rcases a4 with a4 | a4
    · exact h.nm (a4.symm.trans e)
    · rw [a4] at e
      have e3 := Option.some.inj e
      have := lt_blk m1
      have := cA.size
      have hsz : (wp.alloc (.cells #[.string ⟨(rs[j]'h.le).1.toArray⟩, .string ⟨(rs[j]'h.le).2.toArray⟩] 24)).heap.size = wp.heap.size + 1 := by simp
      rw [hsz] at e3
      omega

set_option maxRecDepth 100000 in
set_option maxHeartbeats 8000000 in
theorem fm_atoms (HSET : (∀ {D : Nat → Prop} (ao : Option Addr) (cp : Nat) (ls : List RoleB) (w : World), ls.length ≤ 4194304 → RolesAt D w ao ls → (∀ i, D i → i < w.heap.size) → (ao = none → cp = 0) → Calls Try.prog 92 #[.slice ao ls.length cp] w (SetPostR ls w))) (op k : Int) (r : RoleB) (gK m cp : Nat) (rs : List RoleB) (w : World) (hm : m = rs.length) (hop : op ≠ 1) (hpl : ∃ cs ty, w.heap[gK]? = some (.cells cs ty (0, 0))) (hk : ∀ j (h : j < rs.length), w.cell? ⟨gK, j * 5, none⟩ = some (.int .i64 1) ∧ w.cell? ⟨gK, j * 5 + 2, none⟩ = some (.string ⟨rs[j].1.toArray⟩) ∧ w.cell? ⟨gK, j * 5 + 3, none⟩ = some (.string ⟨rs[j].2.toArray⟩) ∧ rs[j].1.length ≤ 9223372036854775807 ∧ rs[j].2.length ≤ 9223372036854775807) (hn : m ≤ 90000) (hcp : m ≤ cp) :
    Calls Try.prog 56 #[.agg #[.int .i64 op, .int .i64 k, .string ⟨r.1.toArray⟩, .string ⟨r.2.toArray⟩, .slice (some ⟨gK, 0, none⟩) m cp]] w fun e w' => ∃ out ao cap, e = .returned (.slice ao (List.length (α := RoleB) out) cap) ∧ SetR rs.reverse out ∧ Chg (fun _ => False) w w' := by
  have hs1 : (w.alloc (.cells #[.int .i64 op, .int .i64 k, .string ⟨r.1.toArray⟩, .string ⟨r.2.toArray⟩, .slice (some ⟨gK, 0, none⟩) m cp] 58)).heap.size = w.heap.size + 1 := by simp
  have hs2 : ((w.alloc (.cells #[.int .i64 op, .int .i64 k, .string ⟨r.1.toArray⟩, .string ⟨r.2.toArray⟩, .slice (some ⟨gK, 0, none⟩) m cp] 58)).alloc (.cells #[.pointer (some ⟨w.heap.size, 0, none⟩)] 120)).heap.size = w.heap.size + 1 + 1 := by simp
  have hc1 : Chg (fun _ => False) w (w.alloc (.cells #[.int .i64 op, .int .i64 k, .string ⟨r.1.toArray⟩, .string ⟨r.2.toArray⟩, .slice (some ⟨gK, 0, none⟩) m cp] 58)) := (Chg.refl _ w).alloc _
  have hc4 : Chg (fun _ => False) w (((w.alloc (.cells #[.int .i64 op, .int .i64 k, .string ⟨r.1.toArray⟩, .string ⟨r.2.toArray⟩, .slice (some ⟨gK, 0, none⟩) m cp] 58)).alloc (.cells #[.pointer (some ⟨w.heap.size, 0, none⟩)] 120)).alloc (.map #[] 0)) := (hc1.alloc _).alloc _
  have hba := blk_keep (blk_keep (heap_alloc_new w (.cells #[.int .i64 op, .int .i64 k, .string ⟨r.1.toArray⟩, .string ⟨r.2.toArray⟩, .slice (some ⟨gK, 0, none⟩) m cp] 58)) ((Chg.refl (fun _ => False) (w.alloc (.cells #[.int .i64 op, .int .i64 k, .string ⟨r.1.toArray⟩, .string ⟨r.2.toArray⟩, .slice (some ⟨gK, 0, none⟩) m cp] 58))).alloc (.cells #[.pointer (some ⟨w.heap.size, 0, none⟩)] 120)) id) ((Chg.refl (fun _ => False) ((w.alloc (.cells #[.int .i64 op, .int .i64 k, .string ⟨r.1.toArray⟩, .string ⟨r.2.toArray⟩, .slice (some ⟨gK, 0, none⟩) m cp] 58)).alloc (.cells #[.pointer (some ⟨w.heap.size, 0, none⟩)] 120))).alloc (.map #[] 0)) id
  have hbr := heap_alloc_new (w.alloc (.cells #[.int .i64 op, .int .i64 k, .string ⟨r.1.toArray⟩, .string ⟨r.2.toArray⟩, .slice (some ⟨gK, 0, none⟩) m cp] 58)) (.cells #[.pointer (some ⟨w.heap.size, 0, none⟩)] 120)
  rw [hs1] at hbr
  have hbr := blk_keep hbr ((Chg.refl (fun _ => False) ((w.alloc (.cells #[.int .i64 op, .int .i64 k, .string ⟨r.1.toArray⟩, .string ⟨r.2.toArray⟩, .slice (some ⟨gK, 0, none⟩) m cp] 58)).alloc (.cells #[.pointer (some ⟨w.heap.size, 0, none⟩)] 120))).alloc (.map #[] 0)) id
  have hbm := heap_alloc_new ((w.alloc (.cells #[.int .i64 op, .int .i64 k, .string ⟨r.1.toArray⟩, .string ⟨r.2.toArray⟩, .slice (some ⟨gK, 0, none⟩) m cp] 58)).alloc (.cells #[.pointer (some ⟨w.heap.size, 0, none⟩)] 120)) (.map #[] 0)
  rw [hs2] at hbm
  have hgx : gK < w.heap.size := by obtain ⟨cs, ty, h⟩ := hpl; exact lt_blk h
  have hpl2 : ∃ cs ty, (((w.alloc (.cells #[.int .i64 op, .int .i64 k, .string ⟨r.1.toArray⟩, .string ⟨r.2.toArray⟩, .slice (some ⟨gK, 0, none⟩) m cp] 58)).alloc (.cells #[.pointer (some ⟨w.heap.size, 0, none⟩)] 120)).alloc (.map #[] 0)).heap[gK]? = some (.cells cs ty (0, 0)) := by obtain ⟨cs, ty, h⟩ := hpl; exact ⟨cs, ty, blk_keep h hc4 id⟩
  have hk2 : ∀ j (h : j < rs.length), (((w.alloc (.cells #[.int .i64 op, .int .i64 k, .string ⟨r.1.toArray⟩, .string ⟨r.2.toArray⟩, .slice (some ⟨gK, 0, none⟩) m cp] 58)).alloc (.cells #[.pointer (some ⟨w.heap.size, 0, none⟩)] 120)).alloc (.map #[] 0)).cell? ⟨gK, j * 5, none⟩ = some (.int .i64 1) ∧ (((w.alloc (.cells #[.int .i64 op, .int .i64 k, .string ⟨r.1.toArray⟩, .string ⟨r.2.toArray⟩, .slice (some ⟨gK, 0, none⟩) m cp] 58)).alloc (.cells #[.pointer (some ⟨w.heap.size, 0, none⟩)] 120)).alloc (.map #[] 0)).cell? ⟨gK, j * 5 + 2, none⟩ = some (.string ⟨rs[j].1.toArray⟩) ∧ (((w.alloc (.cells #[.int .i64 op, .int .i64 k, .string ⟨r.1.toArray⟩, .string ⟨r.2.toArray⟩, .slice (some ⟨gK, 0, none⟩) m cp] 58)).alloc (.cells #[.pointer (some ⟨w.heap.size, 0, none⟩)] 120)).alloc (.map #[] 0)).cell? ⟨gK, j * 5 + 3, none⟩ = some (.string ⟨rs[j].2.toArray⟩) ∧ rs[j].1.length ≤ 9223372036854775807 ∧ rs[j].2.length ≤ 9223372036854775807 := fun j h => ⟨hc4.cell (hk j h).1 id, hc4.cell (hk j h).2.1 id, hc4.cell (hk j h).2.2.1 id, (hk j h).2.2.2⟩
  have HBA := hid hba
  have HBR := hid hbr
  have HBM := hid hbm
  have HC4 := hid hc4
  have HK := hid (And.intro hgx (And.intro hpl2 (And.intro hk2 (And.intro hm hcp))))
  have hmm := run_makeMapQ
  clear hs1 hs2 hc1 hc4 hba hbr hbm hgx hpl hpl2 hk hk2 hcp hm
  go_enter Try.func56, Try.ntmps56
  go_wp2
  obtain ⟨w2, hw2⟩ : ∃ w2, w2 = (((w.alloc (.cells #[.int .i64 op, .int .i64 k, .string ⟨r.1.toArray⟩, .string ⟨r.2.toArray⟩, .slice (some ⟨gK, 0, none⟩) m cp] 58)).alloc (.cells #[.pointer (some ⟨w.heap.size, 0, none⟩)] 120)).alloc (.map #[] 0)) := ⟨_, rfl⟩
  rw [← hw2] at HBA HBR HBM HC4 HK ⊢
  obtain ⟨L0, hL0⟩ : ∃ L0, L0 = w.heap.size + 1 := ⟨_, rfl⟩
  rw [← hL0] at HBR HBM ⊢
  have HL0 := hid hL0
  clear hw2 hL0
  have HOP : (op == (1 : Int)) = false := by simp [hop]
  have HN := hid hn
  go_loopw [3, 4] (fun s3 s4 wr => ∃ (u v : Value), s3 = u ∧ s4 = v ∧ Hid ((u = .slice none 0 0 ∧ v = .slice (some ⟨L0, 0, none⟩) 1 1 ∧ wr = w2) ∨ ∃ j, AtB w2 L0 gK rs j u v wr)) (fun _ s4 w9 => lenOfV s4 + m - mapSize w9 (L0 + 1))
  case atStart => exact ⟨_, _, rfl, rfl, hid (.inl ⟨rfl, rfl, rfl⟩)⟩
  case round =>
    obtain ⟨u, v, hs3, hs4, hrel⟩ := hrel
    rcases hrel.out with ⟨hu, hv, hw⟩ | ⟨j, hB⟩
    · have hw' := hw.symm
      subst hw'
      rw [hv] at hs4
      rw [hu] at hs3
      clear hu hv hrel
      subst hs3 hs4
      have x0 := cell_blk HBR.out 0
      have y0 := cell_blk HBA.out 0
      have y4 := cell_blk HBA.out 4
      simp only [List.getElem?_toArray, List.getElem?_cons_zero, List.getElem?_cons_succ] at x0 y0 y4
      go_wp2
      go_loopw [4, 44] (fun s4 i wr => ∃ (j : Nat) (v9 : Value) (es9 : Array MapEntry) (ck9 : Nat), j ≤ m ∧ i = .int .i64 j ∧ s4 = v9 ∧ Hid (AtIn w2 L0 gK j v9 es9 ck9 wr)) (fun _ i _ => m - (intOf i).toNat)
      case atStart => exact ⟨0, _, #[], 0, Nat.zero_le _, rfl, rfl, hid ⟨⟨rfl, .inr ⟨L0, 1, _, rfl, Nat.le_refl _, HBR.out, by omega, by unfold maxLen; omega, by simp, by simp [rowQ]⟩⟩, HBM.out, fun e he => by simp at he, rfl, fun e => by have e : some L0 = some (L0 + 1) := e; have := Option.some.inj e; omega, Chg.refl _ _⟩⟩
      case round =>
        obtain ⟨j, v9, es9, ck9, hj, rfl, hs4, hrel⟩ := hrel
        by_cases hlt : j < m
        · have hgl : gK < L0 := by have := HK.out.1; have := HL0.out; omega
          have hcp := HK.out.2.2.2.2
          have hjc : j < cp := by omega
          have HPUSH := hid (fun wp cA => hrel.out.push (by have := HN.out; omega) hgl HK.out.2.1 wp cA)
          have q4 := hrel.out.chg.cell (cell_blk HBA.out 4) (by show ¬ L0 ≤ w.heap.size; have := HL0.out; omega)
          obtain ⟨m1, m2, w7, m3, v10, w8, m5, es10, ck10, m6⟩ := HPUSH.out wr (Chg.refl _ _)
          have HM6 := hid m6
          have HLT := hid hlt
          clear hrel hcp hgl HPUSH m6 hlt
          have hlt := HLT.out
          subst hs4
          go_wp2_with (at_builtin; refine wpList_append_runQ rfl (.tmp 64) (.tmp 66) 160 rfl rfl rfl m5 ?_)
          go_roundw
          case rel => exact ⟨j + 1, v10, es10, ck10, HLT.out, by go_num, rfl, HM6⟩
          case measure => have := HLT.out; simp [intOf]; omega
        · have hjm : j = m := by omega
          have HA := hrel.out
          rw [hjm] at HA
          have HM0 : Hid (mapSize w2 (L0 + 1) = 0) := hid (by unfold mapSize; rw [HBM.out]; rfl)
          have hmr := HK.out.2.2.2.1
          have HAB := hid (show AtB w2 L0 gK rs m (.slice none 0 0) v9 wr from ⟨by omega, HA.row, ⟨by rw [hmr]; simp [roleRow], .inl ⟨rfl, by rw [hmr]; simp⟩⟩, fun k e => (by cases e), ⟨es9, ck9, HA.map, by rw [HA.size, hmr]⟩, fun e => (by cases e), HA.chg⟩)
          have HLV := hid (And.intro (rowQ_lenOf HA.row) (show mapSize wr (L0 + 1) = m by unfold mapSize; rw [HA.map]; exact HA.size))
          clear hrel HA hmr
          subst hs4
          go_wp2
          go_roundw
          case rel => exact ⟨_, _, rfl, rfl, hid (.inr ⟨m, HAB.out⟩)⟩
          case measure =>
            rw [HLV.out.1, HLV.out.2, HM0.out]
            show _ < 1 + m - 0
            omega
    · cases j with
      | zero =>
        have hv : v = .slice none 0 0 ∨ ∃ g cp, v = .slice (some ⟨g, 0, none⟩) 0 cp := by
          rcases hB.row.2 with ⟨e, _⟩ | ⟨g, cap, cur, e, _⟩
          · exact .inl e
          · exact .inr ⟨g, cap, e⟩
        have hg : OwnR L0 wr u rs.reverse := by have := hB.got; rw [List.drop_zero] at this; exact this
        obtain ⟨ls, hls⟩ : ∃ ls, ls = rs.reverse := ⟨_, rfl⟩
        have hlen : ls.length = rs.length := by rw [hls, List.length_reverse]
        have HLS := hid hls
        rw [← hls] at hg
        obtain ⟨ao, cap, hu, hR, hz⟩ := OwnR.roles hg (fun x hx => by
          obtain ⟨i, hi, rfl⟩ := List.getElem_of_mem (List.mem_reverse.1 (hls ▸ hx))
          exact (HK.out.2.2.1 i hi).2.2.2)
        have HCE := hid (HC4.out.trans hB.chg (fun i hi e => by have := HL0.out; omega))
        have HST := hid (HSET ao cap ls wr (by have := HN.out; have := HK.out.2.2.2.1; omega) hR (fun i hi => hi.2) hz)
        rw [hu] at hs3
        clear hrel hB hg hR hz hu HSET hls hlen
        rcases hv with hv | ⟨g, cp2, hv⟩
        all_goals
          rw [hv] at hs4
          clear hv
          subst hs3 hs4
          go_wp2_with fail
          refine HST.out.mono ?_
          rintro e w5 ⟨out, ao2, cap2, rfl, h1, _, h3, _⟩
          have HOUT := hid (And.intro h1 (HCE.out.trans h3 (fun _ _ h => h)))
          clear h1 h3
          go_wp2
          go_ret
          exact ⟨out, ao2, cap2, rfl, by rw [← HLS.out]; exact HOUT.out.1, HOUT.out.2⟩
      | succ j =>
        have HL := hid (show L0 ≤ wr.heap.size from by obtain ⟨es, ck, m1, _⟩ := hB.map; have := lt_blk m1; omega)
        have hmr := HK.out.2.2.2.1
        have hjr : j < rs.length := hB.le
        obtain ⟨gL, cpL, hv, j1, j2, u', w8, j3, j4⟩ := hB.take (by have := HN.out; omega) HL.out wr (Chg.refl _ _)
        obtain ⟨o1, o2, o3, o4⟩ := HK.out.2.2.1 j hjr
        have hgl : ¬ L0 ≤ gK := by have := HK.out.1; have := HL0.out; omega
        have x0 := hB.chg.cell o1 hgl
        have x2 := hB.chg.cell o2 hgl
        have x3 := hB.chg.cell o3 hgl
        obtain ⟨rj, hrj⟩ : ∃ rj, rj = rs[j]'hjr := ⟨_, rfl⟩
        rw [← hrj] at j3 x2 x3
        obtain ⟨nL, hnL⟩ : ∃ nL, nL = j + 1 := ⟨_, rfl⟩
        rw [← hnL] at hv j1
        have hnb : j ≤ 90000 := by have := HN.out; omega
        have hpi : (nL : Int) - 1 = (j : Int) := by omega
        have hwp : IntKind.i64.wrap (j : Int) = (j : Int) := by rw [IntKind.wrap_i64]; omega
        have z1 : decide ((0 : Int) < (nL : Int)) = true := decide_eq_true (by omega)
        have hlt : j < nL := by omega
        have hle : j ≤ cpL := by omega
        have HM1 : Hid (mapSize wr (L0 + 1) = rs.length ∧ mapSize w8 (L0 + 1) = rs.length) := hid ⟨by obtain ⟨es, ck, m1, m2⟩ := hB.map; unfold mapSize; rw [m1]; exact m2, by obtain ⟨es, ck, m1, m2⟩ := j4.map; unfold mapSize; rw [m1]; exact m2⟩
        have HJ4 := hid j4
        have HNL := hid (And.intro hnL hmr)
        rw [hv] at hs4
        clear hrel hB hv o1 o2 o3 o4 hgl j4 hnL hmr hrj hjr
        subst hs3 hs4
        go_wp2_with (at_builtin; refine wpList_append_runQ rfl (.tmp 32) (.tmp 37) 59 rfl rfl rfl j3 ?_)
        go_roundw
        case rel => exact ⟨_, _, rfl, rfl, hid (.inr ⟨j, HJ4.out⟩)⟩
        case measure =>
          have h1 := HM1.out
          have h2 := HNL.out
          rw [h1.1, h1.2]
          show j + m - _ < nL + m - _
          omega
end Go.Proofs.Ytjaplnainlbldaa
