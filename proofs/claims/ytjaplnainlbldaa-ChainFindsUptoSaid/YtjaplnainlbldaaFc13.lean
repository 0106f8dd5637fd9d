/- Texts that the proof leans on, in one: RoleClear, PcCompMath, Enters, ChWay, KvEntry, KwAddM, CredApp. -/
import Derived.Test.YtjaplnainlbldaaFc5
import Derived.Lib.SliceRun
import Derived.Test.YtjaplnainlbldaaFc12
import Derived.Test.YtjaplnainlbldaaFc4
import Derived.Lib.SlicesCompact
import Derived.IntWalk
import Derived.Test.YtjaplnainlbldaaFc2
import Derived.Test.YtjaplnainlbldaaFc11
/- clear over a slice of roles. -/
namespace Go.Proofs.Ytjaplnainlbldaa
open Go.RowKit

end Go.Proofs.Ytjaplnainlbldaa

/- slices.Compact at credentials, of a row of the call's own. -/
namespace Go.Proofs.Ytjaplnainlbldaa
open Go.RowKit Go.Lib Go.Sort

/-- 'clear(s)': the cells hold the zero value's; nothing else turns. -/
theorem run_clear_gen {P : Program} (w : World) (t e ty : TypeId) (z : Value) (zs : List Value) (s : Nat) (ht : P.underlying t = some (.slice e)) (hv : ∀ w, (zeroValue e).run P w = .ok z w) (b o n c : Nat) (hn : 0 < n)
  (hzs : (Builtin.zeroCells z.cells n).toList = zs) (hl : zs.length = n * s) (h1 : ∀ v ∈ zs, v.oneCell' = true)
  (hc : ∀ j, j < n * s → (w.cell? ⟨b, o + j, none⟩).isSome = true) (hf : ∀ j, j < n * s → w.frozen? ⟨b, o + j, none⟩ = false) :
  (Builtin.clear_ #[t] ty #[.slice (some ⟨b, o, none⟩) n c]).run P w = .ok (.tuple #[]) (w.setCells b o zs) := by
 have hst := run_storeCells_cells (P := P) b o zs 0 w (by rw [hl]; simpa using hc) (by rw [hl]; simpa using hf) h1
 simp only [Nat.add_zero] at hst
 obtain ⟨m, rfl⟩ : ∃ m, n = m + 1 := ⟨n - 1, by omega⟩
 simp [Builtin.clear_, run_underlying ht, hv, hzs, hst]

def credZero : List Value := [.int .i64 0, .string ⟨#[]⟩, .string ⟨#[]⟩, .string ⟨#[]⟩, .string ⟨#[]⟩, .string ⟨#[]⟩, .string ⟨#[]⟩, .string ⟨#[]⟩, .string ⟨#[]⟩]

theorem zero_cells (n : Nat) : ((Builtin.zeroCells credZero.toArray n).toList).length = n * 9 ∧ ∀ v ∈ (Builtin.zeroCells credZero.toArray n).toList, v.oneCell' = true := by
 constructor
 ·simp [Builtin.zeroCells, credZero]
 ·intro v hv
  simp only [Builtin.zeroCells, Array.toList_map, List.mem_map] at hv
  obtain ⟨i, _, rfl⟩ := hv
  have hall : ∀ j : Fin 9, (credZero.toArray[j.val]!).oneCell' = true := by decide
  exact hall ⟨i % 9, Nat.mod_lt _ (by decide)⟩

/-- The block g holds the credentials d from its first cell on. -/
structure HoldC (w : World) (g cap : Nat) (d : Array CredB) : Prop where
 blk : ∃ cur, w.heap[g]? = some (.cells cur 36 (0, 0)) ∧ cur.size = cap * 9
 at_ : ∀ j, j < d.size → ∀ i, i < 9 → w.cell? ⟨g, j * 9 + i, none⟩ = (credCells d[j]!)[i]?

theorem HoldC.cred {w : World} {g cap : Nat} {d : Array CredB} (h : HoldC w g cap d) {j : Nat} (hj : j < d.size) : CredAt w g (j * 9) d[j]! := cred_at_cells fun i hi => h.at_ j hj i hi

theorem HoldC.keep {S : Nat → Prop} {w w' : World} {g cap : Nat} {d : Array CredB} (h : HoldC w g cap d) (hc : Chg S w w') (hS : ¬ S g) : HoldC w' g cap d :=
 ⟨by obtain ⟨cur, h1, h2⟩ := h.blk; exact ⟨cur, blk_keep h1 hc hS, h2⟩, fun j hj i hi => by
  have hl : i < (credCells d[j]!).length := hi
  have := h.at_ j hj i hi
  rw [List.getElem?_eq_getElem hl] at this ⊢
  exact hc.cell this hS⟩

theorem HoldC.froz {w : World} {g cap : Nat} {d : Array CredB} (h : HoldC w g cap d) (i : Nat) : w.frozen? ⟨g, i, none⟩ = false := by
 obtain ⟨cur, h1, _⟩ := h.blk
 exact froz_blk h1 i

/-- Nine cells from o on, stored one by one. -/
def putCred (w : World) (g o : Nat) (c : CredB) : World :=
 ((((((((w.setCell ⟨g, o, none⟩ (.int .i64 c.kind)).setCell ⟨g, o + 1, none⟩ (.string ⟨c.head.1.toArray⟩)).setCell ⟨g, o + 2, none⟩ (.string ⟨c.head.2.toArray⟩)).setCell ⟨g, o + 3, none⟩ (.string ⟨c.who.toArray⟩)).setCell ⟨g, o + 4, none⟩ (.string ⟨c.b.1.toArray⟩)).setCell ⟨g, o + 5, none⟩ (.string ⟨c.b.2.toArray⟩)).setCell ⟨g, o + 6, none⟩ (.string ⟨c.c.1.toArray⟩)).setCell ⟨g, o + 7, none⟩ (.string ⟨c.c.2.toArray⟩)).setCell ⟨g, o + 8, none⟩ (.string ⟨c.w2.toArray⟩)

theorem putCred_eq (w : World) (g o : Nat) (c : CredB) : putCred w g o c = w.setCells g o (credCells c) := rfl

theorem blk_setCells {g : Nat} {ty : TypeId} {f : Nat × Nat} : ∀ (xs : List Value) (o : Nat) (w : World) (cur : Array Value), w.heap[g]? = some (.cells cur ty f) → ∃ cur2, (w.setCells g o xs).heap[g]? = some (.cells cur2 ty f) ∧ cur2.size = cur.size
 | [], o, w, cur, h => ⟨cur, h, rfl⟩
 | x :: r, o, w, cur, h => by
  obtain ⟨c2, h1, h2⟩ := blk_setCells r (o + 1) (w.setCell ⟨g, o, none⟩ x) _ (set_blk h o x)
  exact ⟨c2, h1, by rw [h2]; simp⟩

theorem chg_setCells {g : Nat} : ∀ (xs : List Value) (o : Nat) (w : World), Chg (· = g) w (w.setCells g o xs)
 | [], _, _ => Chg.refl _ _
 | x :: r, o, w => (setCell_chg w g o x).trans (chg_setCells r (o + 1) _) (fun _ _ h => h)

theorem HoldC.set {w : World} {g cap k : Nat} {d : Array CredB} {u : CredB} (h : HoldC w g cap d) (hk : k < d.size) (hcap : d.size ≤ cap) : HoldC (putCred w g (k * 9) u) g cap (d.setIfInBounds k u) := by
 rw [putCred_eq]
 obtain ⟨cur, h1, h2⟩ := h.blk
 refine ⟨by obtain ⟨c2, a, b⟩ := blk_setCells (credCells u) (k * 9) w cur h1; exact ⟨c2, a, by omega⟩, fun j hj i hi => ?_⟩
 have hj' : j < d.size := by simpa using hj
 by_cases e : j = k
 ·subst e
  rw [getElem!_set_same d j u hj', List.getElem?_eq_getElem (by exact hi)]
  refine World.cell?_setCells_in g (credCells u) (j * 9) w (fun m hm => ?_) i hi
  have hm9 : m < 9 := hm
  rw [cell_blk h1, Array.getElem?_eq_getElem (by omega)]; rfl
 ·rw [getElem!_set_other d k j u e, World.cell?_setCells_out g (credCells u) (k * 9) w _ (fun _ _ => ?_)]
  ·exact h.at_ j hj' i hi
  ·show j * 9 + i < k * 9 ∨ k * 9 + 9 ≤ j * 9 + i
   omega

theorem HoldC.aboves {g cap : Nat} {d : Array CredB} (xs : List Value) (o : Nat) (w : World) (h : HoldC w g cap d) (ho : d.size * 9 ≤ o) : HoldC (w.setCells g o xs) g cap d ∧ Chg (· = g) w (w.setCells g o xs) := by
 refine ⟨?_, chg_setCells xs o w⟩
 obtain ⟨cur, h1, h2⟩ := h.blk
 refine ⟨by obtain ⟨c2, a, b⟩ := blk_setCells xs o w cur h1; exact ⟨c2, a, by omega⟩, fun j hj i hi => ?_⟩
 rw [World.cell?_setCells_out g xs o w _ (fun _ _ => .inl (by show j * 9 + i < o; omega))]
 exact h.at_ j hj i hi

theorem HoldC.low {w : World} {g cap : Nat} {d : Array CredB} {c : List CredB} (h : HoldC w g cap d) (hk : c.length ≤ d.size) (hl : ∀ j, j < c.length → d[j]! = c[j]!) : HoldC w g cap c.toArray :=
 ⟨h.blk, fun j hj i hi => by
  have hj' : j < c.length := by simpa using hj
  have := hl j hj'
  rw [h.at_ j (by omega) i hi, this]; simp⟩

def compSpecs1 (g n cap k : Nat) (x y : CredB) : List Spec := [.eq (.slice (some ⟨g, 0, none⟩) n cap), .any, .any, .eq (.int .i64 k), .any, .any, .any, .any, .any, .any, .any, .any, .any, .any, .any, .any, .eq (.slice (some ⟨g, 0, none⟩) n cap), .eq (.int .i64 k), .eq (.pointer (some ⟨g, k * 9, none⟩)), .eq (credV x), .eq (.slice (some ⟨g, 0, none⟩) n cap), .eq (.int .i64 k), .eq (.int .i64 ((k - 1 : Nat) : Int)), .eq (.pointer (some ⟨g, (k - 1) * 9, none⟩)), .eq (credV y), .eq (.bool (eqC x y))]
def compSpecs2 (g n cap k m : Nat) (x y : CredB) : List Spec := [.any, .any, .any, .any, .eq (.slice (some ⟨g, k * 9, none⟩) n cap), .eq (.int .i64 m), .any, .any, .any, .any, .any, .any, .any, .any, .any, .any, .any, .any, .any, .any, .any, .any, .any, .any, .any, .any, .any, .any, .any, .any, .any, .any, .any, .any, .any, .eq (.slice (some ⟨g, k * 9, none⟩) n cap), .eq (.int .i64 m), .eq (.pointer (some ⟨g, k * 9 + m * 9, none⟩)), .eq (credV x), .eq (.slice (some ⟨g, k * 9, none⟩) n cap), .eq (.int .i64 m), .eq (.int .i64 ((m - 1 : Nat) : Int)), .eq (.pointer (some ⟨g, k * 9 + (m - 1) * 9, none⟩)), .eq (credV y), .eq (.bool (!eqC x y))]
end Go.Proofs.Ytjaplnainlbldaa

/- Functions that are values. -/
namespace Go.Proofs.Ytjaplnainlbldaa
open Go.RowKit

/-- A function with a body is entered. -/
theorem enters {K : Nat} {fn : Func} (hf : Try.prog.funcs[K]? = some fn) (hn : (fn.name == "runtime.NumGoroutine") = false) (hb : fn.body.isNone = false) (args : Array Value) (w : World) :
  (callFunc K args).run Try.prog w = .ok (.enter K args) w := by
 have h1 : fn.name ≠ "runtime.NumGoroutine" := by simpa using hn
 have h2 : fn.body ≠ none := by
  intro h
  rw [h] at hb
  simp at hb
 unfold callFunc
 simp [program, Sem.run, hf, h1, h2]

end Go.Proofs.Ytjaplnainlbldaa

/- Ways as they lie in memory; whether one takes a place; slices.IndexFunc and ContainsFunc at ways. -/
namespace Go.Proofs.Ytjaplnainlbldaa
open Go.RowKit

def wayCells (x : WayB) : List Value := [.int .i64 (x.1 : Nat), .int .i64 (x.2 : Nat)]
def wayRow (ws : List WayB) : List Value := ws.flatMap wayCells
theorem wayRow_snoc (ls : List WayB) (x : WayB) : wayRow (ls ++ [x]) = wayRow ls ++ wayCells x := by simp [wayRow]
theorem wayRow_len (ls : List WayB) : (wayRow ls).length = ls.length * 2 := by
 unfold wayRow
 induction ls with
 | nil => rfl
 | cons x l ih => rw [List.flatMap_cons, List.length_append, ih, List.length_cons]; simp [wayCells]; omega
theorem wayRow_get : ∀ (ls : List WayB) (i j : Nat) (h : i < ls.length) (_ : j < 2), (wayRow ls)[i * 2 + j]? = (wayCells ls[i])[j]?
 | x :: l, 0, j, _, hj => by
  rw [Nat.zero_mul, Nat.zero_add, wayRow, List.flatMap_cons, List.getElem?_append_left (by simpa [wayCells] using hj)]
  rfl
 | x :: l, i + 1, j, h, hj => by
  have hl : (wayCells x).length = 2 := rfl
  have := wayRow_get l i j (by simpa using h) hj
  rw [wayRow, List.flatMap_cons, List.getElem?_append_right (by rw [hl, Nat.add_mul]; omega), hl]
  rw [show (i + 1) * 2 + j - 2 = i * 2 + j by rw [Nat.add_mul]; omega]
  exact this

theorem Try.info175 : (Try.prog.info? 175).map (fun i => (i.zero, i.size, i.bytes)) = some (some (.agg #[.int .i64 0, .int .i64 0]), 2, 16) := by kernel_rfl

/-- A list of ways of the call's own. -/
def OwnWy (B : Nat) (w : World) (v : Value) (ls : List WayB) : Prop := w.ownsRow B 175 2 v ls.length (wayRow ls)
theorem OwnWy.keep {S : Nat → Prop} {B : Nat} {w w' : World} {v : Value} {ls : List WayB} (h : OwnWy B w v ls) (hc : Chg S w w') (hr : ∀ k, v.ownBlock = some k → ¬ S k) : OwnWy B w' v ls := ownsRow_keep h hc hr
theorem OwnWy.nil (B : Nat) (w : World) : OwnWy B w (.slice none 0 0) [] := World.ownsRow_nil _ _ _ _
theorem OwnWy.shape {B : Nat} {w : World} {v : Value} {ls : List WayB} (h : OwnWy B w v ls) : ∃ ao cap, v = .slice ao ls.length cap := by
 rcases h.2 with ⟨rfl, h0⟩ | ⟨g, cap, cur, rfl, _⟩
 ·exact ⟨none, 0, by rw [h0]⟩
 ·exact ⟨_, _, rfl⟩
theorem OwnWy.blt {B : Nat} {w : World} {v : Value} {ls : List WayB} (h : OwnWy B w v ls) {k : Nat} (hk : v.ownBlock = some k) : B ≤ k ∧ k < w.heap.size := by
 rcases h.2 with ⟨hx', _⟩ | ⟨g, cap', cur, hx', hg, hh, _⟩
 ·rw [hx'] at hk; cases hk
 ·have hk2 : g = k := by rw [hx'] at hk; simpa [Value.ownBlock] using hk
  subst hk2
  exact ⟨hg, lt_blk hh⟩

/-- The ways ls can be read from the address ao on. -/
def WaysAt (D : Nat → Prop) (w : World) (ao : Option Addr) (ls : List WayB) : Prop :=
 ∀ i (h : i < ls.length), ∃ b off, ao = some ⟨b, off, none⟩ ∧ D b ∧ w.cell? ⟨b, off + i * 2, none⟩ = some (.int .i64 ((ls[i]).1 : Nat)) ∧ w.cell? ⟨b, off + i * 2 + 1, none⟩ = some (.int .i64 ((ls[i]).2 : Nat))
theorem WaysAt.keep {S D : Nat → Prop} {w w' : World} {ao : Option Addr} {ls : List WayB} (h : WaysAt D w ao ls) (hc : Chg S w w') (hS : ∀ i, D i → ¬ S i) : WaysAt D w' ao ls := fun i hi =>
 let ⟨b, off, h1, h2, h3, h4⟩ := h i hi
 ⟨b, off, h1, h2, hc.cell h3 (hS b h2), hc.cell h4 (hS b h2)⟩
theorem OwnWy.ways {B : Nat} {w : World} {v : Value} {ls : List WayB} (h : OwnWy B w v ls) : ∃ ao cap, v = .slice ao ls.length cap ∧ WaysAt (fun k => v.ownBlock = some k) w ao ls := by
 have hall := h
 rcases h.2 with ⟨rfl, h0⟩ | ⟨g, cap, cur, rfl, hg, hh, h1, h2, h3, h4⟩
 ·have : ls = [] := List.eq_nil_of_length_eq_zero h0
  subst this
  exact ⟨none, 0, rfl, fun i h => absurd h (by simp)⟩
 ·refine ⟨_, _, rfl, fun i hi => ⟨g, 0, rfl, rfl, ?_, ?_⟩⟩
  ·have := World.ownsRow.cells (g := g) hall rfl (i * 2 + 0) (.int .i64 ((ls[i]).1 : Nat)) (by rw [wayRow_get ls i 0 hi (by decide)]; rfl)
   rw [add_off, Nat.zero_add] at this
   rw [Nat.zero_add]
   exact this
  ·have := World.ownsRow.cells (g := g) hall rfl (i * 2 + 1) (.int .i64 ((ls[i]).2 : Nat)) (by rw [wayRow_get ls i 1 hi (by decide)]; rfl)
   rw [add_off, Nat.zero_add] at this
   rw [Nat.zero_add]
   exact this

set_option maxRecDepth 100000 in
set_option maxHeartbeats 1000000 in
/-- Does a way take a place? -/
theorem ch_takes (x : WayB) (i : Nat) (w : World) : Calls Try.prog 110 #[.agg #[.int .i64 (x.1 : Nat), .int .i64 (x.2 : Nat)], .int .i64 (i : Nat)] w fun e w' => e = .returned (.bool (takesW i x)) ∧ Chg (fun _ => False) w w' := by
 obtain ⟨a, b⟩ := x
 have hb := heap_alloc_new w (.cells #[.int .i64 (a : Nat), .int .i64 (b : Nat)] 175)
 have c0 := cell_blk hb 0
 have c1 := cell_blk hb 1
 simp only [List.getElem?_toArray, List.getElem?_cons_zero, List.getElem?_cons_succ] at c0 c1
 have HC : Hid (Chg (fun _ => False) w (w.alloc (.cells #[.int .i64 (a : Nat), .int .i64 (b : Nat)] 175))) := hid ((Chg.refl _ w).alloc _)
 clear hb
 by_cases h1 : a = i
 ·subst h1
  have HT : Hid (takesW a (a, b) = true) := hid (takesW_iff.2 (.inl rfl))
  go_enter Try.func110, Try.ntmps110
  go_wp2
  go_ret
  exact ⟨by rw [HT.out]; rfl, HC.out⟩
 ·have e1 : ((a : Int) == (i : Int)) = false := by rw [beq_eq_false_iff_ne]; exact fun e => h1 (Int.ofNat_inj.1 e)
  by_cases h2 : b = i
  ·subst h2
   have HT : Hid (takesW b (a, b) = true) := hid (takesW_iff.2 (.inr rfl))
   clear h1
   go_enter Try.func110, Try.ntmps110
   go_wp2
   go_ret
   exact ⟨by rw [HT.out]; simp, HC.out⟩
  ·have e2 : ((b : Int) == (i : Int)) = false := by rw [beq_eq_false_iff_ne]; exact fun e => h2 (Int.ofNat_inj.1 e)
   have HT : Hid (takesW i (a, b) = false) := hid (takesW_no.2 ⟨h1, h2⟩)
   clear h1 h2
   go_enter Try.func110, Try.ntmps110
   go_wp2
   go_ret
   exact ⟨by rw [HT.out]; simp, HC.out⟩

set_option maxRecDepth 100000 in
set_option maxHeartbeats 1000000 in
/-- The function that needs hands over. -/
theorem ch_not (x : WayB) (i A : Nat) (w : World) (hA : w.cell? ⟨A, 0, none⟩ = some (.int .i64 (i : Nat))) : Calls Try.prog 109 #[.agg #[.int .i64 (x.1 : Nat), .int .i64 (x.2 : Nat)], .pointer (some ⟨A, 0, none⟩)] w fun e w' => e = .returned (.bool (!takesW i x)) ∧ Chg (fun _ => False) w w' := by
 have hb := heap_alloc_new w (.cells #[.int .i64 (x.1 : Nat), .int .i64 (x.2 : Nat)] 175)
 have c0 := cell_blk hb 0
 have c1 := cell_blk hb 1
 simp only [List.getElem?_toArray, List.getElem?_cons_zero, List.getElem?_cons_succ] at c0 c1
 have hc1 : Chg (fun _ => False) w (w.alloc (.cells #[.int .i64 (x.1 : Nat), .int .i64 (x.2 : Nat)] 175)) := (Chg.refl _ w).alloc _
 have a0 := hc1.cell hA id
 have HC := hid hc1
 have HQ := hid (ch_takes x i (w.alloc (.cells #[.int .i64 (x.1 : Nat), .int .i64 (x.2 : Nat)] 175)))
 clear hb hc1 hA
 go_enter Try.func109, Try.ntmps109
 go_wp2_with fail
 refine HQ.out.mono ?_
 rintro e w' ⟨rfl, hc⟩
 have HR := hid (HC.out.trans hc (fun _ _ h => h))
 clear hc HQ HC c0 c1 a0
 go_wp2
 go_ret
 exact ⟨rfl, HR.out⟩

set_option maxRecDepth 100000 in
set_option maxHeartbeats 1000000 in
/-- The function that drop hands over. -/
theorem ch_off (x : WayB) (i A : Nat) (w : World) (hA : w.cell? ⟨A, 0, none⟩ = some (.int .i64 (i : Nat))) : Calls Try.prog 112 #[.agg #[.int .i64 (x.1 : Nat), .int .i64 (x.2 : Nat)], .pointer (some ⟨A, 0, none⟩)] w fun e w' => e = .returned (.bool (takesW i x)) ∧ Chg (fun _ => False) w w' := by
 have hb := heap_alloc_new w (.cells #[.int .i64 (x.1 : Nat), .int .i64 (x.2 : Nat)] 175)
 have c0 := cell_blk hb 0
 have c1 := cell_blk hb 1
 simp only [List.getElem?_toArray, List.getElem?_cons_zero, List.getElem?_cons_succ] at c0 c1
 have hc1 : Chg (fun _ => False) w (w.alloc (.cells #[.int .i64 (x.1 : Nat), .int .i64 (x.2 : Nat)] 175)) := (Chg.refl _ w).alloc _
 have a0 := hc1.cell hA id
 have HC := hid hc1
 have HQ := hid (ch_takes x i (w.alloc (.cells #[.int .i64 (x.1 : Nat), .int .i64 (x.2 : Nat)] 175)))
 clear hb hc1 hA
 go_enter Try.func112, Try.ntmps112
 go_wp2_with fail
 refine HQ.out.mono ?_
 rintro e w' ⟨rfl, hc⟩
 have HR := hid (HC.out.trans hc (fun _ _ h => h))
 clear hc HQ HC c0 c1 a0
 go_wp2
 go_ret
 exact ⟨rfl, HR.out⟩

/-- A function's value takes ways: those of q; whatever has changed in P. -/
def TakesF (P : Nat → Prop) (hf : Nat) (lb : Array Value) (q : WayB → Bool) (w : World) : Prop :=
 ∀ (x : WayB) (W : World), Chg P w W → Calls Try.prog hf (#[.agg #[.int .i64 (x.1 : Nat), .int .i64 (x.2 : Nat)]] ++ lb) W fun e w' => e = .returned (.bool (q x)) ∧ Chg (fun _ => False) W w'

theorem takes_not {P : Nat → Prop} (i A : Nat) (w : World) (hA : w.cell? ⟨A, 0, none⟩ = some (.int .i64 (i : Nat))) (hP : ¬ P A) : TakesF P 109 #[.pointer (some ⟨A, 0, none⟩)] (fun x => !takesW i x) w := fun x W hc => ch_not x i A W (hc.cell hA hP)
theorem takes_off {P : Nat → Prop} (i A : Nat) (w : World) (hA : w.cell? ⟨A, 0, none⟩ = some (.int .i64 (i : Nat))) (hP : ¬ P A) : TakesF P 112 #[.pointer (some ⟨A, 0, none⟩)] (fun x => takesW i x) w := fun x W hc => ch_off x i A W (hc.cell hA hP)

set_option maxRecDepth 100000 in
set_option maxHeartbeats 2000000 in
/-- The first one that a function takes. -/
theorem ch_indexFunc {D P : Nat → Prop} (hf : Nat) (lb : Array Value) (q : WayB → Bool) (ao : Option Addr) (cp : Nat) (ls : List WayB) (w : World) (hn : ls.length ≤ 33554432) (hst : WaysAt D w ao ls) (eg : ∀ args w, (callFunc hf args).run Try.prog w = .ok (.enter hf args) w) (ht : TakesF P hf lb q w) :
  Calls Try.prog 135 #[.slice ao ls.length cp, .func (.func hf) #[] lb] w fun e w' => ((∃ j, ∃ h : j < ls.length, e = .returned (.int .i64 (j : Nat)) ∧ q ls[j] = true ∧ ∀ x ∈ ls.take j, q x = false) ∨ (e = .returned (.int .i64 (-1)) ∧ ∀ x ∈ ls, q x = false)) ∧ Chg (fun _ => False) w w' := by
 have HB := hid (And.intro hst ht)
 clear hst ht
 go_enter Try.func135, Try.ntmps135
 go_wp2
 go_loopw [8] (fun i wr => ∃ (k : Nat), k ≤ ls.length ∧ i = .int .i64 k ∧ Hid (∀ x ∈ ls.take k, q x = false) ∧ Hid (Chg (fun _ => False) w wr)) (fun i _ => ls.length - (intOf i).toNat)
 case atStart => exact ⟨0, Nat.zero_le _, rfl, hid (by simp), hid (Chg.refl _ _)⟩
 case round =>
  obtain ⟨k, hk, rfl, hno, hch⟩ := hrel
  by_cases hlt : k < ls.length
  ·obtain ⟨b, off, rfl, hDb, a0, a1⟩ := (HB.out.1.keep hch.out (fun _ _ => id)) k hlt
   have HT := hid (HB.out.2 ls[k] wr hch.out.none9)
   have HTK : Hid (ls.take (k + 1) = ls.take k ++ [ls[k]]) := hid (List.take_succ_eq_append_getElem hlt)
   have HYES : Hid (q ls[k] = true → ∃ j, ∃ h : j < ls.length, Ending.returned (.int .i64 (k : Nat)) = .returned (.int .i64 (j : Nat)) ∧ q ls[j] = true ∧ ∀ x ∈ ls.take j, q x = false) := hid (fun h => ⟨k, hlt, rfl, h, hno.out⟩)
   generalize ls[k] = s at *
   clear hDb
   go_wp2_with fail
   refine HT.out.mono ?_
   rintro e w5 ⟨rfl, hc5⟩
   have HK := hid (hch.out.trans hc5 (fun _ _ h => h))
   clear hc5 HT a0 a1
   cases hq : q s with
   | false =>
    have HE : Hid (∀ x ∈ ls.take (k + 1), q x = false) := hid (fun x hx => by
     rw [HTK.out] at hx
     rcases List.mem_append.1 hx with hx | hx
     ·exact hno.out x hx
     ·rw [List.mem_singleton] at hx; rw [hx]; exact hq)
    clear hq hno HYES HTK
    go_wp2
    go_roundw
    case rel => exact ⟨k + 1, by omega, by go_num, HE, HK⟩
    case measure => simp [intOf]; omega
   | true =>
    have HE := hid (HYES.out hq)
    clear hq hno HYES HTK
    go_wp2
    go_ret
    exact ⟨.inl HE.out, HK.out⟩
  ·have hk2 : k = ls.length := by omega
   have HE : Hid ((∀ x ∈ ls, q x = false) ∧ Chg (fun _ => False) w wr) := hid ⟨by have := hno.out; rwa [hk2, List.take_length] at this, hch.out⟩
   clear hno hch hk2
   go_wp2
   go_ret
   exact ⟨.inr ⟨rfl, HE.out.1⟩, HE.out.2⟩

set_option maxRecDepth 100000 in
theorem ch_containsFunc {D P : Nat → Prop} (hf : Nat) (lb : Array Value) (q : WayB → Bool) (ao : Option Addr) (cp : Nat) (ls : List WayB) (w : World) (hn : ls.length ≤ 33554432) (hst : WaysAt D w ao ls) (eg : ∀ args w, (callFunc hf args).run Try.prog w = .ok (.enter hf args) w) (ht : TakesF P hf lb q w) :
  Calls Try.prog 108 #[.slice ao ls.length cp, .func (.func hf) #[] lb] w fun e w' => e = .returned (.bool (ls.any q)) ∧ Chg (fun _ => False) w w' := by
 have HP := hid (ch_indexFunc hf lb q ao cp ls w hn hst eg ht)
 clear hst eg ht
 go_enter Try.func108, Try.ntmps108
 go_wp2_with fail
 refine HP.out.mono ?_
 rintro e w' ⟨h | h, h4⟩
 ·obtain ⟨j, hj, rfl, h1, _⟩ := h
  have HR := hid (And.intro (List.any_eq_true.2 ⟨_, List.getElem_mem hj, h1⟩) h4)
  clear h1 h4 HP
  go_wp2
  go_ret
  exact ⟨by rw [HR.out.1]; rfl, HR.out.2⟩
 ·obtain ⟨rfl, h1⟩ := h
  have h2 : ls.any q = false := by
   rw [List.any_eq_false]
   intro x hx
   rw [h1 x hx]
   decide
  have HR := hid (And.intro h2 h4)
  clear h2
  clear h1 h4 HP
  go_wp2
  go_ret
  exact ⟨by rw [HR.out.1]; rfl, HR.out.2⟩
end Go.Proofs.Ytjaplnainlbldaa

/- An element of a map that is stored anew: what is read ahead hangs on the map's block alone. -/
namespace Go.Proofs.Ytjaplnainlbldaa
open Go.RowKit Go.Maps Go.ChangeMaps Go.WideMaps

theorem findK_same {P : Program} {k : TypeId} (K : KeyLaw P k) (w w' : World) {x : Value} {lx : Lit} (hx : Go.keyOf P k x = some lx) {es : List MapEntry} (hk : ∀ e ∈ es, ∃ l, Go.keyOf P k e.key = some l) (hn : (es.map (·.key)).Nodup) :
  ∃ r, (Instr.findKey k x es).run P w = .ok r w ∧ (Instr.findKey k x es).run P w' = .ok r w' := by
 rcases K.find w hx es hk with ⟨h1, h2⟩ | ⟨j, e, h1, h2, h3⟩ <;> rcases K.find w' hx es hk with ⟨k1, k2⟩ | ⟨i, d, k1, k2, k3⟩
 ·exact ⟨_, h1, k1⟩
 ·exact absurd k3 (h2 d (List.mem_of_getElem? k2))
 ·exact absurd h3 (k2 e (List.mem_of_getElem? h2))
 ·have hji : j = i := by
   have a1 : (es.map (·.key))[j]? = some x := by rw [List.getElem?_map, h2]; simp [h3]
   have a2 : (es.map (·.key))[i]? = some x := by rw [List.getElem?_map, k2]; simp [k3]
   obtain ⟨b1, c1⟩ := List.getElem?_eq_some_iff.1 a1
   obtain ⟨b2, c2⟩ := List.getElem?_eq_some_iff.1 a2
   exact (List.getElem_inj hn).1 (c1.trans c2.symm)
  subst hji
  rw [h2] at k2
  cases k2
  exact ⟨_, h1, k1⟩

theorem entry_same {P : Program} {w w' : World} {t k e : TypeId} {b : Nat} {es : Array MapEntry} {clock : Nat} {R : Value → Option (DataW Value × List MemPlace)} (K : KeyLaw P k) (ht : P.underlying t = some (.map k e)) {z : Value} (hz : ∀ u : World, (zeroValue e).run P u = .ok z u)
  (hb : w.heap[b]? = some (.map es clock)) (hb' : w'.heap[b]? = some (.map es clock)) (F : WideElems.Fit P k R es clock) {key : Value} {kl : Lit} (hkey : Go.keyOf P k key = some kl) {v0 : Value} {st : Nat} {o : Obj}
  (h : (Instr.mapEntry t (.map (some b)) key).run P w = .ok (.tuple #[v0, goInt st]) (setBlock w b o)) : (Instr.mapEntry t (.map (some b)) key).run P w' = .ok (.tuple #[v0, goInt st]) (setBlock w' b o) := by
 have hks : ∀ e ∈ es.toList, ∃ l, Go.keyOf P k e.key = some l := F.keys
 obtain ⟨r, h1, h2⟩ := findK_same K w w' hkey hks F.stamped.2.2
 have ho : ∀ (o' : Obj), setBlock w b o' = setBlock w b o → o' = o := fun o' e => by
  have e1 := heap_setBlock_same hb o'
  rw [e, heap_setBlock_same hb o] at e1
  cases e1
  rfl
 cases r with
 | none =>
  have e1 : (Instr.mapEntry t (.map (some b)) key).run P w = .ok (.tuple #[z, goInt clock]) (setBlock w b (.map (es.push ⟨key, z, clock⟩) (clock + 1))) := by
   simp [Instr.mapEntry, run_underlying ht, MapKept.run_getObj_map hb, K.check w false hkey, h1, hz, MapKept.run_setObj_map _ hb, Result.andThen, setBlock]
  have e2 : (Instr.mapEntry t (.map (some b)) key).run P w' = .ok (.tuple #[z, goInt clock]) (setBlock w' b (.map (es.push ⟨key, z, clock⟩) (clock + 1))) := by
   simp [Instr.mapEntry, run_underlying ht, MapKept.run_getObj_map hb', K.check w' false hkey, h2, hz, MapKept.run_setObj_map _ hb', Result.andThen, setBlock]
  rw [e1] at h
  injection h with q1 q2
  rw [e2, q1, ho _ q2]
 | some r =>
  obtain ⟨j, v⟩ := r
  have hst : ∃ ks, (Instr.keyThatStays (((es[j]?).map (·.key)).getD key) key).run P w = .ok ks w ∧ (Instr.keyThatStays (((es[j]?).map (·.key)).getD key) key).run P w' = .ok ks w' := by
   rcases K.find w hkey es.toList hks with ⟨g1, _⟩ | ⟨i, e0, g1, g2, g3⟩
   ·rw [g1] at h1; cases h1
   ·rw [g1] at h1
    cases h1
    have hj : es[j]? = some e0 := by simpa using g2
    rw [hj]
    simp only [Option.map_some, Option.getD_some, g3]
    exact ⟨key, K.stays w hkey, K.stays w' hkey⟩
  obtain ⟨ks, s1, s2⟩ := hst
  have e1 : (Instr.mapEntry t (.map (some b)) key).run P w = .ok (.tuple #[v, goInt (((es[j]?).map (·.born)).getD 0)]) (setBlock w b (.map (es.modify j fun e => { e with key := ks }) clock)) := by
   simp [Instr.mapEntry, run_underlying ht, MapKept.run_getObj_map hb, K.check w false hkey, h1, s1, MapKept.run_setObj_map _ hb, Result.andThen, setBlock]
  have e2 : (Instr.mapEntry t (.map (some b)) key).run P w' = .ok (.tuple #[v, goInt (((es[j]?).map (·.born)).getD 0)]) (setBlock w' b (.map (es.modify j fun e => { e with key := ks }) clock)) := by
   simp [Instr.mapEntry, run_underlying ht, MapKept.run_getObj_map hb', K.check w' false hkey, h2, s2, MapKept.run_setObj_map _ hb', Result.andThen, setBlock]
  rw [e1] at h
  injection h with q1 q2
  rw [e2, q1, ho _ q2]

variable {α : Type} {k : KT α} {w : World} {mb n : Nat} {F : α → Option Value}

/-- The element at a key, which is then stored anew: what is read hangs on the map's block alone. -/
theorem KV.entry2 [DecidableEq α] {t e : TypeId} (h : KV k w mb n F) (K : KeyLaw Try.prog k.ty) (ht : Try.prog.underlying t = some (.map k.ty e)) {z : Value} (hz : ∀ u : World, (zeroValue e).run Try.prog u = .ok z u) (hn : n < 9223372036854775807) {a : α} (ha : k.ok a) :
  ∃ (st : Nat) (o1 : Obj), ∀ w', w'.heap[mb]? = w.heap[mb]? →
   (∃ w1, (Instr.mapEntry t (.map (some mb)) (k.val a)).run Try.prog w' = .ok (.tuple #[(F a).getD z, goInt st]) w1 ∧ Chg (· = mb) w' w1 ∧ w1.heap[mb]? = some o1) ∧
   ∀ (w2 : World) (v : Value), w2.heap[mb]? = some o1 → ∃ w3, (Instr.entryStore t (.map (some mb)) (goInt st) v).run Try.prog w2 = .ok () w3 ∧ Chg (· = mb) w2 w3 ∧ KV k w3 mb (n + 1) (putF F a v) := by
 obtain ⟨M, ⟨es, clock, hb, Ft, _, _⟩, _⟩ := h.ex
 obtain ⟨st, w1, h1, h2, h3, h4⟩ := h.entry K ht hz hn ha
 have hw1 : ∃ o1, w1 = setBlock w mb o1 ∧ w1.heap[mb]? = some o1 := by
  obtain ⟨v0, st', es1, clock1, hr, _, _⟩ := WideElems.entry_then_store (R := heldElem) K ht hz hb Ft (k.reads a ha)
  rw [h1] at hr
  injection hr with _ q2
  exact ⟨_, q2, by rw [q2]; exact heap_setBlock_same hb _⟩
 obtain ⟨o1, rfl, hb1⟩ := hw1
 refine ⟨st, o1, fun w' hw' => ⟨⟨setBlock w' mb o1, entry_same K ht hz hb (hw'.trans hb) Ft (k.reads a ha) h1, ?_, heap_setBlock_same (hw'.trans hb) _⟩, fun w2 v hw2 => ?_⟩⟩
 ·exact (Chg.refl (· = mb) w').grown (row := some mb) ⟨rfl, rfl, rfl, by simp [setBlock], fun i _ hi => heap_setBlock_other (hw'.trans hb) _ (fun e => hi (by rw [e]))⟩ (fun k hk _ => by simpa using hk.symm)
 ·obtain ⟨w3, g1, g2, _, g3⟩ := h4 w2 v (hw2.trans hb1.symm)
  exact ⟨w3, g1, g2, g3⟩
end Go.Proofs.Ytjaplnainlbldaa

/- A fact more: the map of places, from its entry to its store. -/
namespace Go.Proofs.Ytjaplnainlbldaa
open Go.RowKit Go.Maps Go.ChangeMaps Go.WideMaps

/-- Operation e writes, m writes behind it and its slot t tells what, n writes behind all that stand ahead of it. -/
structure Trio (e m n : Nat) (t : Tmp) (F0 F1 : World → Prop) (F2 : Value → World → Prop) (F3 : World → Prop) (L : Nat → Bool) (a : Act) (w : World) : Prop where
 size : t < a.tmps.size
 all : L n = true → ∀ j, j < n → L j = true
 em : L m = true → L e = true
 p0 : L e = false → F0 w
 p1 : L e = true → L m = false → F1 w
 p2 : L m = true → L n = false → ∃ v, a.tmps[t]? = some v ∧ F2 v w
 p3 : L n = true → F3 w

section
variable {e m n : Nat} {t : Tmp} {F0 F1 : World → Prop} {F2 : Value → World → Prop} {F3 : World → Prop} {L : Nat → Bool} {a : Act} {w w' : World}

theorem Trio.start (hs : t < a.tmps.size) (h : F0 w) : Trio e m n t F0 F1 F2 F3 (fun _ => false) a w := ⟨hs, fun h => (by cases h), fun h => (by cases h), fun _ => h, fun h => (by cases h), fun h => (by cases h), fun h => (by cases h)⟩

theorem Trio.not (h : Trio e m n t F0 F1 F2 F3 L a w) {j : Nat} (hj : j < n) (hl : L j = false) : L n = false := by
 cases hn : L n with
 | false => rfl
 | true => rw [h.all hn j hj] at hl; cases hl

theorem Trio.early (h : Trio e m n t F0 F1 F2 F3 L a w) {j : Nat} (hj : j < n) (hl : L j = false) {B : World → Prop} (h0 : ∀ w, F0 w → B w) (h1 : ∀ w, F1 w → B w) (h2 : ∀ v w, F2 v w → B w) : B w := by
 have hn := h.not hj hl
 cases he : L e with
 | false => exact h0 _ (h.p0 he)
 | true =>
  cases hm : L m with
  | false => exact h1 _ (h.p1 he hm)
  | true => obtain ⟨v, _, hv⟩ := h.p2 hm hn; exact h2 _ _ hv

theorem Trio.step (h : Trio e m n t F0 F1 F2 F3 L a w) {j : Nat} {d : Option Tmp} (v : Value) (hj : j ≠ e ∧ j ≠ m ∧ j ≠ n ∧ d ≠ some t) (hc : Chg (fun _ => False) w w') (k0 : ∀ w w', F0 w → Chg (fun _ => False) w w' → F0 w') (k1 : ∀ w w', F1 w → Chg (fun _ => False) w w' → F1 w') (k2 : ∀ u w w', F2 u w → Chg (fun _ => False) w w' → F2 u w') (k3 : ∀ w w', F3 w → Chg (fun _ => False) w w' → F3 w') :
  Trio e m n t F0 F1 F2 F3 (upd L j) (a.put d v) w' := by
 obtain ⟨j0, j1, j2, j3⟩ := hj
 have ee : upd L j e = L e := upd_ne (fun x => j0 x.symm)
 have em : upd L j m = L m := upd_ne (fun x => j1 x.symm)
 have en : upd L j n = L n := upd_ne (fun x => j2 x.symm)
 refine ⟨by rw [put_size]; exact h.size, fun hn i hi => upd_mono (h.all (by rw [← en]; exact hn) i hi), fun hm => by rw [ee]; exact h.em (by rw [← em]; exact hm), fun he => k0 _ _ (h.p0 (by rw [← ee]; exact he)) hc, fun he hm => k1 _ _ (h.p1 (by rw [← ee]; exact he) (by rw [← em]; exact hm)) hc, fun hm hn => ?_, fun hn => k3 _ _ (h.p3 (by rw [← en]; exact hn)) hc⟩
 obtain ⟨u, h1, h2⟩ := h.p2 (by rw [← em]; exact hm) (by rw [← en]; exact hn)
 exact ⟨u, put_tmps h1 j3, k2 _ _ _ h2 hc⟩

theorem Trio.zeroth (h : Trio e m n t F0 F1 F2 F3 L a w) (hen : e < n) (hem : e ≠ m) (hl : L e = false) {d : Option Tmp} {v : Value} (hF : F1 w') : Trio e m n t F0 F1 F2 F3 (upd L e) (a.put d v) w' := by
 have hn := h.not hen hl
 have hm : L m = false := by
  cases hm : L m with
  | false => rfl
  | true => rw [h.em hm] at hl; cases hl
 have en : upd L e n = L n := upd_ne (by omega)
 have em : upd L e m = L m := upd_ne (fun x => hem x.symm)
 exact ⟨by rw [put_size]; exact h.size, fun h' => (by rw [en, hn] at h'; cases h'), fun h' => (by rw [em, hm] at h'; cases h'), fun h' => (by rw [upd_self] at h'; cases h'), fun _ _ => hF, fun h' => (by rw [em, hm] at h'; cases h'), fun h' => (by rw [en, hn] at h'; cases h')⟩

theorem Trio.first (h : Trio e m n t F0 F1 F2 F3 L a w) (hmn : m < n) (hem : e ≠ m) (he : L e = true) (hl : L m = false) {v : Value} (hF : F2 v w') : Trio e m n t F0 F1 F2 F3 (upd L m) (a.put (some t) v) w' := by
 have hn := h.not hmn hl
 have en : upd L m n = L n := upd_ne (by omega)
 have ee : upd L m e = L e := upd_ne hem
 refine ⟨by rw [put_size]; exact h.size, fun h' => (by rw [en, hn] at h'; cases h'), fun _ => by rw [ee]; exact he, fun h' => (by rw [ee, he] at h'; cases h'), fun _ h' => (by rw [upd_self] at h'; cases h'), fun _ _ => ⟨v, ?_, hF⟩, fun h' => (by rw [en, hn] at h'; cases h')⟩
 simp [Act.put, h.size]

theorem Trio.second (h : Trio e m n t F0 F1 F2 F3 L a w) (hen : e < n) (hmn : m < n) (hall : ∀ j, j < n → L j = true) {d : Option Tmp} {v : Value} (hF : F3 w') : Trio e m n t F0 F1 F2 F3 (upd L n) (a.put d v) w' := by
 refine ⟨by rw [put_size]; exact h.size, fun _ j hj => upd_mono (hall j hj), fun _ => upd_mono (hall e hen), fun h' => ?_, fun _ h' => ?_, fun _ h' => (by rw [upd_self] at h'; cases h'), fun _ => hF⟩
 ·rw [upd_mono (hall e hen)] at h'
  cases h'
 ·rw [upd_mono (hall m hmn)] at h'
  cases h'
end

/-- A new row of one place. -/
def SpecR.exI (T : Nat → Option KTag) (n : Int) : SpecR (Chg (fun b => T b ≠ none)) :=
 ⟨fun v w => ∃ b, v = .slice (some ⟨b, 0, none⟩) 1 1 ∧ w.heap[b]? = some (.cells #[.int .i64 n] 3 (0, 0)) ∧ T b = none, fun _ _ _ hc ⟨b, h1, h2, h3⟩ => ⟨b, h1, blk_keep h2 hc (fun h => h h3), h3⟩⟩
theorem tag_new {T : Nat → Option KTag} {w w1 : World} (hlo : ∀ b, T b ≠ none → b < w1.heap.size) (hs : w1.heap.size ≤ w.heap.size) : T w.heap.size = none := by
 cases e : T w.heap.size with
 | none => rfl
 | some x => have := hlo _ (by rw [e]; simp); omega

/-- The map has its entry. -/
def EntF1 (w : World) (m2 : Nat) (o1 : Obj) (w' : World) : Prop := Chg (· = m2) w w' ∧ w'.heap[m2]? = some o1
/-- The row has grown. -/
def EntF2 (w : World) (m2 : Nat) (o1 : Obj) (u : Value) (ps : List Nat) (v' : Value) (w' : World) : Prop :=
 OwnI 0 w' v' ps ∧ w'.heap[m2]? = some o1 ∧ Chg (fun i => i = m2 ∨ u.ownBlock = some i) w w' ∧ (v'.ownBlock = u.ownBlock ∨ ∃ b, v'.ownBlock = some b ∧ w.heap.size ≤ b)
section
variable {T : Nat → Option KTag} {w : World} {g : Nat} {F : List FactB} {f : FactB} {v : Value} {m1 m2 : Nat} {Sl : RoleB → Option Value}

theorem EntF1.quiet {o1 : Obj} {w' w2 : World} (h : EntF1 w m2 o1 w') (hc : Chg (fun _ => False) w' w2) : EntF1 w m2 o1 w2 := ⟨h.1.trans hc (fun _ _ h => h.elim), blk_keep h.2 hc id⟩
theorem EntF2.quiet {o1 : Obj} {u x : Value} {ps : List Nat} {w' w2 : World} (h : EntF2 w m2 o1 u ps x w') (hc : Chg (fun _ => False) w' w2) : EntF2 w m2 o1 u ps x w2 := ⟨h.1.keep hc (fun _ _ => id), blk_keep h.2.1 hc id, h.2.2.1.trans hc (fun _ _ h => h.elim), h.2.2.2⟩
theorem mRoleLaw : KeyLaw Try.prog 24 := deep_law_laid Try.laidOut (m := 4) (by omega) mRoleBelow (by kernel_rfl) (by rw [Try.underlying24])

end
end Go.Proofs.Ytjaplnainlbldaa

/- append of a list of credentials, onto a row of the call's own. -/
namespace Go.Proofs.Ytjaplnainlbldaa
open Go.RowKit

theorem cred_one8 (x : CredB) : ∀ u ∈ credCells x, u.oneCell' = true := by
 intro u hu
 simp only [credCells, List.mem_cons, List.not_mem_nil, or_false] at hu
 rcases hu with rfl | rfl | rfl | rfl | rfl | rfl | rfl | rfl | rfl <;> rfl

theorem credRow_one8 (ls : List CredB) : ∀ u ∈ credRow ls, u.oneCell' = true := by
 intro u hu
 unfold credRow at hu
 rw [List.mem_flatMap] at hu
 obtain ⟨x, _, hx⟩ := hu
 exact cred_one8 x u hx

theorem credRow_len8 (ls : List CredB) : (credRow ls).length = ls.length * 9 := by
 unfold credRow
 induction ls with
 | nil => rfl
 | cons x l ih => rw [List.flatMap_cons, List.length_append, ih, List.length_cons]; simp [credCells]; omega

theorem credRow_append8 (a b : List CredB) : credRow (a ++ b) = credRow a ++ credRow b := by simp [credRow]

theorem CredAt.cells8 {w : World} {b o : Nat} {c : CredB} (h : CredAt w b o c) : ∀ j, j < 9 → w.cell? ⟨b, o + j, none⟩ = (credCells c)[j]?
 | 0, _ => h.k0
 | 1, _ => h.k1
 | 2, _ => h.k2
 | 3, _ => h.k3
 | 4, _ => h.k4
 | 5, _ => h.k5
 | 6, _ => h.k6
 | 7, _ => h.k7
 | 8, _ => h.k8
 | j + 9, h => absurd h (by omega)

theorem credRow_get8 : ∀ (ls : List CredB) (i j : Nat) (h : i < ls.length) (_ : j < 9), (credRow ls)[i * 9 + j]? = (credCells ls[i])[j]?
 | x :: l, 0, j, _, hj => by
  rw [Nat.zero_mul, Nat.zero_add, credRow, List.flatMap_cons, List.getElem?_append_left (by simpa [credCells] using hj)]
  rfl
 | x :: l, i + 1, j, h, hj => by
  have hl : (credCells x).length = 9 := rfl
  have := credRow_get8 l i j (by simpa using h) hj
  rw [credRow, List.flatMap_cons, List.getElem?_append_right (by rw [hl, Nat.add_mul]; omega), hl]
  rw [show (i + 1) * 9 + j - 9 = i * 9 + j by rw [Nat.add_mul]; omega]
  exact this

theorem credsAt_row {D : Nat → Prop} {w : World} {ad : Addr} {ls : List CredB} (hst : CredsAt D w (some ad) ls) (j : Nat) (u : Value) (hj : (credRow ls)[j]? = some u) : w.cell? (ad.add j) = some u := by
 have hjl : j < (credRow ls).length := (List.getElem?_eq_some_iff.1 hj).1
 rw [credRow_len8] at hjl
 have hq : j / 9 < ls.length := by omega
 obtain ⟨b, off, e, _, h3, _⟩ := hst (j / 9) hq
 cases e
 have h4 := h3.cells8 (j % 9) (by omega)
 have h5 := credRow_get8 ls (j / 9) (j % 9) hq (by omega)
 have h6 : j / 9 * 9 + j % 9 = j := by omega
 rw [h6] at h5
 rw [add_off, show off + j = off + j / 9 * 9 + j % 9 by omega, h4, ← h5]
 exact hj

theorem credsAt_none {D : Nat → Prop} {w : World} {ls : List CredB} (hst : CredsAt D w none ls) : ls = [] := by
 cases ls with
 | nil => rfl
 | cons y l => obtain ⟨_, _, e, _⟩ := hst 0 (by simp); cases e

theorem chg_drew_alloc (w : World) (o : Obj) : Chg (fun _ => False) w (w.drew.alloc o) := by
 have h : Chg (fun _ => False) w w.drew := (Chg.refl _ w).drew
 exact h.alloc o

end Go.Proofs.Ytjaplnainlbldaa
