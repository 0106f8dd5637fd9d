/- Texts that the proof leans on, in one: WrSort, CredEq, RoleClear, PcCompMath. -/
import Derived.Test.YtjflmhncgkbdmaaGreatKb22
import Derived.Test.YtjflmhncgkbdmaaGreatKb10
import Derived.Test.YtjflmhncgkbdmaaGreatKb8
import Derived.Lib.SliceRun
import Derived.Test.YtjflmhncgkbdmaaGreatKb6
import Derived.Lib.SlicesCompact
import Derived.IntWalk
/- slices.SortFunc at credentials with their bytes beside them, by the bytes: a permutation, rising. -/
namespace Go.Proofs.YtjflmhncgkbdmaaGreat
open Go.RowKit Go.Sort Go.Lib

set_option maxRecDepth 100000 in
theorem pwcmp {D E : Nat → Prop} (x y : WrB) (w : World) (hx : BytesAt D w (.slice x.ao (credBytes x.c).length x.cap) (credBytes x.c)) (hy : BytesAt E w (.slice y.ao (credBytes y.c).length y.cap) (credBytes y.c)) :
    Calls Tryz.prog 68 #[.agg (wrBox x), .agg (wrBox y)] w fun e w' => e = .returned (.int .i64 (cmpC x.c y.c)) ∧ Gr w w' := by
  have hg : Gr w ((w.alloc (.cells (wrBox x) 118)).alloc (.cells (wrBox y) 118)) := ((Gr.refl w).alloc _).alloc _
  have hc := hg.chg (fun _ => False)
  have hcmp := bytes_compare ((w.alloc (.cells (wrBox x) 118)).alloc (.cells (wrBox y) 118)) (hx.keep hc (fun _ _ => id)) (hy.keep hc (fun _ _ => id))
  rw [cmpC_eq] at hcmp
  have HG := hid (And.intro hcmp hg)
  clear hg hc hcmp hx hy
  show Calls Tryz.prog 68 #[.agg #[.int .i64 x.c.kind, .string ⟨x.c.head.1.toArray⟩, .string ⟨x.c.head.2.toArray⟩, .string ⟨x.c.who.toArray⟩, .string ⟨x.c.b.1.toArray⟩, .string ⟨x.c.b.2.toArray⟩, .string ⟨x.c.c.1.toArray⟩, .string ⟨x.c.c.2.toArray⟩, .string ⟨x.c.w2.toArray⟩, .slice x.ao (credBytes x.c).length x.cap], .agg #[.int .i64 y.c.kind, .string ⟨y.c.head.1.toArray⟩, .string ⟨y.c.head.2.toArray⟩, .string ⟨y.c.who.toArray⟩, .string ⟨y.c.b.1.toArray⟩, .string ⟨y.c.b.2.toArray⟩, .string ⟨y.c.c.1.toArray⟩, .string ⟨y.c.c.2.toArray⟩, .string ⟨y.c.w2.toArray⟩, .slice y.ao (credBytes y.c).length y.cap]] w _
  go_enter Tryz.func68, Tryz.ntmps68
  go_wp2_with fail
  refine HG.out.1.mono ?_
  rintro e w' ⟨rfl, rfl⟩
  go_wp2
  go_ret
  exact ⟨rfl, HG.out.2⟩

theorem sub_list {α : Type} {p : α → Prop} : ∀ (ls : List α), (∀ t ∈ ls, p t) → ∃ L : List (Subtype p), L.map (·.1) = ls
  | [], _ => ⟨[], rfl⟩
  | x :: l, h => by
    obtain ⟨L, hL⟩ := sub_list l (fun t ht => h t (List.mem_cons_of_mem _ ht))
    exact ⟨⟨x, h x List.mem_cons_self⟩ :: L, by rw [List.map_cons, hL]⟩

/-- One of the row: its bytes can be read, from another block than the row's. -/
abbrev WrIn (g : Nat) (w : World) : Type := { t : WrB // BytesAt (fun b => b < w.heap.size ∧ b ≠ g) w (.slice t.ao (credBytes t.c).length t.cap) (credBytes t.c) }

instance (g : Nat) (w : World) : Inhabited (WrIn g w) := ⟨⟨⟨noCred, none, 0⟩, by
  have h : credBytes noCred = [] := by decide
  rw [h]
  exact BytesAt.nil _ _⟩⟩

def encW {g : Nat} {w : World} (t : WrIn g w) : List Value := wrCells t.1
def cmpW {g : Nat} {w : World} (x y : WrIn g w) : Int := cmpC x.1.c y.1.c

theorem ltOf_cmpW {g : Nat} {w : World} (x y : WrIn g w) : ltOf cmpW x y = ltS (credBytes x.1.c) (credBytes y.1.c) := by
  unfold ltOf cmpW cmpC
  cases h : ltS (credBytes x.1.c) (credBytes y.1.c) with
  | true => simp
  | false => cases h2 : ltS (credBytes y.1.c) (credBytes x.1.c) <;> simp

theorem swo_cmpW {g : Nat} {w : World} : SWO (ltOf (cmpW (g := g) (w := w))) where
  irrefl x := by rw [ltOf_cmpW]; exact ltS_ord.irrefl _
  trans x y z h1 h2 := by rw [ltOf_cmpW] at *; exact ltS_ord.trans _ _ _ h1 h2
  ntrans x y z h1 h2 := by
    rw [ltOf_cmpW] at *
    generalize credBytes x.1.c = a at *
    generalize credBytes y.1.c = b at *
    generalize credBytes z.1.c = c at *
    cases h3 : ltS a c with
    | false => rfl
    | true =>
      rcases ltS_ord.tri a b with h | h | h
      · rw [h] at h1; cases h1
      · subst h; rw [h3] at h2; cases h2
      · rcases ltS_ord.tri b c with k | k | k
        · rw [k] at h2; cases h2
        · subst k; rw [h3] at h1; cases h1
        · have := ltS_ord.trans _ _ _ (ltS_ord.trans _ _ _ h3 k) h
          rw [ltS_ord.irrefl] at this; cases this

theorem psort_wr {B : Nat} {w : World} {ao : Option Addr} {cap : Nat} {ls : List WrB} (h : OwnW B w (.slice ao ls.length cap) ls) (hr : ReadsW B w (Value.ownBlock (.slice ao ls.length cap)) ls) (hl : ls.length ≤ 4194304) :
    Calls Tryz.prog 67 #[.slice ao ls.length cap, .func (.func 68) #[] #[]] w fun e w' => e = .returned (.tuple #[]) ∧ (∃ ts : List WrB, ts.Perm ls ∧ ((ts.map (·.c)).Pairwise fun x y => ltC y x = false) ∧ OwnW B w' (.slice ao ts.length cap) ts) ∧ (∀ S : Nat → Prop, (∀ k, B ≤ k → S k) → Chg S w w') := by
  have hall := h
  rcases h.2 with ⟨he, h0⟩ | ⟨g, cap', cur, he, hg, hh, h1, h2, h3, h4⟩
  · have : ls = [] := List.eq_nil_of_length_eq_zero h0
    subst this
    cases he
    have hcon := AnyF.slices_SortFunc_none Tryz.sortW none 0 (.func (.func 68) #[] #[]) w
    change Calls Tryz.prog 67 _ _ _ at hcon
    refine hcon.mono ?_
    rintro e w' ⟨rfl, rfl⟩
    exact ⟨rfl, ⟨[], List.Perm.refl _, List.Pairwise.nil, hall⟩, fun S _ => Chg.refl _ _⟩
  · cases he
    have hmk : ∀ t ∈ ls, BytesAt (fun b => b < w.heap.size ∧ b ≠ g) w (.slice t.ao (credBytes t.c).length t.cap) (credBytes t.c) := fun t ht => by
      obtain ⟨_, k2⟩ := hr t ht
      refine k2.mono ?_
      rintro i ⟨_, a, b⟩
      exact ⟨a, fun e => b (by subst e; rfl)⟩
    obtain ⟨L, hLm⟩ : ∃ L : List (WrIn g w), L.map (·.1) = ls :=
      sub_list ls hmk
    have hLl : L.length = ls.length := by rw [← hLm, List.length_map]
    have hk : ∀ x : WrIn g w, (encW x).length = 10 := fun _ => rfl
    have hLf : L.flatMap encW = wrRow ls := by
      rw [← hLm, wrRow, List.flatMap_map]
      rfl
    have hs : L.toArray.size = ls.length := by simp [hLl]
    have hH : HoldsK encW 10 w g 0 L.toArray := by
      intro t ht
      rw [size_flatK, hs] at ht
      refine ⟨?_, by simp [World.frozen?, hh]⟩
      rw [get_flatK _ _ _ _ (by rw [hs]; exact ht)]
      have hj : t / 10 < L.length := by omega
      rw [show L.toArray[t / 10]! = L[t / 10] by simp [hj]]
      have hget := flat_get encW 10 hk L (t / 10) (t % 10) hj (Nat.mod_lt _ (by decide))
      rw [hLf, show t / 10 * 10 + t % 10 = t by omega] at hget
      have hlt : t % 10 < (encW L[t / 10]).length := by rw [hk]; exact Nat.mod_lt _ (by decide)
      rw [List.getElem?_eq_getElem hlt] at hget
      have := hall.cells (g := g) rfl t _ hget
      rw [add_off, Nat.zero_add] at this
      rw [Nat.zero_add, this, getElem!_pos (encW L[t / 10]) (t % 10) hlt]
      rfl
    have eg : ∀ args w, (callFunc 68 args).run Tryz.prog w = .ok (.enter 68 args) w := enters_of Tryz.func68 (by kernel_rfl) rfl
    have hcmp : CmpLays Tryz.prog 68 #[] encW 10 (cmpW (g := g) (w := w)) g 0 L.toArray.size w := by
      intro m os dk _ x y
      have hch : Chg (· = g) w (sortWorldK encW 10 w g 0 m dk os) := chg_putRow (flatK encW 10 dk) (· = g) rfl
      exact pwcmp x.1 y.1 _ (x.2.keep hch (fun i hi => hi.2)) (y.2.keep hch (fun i hi => hi.2))
    have hcon := AnyQ.slices_SortFunc Tryz.sortW 10 Tryz.isAgg118 Tryz.sizeOf118 encW hk (fun x v hv => wr_one x.1 v hv) cmpW swo_cmpW 68 #[] g 0 cap L.toArray w eg hcmp hH (lt_blk hh) (by rw [hs]; omega)
    change Calls Tryz.prog 67 _ _ _ at hcon
    rw [hs] at hcon
    refine hcon.mono ?_
    rintro e w' ⟨rfl, d', n, os, hp, hso, rfl⟩
    have hds : d'.size = ls.length := by rw [hp.1, hs]
    have hHK : HoldsK encW 10 (grow (putRowK encW 10 (Sort.ahead w n) g 0 d') os) g 0 d' :=
      holdsK_grow _ _ _ _ _ _ _ (by show g < (putRow id (Sort.ahead w n) g 0 _).heap.size; simpa [putRow, mapBlock, Sort.ahead] using lt_blk hh) (holdsK_putRowK _ _ _ _ _ L.toArray d' hH (by rw [hds, hs]))
    have hperm : (d'.toList.map (·.1)).Perm ls := by
      have h5 := hp.2.2
      rw [← hds] at h5
      have e1 : d'.extract 0 d'.size = d' := by simp
      have e2 : L.toArray.extract 0 d'.size = L.toArray := by rw [hds, ← hLl]; simp
      rw [e1, e2] at h5
      have := h5.map (·.1)
      rw [show L.toArray.toList = L from rfl, hLm] at this
      exact this
    refine ⟨rfl, ⟨d'.toList.map (·.1), hperm, ?_, ?_⟩, fun S hS => chg_putRow _ S (hS _ hg)⟩
    · rw [List.map_map, List.pairwise_map, List.pairwise_iff_getElem]
      intro i j hi hj hij
      have h5 := hso i j (Nat.zero_le _) hij (by simpa [hds] using hj)
      rw [ltOf_cmpW] at h5
      have hi' : i < d'.size := by simpa using hi
      have hj' : j < d'.size := by simpa using hj
      rw [getElem!_pos d' i hi', getElem!_pos d' j hj'] at h5
      show ltC (d'.toList[j]).1.c (d'.toList[i]).1.c = false
      have hm : ∀ m (hm : m < d'.toList.length), isCred (d'.toList[m]).1.c = true := fun m hm => (hr _ (hperm.mem_iff.1 (List.mem_map.2 ⟨_, List.getElem_mem hm, rfl⟩))).1
      rw [ltC_right (hm j hj) (hm i hi)]
      simpa using h5
    · unfold OwnW
      have hl2 : (d'.toList.map (·.1)).length = ls.length := by simp [hds]
      have hrow : wrRow (d'.toList.map (·.1)) = d'.toList.flatMap encW := by rw [wrRow, List.flatMap_map]; rfl
      refine ⟨by rw [hrow, flat_len encW 10 hk, hl2]; simp [hds], .inr ⟨g, cap, _, rfl, hg, heap_putRow _ hh, by rw [hl2]; exact h1, h2, by simp [putCells, h3], ?_⟩⟩
      apply List.ext_getElem?
      intro i
      rw [List.getElem?_take, hl2, hrow]
      by_cases hi : i < ls.length * 10
      · rw [if_pos hi]
        have hj : i / 10 < d'.size := by omega
        have a := (hHK.cell (i := i / 10) (c := i % 10) hj (Nat.mod_lt _ (by decide))).1
        rw [Nat.zero_add, show i / 10 * 10 + i % 10 = i by omega] at a
        have hb := cell_blk (heap_putRow (n := n) (os := os) (flatK encW 10 d') hh) i
        have hcc := hb.symm.trans a
        have hget := flat_get encW 10 hk d'.toList (i / 10) (i % 10) (by simpa using hj) (Nat.mod_lt _ (by decide))
        rw [show i / 10 * 10 + i % 10 = i by omega] at hget
        rw [Array.getElem?_toList, hcc, hget]
        have hlt : i % 10 < (encW d'.toList[i / 10]).length := by rw [hk]; exact Nat.mod_lt _ (by decide)
        rw [List.getElem?_eq_getElem hlt]
        rw [getElem!_pos d' (i / 10) hj]
        rw [getElem!_pos (encW d'[i / 10]) (i % 10) (by rw [hk]; exact Nat.mod_lt _ (by decide))]
        simp
      · rw [if_neg hi, List.getElem?_eq_none (by rw [flat_len encW 10 hk]; simp [hds]; omega)]
end Go.Proofs.YtjflmhncgkbdmaaGreat

/- Go's == and != at credentials. -/
namespace Go.Proofs.YtjflmhncgkbdmaaGreat
open Go.RowKit

theorem eqC_iff (a b : CredB) : eqC a b = decide (a.kind = b.kind ∧ a.head.1 = b.head.1 ∧ a.head.2 = b.head.2 ∧ a.who = b.who ∧ a.b.1 = b.b.1 ∧ a.b.2 = b.b.2 ∧ a.c.1 = b.c.1 ∧ a.c.2 = b.c.2 ∧ a.w2 = b.w2) := by
  obtain ⟨k, ⟨h1, h2⟩, who, ⟨b1, b2⟩, ⟨c1, c2⟩, w2⟩ := a
  obtain ⟨k', ⟨h1', h2'⟩, who', ⟨b1', b2'⟩, ⟨c1', c2'⟩, w2'⟩ := b
  rw [Bool.eq_iff_iff]
  simp [eqC, and_assoc]

theorem eqC_true {a b : CredB} : eqC a b = true ↔ a = b := by simp [eqC]

theorem run_eqgC (x y : Operand) (a b : CredB) (w : World) : Sem.run Tryz.prog (eqGuard BinOp.eql 35 x y (credV a) (credV b)) w = .ok () w := by
  unfold credV credBox
  go_simp

theorem run_eqlC (a b : CredB) (w : World) : Sem.run Tryz.prog (binOp BinOp.eql 35 (credV a) (credV b)) w = .ok (.bool (eqC a b)) w := by
  rw [eqC_iff]
  unfold credV credBox
  go_simp
  repeat' split
  all_goals simp_all

theorem run_neqgC (x y : Operand) (a b : CredB) (w : World) : Sem.run Tryz.prog (eqGuard BinOp.neq 35 x y (credV a) (credV b)) w = .ok () w := by
  unfold credV credBox
  go_simp

theorem run_neqC (a b : CredB) (w : World) : Sem.run Tryz.prog (binOp BinOp.neq 35 (credV a) (credV b)) w = .ok (.bool (!eqC a b)) w := by
  rw [eqC_iff]
  unfold credV credBox
  go_simp
  repeat' split
  all_goals simp_all
end Go.Proofs.YtjflmhncgkbdmaaGreat

/- clear over a slice of roles. -/
namespace Go.Proofs.YtjflmhncgkbdmaaGreat
open Go.RowKit

/-- 'clear(s)' where every cell of the zero value is one: the cells hold it; nothing else turns. -/
theorem run_clear_all {P : Program} (w : World) (t e ty : TypeId) (z u : Value) (s : Nat) (ht : P.underlying t = some (.slice e)) (hv : ∀ w, (zeroValue e).run P w = .ok z w) (hz : z.cells = Array.replicate s u) (hs : 0 < s) (h1 : u.oneCell' = true) (b o n c : Nat) (hn : 0 < n)
    (hc : ∀ j, j < n * s → (w.cell? ⟨b, o + j, none⟩).isSome = true) (hf : ∀ j, j < n * s → w.frozen? ⟨b, o + j, none⟩ = false) :
    (Builtin.clear_ #[t] ty #[.slice (some ⟨b, o, none⟩) n c]).run P w = .ok (.tuple #[]) (w.setCells b o (List.replicate (n * s) u)) := by
  have hzc : (Builtin.zeroCells z.cells n).toList = List.replicate (n * s) u := by
    rw [hz]
    apply List.ext_getElem
    · simp [Builtin.zeroCells]
    · intro i h1 h2
      simp [Builtin.zeroCells, Nat.mod_lt i hs]
  have hst := run_storeCells_cells (P := P) b o (List.replicate (n * s) u) 0 w (by simpa using hc) (by simpa using hf) (by intro v hv'; rw [List.eq_of_mem_replicate hv']; exact h1)
  simp only [Nat.add_zero] at hst
  obtain ⟨m, rfl⟩ : ∃ m, n = m + 1 := ⟨n - 1, by omega⟩
  simp [Builtin.clear_, run_underlying ht, hv, hzc, hst]
end Go.Proofs.YtjflmhncgkbdmaaGreat

/- slices.Compact at credentials, of a row of the call's own. -/
namespace Go.Proofs.YtjflmhncgkbdmaaGreat
open Go.RowKit Go.Lib Go.Sort

/-- 'clear(s)': the cells hold the zero value's; nothing else turns. -/
theorem run_clear_gen {P : Program} (w : World) (t e ty : TypeId) (z : Value) (zs : List Value) (s : Nat) (ht : P.underlying t = some (.slice e)) (hv : ∀ w, (zeroValue e).run P w = .ok z w) (b o n c : Nat) (hn : 0 < n)
    (hzs : (Builtin.zeroCells z.cells n).toList = zs) (hl : zs.length = n * s) (h1 : ∀ v ∈ zs, v.oneCell' = true)
    (hc : ∀ j, j < n * s → (w.cell? ⟨b, o + j, none⟩).isSome = true) (hf : ∀ j, j < n * s → w.frozen? ⟨b, o + j, none⟩ = false) :
    (Builtin.clear_ #[t] ty #[.slice (some ⟨b, o, none⟩) n c]).run P w = .ok (.tuple #[]) (w.setCells b o zs) := by
  have hst := run_storeCells_cells (P := P) b o zs 0 w (by rw [hl]; simpa using hc) (by rw [hl]; simpa using hf) h1
  simp only [Nat.add_zero] at hst
  obtain ⟨m, rfl⟩ : ∃ m, n = m + 1 := ⟨n - 1, by omega⟩
  simp [Builtin.clear_, run_underlying ht, hv, hzs, hst]

def credZero : List Value := [.int .i64 0, .string ⟨#[]⟩, .string ⟨#[]⟩, .string ⟨#[]⟩, .string ⟨#[]⟩, .string ⟨#[]⟩, .string ⟨#[]⟩, .string ⟨#[]⟩, .string ⟨#[]⟩]

theorem zero_cells (n : Nat) : ((Builtin.zeroCells credZero.toArray n).toList).length = n * 9 ∧ ∀ v ∈ (Builtin.zeroCells credZero.toArray n).toList, v.oneCell' = true := by
  constructor
  · simp [Builtin.zeroCells, credZero]
  · intro v hv
    simp only [Builtin.zeroCells, Array.toList_map, List.mem_map] at hv
    obtain ⟨i, _, rfl⟩ := hv
    have hall : ∀ j : Fin 9, (credZero.toArray[j.val]!).oneCell' = true := by decide
    exact hall ⟨i % 9, Nat.mod_lt _ (by decide)⟩

theorem credCells_len (c : CredB) : (credCells c).length = 9 := rfl

/-- The block g holds the credentials d from its first cell on. -/
structure HoldC (w : World) (g cap : Nat) (d : Array CredB) : Prop where
  blk : ∃ cur, w.heap[g]? = some (.cells cur 35 (0, 0)) ∧ cur.size = cap * 9
  at_ : ∀ j, j < d.size → ∀ i, i < 9 → w.cell? ⟨g, j * 9 + i, none⟩ = (credCells d[j]!)[i]?

theorem HoldC.cred {w : World} {g cap : Nat} {d : Array CredB} (h : HoldC w g cap d) {j : Nat} (hj : j < d.size) : CredAt w g (j * 9) d[j]! := cred_at_cells fun i hi => h.at_ j hj i hi

theorem HoldC.keep {S : Nat → Prop} {w w' : World} {g cap : Nat} {d : Array CredB} (h : HoldC w g cap d) (hc : Chg S w w') (hS : ¬ S g) : HoldC w' g cap d :=
  ⟨by obtain ⟨cur, h1, h2⟩ := h.blk; exact ⟨cur, blk_keep h1 hc hS, h2⟩, fun j hj i hi => by
    have hl : i < (credCells d[j]!).length := hi
    have := h.at_ j hj i hi
    rw [List.getElem?_eq_getElem hl] at this ⊢
    exact hc.cell this hS⟩

theorem HoldC.froz {w : World} {g cap : Nat} {d : Array CredB} (h : HoldC w g cap d) (i : Nat) : w.frozen? ⟨g, i, none⟩ = false := by
  obtain ⟨cur, h1, _⟩ := h.blk
  exact froz_blk h1 i

/-- Nine cells from o on, stored one by one. -/
def putCred (w : World) (g o : Nat) (c : CredB) : World :=
  ((((((((w.setCell ⟨g, o, none⟩ (.int .i64 c.kind)).setCell ⟨g, o + 1, none⟩ (.string ⟨c.head.1.toArray⟩)).setCell ⟨g, o + 2, none⟩ (.string ⟨c.head.2.toArray⟩)).setCell ⟨g, o + 3, none⟩ (.string ⟨c.who.toArray⟩)).setCell ⟨g, o + 4, none⟩ (.string ⟨c.b.1.toArray⟩)).setCell ⟨g, o + 5, none⟩ (.string ⟨c.b.2.toArray⟩)).setCell ⟨g, o + 6, none⟩ (.string ⟨c.c.1.toArray⟩)).setCell ⟨g, o + 7, none⟩ (.string ⟨c.c.2.toArray⟩)).setCell ⟨g, o + 8, none⟩ (.string ⟨c.w2.toArray⟩)

theorem putCred_eq (w : World) (g o : Nat) (c : CredB) : putCred w g o c = w.setCells g o (credCells c) := rfl

theorem blk_setCells {g : Nat} {ty : TypeId} {f : Nat × Nat} : ∀ (xs : List Value) (o : Nat) (w : World) (cur : Array Value), w.heap[g]? = some (.cells cur ty f) → ∃ cur2, (w.setCells g o xs).heap[g]? = some (.cells cur2 ty f) ∧ cur2.size = cur.size
  | [], o, w, cur, h => ⟨cur, h, rfl⟩
  | x :: r, o, w, cur, h => by
    obtain ⟨c2, h1, h2⟩ := blk_setCells r (o + 1) (w.setCell ⟨g, o, none⟩ x) _ (set_blk h o x)
    exact ⟨c2, h1, by rw [h2]; simp⟩

theorem chg_setCells {g : Nat} : ∀ (xs : List Value) (o : Nat) (w : World), Chg (· = g) w (w.setCells g o xs)
  | [], o, w => Chg.refl _ _
  | x :: r, o, w => (setCell_chg w g o x).trans (chg_setCells r (o + 1) _) (fun _ _ h => h)

theorem HoldC.set {w : World} {g cap k : Nat} {d : Array CredB} {u : CredB} (h : HoldC w g cap d) (hk : k < d.size) (hcap : d.size ≤ cap) : HoldC (putCred w g (k * 9) u) g cap (d.setIfInBounds k u) := by
  rw [putCred_eq]
  obtain ⟨cur, h1, h2⟩ := h.blk
  refine ⟨by obtain ⟨c2, a, b⟩ := blk_setCells (credCells u) (k * 9) w cur h1; exact ⟨c2, a, by omega⟩, fun j hj i hi => ?_⟩
  have hj' : j < d.size := by simpa using hj
  by_cases e : j = k
  · subst e
    rw [getElem!_set_same d j u hj', List.getElem?_eq_getElem (by exact hi)]
    refine World.cell?_setCells_in g (credCells u) (j * 9) w (fun m hm => ?_) i hi
    have hm9 : m < 9 := hm
    rw [cell_blk h1, Array.getElem?_eq_getElem (by omega)]; rfl
  · rw [getElem!_set_other d k j u e, World.cell?_setCells_out g (credCells u) (k * 9) w _ (fun _ _ => ?_)]
    · exact h.at_ j hj' i hi
    · show j * 9 + i < k * 9 ∨ k * 9 + 9 ≤ j * 9 + i
      omega

theorem HoldC.aboves {g cap : Nat} {d : Array CredB} (xs : List Value) (o : Nat) (w : World) (h : HoldC w g cap d) (ho : d.size * 9 ≤ o) : HoldC (w.setCells g o xs) g cap d ∧ Chg (· = g) w (w.setCells g o xs) := by
  refine ⟨?_, chg_setCells xs o w⟩
  obtain ⟨cur, h1, h2⟩ := h.blk
  refine ⟨by obtain ⟨c2, a, b⟩ := blk_setCells xs o w cur h1; exact ⟨c2, a, by omega⟩, fun j hj i hi => ?_⟩
  rw [World.cell?_setCells_out g xs o w _ (fun _ _ => .inl (by show j * 9 + i < o; omega))]
  exact h.at_ j hj i hi

theorem HoldC.low {w : World} {g cap : Nat} {d : Array CredB} {c : List CredB} (h : HoldC w g cap d) (hk : c.length ≤ d.size) (hl : ∀ j, j < c.length → d[j]! = c[j]!) : HoldC w g cap c.toArray :=
  ⟨h.blk, fun j hj i hi => by
    have hj' : j < c.length := by simpa using hj
    have := hl j hj'
    rw [h.at_ j (by omega) i hi, this]; simp⟩

def compSpecs1 (g n cap k : Nat) (x y : CredB) : List Spec := [.eq (.slice (some ⟨g, 0, none⟩) n cap), .any, .any, .eq (.int .i64 k), .any, .any, .any, .any, .any, .any, .any, .any, .any, .any, .any, .any, .eq (.slice (some ⟨g, 0, none⟩) n cap), .eq (.int .i64 k), .eq (.pointer (some ⟨g, k * 9, none⟩)), .eq (credV x), .eq (.slice (some ⟨g, 0, none⟩) n cap), .eq (.int .i64 k), .eq (.int .i64 ((k - 1 : Nat) : Int)), .eq (.pointer (some ⟨g, (k - 1) * 9, none⟩)), .eq (credV y), .eq (.bool (eqC x y))]
def compSpecs2 (g n cap k m : Nat) (x y : CredB) : List Spec := [.any, .any, .any, .any, .eq (.slice (some ⟨g, k * 9, none⟩) n cap), .eq (.int .i64 m), .any, .any, .any, .any, .any, .any, .any, .any, .any, .any, .any, .any, .any, .any, .any, .any, .any, .any, .any, .any, .any, .any, .any, .any, .any, .any, .any, .any, .any, .eq (.slice (some ⟨g, k * 9, none⟩) n cap), .eq (.int .i64 m), .eq (.pointer (some ⟨g, k * 9 + m * 9, none⟩)), .eq (credV x), .eq (.slice (some ⟨g, k * 9, none⟩) n cap), .eq (.int .i64 m), .eq (.int .i64 ((m - 1 : Nat) : Int)), .eq (.pointer (some ⟨g, k * 9 + (m - 1) * 9, none⟩)), .eq (credV y), .eq (.bool (!eqC x y))]
end Go.Proofs.YtjflmhncgkbdmaaGreat
