/- Texts that the proof leans on, in one: Wr, PcCmp, PcCompare, RoleSort0, ShelfW, WrSort. -/
import Derived.Test.YtjaplnainlbldaaSc24
import Derived.Test.YtjaplnainlbldaaSc5
import Derived.Maps.AppendAt
import Derived.Test.YtjaplnainlbldaaSc1
import Derived.Test.YtjaplnainlbldaaSc21
import Derived.Lib.Bytealg
import Derived.Test.YtjaplnainlbldaaSc4
import Derived.Shelf.SlSortCmp.WholeK
import Derived.Shelf.SlSortCmp.NoneTotal
import Derived.Ground.SlsfProg
import Derived.Test.YtjaplnainlbldaaProg
/- Credentials with their bytes beside them: lists of the call's own. -/
namespace Go.Proofs.Ytjaplnainlbldaa
open Go.RowKit

/-- A credential with its bytes, in a slice. -/
structure WrB where
  c : CredB
  ao : Option Addr
  cap : Nat
  deriving Inhabited

def wrCells (t : WrB) : List Value :=
  [.int .i64 t.c.kind, .string ⟨t.c.head.1.toArray⟩, .string ⟨t.c.head.2.toArray⟩, .string ⟨t.c.who.toArray⟩, .string ⟨t.c.b.1.toArray⟩, .string ⟨t.c.b.2.toArray⟩, .string ⟨t.c.c.1.toArray⟩, .string ⟨t.c.c.2.toArray⟩, .string ⟨t.c.w2.toArray⟩, .slice t.ao (credBytes t.c).length t.cap]
def wrBox (t : WrB) : Array Value :=
  #[.int .i64 t.c.kind, .string ⟨t.c.head.1.toArray⟩, .string ⟨t.c.head.2.toArray⟩, .string ⟨t.c.who.toArray⟩, .string ⟨t.c.b.1.toArray⟩, .string ⟨t.c.b.2.toArray⟩, .string ⟨t.c.c.1.toArray⟩, .string ⟨t.c.c.2.toArray⟩, .string ⟨t.c.w2.toArray⟩, .slice t.ao (credBytes t.c).length t.cap]
theorem wrCells_len (t : WrB) : (wrCells t).length = 10 := rfl

/-! ### Rows of elements of k cells each. -/

theorem flat_len {α : Type} (enc : α → List Value) (k : Nat) (hk : ∀ x, (enc x).length = k) : ∀ ls : List α, (ls.flatMap enc).length = ls.length * k
  | [] => by simp
  | x :: l => by
    rw [List.flatMap_cons, List.length_append, flat_len enc k hk l, hk, List.length_cons, Nat.add_mul]
    omega

theorem flat_get {α : Type} (enc : α → List Value) (k : Nat) (hk : ∀ x, (enc x).length = k) : ∀ (ls : List α) (i j : Nat) (h : i < ls.length) (_ : j < k), (ls.flatMap enc)[i * k + j]? = (enc ls[i])[j]?
  | x :: l, 0, j, _, hj => by
    rw [Nat.zero_mul, Nat.zero_add, List.flatMap_cons, List.getElem?_append_left (by rw [hk]; exact hj)]
    rfl
  | x :: l, i + 1, j, h, hj => by
    have := flat_get enc k hk l i j (by simpa using h) hj
    rw [List.flatMap_cons, List.getElem?_append_right (by rw [hk, Nat.add_mul]; omega), hk]
    rw [show (i + 1) * k + j - k = i * k + j by rw [Nat.add_mul]; omega]
    exact this

def wrRow (ls : List WrB) : List Value := ls.flatMap wrCells
theorem wrRow_snoc (ls : List WrB) (x : WrB) : wrRow (ls ++ [x]) = wrRow ls ++ wrCells x := by simp [wrRow]

def OwnW (B : Nat) (w : World) (v : Value) (ls : List WrB) : Prop := w.ownsRow B 131 10 v ls.length (wrRow ls)

theorem OwnW.keep {S : Nat → Prop} {B : Nat} {w w' : World} {v : Value} {ls : List WrB} (h : OwnW B w v ls) (hc : Chg S w w') (hr : ∀ k, v.ownBlock = some k → ¬ S k) : OwnW B w' v ls := ownsRow_keep h hc hr

theorem OwnW.shape {B : Nat} {w : World} {v : Value} {ls : List WrB} (h : OwnW B w v ls) : ∃ ao cap, v = .slice ao ls.length cap := by
  rcases h.2 with ⟨rfl, h0⟩ | ⟨g, cap, cur, rfl, _⟩
  · exact ⟨none, 0, by rw [h0]⟩
  · exact ⟨_, _, rfl⟩

theorem Try.info131 : (Try.prog.info? 131).map (fun i => (i.zero, i.size, i.bytes)) = some (some (.agg #[.int .i64 0, .string ⟨#[]⟩, .string ⟨#[]⟩, .string ⟨#[]⟩, .string ⟨#[]⟩, .string ⟨#[]⟩, .string ⟨#[]⟩, .string ⟨#[]⟩, .string ⟨#[]⟩, .slice none 0 0]), 10, 160) := by kernel_rfl

theorem wr_cells_new (w : World) (x : WrB) (j : Nat) (u : Value) (h : (wrCells x)[j]? = some u) : (w.alloc (.cells (wrBox x) 131)).cell? ((⟨w.heap.size, 0, none⟩ : Addr).add j) = some u := by
  rw [add_off, cell_blk (heap_alloc_new w _), Nat.zero_add, show wrBox x = (wrCells x).toArray from rfl, List.getElem?_toArray]
  exact h

theorem wr_one (x : WrB) : ∀ u ∈ wrCells x, u.oneCell' = true := by
  intro u hu
  simp only [wrCells, List.mem_cons, List.not_mem_nil, or_false] at hu
  rcases hu with rfl | rfl | rfl | rfl | rfl | rfl | rfl | rfl | rfl | rfl <;> rfl

/-- The bytes beside each can be read, from blocks that came up from lo on, other than the block ob. -/
def ReadsW (lo : Nat) (w : World) (ob : Option Nat) (ls : List WrB) : Prop :=
  ∀ t, t ∈ ls → isCred t.c = true ∧ BytesAt (fun b => lo ≤ b ∧ b < w.heap.size ∧ some b ≠ ob) w (.slice t.ao (credBytes t.c).length t.cap) (credBytes t.c)

theorem ReadsW.keep {lo : Nat} {w w' : World} {ob : Option Nat} {ls : List WrB} {S : Nat → Prop} (h : ReadsW lo w ob ls) (hc : Chg S w w') (hS : ∀ k, S k → k < w.heap.size → lo ≤ k → some k = ob) : ReadsW lo w' ob ls := fun t ht => by
  obtain ⟨h1, h2⟩ := h t ht
  refine ⟨h1, (h2.keep hc ?_).mono ?_⟩
  · rintro i ⟨a, b, c⟩ hs
    exact c (hS i hs b a)
  · rintro i ⟨a, b, c⟩
    exact ⟨a, Nat.lt_of_lt_of_le b hc.size, c⟩

theorem ReadsW.off {lo : Nat} {w : World} {ob ob' : Option Nat} {ls : List WrB} (h : ReadsW lo w ob ls) (hob : ob' = ob ∨ ∃ n, ob' = some n ∧ w.heap.size ≤ n) : ReadsW lo w ob' ls := fun t ht => by
  obtain ⟨h1, h2⟩ := h t ht
  refine ⟨h1, h2.mono ?_⟩
  rintro i ⟨a, b, c⟩
  refine ⟨a, b, fun e => ?_⟩
  rcases hob with rfl | ⟨n, rfl, hn⟩
  · exact c e
  · cases e; omega

theorem ReadsW.snoc {lo : Nat} {w : World} {ob : Option Nat} {ls : List WrB} {x : WrB} (h : ReadsW lo w ob ls) (hc : isCred x.c = true) (hb : BytesAt (fun b => lo ≤ b ∧ b < w.heap.size ∧ some b ≠ ob) w (.slice x.ao (credBytes x.c).length x.cap) (credBytes x.c)) : ReadsW lo w ob (ls ++ [x]) := fun t ht => by
  rcases List.mem_append.1 ht with h1 | h1
  · exact h t h1
  · rw [List.mem_singleton] at h1; subst h1; exact ⟨hc, hb⟩

theorem ReadsW.nil (lo : Nat) (w : World) (ob : Option Nat) : ReadsW lo w ob [] := fun t ht => by cases ht

theorem BytesAt.both {D E : Nat → Prop} {w : World} {v : Value} {l : List UInt8} (h : BytesAt D w v l) (k : BytesAt E w v l) : BytesAt (fun i => D i ∧ E i) w v l := by
  rcases h with h | ⟨b, off, cap, e1, e2, e3, e4, e5⟩
  · exact .inl h
  · rcases k with k | ⟨b', off', cap', f1, f2, f3, f4, f5⟩
    · exact .inl k
    · rw [e1] at f1
      cases f1
      exact .inr ⟨b, off, cap, e1, e2, e3, ⟨e4, f4⟩, e5⟩

/-- What an append of one leaves, in the words of the walk of Set. -/
theorem wr_grown {lo : Nat} {w w2 : World} {v v' : Value} {ls : List WrB} {x : WrB} (hown : w2.ownsRow lo 131 10 v' (ls.length + 1) (wrRow ls ++ wrCells x)) (hgrow : w.grownBy w2 v.ownBlock) (hat : v'.ownBlock = v.ownBlock ∨ v'.ownBlock = some w.heap.size)
    (hr : ReadsW lo w v.ownBlock ls) (hx : isCred x.c = true) (hb : BytesAt (fun b => lo ≤ b ∧ b < w.heap.size ∧ some b ≠ v.ownBlock) w (.slice x.ao (credBytes x.c).length x.cap) (credBytes x.c)) :
    OwnW lo w2 v' (ls ++ [x]) ∧ ReadsW lo w2 v'.ownBlock (ls ++ [x]) := by
  refine ⟨?_, ?_⟩
  · unfold OwnW
    rw [wrRow_snoc, List.length_append, List.length_singleton]
    exact hown
  · have h1 := hr.snoc hx hb
    have hc : Chg (fun k => some k = v.ownBlock) w w2 := (Chg.refl _ w).grown hgrow (fun k e _ => e.symm)
    have h2 : ReadsW lo w v'.ownBlock (ls ++ [x]) := h1.off (by
      rcases hat with e | e
      · exact .inl e
      · exact .inr ⟨_, e, Nat.le_refl _⟩)
    intro t ht
    obtain ⟨k1, k2⟩ := h1 t ht
    obtain ⟨_, k3⟩ := h2 t ht
    refine ⟨k1, ((k2.both k3).keep hc (fun i hi e => hi.1.2.2 e)).mono ?_⟩
    rintro i ⟨_, f1, f2, f3⟩
    exact ⟨f1, Nat.lt_of_lt_of_le f2 hc.size, f3⟩
end Go.Proofs.Ytjaplnainlbldaa

/- bytes.Compare at two slices that can be read. -/
namespace Go.Proofs.Ytjaplnainlbldaa
open Go.RowKit

theorem run_loadBytes {P : Program} (b off : Nat) (w : World) : ∀ (l : List UInt8) (k : Nat) (acc : List UInt8), (∀ i (h : i < l.length), w.cell? ⟨b, off + k + i, none⟩ = some (.int .u8 (l[i].toNat : Int))) →
    (Extern.Bytes.loadBytes ⟨b, off + k, none⟩ l.length ⟨acc.toArray⟩).run P w = .ok ⟨(acc ++ l).toArray⟩ w
  | [], k, acc, _ => by
    rw [List.append_nil]
    rfl
  | x :: l, k, acc, h => by
    have h0 := h 0 (by simp)
    simp only [Nat.add_zero, List.getElem_cons_zero] at h0
    have ih := run_loadBytes (P := P) b off w l (k + 1) (acc ++ [x]) (fun i hi => by
      have := h (i + 1) (by simpa using hi)
      rw [show off + (k + 1) + i = off + k + (i + 1) by omega]
      simpa using this)
    show Sem.run P (do match ← load ⟨b, off + k, none⟩ with
      | .int .u8 y => Extern.Bytes.loadBytes ((⟨b, off + k, none⟩ : Addr).add 1) l.length ((⟨acc.toArray⟩ : ByteArray).push y.toNat.toUInt8)
      | _ => stuck "loadBytes: a byte expected") w = _
    rw [Sem.run_bind, _root_.Go.run_load, h0]
    simp only [Result.andThen]
    have e1 : ((⟨acc.toArray⟩ : ByteArray).push ((x.toNat : Int).toNat.toUInt8)) = ⟨(acc ++ [x]).toArray⟩ := by
      have : ((x.toNat : Int).toNat.toUInt8) = x := by simp
      rw [this]
      simp [ByteArray.push]
    rw [e1, show ((⟨b, off + k, none⟩ : Addr).add 1) = ⟨b, off + (k + 1), none⟩ from rfl, ih]
    simp

theorem run_bytesOf {P : Program} {D : Nat → Prop} {w : World} {v : Value} {l : List UInt8} (h : BytesAt D w v l) : (Extern.Bytes.bytesOf v).run P w = .ok ⟨l.toArray⟩ w := by
  rcases h with ⟨ao, cp, rfl, rfl, _⟩ | ⟨b, off, cap, rfl, _, _, _, hc⟩
  · cases ao <;> rfl
  · have := run_loadBytes (P := P) b off w l 0 [] (fun i hi => by rw [Nat.add_zero]; exact hc i hi)
    rw [Nat.add_zero, List.nil_append] at this
    exact this

theorem run_compareSlices {P : Program} {D E : Nat → Prop} {w : World} {u v : Value} {a b : List UInt8} (ha : BytesAt D w u a) (hb : BytesAt E w v b) :
    (Extern.BytealgCompare.compare #[u, v]).run P w = .ok (.int .i64 (Lib.compareBytes a b)) w := by
  change Sem.run P (do pure (goInt (Extern.BytealgCompare.cmp (← Extern.Bytes.bytesOf u) (← Extern.Bytes.bytesOf v)))) w = _
  rw [Sem.run_bind, run_bytesOf ha]
  simp only [Result.andThen]
  rw [Sem.run_bind, run_bytesOf hb]
  simp only [Result.andThen, Sem.run_pure]
  rw [Lib.cmp_eq]
  rfl

set_option maxRecDepth 100000 in
theorem bytes_compare {D E : Nat → Prop} {u v : Value} {a b : List UInt8} (w : World) (ha : BytesAt D w u a) (hb : BytesAt E w v b) :
    Calls Try.prog 69 #[u, v] w fun e w' => e = .returned (.int .i64 (Lib.compareBytes a b)) ∧ w = w' := by
  have hrun := run_compareSlices (P := Try.prog) ha hb
  have HR := hid hrun
  clear hrun ha hb
  go_enter Try.func69, Try.ntmps69
  go_wp2
  rw [run_callFunc_extern Try.func100 (by kernel_rfl) (by kernel_rfl) (by kernel_rfl) (e := Extern.BytealgCompare.compare) (by kernel_rfl), HR.out]
  simp only [Result.andThen]
  rw [Oper.upon_value]
  go_wp2
  go_ret
  exact ⟨rfl, rfl⟩
end Go.Proofs.Ytjaplnainlbldaa

/- cred.Compare: the program's contract. -/
namespace Go.Proofs.Ytjaplnainlbldaa
open Go.RowKit

theorem cmpC_eq (a b : CredB) : Lib.compareBytes (credBytes a) (credBytes b) = cmpC a b := by rw [cmpB_eq]; rfl

end Go.Proofs.Ytjaplnainlbldaa

/- A row that a sort has put in order: what its block holds, and that nothing else has turned. -/
namespace Go.Proofs.Ytjaplnainlbldaa
open Go.RowKit Go.Sort Go.Lib
theorem heap_putRow {w : World} {g n : Nat} {os : Array Obj} {cur : Array Value} {e : TypeId} {fr : Nat × Nat} (F : Array Value) (hb : w.heap[g]? = some (.cells cur e fr)) :
    (grow (putRow id (Sort.ahead w n) g 0 F) os).heap[g]? = some (.cells (putCells id 0 F cur) e fr) := by
  have hg : g < w.heap.size := (Array.getElem?_eq_some_iff.1 hb).1
  rw [heap_grow_old _ _ (by simpa using hg)]
  simp [putRow, mapBlock, Sort.ahead, Array.getElem?_modify, hb, onCells]

theorem chg_putRow {w : World} {g n : Nat} {os : Array Obj} (F : Array Value) (S : Nat → Prop) (hS : S g) : Chg S w (grow (putRow id (Sort.ahead w n) g 0 F) os) := by
  refine ⟨rfl, rfl, rfl, by simp, fun k hk hs => ?_⟩
  rw [heap_grow_old _ _ (by simpa using hk)]
  have : g ≠ k := fun e => hs (e ▸ hS)
  simp [putRow, mapBlock, Sort.ahead, Array.getElem?_modify, this]

end Go.Proofs.Ytjaplnainlbldaa

/-
  DERIVED: THE SHELF's CONTRACTS AT THIS DUMP, IN PLAIN WORDS (tools/lay-plain.mjs out of 'TryShelfW.lean', which tools/lay-shelf.mjs wrote): THE SAME DECLARATIONS UNDER THE SAME NAMES: 'import', 'namespace', 'open', 'def', 'theorem' AND NOTHING ELSE: no command of the shelf's: FOR A HAND-IN. Each laying: the table of numbers ('.._ren') and one theorem, a field a fact of the dump's own or the kernel's comparison; each contract: ONE APPLICATION.
-/
namespace Go.Proofs
open Go.Shelf
def Try.sortW_ren : Go.Shelf.Ren := ⟨fun | 6 => 75 | 15 => 107 | 14 => 106 | 28 => 133 | 29 => 134 | 20 => 125 | 21 => 126 | 22 => 127 | 23 => 128 | 24 => 129 | 25 => 130 | 26 => 131 | 27 => 132 | 46 => 146 | 47 => 147 | 48 => 148 | 49 => 149 | 50 => 150 | 57 => 160 | n => n, fun | 22 => 128 | 24 => 131 | 25 => 133 | 3 => 3 | 39 => 172 | 0 => 0 | 53 => 197 | 55 => 199 | 4 => 4 | 46 => 191 | 45 => 190 | 50 => 81 | 5 => 5 | 9 => 9 | 66 => 209 | 70 => 118 | 76 => 219 | 77 => 38 | n => n, fun | n => n⟩
theorem Try.sortW : Go.Proofs.SlLaysF0.n6 Try.prog Try.sortW_ren := {
  mixed := by kernel_rfl
  f6 := ⟨Try.f75.name, by decide, Try.func75.trans (congrArg some (by kernel_rfl))⟩
  f14 := ⟨Try.f106.name, by decide, Try.func106.trans (congrArg some (by kernel_rfl))⟩
  f15 := Try.func107.trans (congrArg some (by kernel_rfl))
  f20 := ⟨Try.f125.name, by decide, Try.func125.trans (congrArg some (by kernel_rfl))⟩
  f21 := ⟨Try.f126.name, by decide, Try.func126.trans (congrArg some (by kernel_rfl))⟩
  f22 := ⟨Try.f127.name, by decide, Try.func127.trans (congrArg some (by kernel_rfl))⟩
  f23 := ⟨Try.f128.name, by decide, Try.func128.trans (congrArg some (by kernel_rfl))⟩
  f24 := ⟨Try.f129.name, by decide, Try.func129.trans (congrArg some (by kernel_rfl))⟩
  f25 := ⟨Try.f130.name, by decide, Try.func130.trans (congrArg some (by kernel_rfl))⟩
  f26 := ⟨Try.f131.name, by decide, Try.func131.trans (congrArg some (by kernel_rfl))⟩
  f27 := ⟨Try.f132.name, by decide, Try.func132.trans (congrArg some (by kernel_rfl))⟩
  f28 := Try.func133.trans (congrArg some (by kernel_rfl))
  f29 := Try.func134.trans (congrArg some (by kernel_rfl))
  f46 := ⟨Try.f146.name, by decide, Try.func146.trans (congrArg some (by kernel_rfl))⟩
  f47 := Try.func147.trans (congrArg some (by kernel_rfl))
  f48 := Try.func148.trans (congrArg some (by kernel_rfl))
  f49 := ⟨Try.f149.name, by decide, Try.func149.trans (congrArg some (by kernel_rfl))⟩
  f50 := ⟨Try.f150.name, by decide, Try.func150.trans (congrArg some (by kernel_rfl))⟩
  f57 := ⟨Try.f160.name, by decide, Try.func160.trans (congrArg some (by kernel_rfl))⟩
  t0 := Try.underlying0
  a0 := Try.isAgg0
  z0 := Try.sizeOf0
  v0 := Try.zeroValue0
  t3 := Try.underlying3
  a3 := Try.isAgg3
  z3 := Try.sizeOf3
  v3 := Try.zeroValue3
  t4 := Try.underlying4
  a4 := Try.isAgg4
  z4 := Try.sizeOf4
  v4 := Try.zeroValue4
  t5 := Try.underlying5
  a5 := Try.isAgg5
  z5 := Try.sizeOf5
  v5 := Try.zeroValue5
  t9 := Try.underlying9
  a9 := Try.isAgg9
  z9 := Try.sizeOf9
  v9 := Try.zeroValue9
  t22 := Try.underlying128
  a22 := Try.isAgg128
  z22 := Try.sizeOf128
  v22 := Try.zeroValue128
  t25 := Try.underlying133
  a25 := Try.isAgg133
  z25 := Try.sizeOf133
  v25 := Try.zeroValue133
  t39 := Try.underlying172
  a39 := Try.isAgg172
  z39 := Try.sizeOf172
  v39 := Try.zeroValue172
  t45 := Try.underlying190
  a45 := Try.isAgg190
  z45 := Try.sizeOf190
  v45 := Try.zeroValue190
  t46 := Try.underlying191
  a46 := Try.isAgg191
  z46 := Try.sizeOf191
  v46 := Try.zeroValue191
  t50 := Try.underlying81
  a50 := Try.isAgg81
  z50 := Try.sizeOf81
  v50 := Try.zeroValue81
  t53 := Try.underlying197
  a53 := Try.isAgg197
  z53 := Try.sizeOf197
  v53 := Try.zeroValue197
  t55 := Try.underlying199
  a55 := Try.isAgg199
  z55 := Try.sizeOf199
  v55 := Try.zeroValue199
  t66 := Try.underlying209
  a66 := Try.isAgg209
  z66 := Try.sizeOf209
  v66 := Try.zeroValue209
  t70 := Try.underlying118
  a70 := Try.isAgg118
  z70 := Try.sizeOf118
  v70 := Try.zeroValue118
  t76 := Try.underlying219
  a76 := Try.isAgg219
  z76 := Try.sizeOf219
  v76 := Try.zeroValue219
  t77 := Try.underlying38
  a77 := Try.isAgg38
  z77 := Try.sizeOf38
  v77 := Try.zeroValue38 }
end Go.Proofs

/- slices.SortFunc at credentials with their bytes beside them, by the bytes: a permutation, rising. -/
namespace Go.Proofs.Ytjaplnainlbldaa
open Go.RowKit Go.Sort Go.Lib

set_option maxRecDepth 100000 in
theorem pwcmp {D E : Nat → Prop} (x y : WrB) (w : World) (hx : BytesAt D w (.slice x.ao (credBytes x.c).length x.cap) (credBytes x.c)) (hy : BytesAt E w (.slice y.ao (credBytes y.c).length y.cap) (credBytes y.c)) :
    Calls Try.prog 76 #[.agg (wrBox x), .agg (wrBox y)] w fun e w' => e = .returned (.int .i64 (cmpC x.c y.c)) ∧ Gr w w' := by
  have hg : Gr w ((w.alloc (.cells (wrBox x) 131)).alloc (.cells (wrBox y) 131)) := ((Gr.refl w).alloc _).alloc _
  have hc := hg.chg (fun _ => False)
  have hcmp := bytes_compare ((w.alloc (.cells (wrBox x) 131)).alloc (.cells (wrBox y) 131)) (hx.keep hc (fun _ _ => id)) (hy.keep hc (fun _ _ => id))
  rw [cmpC_eq] at hcmp
  have HG := hid (And.intro hcmp hg)
  clear hg hc hcmp hx hy
  show Calls Try.prog 76 #[.agg #[.int .i64 x.c.kind, .string ⟨x.c.head.1.toArray⟩, .string ⟨x.c.head.2.toArray⟩, .string ⟨x.c.who.toArray⟩, .string ⟨x.c.b.1.toArray⟩, .string ⟨x.c.b.2.toArray⟩, .string ⟨x.c.c.1.toArray⟩, .string ⟨x.c.c.2.toArray⟩, .string ⟨x.c.w2.toArray⟩, .slice x.ao (credBytes x.c).length x.cap], .agg #[.int .i64 y.c.kind, .string ⟨y.c.head.1.toArray⟩, .string ⟨y.c.head.2.toArray⟩, .string ⟨y.c.who.toArray⟩, .string ⟨y.c.b.1.toArray⟩, .string ⟨y.c.b.2.toArray⟩, .string ⟨y.c.c.1.toArray⟩, .string ⟨y.c.c.2.toArray⟩, .string ⟨y.c.w2.toArray⟩, .slice y.ao (credBytes y.c).length y.cap]] w _
  go_enter Try.func76, Try.ntmps76
  go_wp2_with fail
  refine HG.out.1.mono ?_
  rintro e w' ⟨rfl, rfl⟩
  go_wp2
  go_ret
  exact ⟨rfl, HG.out.2⟩

theorem sub_list {α : Type} {p : α → Prop} : ∀ (ls : List α), (∀ t ∈ ls, p t) → ∃ L : List (Subtype p), L.map (·.1) = ls
  | [], _ => ⟨[], rfl⟩
  | x :: l, h => by
    obtain ⟨L, hL⟩ := sub_list l (fun t ht => h t (List.mem_cons_of_mem _ ht))
    exact ⟨⟨x, h x List.mem_cons_self⟩ :: L, by rw [List.map_cons, hL]⟩

/-- One of the row: its bytes can be read, from another block than the row's. -/
abbrev WrIn (g : Nat) (w : World) : Type := { t : WrB // BytesAt (fun b => b < w.heap.size ∧ b ≠ g) w (.slice t.ao (credBytes t.c).length t.cap) (credBytes t.c) }

instance (g : Nat) (w : World) : Inhabited (WrIn g w) := ⟨⟨⟨noCred, none, 0⟩, by
  have h : credBytes noCred = [] := by decide
  rw [h]
  exact BytesAt.nil _ _⟩⟩

def encW {g : Nat} {w : World} (t : WrIn g w) : List Value := wrCells t.1
def cmpW {g : Nat} {w : World} (x y : WrIn g w) : Int := cmpC x.1.c y.1.c

theorem ltOf_cmpW {g : Nat} {w : World} (x y : WrIn g w) : ltOf cmpW x y = ltS (credBytes x.1.c) (credBytes y.1.c) := by
  unfold ltOf cmpW cmpC
  cases h : ltS (credBytes x.1.c) (credBytes y.1.c) with
  | true => simp
  | false => cases h2 : ltS (credBytes y.1.c) (credBytes x.1.c) <;> simp

theorem swo_cmpW {g : Nat} {w : World} : SWO (ltOf (cmpW (g := g) (w := w))) where
  irrefl x := by rw [ltOf_cmpW]; exact ltS_ord.irrefl _
  trans x y z h1 h2 := by rw [ltOf_cmpW] at *; exact ltS_ord.trans _ _ _ h1 h2
  ntrans x y z h1 h2 := by
    rw [ltOf_cmpW] at *
    generalize credBytes x.1.c = a at *
    generalize credBytes y.1.c = b at *
    generalize credBytes z.1.c = c at *
    cases h3 : ltS a c with
    | false => rfl
    | true =>
      rcases ltS_ord.tri a b with h | h | h
      · rw [h] at h1; cases h1
      · subst h; rw [h3] at h2; cases h2
      · rcases ltS_ord.tri b c with k | k | k
        · rw [k] at h2; cases h2
        · subst k; rw [h3] at h1; cases h1
        · have := ltS_ord.trans _ _ _ (ltS_ord.trans _ _ _ h3 k) h
          rw [ltS_ord.irrefl] at this; cases this

theorem psort_wr {B : Nat} {w : World} {ao : Option Addr} {cap : Nat} {ls : List WrB} (h : OwnW B w (.slice ao ls.length cap) ls) (hr : ReadsW B w (Value.ownBlock (.slice ao ls.length cap)) ls) (hl : ls.length ≤ 4194304) :
    Calls Try.prog 75 #[.slice ao ls.length cap, .func (.func 76) #[] #[]] w fun e w' => e = .returned (.tuple #[]) ∧ (∃ ts : List WrB, ts.Perm ls ∧ ((ts.map (·.c)).Pairwise fun x y => ltC y x = false) ∧ OwnW B w' (.slice ao ts.length cap) ts) ∧ (∀ S : Nat → Prop, (∀ k, B ≤ k → S k) → Chg S w w') := by
  have hall := h
  rcases h.2 with ⟨he, h0⟩ | ⟨g, cap', cur, he, hg, hh, h1, h2, h3, h4⟩
  · have : ls = [] := List.eq_nil_of_length_eq_zero h0
    subst this
    cases he
    have hcon := AnyF.slices_SortFunc_none Try.sortW none 0 (.func (.func 76) #[] #[]) w
    change Calls Try.prog 75 _ _ _ at hcon
    refine hcon.mono ?_
    rintro e w' ⟨rfl, rfl⟩
    exact ⟨rfl, ⟨[], List.Perm.refl _, List.Pairwise.nil, hall⟩, fun S _ => Chg.refl _ _⟩
  · cases he
    have hmk : ∀ t ∈ ls, BytesAt (fun b => b < w.heap.size ∧ b ≠ g) w (.slice t.ao (credBytes t.c).length t.cap) (credBytes t.c) := fun t ht => by
      obtain ⟨_, k2⟩ := hr t ht
      refine k2.mono ?_
      rintro i ⟨_, a, b⟩
      exact ⟨a, fun e => b (by subst e; rfl)⟩
    obtain ⟨L, hLm⟩ : ∃ L : List (WrIn g w), L.map (·.1) = ls :=
      sub_list ls hmk
    have hLl : L.length = ls.length := by rw [← hLm, List.length_map]
    have hk : ∀ x : WrIn g w, (encW x).length = 10 := fun _ => rfl
    have hLf : L.flatMap encW = wrRow ls := by
      rw [← hLm, wrRow, List.flatMap_map]
      rfl
    have hs : L.toArray.size = ls.length := by simp [hLl]
    have hH : HoldsK encW 10 w g 0 L.toArray := by
      intro t ht
      rw [size_flatK, hs] at ht
      refine ⟨?_, by simp [World.frozen?, hh]⟩
      rw [get_flatK _ _ _ _ (by rw [hs]; exact ht)]
      have hj : t / 10 < L.length := by omega
      rw [show L.toArray[t / 10]! = L[t / 10] by simp [hj]]
      have hget := flat_get encW 10 hk L (t / 10) (t % 10) hj (Nat.mod_lt _ (by decide))
      rw [hLf, show t / 10 * 10 + t % 10 = t by omega] at hget
      have hlt : t % 10 < (encW L[t / 10]).length := by rw [hk]; exact Nat.mod_lt _ (by decide)
      rw [List.getElem?_eq_getElem hlt] at hget
      have := hall.cells (g := g) rfl t _ hget
      rw [add_off, Nat.zero_add] at this
      rw [Nat.zero_add, this, getElem!_pos (encW L[t / 10]) (t % 10) hlt]
      rfl
    have eg : ∀ args w, (callFunc 76 args).run Try.prog w = .ok (.enter 76 args) w := enters_of Try.func76 (by kernel_rfl) rfl
    have hcmp : CmpLays Try.prog 76 #[] encW 10 (cmpW (g := g) (w := w)) g 0 L.toArray.size w := by
      intro m os dk _ x y
      have hch : Chg (· = g) w (sortWorldK encW 10 w g 0 m dk os) := chg_putRow (flatK encW 10 dk) (· = g) rfl
      exact pwcmp x.1 y.1 _ (x.2.keep hch (fun i hi => hi.2)) (y.2.keep hch (fun i hi => hi.2))
    have hcon := AnyQ.slices_SortFunc Try.sortW 10 Try.isAgg131 Try.sizeOf131 encW hk (fun x v hv => wr_one x.1 v hv) cmpW swo_cmpW 76 #[] g 0 cap L.toArray w eg hcmp hH (lt_blk hh) (by rw [hs]; omega)
    change Calls Try.prog 75 _ _ _ at hcon
    rw [hs] at hcon
    refine hcon.mono ?_
    rintro e w' ⟨rfl, d', n, os, hp, hso, rfl⟩
    have hds : d'.size = ls.length := by rw [hp.1, hs]
    have hHK : HoldsK encW 10 (grow (putRowK encW 10 (Sort.ahead w n) g 0 d') os) g 0 d' :=
      holdsK_grow _ _ _ _ _ _ _ (by show g < (putRow id (Sort.ahead w n) g 0 _).heap.size; simpa [putRow, mapBlock, Sort.ahead] using lt_blk hh) (holdsK_putRowK _ _ _ _ _ L.toArray d' hH (by rw [hds, hs]))
    have hperm : (d'.toList.map (·.1)).Perm ls := by
      have h5 := hp.2.2
      rw [← hds] at h5
      have e1 : d'.extract 0 d'.size = d' := by simp
      have e2 : L.toArray.extract 0 d'.size = L.toArray := by rw [hds, ← hLl]; simp
      rw [e1, e2] at h5
      have := h5.map (·.1)
      rw [show L.toArray.toList = L from rfl, hLm] at this
      exact this
    refine ⟨rfl, ⟨d'.toList.map (·.1), hperm, ?_, ?_⟩, fun S hS => chg_putRow _ S (hS _ hg)⟩
    · rw [List.map_map, List.pairwise_map, List.pairwise_iff_getElem]
      intro i j hi hj hij
      have h5 := hso i j (Nat.zero_le _) hij (by simpa [hds] using hj)
      rw [ltOf_cmpW] at h5
      have hi' : i < d'.size := by simpa using hi
      have hj' : j < d'.size := by simpa using hj
      rw [getElem!_pos d' i hi', getElem!_pos d' j hj'] at h5
      show ltC (d'.toList[j]).1.c (d'.toList[i]).1.c = false
      have hm : ∀ m (hm : m < d'.toList.length), isCred (d'.toList[m]).1.c = true := fun m hm => (hr _ (hperm.mem_iff.1 (List.mem_map.2 ⟨_, List.getElem_mem hm, rfl⟩))).1
      rw [ltC_right (hm j hj) (hm i hi)]
      simpa using h5
    · unfold OwnW
      have hl2 : (d'.toList.map (·.1)).length = ls.length := by simp [hds]
      have hrow : wrRow (d'.toList.map (·.1)) = d'.toList.flatMap encW := by rw [wrRow, List.flatMap_map]; rfl
      refine ⟨by rw [hrow, flat_len encW 10 hk, hl2]; simp [hds], .inr ⟨g, cap, _, rfl, hg, heap_putRow _ hh, by rw [hl2]; exact h1, h2, by simp [putCells, h3], ?_⟩⟩
      apply List.ext_getElem?
      intro i
      rw [List.getElem?_take, hl2, hrow]
      by_cases hi : i < ls.length * 10
      · rw [if_pos hi]
        have hj : i / 10 < d'.size := by omega
        have a := (hHK.cell (i := i / 10) (c := i % 10) hj (Nat.mod_lt _ (by decide))).1
        rw [Nat.zero_add, show i / 10 * 10 + i % 10 = i by omega] at a
        have hb := cell_blk (heap_putRow (n := n) (os := os) (flatK encW 10 d') hh) i
        have hcc := hb.symm.trans a
        have hget := flat_get encW 10 hk d'.toList (i / 10) (i % 10) (by simpa using hj) (Nat.mod_lt _ (by decide))
        rw [show i / 10 * 10 + i % 10 = i by omega] at hget
        rw [Array.getElem?_toList, hcc, hget]
        have hlt : i % 10 < (encW d'.toList[i / 10]).length := by rw [hk]; exact Nat.mod_lt _ (by decide)
        rw [List.getElem?_eq_getElem hlt]
        rw [getElem!_pos d' (i / 10) hj]
        rw [getElem!_pos (encW d'[i / 10]) (i % 10) (by rw [hk]; exact Nat.mod_lt _ (by decide))]
        simp
      · rw [if_neg hi, List.getElem?_eq_none (by rw [flat_len encW 10 hk]; simp [hds]; omega)]
end Go.Proofs.Ytjaplnainlbldaa
