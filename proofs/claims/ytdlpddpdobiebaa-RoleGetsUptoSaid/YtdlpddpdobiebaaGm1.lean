/- Texts that the proof leans on, in one: Mem, NameMath, Strs, Row, Conv, RefRight, Math. -/
import Derived.WalkKit
import Derived.WalkSpells
import Derived.WalkLawsBesides
import Derived.Maps.AppendAt
import Derived.Test.YtdlpddpdobiebaaRows
import Derived.Lib.SlBytesConst
/- What the walks say of memory: bytes that can be read; which blocks a call may have turned. Nothing of the program's text. -/
namespace Go.Proofs.Ytdlpddpdobiebaa
open Go.RowKit

theorem ofNat_u8 (n : Nat) (h : n < 256) : (UInt8.ofNat n).toNat = n := by
  rw [UInt8.toNat_ofNat']
  exact Nat.mod_eq_of_lt h

theorem hid {p : Prop} (h : p) : Hid p := h

/-- A byte's cell. -/
def cb (x : UInt8) : Value := .int .u8 (x.toNat : Int)

/-- w' is w with new blocks, and with writes to the blocks of S alone. -/
structure Chg (S : Nat → Prop) (w w' : World) : Prop where
  os : w'.os = w.os
  tape : w'.tape = w.tape
  output : w'.output = w.output
  size : w.heap.size ≤ w'.heap.size
  block : ∀ k, k < w.heap.size → ¬ S k → w'.heap[k]? = w.heap[k]?

theorem Chg.refl (S : Nat → Prop) (w : World) : Chg S w w := ⟨rfl, rfl, rfl, Nat.le_refl _, fun _ _ _ => rfl⟩

theorem Chg.trans {S T : Nat → Prop} {a b c : World} (h : Chg S a b) (k : Chg T b c) (hT : ∀ i, i < a.heap.size → T i → S i) : Chg S a c :=
  ⟨k.os.trans h.os, k.tape.trans h.tape, k.output.trans h.output, Nat.le_trans h.size k.size, fun i hi hs =>
    (k.block i (Nat.lt_of_lt_of_le hi h.size) (fun ht => hs (hT i hi ht))).trans (h.block i hi hs)⟩

theorem Chg.mono {S T : Nat → Prop} {a b : World} (h : Chg S a b) (hT : ∀ i, i < a.heap.size → S i → T i) : Chg T a b :=
  ⟨h.os, h.tape, h.output, h.size, fun i hi hs => h.block i hi (fun k => hs (hT i hi k))⟩

theorem Chg.alloc {S : Nat → Prop} {a b : World} (h : Chg S a b) (o : Obj) : Chg S a (b.alloc o) :=
  ⟨h.os, h.tape, h.output, Nat.le_trans h.size (by simp), fun i hi hs => (Below.heap_alloc _ _ _ (Nat.lt_of_lt_of_le hi h.size)).trans (h.block i hi hs)⟩

theorem Chg.setCell {S : Nat → Prop} {a b : World} (h : Chg S a b) {p : Addr} (hp : p.block < a.heap.size → S p.block) (u : Value) : Chg S a (b.setCell p u) :=
  ⟨h.os, h.tape, h.output, by have := h.size; simpa [World.setCell] using this, fun i hi hs =>
    (Below.heap_setCell _ _ _ _ (fun e => hs (by subst e; exact hp hi))).trans (h.block i hi hs)⟩

theorem Chg.drew {S : Nat → Prop} {a b : World} (h : Chg S a b) : Chg S a b.drew := ⟨h.os, h.tape, h.output, h.size, h.block⟩

theorem Chg.grown {S : Nat → Prop} {a b c : World} {row : Option Nat} (h : Chg S a b) (g : b.grownBy c row) (hr : ∀ k, row = some k → k < a.heap.size → S k) : Chg S a c :=
  ⟨g.os.trans h.os, g.tape.trans h.tape, g.output.trans h.output, Nat.le_trans h.size g.size, fun i hi hs =>
    (g.block i (Nat.lt_of_lt_of_le hi h.size) (fun e => hs (hr i e.symm hi))).trans (h.block i hi hs)⟩

theorem Chg.below {S : Nat → Prop} {a b : World} (h : Chg S a b) {B : Nat} (hB : B ≤ a.heap.size) (hS : ∀ i, i < B → ¬ S i) : Below B a b :=
  ⟨h.os, h.tape, h.output, h.size, fun k hk => h.block k (Nat.lt_of_lt_of_le hk hB) (hS k hk)⟩

theorem Chg.cell {S : Nat → Prop} {a b : World} (h : Chg S a b) {p : Addr} {v : Value} (hv : a.cell? p = some v) (hs : ¬ S p.block) : b.cell? p = some v :=
  (World.cell?_of_block (h.block p.block (World.block_lt_of_cell? a p hv) hs)).trans hv

/-- The bytes l can be read through the slice value v; its block is one of D. -/
def BytesAt (D : Nat → Prop) (w : World) (v : Value) (l : List UInt8) : Prop :=
  (∃ ao cp, v = .slice ao 0 cp ∧ l = [] ∧ (ao = none → cp = 0)) ∨
  ∃ b off cap, v = .slice (some ⟨b, off, none⟩) l.length cap ∧ l.length ≤ cap ∧ cap ≤ maxLen ∧ D b ∧ ∀ i (h : i < l.length), w.cell? ⟨b, off + i, none⟩ = some (.int .u8 (l[i].toNat : Int))

theorem BytesAt.mono {D D' : Nat → Prop} {w : World} {v : Value} {l : List UInt8} (h : BytesAt D w v l) (hD : ∀ i, D i → D' i) : BytesAt D' w v l := by
  rcases h with h | ⟨b, off, cap, h1, h2, h3, h4, h5⟩
  · exact .inl h
  · exact .inr ⟨b, off, cap, h1, h2, h3, hD b h4, h5⟩

theorem BytesAt.keep {S D : Nat → Prop} {w w' : World} {v : Value} {l : List UInt8} (h : BytesAt D w v l) (hc : Chg S w w') (hS : ∀ i, D i → ¬ S i) : BytesAt D w' v l := by
  rcases h with h | ⟨b, off, cap, h1, h2, h3, h4, h5⟩
  · exact .inl h
  · exact .inr ⟨b, off, cap, h1, h2, h3, h4, fun i hi => hc.cell (h5 i hi) (hS b h4)⟩

theorem BytesAt.nil (D : Nat → Prop) (w : World) : BytesAt D w (.slice none 0 0) [] := .inl ⟨none, 0, rfl, rfl, fun _ => rfl⟩

theorem BytesAt.shape {D : Nat → Prop} {v : Value} {l : List UInt8} {w : World} (h : BytesAt D w v l) : ∃ ao cap, v = .slice ao l.length cap := by
  rcases h with ⟨ao, cp, rfl, rfl, _⟩ | ⟨b, off, cap, rfl, _⟩
  · exact ⟨ao, cp, rfl⟩
  · exact ⟨_, _, rfl⟩

theorem cell_blk {w : World} {b : Nat} {cs : Array Value} {T : TypeId} {f : Nat × Nat} (h : w.heap[b]? = some (.cells cs T f)) (i : Nat) : w.cell? ⟨b, i, none⟩ = cs[i]? := by
  simp [World.cell?, h]

theorem froz_blk {w : World} {b : Nat} {cs : Array Value} {T : TypeId} (h : w.heap[b]? = some (.cells cs T (0, 0))) (i : Nat) : w.frozen? ⟨b, i, none⟩ = false := by
  simp [World.frozen?, h]

theorem lt_blk {w : World} {b : Nat} {o : Obj} (h : w.heap[b]? = some o) : b < w.heap.size := (Array.getElem?_eq_some_iff.1 h).1

theorem set_blk {w : World} {b : Nat} {cs : Array Value} {T : TypeId} {f : Nat × Nat} (h : w.heap[b]? = some (.cells cs T f)) (i : Nat) (v : Value) :
    (w.setCell ⟨b, i, none⟩ v).heap[b]? = some (.cells (cs.setIfInBounds i v) T f) := by
  simp [World.setCell, Array.getElem?_modify, h]

theorem set_blk_ne {w : World} {b : Nat} {a : Addr} {v : Value} (hne : b ≠ a.block) : (w.setCell a v).heap[b]? = w.heap[b]? := Below.heap_setCell _ _ _ _ hne

theorem blk_keep {S : Nat → Prop} {w w' : World} {b : Nat} {o : Obj} (h : w.heap[b]? = some o) (hc : Chg S w w') (hs : ¬ S b) : w'.heap[b]? = some o := (hc.block b (lt_blk h) hs).trans h

theorem setCell_chg (w : World) (b i : Nat) (v : Value) : Chg (· = b) w (w.setCell ⟨b, i, none⟩ v) := (Chg.refl (· = b) w).setCell (p := ⟨b, i, none⟩) (fun _ => rfl) v

end Go.Proofs.Ytdlpddpdobiebaa

/- Names, and sets of them: plain words, nothing of the program's text. -/
namespace Go.Proofs.Ytdlpddpdobiebaa
open Go.RowKit

/-- A sign of a name. -/
def okByte (c : UInt8) : Bool := (decide (97 ≤ c.toNat) && decide (c.toNat ≤ 122)) || (decide (48 ≤ c.toNat) && decide (c.toNat ≤ 57)) || decide (c.toNat = 45)
def okFirst (c : UInt8) : Bool := decide (97 ≤ c.toNat) && decide (c.toNat ≤ 122)
/-- A name. -/
def isName : List UInt8 → Bool
  | [] => false
  | c :: l => okFirst c && decide (l.length < 16) && (c :: l).all okByte

theorem okByte_yes {c : UInt8} (h : okByte c = true) : (97 ≤ c.toNat ∧ c.toNat ≤ 122) ∨ (48 ≤ c.toNat ∧ c.toNat ≤ 57) ∨ c.toNat = 45 := by
  simp only [okByte, Bool.or_eq_true, Bool.and_eq_true, decide_eq_true_eq] at h
  omega
theorem okByte_no {c : UInt8} (h : okByte c = false) : (c.toNat < 48 ∧ c.toNat ≠ 45) ∨ (57 < c.toNat ∧ c.toNat < 97) ∨ 122 < c.toNat := by
  simp only [okByte, Bool.or_eq_false_iff, Bool.and_eq_false_iff, decide_eq_false_iff_not] at h
  omega

theorem isName_long {l : List UInt8} (h : 16 < l.length) : isName l = false := by
  cases l with
  | nil => rfl
  | cons c l =>
    have : decide (l.length < 16) = false := by simp at h ⊢; omega
    simp [isName, this]

theorem isName_first {l : List UInt8} (h0 : 0 < l.length) (h : okFirst l[0] = false) : isName l = false := by
  cases l with
  | nil => simp at h0
  | cons c l => simp at h; simp [isName, h]

theorem isName_all {l : List UInt8} (h0 : 0 < l.length) (h : okFirst l[0] = true) (h1 : l.length ≤ 16) : isName l = l.all okByte := by
  cases l with
  | nil => simp at h0
  | cons c l =>
    have h2 : decide (l.length < 16) = true := by simp at h1 ⊢; omega
    simp only [List.getElem_cons_zero] at h
    simp only [isName, h, h2, Bool.true_and]

theorem isName_len {l : List UInt8} (h : isName l = true) : 0 < l.length ∧ l.length ≤ 16 := by
  cases l with
  | nil => cases h
  | cons c l =>
    simp only [isName, Bool.and_eq_true, decide_eq_true_eq] at h
    simp
    omega

theorem all_take_succ (l : List UInt8) (k : Nat) (h : k < l.length) (ha : (l.take k).all okByte = true) : (l.take (k + 1)).all okByte = okByte l[k] := by
  rw [List.take_succ_eq_append_getElem h, List.all_append, ha]
  simp

theorem all_of_bad (l : List UInt8) (k : Nat) (h : k < l.length) (hb : okByte l[k] = false) : l.all okByte = false := by
  rw [List.all_eq_false]
  exact ⟨l[k], List.getElem_mem h, by simp [hb]⟩

end Go.Proofs.Ytdlpddpdobiebaa

/- Lists of texts that can be read. Nothing of the program's text. -/
namespace Go.Proofs.Ytdlpddpdobiebaa
open Go.RowKit

theorem ba_get (l : List UInt8) (k : Nat) (h : k < (⟨l.toArray⟩ : ByteArray).size) : (⟨l.toArray⟩ : ByteArray)[k] = l[k]'h := rfl

/-- The texts ls can be read from the address ao on. -/
def StrsAt (D : Nat → Prop) (w : World) (ao : Option Addr) (ls : List (List UInt8)) : Prop :=
  ∀ i (h : i < ls.length), ∃ b off, ao = some ⟨b, off, none⟩ ∧ D b ∧ w.cell? ⟨b, off + i, none⟩ = some (.string ⟨ls[i].toArray⟩) ∧ ls[i].length ≤ 9223372036854775807

theorem StrsAt.keep {S D : Nat → Prop} {w w' : World} {ao : Option Addr} {ls : List (List UInt8)} (h : StrsAt D w ao ls) (hc : Chg S w w') (hS : ∀ i, D i → ¬ S i) : StrsAt D w' ao ls := fun i hi =>
  let ⟨b, off, h1, h2, h3, h4⟩ := h i hi
  ⟨b, off, h1, h2, hc.cell h3 (hS b h2), h4⟩

theorem StrsAt.mono {D D' : Nat → Prop} {w : World} {ao : Option Addr} {ls : List (List UInt8)} (h : StrsAt D w ao ls) (hD : ∀ i, D i → D' i) : StrsAt D' w ao ls := fun i hi =>
  let ⟨b, off, h1, h2, h3, h4⟩ := h i hi
  ⟨b, off, h1, hD b h2, h3, h4⟩

theorem StrsAt.nil (D : Nat → Prop) (w : World) (ao : Option Addr) : StrsAt D w ao [] := fun i hi => by simp at hi

/-- Is s in the list? Are two lists the same? (Behind names: the walk's simp leaves them.) -/
def hasS (ls : List (List UInt8)) (s : List UInt8) : Bool := ls.contains s
def sameS (a b : List (List UInt8)) : Bool := a == b

theorem contains_take (ls : List (List UInt8)) (s : List UInt8) (k : Nat) (h : k < ls.length) (hc : hasS (ls.take k) s = false) (hn : ls[k] ≠ s) : hasS (ls.take (k + 1)) s = false := by
  unfold hasS at hc ⊢
  rw [List.take_succ_eq_append_getElem h]
  simp only [List.contains_eq_mem, List.mem_append, List.mem_singleton, decide_eq_false_iff_not, not_or] at hc ⊢
  exact ⟨hc, fun e => hn e.symm⟩

end Go.Proofs.Ytdlpddpdobiebaa

/- A row of bytes of the call's own, that is written in place. -/
namespace Go.Proofs.Ytdlpddpdobiebaa
open Go.RowKit

/-- The block g holds the bytes l at its head, T being a byte's type. -/
def RowAt (T : TypeId) (w : World) (g cap : Nat) (l : List UInt8) : Prop :=
  l.length ≤ cap ∧ cap ≤ maxLen ∧ ∃ cs : Array Value, w.heap[g]? = some (.cells cs T (0, 0)) ∧ ∀ j (h : j < l.length), cs[j]? = some (cb l[j])

theorem row_of_owns {T : TypeId} {B : Nat} {w : World} {v : Value} {l : List UInt8} (h : w.ownsRow B T 1 v l.length (l.map cb)) (hl : 0 < l.length) :
    ∃ g cap, v = .slice (some ⟨g, 0, none⟩) l.length cap ∧ B ≤ g ∧ RowAt T w g cap l := by
  rcases h.2 with ⟨rfl, h0⟩ | ⟨g, cap, cur, rfl, hg, hh, h1, h2, h3, h4⟩
  · omega
  · refine ⟨g, cap, rfl, hg, h1, h2, cur, hh, fun j hj => ?_⟩
    have := congrArg (fun l : List Value => l[j]?) h4
    simp only [Nat.mul_one, List.getElem?_take, List.getElem?_map] at this
    rw [if_pos hj, List.getElem?_eq_getElem hj] at this
    simpa using this

theorem RowAt.bytes {T : TypeId} {w : World} {g cap : Nat} {l : List UInt8} (h : RowAt T w g cap l) : BytesAt (fun k => k = g) w (.slice (some ⟨g, 0, none⟩) l.length cap) l := by
  obtain ⟨h1, h2, cs, h3, h4⟩ := h
  refine .inr ⟨g, 0, cap, rfl, h1, h2, rfl, fun i hi => ?_⟩
  rw [cell_blk h3, Nat.zero_add]
  exact h4 i hi

theorem RowAt.cell {T : TypeId} {w : World} {g cap : Nat} {l : List UInt8} (h : RowAt T w g cap l) (i : Nat) (hi : i < l.length) : w.cell? ⟨g, i, none⟩ = some (.int .u8 (l[i].toNat : Int)) := by
  obtain ⟨h1, h2, cs, h3, h4⟩ := h
  rw [cell_blk h3]
  exact h4 i hi

theorem RowAt.frozen {T : TypeId} {w : World} {g cap : Nat} {l : List UInt8} (h : RowAt T w g cap l) (i : Nat) : w.frozen? ⟨g, i, none⟩ = false := by
  obtain ⟨h1, h2, cs, h3, h4⟩ := h
  exact froz_blk h3 i

theorem RowAt.set {T : TypeId} {w : World} {g cap : Nat} {l : List UInt8} (h : RowAt T w g cap l) (i : Nat) (y : UInt8) : RowAt T (w.setCell ⟨g, i, none⟩ (cb y)) g cap (l.set i y) := by
  obtain ⟨h1, h2, cs, h3, h4⟩ := h
  refine ⟨by simpa using h1, h2, _, set_blk h3 i (cb y), fun j hj => ?_⟩
  have hj' : j < l.length := by simpa using hj
  have hjc : j < cs.size := (Array.getElem?_eq_some_iff.1 (h4 j hj')).1
  rw [List.getElem_set]
  by_cases hij : i = j
  · subst hij
    rw [if_pos rfl]
    simp [hjc]
  · rw [if_neg hij, Array.getElem?_setIfInBounds_ne hij]
    exact h4 j hj'

theorem RowAt.keep {T : TypeId} {S : Nat → Prop} {w w' : World} {g cap : Nat} {l : List UInt8} (h : RowAt T w g cap l) (hc : Chg S w w') (hs : ¬ S g) : RowAt T w' g cap l := by
  obtain ⟨h1, h2, cs, h3, h4⟩ := h
  exact ⟨h1, h2, cs, blk_keep h3 hc hs, h4⟩

theorem cb_getElem? (l : List UInt8) (i : Nat) (u : Value) (h : (l.map cb)[i]? = some u) : ∃ hi : i < l.length, u = .int .u8 (l[i].toNat : Int) := by
  have hi : i < l.length := by
    have := (List.getElem?_eq_some_iff.1 h).1
    simpa using this
  refine ⟨hi, ?_⟩
  simp [hi] at h
  exact h.symm

theorem cb_one (l : List UInt8) : ∀ u ∈ l.map cb, u.oneCell' = true := by
  intro u hu
  simp at hu
  obtain ⟨x, _, rfl⟩ := hu
  rfl

/-- Bytes that can be read, as the cells from an address on (where there are some). -/
theorem BytesAt.addr {D : Nat → Prop} {w : World} {ao : Option Addr} {cp n : Nat} {l : List UInt8} (h : BytesAt D w (.slice ao n cp) l) (hl : 0 < l.length) :
    ∃ b off, ao = some ⟨b, off, none⟩ ∧ b < w.heap.size ∧ D b ∧ ∀ i (h : i < l.length), w.cell? ⟨b, off + i, none⟩ = some (.int .u8 (l[i].toNat : Int)) := by
  rcases h with ⟨_, _, _, h2, _⟩ | ⟨b, off, cap, h1, _, _, h4, h5⟩
  · subst h2
    simp at hl
  · cases h1
    exact ⟨b, off, rfl, World.block_lt_of_cell? w _ (h5 0 hl), h4, h5⟩

theorem add_off (b off i : Nat) : (⟨b, off, none⟩ : Addr).add i = ⟨b, off + i, none⟩ := by
  unfold Addr.add
  split <;> simp_all

end Go.Proofs.Ytdlpddpdobiebaa

/- Conversions between strings and bytes; blocks of bytes. -/
namespace Go.Proofs.Ytdlpddpdobiebaa
open Go.RowKit

theorem Try.info5 : (Try.prog.info? 5).map (fun i => (i.zero, i.size, i.bytes)) = some (some (.int .u8 0), 1, 1) := by kernel_rfl

theorem conv_bytes {D : Nat → Prop} {v : Value} {l : List UInt8} {w : World} (h : BytesAt D w v l) : (convert 37 9 v).run Try.prog w = .ok (.string ⟨l.toArray⟩) w := by
  rcases h with ⟨ao, cp, rfl, rfl, h0⟩ | ⟨b, off, cap, rfl, h1, h2, h3, h4⟩
  · cases ao with
    | none => exact run_convert_bytes_nil w 37 5 Try.underlying37 Try.underlying5 0 cp 9 Try.underlying9
    | some x => exact run_convert_bytes_back w 37 9 5 x cp [] Try.underlying37 Try.underlying5 Try.underlying9 (fun j hj => by simp at hj)
  · refine run_convert_bytes_back w 37 9 5 ⟨b, off, none⟩ cap l Try.underlying37 Try.underlying5 Try.underlying9 (fun j hj => ?_)
    rw [add_off]
    exact h4 j hj

theorem conv_one (d : UInt8) (x : Int) (w : World) (hx : x = (d.toNat : Int)) : (convert 37 9 (.slice (some ⟨w.heap.size, 0, none⟩) 1 1)).run Try.prog (w.alloc (.cells #[.int .u8 x] 5)) = .ok (.string ⟨#[d]⟩) (w.alloc (.cells #[.int .u8 x] 5)) := by
  subst hx
  refine conv_bytes (D := fun _ => True) (l := [d]) (.inr ⟨_, 0, 1, rfl, Nat.le_refl 1, by decide, trivial, fun i hi => ?_⟩)
  rw [cell_blk (heap_alloc_new w _)]
  match i, hi with
  | 0, _ => rfl

/-- A block of one byte. -/
theorem bytes_one {w : World} {B : Nat} {T : TypeId} {f : Nat × Nat} (n : Nat) (hn : n < 256) (h : w.heap[B]? = some (.cells #[.int .u8 (n : Int)] T f)) : BytesAt (fun k => k = B) w (.slice (some ⟨B, 0, none⟩) 1 1) [UInt8.ofNat n] := by
  refine .inr ⟨B, 0, 1, rfl, by simp, by decide, rfl, fun i hi => ?_⟩
  have : i = 0 := by simp at hi; omega
  subst this
  rw [cell_blk h]
  simp only [List.getElem_cons_zero, ofNat_u8 n hn]
  rfl

/-- A block of bytes. -/
theorem bytes_blk {w : World} {B : Nat} {T : TypeId} {f : Nat × Nat} (l : List UInt8) (hl : l.length ≤ maxLen) (h : w.heap[B]? = some (.cells (l.map cb).toArray T f)) : BytesAt (fun k => k = B) w (.slice (some ⟨B, 0, none⟩) l.length l.length) l := by
  refine .inr ⟨B, 0, l.length, rfl, Nat.le_refl _, hl, rfl, fun i hi => ?_⟩
  rw [cell_blk h, Nat.zero_add]
  simp [hi, cb]

theorem one_le_maxLen : 1 ≤ maxLen := by decide

theorem two_le_maxLen : 2 ≤ maxLen := by decide

theorem bytes_lit1 (x : Int) (y : UInt8) (f : Nat × Nat) (h : x = (y.toNat : Int)) (w : World) : BytesAt (fun _ => True) (w.alloc (.cells #[.int .u8 x] 5 f)) (.slice (some ⟨w.heap.size, 0, none⟩) 1 1) [y] := by
  subst h
  exact (bytes_blk [y] one_le_maxLen (heap_alloc_new w _)).mono (fun _ _ => trivial)

theorem bytes_lit2 (x x' : Int) (y y' : UInt8) (f : Nat × Nat) (h : x = (y.toNat : Int)) (h' : x' = (y'.toNat : Int)) (w : World) : BytesAt (fun _ => True) (w.alloc (.cells #[.int .u8 x, .int .u8 x'] 5 f)) (.slice (some ⟨w.heap.size, 0, none⟩) 2 2) [y, y'] := by
  subst h
  subst h'
  exact (bytes_blk [y, y'] two_le_maxLen (heap_alloc_new w _)).mono (fun _ _ => trivial)

theorem kconv_at (w : World) (g : Nat) (C : Array Value) (n c : Nat) (hg : g = w.heap.size) : (convert 37 37 (.slice (some ⟨g, 0, none⟩) n c)).run Try.prog (w.alloc (.cells C 5)) = .ok (.slice (some ⟨g, 0, none⟩) n c) (w.alloc (.cells C 5 (C.size, C.size + 1))) := by
  subst hg
  exact Lib.run_convert_bytes_const (P := Try.prog) w 37 5 C n c Try.underlying37 Try.underlying5

theorem bytesRow_list (acc : List UInt8) (cap : Nat) (i : Nat) (h : i < acc.length) : (bytesRow ⟨acc.toArray⟩ cap)[i]? = some (.int .u8 (acc[i].toNat : Int)) := by
  have := bytesRow_at ⟨acc.toArray⟩ cap i (by simpa using h)
  simpa using this

/-- '[]byte(s)'. -/
theorem bytes_of (acc : List UInt8) (w : World) (c : Nat) (hc : acc.length ≤ c) (hm : c ≤ maxLen) (f : Nat × Nat) :
    BytesAt (fun k => k = w.heap.size) (w.alloc (.cells (bytesRow ⟨acc.toArray⟩ c) 5 f)) (.slice (some ⟨w.heap.size, 0, none⟩) acc.length c) acc := by
  refine .inr ⟨_, 0, c, rfl, hc, hm, rfl, fun i hi => ?_⟩
  rw [cell_blk (heap_alloc_new w _), Nat.zero_add]
  exact bytesRow_list acc c i hi

theorem conv_str (acc : List UInt8) (w : World) : (convert 9 37 (.string ⟨acc.toArray⟩)).run Try.prog w = .ok (.slice (some ⟨w.heap.size, 0, none⟩) acc.length (grownCap w acc.length 0 5))
      (w.drew.alloc (.cells (bytesRow ⟨acc.toArray⟩ (grownCap w acc.length 0 5)) 5 ((bytesRow ⟨acc.toArray⟩ (grownCap w acc.length 0 5)).size, (bytesRow ⟨acc.toArray⟩ (grownCap w acc.length 0 5)).size + 1))) := by
  have := run_bytes_of_string (P := Try.prog) w 9 37 5 ⟨acc.toArray⟩ Try.underlying9 Try.underlying37 Try.underlying5
  exact this

end Go.Proofs.Ytdlpddpdobiebaa

/- The contracts of the document's Right. -/
namespace Go.Proofs.Ytdlpddpdobiebaa
open Go.RowKit
theorem refright_any (l : List UInt8) (w : World) (hs : l.length ≤ 9223372036854775807) :
    Calls Try.prog 35 #[.string ⟨l.toArray⟩] w fun e w' => e = .returned (.bool (isName l)) ∧ w = w' := by
  by_cases h0 : l.length = 0
  · have he : l = [] := List.eq_nil_of_length_eq_zero h0
    subst he
    go_enter Try.func35, Try.ntmps35
    go_wp2
    go_ret
    exact ⟨rfl, rfl⟩
  · have hpos : 0 < l.length := by omega
    have hem : l.isEmpty = false := by cases l with | nil => simp at h0 | cons _ _ => rfl
    have gx := ba_get l
    by_cases h16 : 16 < l.length
    · have hx : Hid (isName l = false) := isName_long h16
      have d1 : decide (16 < (l.length : Int)) = true := by simp; omega
      go_enter Try.func35, Try.ntmps35
      go_wp2
      go_ret
      exact ⟨by rw [hx.out]; rfl, rfl⟩
    · have d1 : decide (16 < (l.length : Int)) = false := by simp; omega
      by_cases h97 : l[0].toNat < 97
      · have hx : Hid (isName l = false) := isName_first hpos (by simp [okFirst]; omega)
        have d2 : decide ((l[0].toNat : Int) < 97) = true := by simp; omega
        go_enter Try.func35, Try.ntmps35
        go_wp2
        go_ret
        exact ⟨by rw [hx.out]; rfl, rfl⟩
      · have d2 : decide ((l[0].toNat : Int) < 97) = false := by simp; omega
        by_cases h122 : 122 < l[0].toNat
        · have hx : Hid (isName l = false) := isName_first hpos (by simp [okFirst]; omega)
          have d3 : decide (122 < (l[0].toNat : Int)) = true := by simp; omega
          go_enter Try.func35, Try.ntmps35
          go_wp2
          go_ret
          exact ⟨by rw [hx.out]; rfl, rfl⟩
        · have d3 : decide (122 < (l[0].toNat : Int)) = false := by simp; omega
          have hx : Hid (isName l = l.all okByte) := isName_all hpos (by simp [okFirst]; omega) (by omega)
          go_enter Try.func35, Try.ntmps35
          go_wp2
          clear d1 d2 d3 hem
          go_loop [3] (fun i => ∃ k : Nat, k ≤ l.length ∧ i = .int .i64 k ∧ Hid ((l.take k).all okByte = true)) (fun i => l.length - (intOf i).toNat)
          case atStart => exact ⟨0, Nat.zero_le _, rfl, rfl⟩
          case round =>
            obtain ⟨k, hk, rfl, ha⟩ := hrel
            by_cases hlt : k < l.length
            · by_cases hok : okByte l[k] = true
              · have hn : Hid ((l.take (k + 1)).all okByte = true) := hid (by rw [all_take_succ _ k hlt ha.out, hok])
                clear ha
                rcases okByte_yes hok with hc | hc | hc
                · have p1 : decide ((l[k].toNat : Int) < 97) = false := by simp; omega
                  have p2 : decide (122 < (l[k].toNat : Int)) = false := by simp; omega
                  clear hok
                  have HC := hid hc
                  clear hc
                  go_wp2
                  go_round
                  case rel => exact ⟨k + 1, by omega, by go_num, hn⟩
                  case measure => simp [intOf]; omega
                · have p1 : decide ((l[k].toNat : Int) < 97) = true := by simp; omega
                  have p3 : decide ((l[k].toNat : Int) < 48) = false := by simp; omega
                  have p4 : decide (57 < (l[k].toNat : Int)) = false := by simp; omega
                  clear hok
                  have HC := hid hc
                  clear hc
                  go_wp2
                  go_round
                  case rel => exact ⟨k + 1, by omega, by go_num, hn⟩
                  case measure => simp [intOf]; omega
                · have p1 : decide ((l[k].toNat : Int) < 97) = true := by simp; omega
                  have p3 : decide ((l[k].toNat : Int) < 48) = true := by simp; omega
                  have p5 : ((l[k].toNat : Int) != 45) = false := by simp; omega
                  clear hok
                  have HC := hid hc
                  clear hc
                  go_wp2
                  go_round
                  case rel => exact ⟨k + 1, by omega, by go_num, hn⟩
                  case measure => simp [intOf]; omega
              · have hn : Hid (l.all okByte = false) := hid (all_of_bad l k hlt (by simpa using hok))
                clear ha
                rcases okByte_no (by simpa using hok) with hc | hc | hc
                · have p1 : decide ((l[k].toNat : Int) < 97) = true := by simp; omega
                  have p3 : decide ((l[k].toNat : Int) < 48) = true := by simp; omega
                  have p5 : ((l[k].toNat : Int) != 45) = true := by simp; omega
                  clear hok
                  have HC := hid hc
                  clear hc
                  go_wp2
                  go_ret
                  exact ⟨by rw [hx.out, hn.out]; rfl, rfl⟩
                · have p1 : decide ((l[k].toNat : Int) < 97) = true := by simp; omega
                  have p3 : decide ((l[k].toNat : Int) < 48) = false := by simp; omega
                  have p4 : decide (57 < (l[k].toNat : Int)) = true := by simp; omega
                  have p5 : ((l[k].toNat : Int) != 45) = true := by simp; omega
                  clear hok
                  have HC := hid hc
                  clear hc
                  go_wp2
                  go_ret
                  exact ⟨by rw [hx.out, hn.out]; rfl, rfl⟩
                · have p1 : decide ((l[k].toNat : Int) < 97) = false := by simp; omega
                  have p2 : decide (122 < (l[k].toNat : Int)) = true := by simp; omega
                  have p3 : decide ((l[k].toNat : Int) < 48) = false := by simp; omega
                  have p4 : decide (57 < (l[k].toNat : Int)) = true := by simp; omega
                  have p5 : ((l[k].toNat : Int) != 45) = true := by simp; omega
                  clear hok
                  have HC := hid hc
                  clear hc
                  go_wp2
                  go_ret
                  exact ⟨by rw [hx.out, hn.out]; rfl, rfl⟩
            · have hk2 : k = l.length := by omega
              subst hk2
              have hn : Hid (l.all okByte = true) := hid (by have := ha.out; rwa [List.take_of_length_le (Nat.le_refl _)] at this)
              go_wp2
              go_ret
              exact ⟨by rw [hx.out, hn.out]; rfl, rfl⟩
end Go.Proofs.Ytdlpddpdobiebaa

/- Plain arithmetic of layer 1's numbers: nothing of the program's text. -/
namespace Go.Proofs.Ytdlpddpdobiebaa
open Go.RowKit

/-- The number that the bytes begin with, how many bytes it has, and the error. -/
def numN : Nat → List UInt8 → Nat → Nat → Nat × Nat × Nat
  | 0, _, _, _ => (0, 0, 11)
  | _ + 1, [], _, _ => (0, 0, 10)
  | f + 1, d :: l, k, n =>
    if d.toNat = 0 ∧ 0 < k then (0, 0, 11)
    else if d.toNat < 128 then (n + d.toNat * 128 ^ k, k + 1, 0)
    else numN f l (k + 1) (n + (d.toNat - 128) * 128 ^ k)

theorem bits_and_u8_127 (d : Nat) (h : d < 256) : bits .and .u8 (d : Int) 127 = ((d % 128 : Nat) : Int) := by
  have h1 : (BitVec.ofInt 8 (d : Int)).toNat = d := by
    rw [BitVec.ofInt_natCast, BitVec.toNat_ofNat]; exact Nat.mod_eq_of_lt (by omega)
  show IntKind.u8.wrap ((BitVec.ofInt 8 (d : Int) &&& BitVec.ofInt 8 127).toNat : Int) = _
  rw [BitVec.toNat_and, h1]
  have h2 : (BitVec.ofInt 8 127).toNat = 2 ^ 7 - 1 := by decide
  rw [h2, Nat.and_two_pow_sub_one_eq_mod]
  simp [IntKind.wrap, IntKind.bits, IntKind.signed]
  omega

theorem bits_or_i64 (a b : Nat) (ha : a < 9223372036854775808) (hb : b < 9223372036854775808) : bits .or .i64 (a : Int) (b : Int) = ((a ||| b : Nat) : Int) := by
  have h1 : (BitVec.ofInt 64 (a : Int)).toNat = a := by
    rw [BitVec.ofInt_natCast, BitVec.toNat_ofNat]; exact Nat.mod_eq_of_lt (by omega)
  have h2 : (BitVec.ofInt 64 (b : Int)).toNat = b := by
    rw [BitVec.ofInt_natCast, BitVec.toNat_ofNat]; exact Nat.mod_eq_of_lt (by omega)
  have hx : a ||| b < 2 ^ 63 := Nat.or_lt_two_pow (by omega) (by omega)
  show IntKind.i64.wrap ((BitVec.ofInt 64 (a : Int) ||| BitVec.ofInt 64 (b : Int)).toNat : Int) = _
  rw [BitVec.toNat_or, h1, h2]
  exact IntWalk.i64_in _ (by omega)

theorem pow_le9 (k : Nat) (h : k ≤ 8) : 128 ^ k ≤ 72057594037927936 := by
  have : 128 ^ k ≤ 128 ^ 8 := Nat.pow_le_pow_right (by omega) h
  simpa using this

theorem two7 (k : Nat) : 2 ^ (7 * k) = 128 ^ k := by rw [Nat.pow_mul]

theorem digit_or (k m d : Nat) (hk : k < 9) (hm : m < 128 ^ k) (hd : d < 256) :
    bits .or .i64 (m : Int) (wrap64 (wrap64 (bits .and .u8 (d : Int) 127) * 2 ^ (7 * k))) = ((m + d % 128 * 128 ^ k : Nat) : Int) := by
  have hp := pow_le9 k (by omega)
  have hc : d % 128 < 128 := Nat.mod_lt _ (by decide)
  have e1 : wrap64 ((d % 128 : Nat) : Int) = ((d % 128 : Nat) : Int) := by unfold wrap64; omega
  have hb : d % 128 * 128 ^ k ≤ 127 * 72057594037927936 := Nat.mul_le_mul (by omega) hp
  have e2 : ((d % 128 : Nat) : Int) * 2 ^ (7 * k) = ((d % 128 * 128 ^ k : Nat) : Int) := by
    rw [Int.natCast_mul, ← two7 k, Int.natCast_pow]; rfl
  have e3 : wrap64 ((d % 128 * 128 ^ k : Nat) : Int) = ((d % 128 * 128 ^ k : Nat) : Int) := by unfold wrap64; omega
  rw [bits_and_u8_127 d hd, e1, e2, e3, bits_or_i64 _ _ (by omega) (by omega)]
  congr 1
  rw [← two7 k, ← Nat.shiftLeft_eq, Nat.or_comm, ← Nat.shiftLeft_add_eq_or_of_lt (by rw [two7]; exact hm)]
  omega

/-- One byte of a number. -/
theorem numN_step (l : List UInt8) (k m : Nat) (hk : k < 9) (hl : k < l.length) :
    numN (9 - k) (l.drop k) k m = if l[k].toNat = 0 ∧ 0 < k then (0, 0, 11) else if l[k].toNat < 128 then (m + l[k].toNat * 128 ^ k, k + 1, 0) else numN (9 - (k + 1)) (l.drop (k + 1)) (k + 1) (m + (l[k].toNat - 128) * 128 ^ k) := by
  have e : 9 - k = (9 - (k + 1)) + 1 := by omega
  rw [e, List.drop_eq_getElem_cons hl]
  rfl

theorem numN_end (l : List UInt8) (k m : Nat) (hk : k < 9) (hl : l.length ≤ k) : numN (9 - k) (l.drop k) k m = (0, 0, 10) := by
  have e : 9 - k = (9 - (k + 1)) + 1 := by omega
  rw [e, List.drop_eq_nil_of_le hl]
  rfl

theorem num_lt (k m c : Nat) (hm : m < 128 ^ k) (hc : c < 128) : m + c * 128 ^ k < 128 ^ (k + 1) := by
  have : c * 128 ^ k ≤ 127 * 128 ^ k := Nat.mul_le_mul_right _ (by omega)
  rw [Nat.pow_succ]
  omega

/-- What a number's reading comes to. -/
theorem numN_facts : ∀ (f : Nat) (l : List UInt8) (k n : Nat), n < 128 ^ k →
    ((numN f l k n).2.2 = 0 ∧ k < (numN f l k n).2.1 ∧ (numN f l k n).2.1 ≤ k + l.length ∧ (numN f l k n).2.1 ≤ k + f ∧ (numN f l k n).1 < 128 ^ (numN f l k n).2.1) ∨
    (((numN f l k n).2.2 = 10 ∨ (numN f l k n).2.2 = 11) ∧ (numN f l k n).1 = 0 ∧ (numN f l k n).2.1 = 0)
  | 0, _, _, _, _ => .inr ⟨.inr rfl, rfl, rfl⟩
  | _ + 1, [], _, _, _ => .inr ⟨.inl rfl, rfl, rfl⟩
  | f + 1, d :: l, k, n, hn => by
    unfold numN
    by_cases h1 : d.toNat = 0 ∧ 0 < k
    · rw [if_pos h1]
      exact .inr ⟨.inr rfl, rfl, rfl⟩
    · rw [if_neg h1]
      by_cases h2 : d.toNat < 128
      · rw [if_pos h2]
        exact .inl ⟨rfl, by simp, by simp only [List.length_cons]; omega, by simp only []; omega, num_lt k n _ hn h2⟩
      · rw [if_neg h2]
        have hd := UInt8.toNat_lt d
        rcases numN_facts f l (k + 1) (n + (d.toNat - 128) * 128 ^ k) (num_lt k n _ hn (by omega)) with ⟨a, b, c, e, g⟩ | h
        · exact .inl ⟨a, by omega, by simp only [List.length_cons]; omega, by omega, g⟩
        · exact .inr h

theorem numN_ok {l : List UInt8} (h : (numN 9 l 0 0).2.2 = 0) : 0 < (numN 9 l 0 0).2.1 ∧ (numN 9 l 0 0).2.1 ≤ l.length ∧ (numN 9 l 0 0).1 < 9223372036854775808 := by
  rcases numN_facts 9 l 0 0 (by decide) with ⟨_, b, c, d, e⟩ | ⟨h1, _⟩
  · refine ⟨b, by omega, Nat.lt_of_lt_of_le e ?_⟩
    have : 128 ^ (numN 9 l 0 0).2.1 ≤ 128 ^ 9 := Nat.pow_le_pow_right (by omega) (by omega)
    simpa using this
  · omega

theorem numN_bad {l : List UInt8} (h : (numN 9 l 0 0).2.2 ≠ 0) : ((numN 9 l 0 0).2.2 = 10 ∨ (numN 9 l 0 0).2.2 = 11) ∧ (numN 9 l 0 0).1 = 0 ∧ (numN 9 l 0 0).2.1 = 0 := by
  rcases numN_facts 9 l 0 0 (by decide) with ⟨a, _⟩ | h1
  · exact absurd a h
  · exact h1

/-- The error of a number that is read. -/
def errNum (l : List UInt8) (most : Int) : Nat :=
  if (numN 9 l 0 0).2.2 = 0 then (if most < ((numN 9 l 0 0).1 : Int) then 12 else 0) else (numN 9 l 0 0).2.2

/-- The error of a text that is read. -/
def errText (l : List UInt8) (most : Int) : Nat :=
  if (numN 9 l 0 0).2.2 = 0 then
    (if most < ((numN 9 l 0 0).1 : Int) then 12 else if l.length - (numN 9 l 0 0).2.1 < (numN 9 l 0 0).1 then 10 else 0)
  else (numN 9 l 0 0).2.2

/-- A number's bytes: one that isn't the last; the last. -/
def dg (n : Nat) : UInt8 := UInt8.ofNat (128 + n % 128)
def ds (n : Nat) : UInt8 := UInt8.ofNat n
def enc (n : Nat) : List UInt8 := if n < 128 then [ds n] else dg n :: enc (n / 128)
  termination_by n
  decreasing_by omega

theorem enc_small {n : Nat} (h : n < 128) : enc n = [ds n] := by rw [enc, if_pos h]
theorem enc_big {n : Nat} (h : 128 ≤ n) : enc n = dg n :: enc (n / 128) := by rw [enc, if_neg (by omega)]

theorem enc_length : ∀ (k n : Nat), n < 128 ^ (k + 1) → (enc n).length ≤ k + 1
  | 0, n, h => by rw [enc_small (by omega)]; simp
  | k + 1, n, h => by
    by_cases h1 : n < 128
    · rw [enc_small h1]; simp
    · rw [enc_big (by omega)]
      have := enc_length k (n / 128) (by rw [Nat.pow_succ] at h; omega)
      simp only [List.length_cons]
      omega

theorem enc_length9 {n : Nat} (h : n < 9223372036854775808) : (enc n).length ≤ 9 := enc_length 8 n (by simpa using h)

theorem enc_pos (n : Nat) : 0 < (enc n).length := by
  by_cases h1 : n < 128
  · rw [enc_small h1]; simp
  · rw [enc_big (by omega)]; simp

theorem bits_and_i64_127 (n : Nat) (h : n < 9223372036854775808) : bits .and .i64 (n : Int) 127 = ((n % 128 : Nat) : Int) := by
  have h1 : (BitVec.ofInt 64 (n : Int)).toNat = n := by
    rw [BitVec.ofInt_natCast, BitVec.toNat_ofNat]; exact Nat.mod_eq_of_lt (by omega)
  show IntKind.i64.wrap ((BitVec.ofInt 64 (n : Int) &&& BitVec.ofInt 64 127).toNat : Int) = _
  rw [BitVec.toNat_and, h1]
  have h2 : (BitVec.ofInt 64 127).toNat = 2 ^ 7 - 1 := by decide
  rw [h2, Nat.and_two_pow_sub_one_eq_mod]
  exact IntWalk.i64_in _ (by omega)

theorem bits_or_u8_128 (d : Nat) (h : d < 128) : bits .or .u8 (d : Int) 128 = ((128 + d : Nat) : Int) := by
  have h1 : (BitVec.ofInt 8 (d : Int)).toNat = d := by
    rw [BitVec.ofInt_natCast, BitVec.toNat_ofNat]; exact Nat.mod_eq_of_lt (by omega)
  show IntKind.u8.wrap ((BitVec.ofInt 8 (d : Int) ||| BitVec.ofInt 8 128).toNat : Int) = _
  rw [BitVec.toNat_or, h1]
  have h2 : (BitVec.ofInt 8 128).toNat = 1 <<< 7 := by decide
  rw [h2, Nat.or_comm, ← Nat.shiftLeft_add_eq_or_of_lt (by simpa using h)]
  simp only [Nat.shiftLeft_eq]
  exact IntWalk.u8_in _ (by omega)

theorem dg_toNat (n : Nat) : (dg n).toNat = 128 + n % 128 := ofNat_u8 _ (by omega)
theorem ds_toNat {n : Nat} (h : n < 128) : (ds n).toNat = n := ofNat_u8 _ (by omega)

theorem digit_of (n : Nat) (h : n < 9223372036854775808) : bits .or .u8 (bits .and .i64 (n : Int) 127 % 256) 128 = ((dg n).toNat : Int) := by
  have e : ((n % 128 : Nat) : Int) % 256 = ((n % 128 : Nat) : Int) := by omega
  rw [bits_and_i64_127 n h, e, bits_or_u8_128 _ (Nat.mod_lt _ (by decide)), dg_toNat]

end Go.Proofs.Ytdlpddpdobiebaa
