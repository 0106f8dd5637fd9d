/- Texts that the proof leans on, in one: Mem, OrdMath, NameMath, SetMath, Strs, RoleMath, Math. -/
import Derived.WalkKit
import Derived.WalkSpells
import Derived.WalkLawsBesides
import Derived.Lib.SlicesCompact
/- What the walks say of memory: bytes that can be read; which blocks a call may have turned. Nothing of the program's text. -/
namespace Go.Proofs.Ytjaplnainlbldaa
open Go.RowKit

theorem ofNat_u8 (n : Nat) (h : n < 256) : (UInt8.ofNat n).toNat = n := by
 rw [UInt8.toNat_ofNat']
 exact Nat.mod_eq_of_lt h

theorem hid {p : Prop} (h : p) : Hid p := h

/-- A byte's cell. -/
def cb (x : UInt8) : Value := .int .u8 (x.toNat : Int)

/-- w' is w with new blocks, and with writes to the blocks of S alone. -/
structure Chg (S : Nat → Prop) (w w' : World) : Prop where
 os : w'.os = w.os
 tape : w'.tape = w.tape
 output : w'.output = w.output
 size : w.heap.size ≤ w'.heap.size
 block : ∀ k, k < w.heap.size → ¬ S k → w'.heap[k]? = w.heap[k]?

theorem Chg.refl (S : Nat → Prop) (w : World) : Chg S w w := ⟨rfl, rfl, rfl, Nat.le_refl _, fun _ _ _ => rfl⟩

theorem Chg.trans {S T : Nat → Prop} {a b c : World} (h : Chg S a b) (k : Chg T b c) (hT : ∀ i, i < a.heap.size → T i → S i) : Chg S a c :=
 ⟨k.os.trans h.os, k.tape.trans h.tape, k.output.trans h.output, Nat.le_trans h.size k.size, fun i hi hs =>
  (k.block i (Nat.lt_of_lt_of_le hi h.size) (fun ht => hs (hT i hi ht))).trans (h.block i hi hs)⟩

theorem Chg.mono {S T : Nat → Prop} {a b : World} (h : Chg S a b) (hT : ∀ i, i < a.heap.size → S i → T i) : Chg T a b :=
 ⟨h.os, h.tape, h.output, h.size, fun i hi hs => h.block i hi (fun k => hs (hT i hi k))⟩

theorem Chg.alloc {S : Nat → Prop} {a b : World} (h : Chg S a b) (o : Obj) : Chg S a (b.alloc o) :=
 ⟨h.os, h.tape, h.output, Nat.le_trans h.size (by simp), fun i hi hs => (Below.heap_alloc _ _ _ (Nat.lt_of_lt_of_le hi h.size)).trans (h.block i hi hs)⟩

theorem Chg.setCell {S : Nat → Prop} {a b : World} (h : Chg S a b) {p : Addr} (hp : p.block < a.heap.size → S p.block) (u : Value) : Chg S a (b.setCell p u) :=
 ⟨h.os, h.tape, h.output, by have := h.size; simpa [World.setCell] using this, fun i hi hs =>
  (Below.heap_setCell _ _ _ _ (fun e => hs (by subst e; exact hp hi))).trans (h.block i hi hs)⟩

theorem Chg.drew {S : Nat → Prop} {a b : World} (h : Chg S a b) : Chg S a b.drew := ⟨h.os, h.tape, h.output, h.size, h.block⟩

theorem Chg.grown {S : Nat → Prop} {a b c : World} {row : Option Nat} (h : Chg S a b) (g : b.grownBy c row) (hr : ∀ k, row = some k → k < a.heap.size → S k) : Chg S a c :=
 ⟨g.os.trans h.os, g.tape.trans h.tape, g.output.trans h.output, Nat.le_trans h.size g.size, fun i hi hs =>
  (g.block i (Nat.lt_of_lt_of_le hi h.size) (fun e => hs (hr i e.symm hi))).trans (h.block i hi hs)⟩

theorem Chg.below {S : Nat → Prop} {a b : World} (h : Chg S a b) {B : Nat} (hB : B ≤ a.heap.size) (hS : ∀ i, i < B → ¬ S i) : Below B a b :=
 ⟨h.os, h.tape, h.output, h.size, fun k hk => h.block k (Nat.lt_of_lt_of_le hk hB) (hS k hk)⟩

theorem Chg.cell {S : Nat → Prop} {a b : World} (h : Chg S a b) {p : Addr} {v : Value} (hv : a.cell? p = some v) (hs : ¬ S p.block) : b.cell? p = some v :=
 (World.cell?_of_block (h.block p.block (World.block_lt_of_cell? a p hv) hs)).trans hv

/-- The bytes l can be read through the slice value v; its block is one of D. -/
def BytesAt (D : Nat → Prop) (w : World) (v : Value) (l : List UInt8) : Prop :=
 (∃ ao cp, v = .slice ao 0 cp ∧ l = [] ∧ (ao = none → cp = 0)) ∨
 ∃ b off cap, v = .slice (some ⟨b, off, none⟩) l.length cap ∧ l.length ≤ cap ∧ cap ≤ maxLen ∧ D b ∧ ∀ i (h : i < l.length), w.cell? ⟨b, off + i, none⟩ = some (.int .u8 (l[i].toNat : Int))

theorem BytesAt.mono {D D' : Nat → Prop} {w : World} {v : Value} {l : List UInt8} (h : BytesAt D w v l) (hD : ∀ i, D i → D' i) : BytesAt D' w v l := by
 rcases h with h | ⟨b, off, cap, h1, h2, h3, h4, h5⟩
 ·exact .inl h
 ·exact .inr ⟨b, off, cap, h1, h2, h3, hD b h4, h5⟩

theorem BytesAt.keep {S D : Nat → Prop} {w w' : World} {v : Value} {l : List UInt8} (h : BytesAt D w v l) (hc : Chg S w w') (hS : ∀ i, D i → ¬ S i) : BytesAt D w' v l := by
 rcases h with h | ⟨b, off, cap, h1, h2, h3, h4, h5⟩
 ·exact .inl h
 ·exact .inr ⟨b, off, cap, h1, h2, h3, h4, fun i hi => hc.cell (h5 i hi) (hS b h4)⟩

theorem BytesAt.nil (D : Nat → Prop) (w : World) : BytesAt D w (.slice none 0 0) [] := .inl ⟨none, 0, rfl, rfl, fun _ => rfl⟩

theorem BytesAt.shape {D : Nat → Prop} {v : Value} {l : List UInt8} {w : World} (h : BytesAt D w v l) : ∃ ao cap, v = .slice ao l.length cap := by
 rcases h with ⟨ao, cp, rfl, rfl, _⟩ | ⟨b, off, cap, rfl, _⟩
 ·exact ⟨ao, cp, rfl⟩
 ·exact ⟨_, _, rfl⟩

theorem cell_blk {w : World} {b : Nat} {cs : Array Value} {T : TypeId} {f : Nat × Nat} (h : w.heap[b]? = some (.cells cs T f)) (i : Nat) : w.cell? ⟨b, i, none⟩ = cs[i]? := by
 simp [World.cell?, h]

theorem froz_blk {w : World} {b : Nat} {cs : Array Value} {T : TypeId} (h : w.heap[b]? = some (.cells cs T (0, 0))) (i : Nat) : w.frozen? ⟨b, i, none⟩ = false := by
 simp [World.frozen?, h]

theorem lt_blk {w : World} {b : Nat} {o : Obj} (h : w.heap[b]? = some o) : b < w.heap.size := (Array.getElem?_eq_some_iff.1 h).1

theorem set_blk {w : World} {b : Nat} {cs : Array Value} {T : TypeId} {f : Nat × Nat} (h : w.heap[b]? = some (.cells cs T f)) (i : Nat) (v : Value) :
  (w.setCell ⟨b, i, none⟩ v).heap[b]? = some (.cells (cs.setIfInBounds i v) T f) := by
 simp [World.setCell, Array.getElem?_modify, h]

theorem blk_keep {S : Nat → Prop} {w w' : World} {b : Nat} {o : Obj} (h : w.heap[b]? = some o) (hc : Chg S w w') (hs : ¬ S b) : w'.heap[b]? = some o := (hc.block b (lt_blk h) hs).trans h

theorem setCell_chg (w : World) (b i : Nat) (v : Value) : Chg (· = b) w (w.setCell ⟨b, i, none⟩ v) := (Chg.refl (· = b) w).setCell (p := ⟨b, i, none⟩) (fun _ => rfl) v

end Go.Proofs.Ytjaplnainlbldaa

/- Things in order, and sets of the right ones among them: plain words, nothing of the program's text. -/
namespace Go.Proofs.Ytjaplnainlbldaa
open Go.RowKit

/-- An order without equals. -/
structure Ord {α : Type} (lt : α → α → Bool) : Prop where
 irrefl : ∀ a, lt a a = false
 trans : ∀ a b c, lt a b = true → lt b c = true → lt a c = true
 tri : ∀ a b, lt a b = true ∨ a = b ∨ lt b a = true

section
variable {α : Type} {lt : α → α → Bool} {good : α → Bool}

theorem Ord.asymm (o : Ord lt) {a b : α} (h : lt a b = true) : lt b a = false := by
 cases hk : lt b a with
 | false => rfl
 | true => have := o.trans _ _ _ h hk; rw [o.irrefl] at this; cases this

/-- Rising, each once. -/
def RisingG (lt : α → α → Bool) : List α → Prop
 | [] => True
 | x :: l => (∀ y ∈ l, lt x y = true) ∧ RisingG lt l

/-- out is the set of the right ones of ls. -/
def SetG (lt : α → α → Bool) (good : α → Bool) (ls out : List α) : Prop := RisingG lt out ∧ ∀ x, x ∈ out ↔ x ∈ ls ∧ good x = true

theorem RisingG.ext (o : Ord lt) : ∀ {a b : List α}, RisingG lt a → RisingG lt b → (∀ x, x ∈ a ↔ x ∈ b) → a = b
 | [], [], _, _, _ => rfl
 | [], y :: b, _, _, h => by have := (h y).2 (by simp); simp at this
 | x :: a, [], _, _, h => by have := (h x).1 (by simp); simp at this
 | x :: a, y :: b, ha, hb, h => by
  have hxy : x = y := by
   rcases o.tri x y with k | k | k
   ·rcases List.mem_cons.1 ((h x).1 (by simp)) with e | e
    ·exact e
    ·have := o.trans _ _ _ k (hb.1 x e)
     rw [o.irrefl] at this
     cases this
   ·exact k
   ·rcases List.mem_cons.1 ((h y).2 (by simp)) with e | e
    ·exact e.symm
    ·have := o.trans _ _ _ k (ha.1 y e)
     rw [o.irrefl] at this
     cases this
  subst hxy
  congr 1
  refine RisingG.ext o ha.2 hb.2 fun z => ⟨fun hz => ?_, fun hz => ?_⟩
  ·rcases List.mem_cons.1 ((h z).1 (List.mem_cons_of_mem _ hz)) with e | e
   ·subst e
    have := ha.1 _ hz
    rw [o.irrefl] at this
    cases this
   ·exact e
  ·rcases List.mem_cons.1 ((h z).2 (List.mem_cons_of_mem _ hz)) with e | e
   ·subst e
    have := hb.1 _ hz
    rw [o.irrefl] at this
    cases this
   ·exact e

/-- There is one set alone. -/
theorem SetG.one (o : Ord lt) {ls a b : List α} (ha : SetG lt good ls a) (hb : SetG lt good ls b) : a = b := ha.1.ext o hb.1 fun x => (ha.2 x).trans (hb.2 x).symm

theorem RisingG.snoc : ∀ {a : List α} {x : α}, RisingG lt a → (∀ y ∈ a, lt y x = true) → RisingG lt (a ++ [x])
 | [], _, _, _ => ⟨fun _ h => (by cases h), trivial⟩
 | y :: a, x, h, hx => ⟨fun z hz => by
   rcases List.mem_append.1 hz with k | k
   ·exact h.1 z k
   ·rw [List.mem_singleton.1 k]; exact hx y (by simp), RisingG.snoc h.2 fun z hz => hx z (List.mem_cons_of_mem _ hz)⟩

theorem RisingG.filter {p : α → Bool} : ∀ {l : List α}, RisingG lt l → RisingG lt (l.filter p)
 | [], _ => trivial
 | x :: l, h => by
  rw [List.filter_cons]
  split
  ·exact ⟨fun y hy => h.1 y (List.mem_filter.1 hy).1, h.2.filter⟩
  ·exact h.2.filter

theorem RisingG.nodup (o : Ord lt) : ∀ {a : List α}, RisingG lt a → a.Nodup
 | [], _ => List.nodup_nil
 | x :: a, h => List.nodup_cons.2 ⟨(fun hx => by have := h.1 x hx; rw [o.irrefl] at this; cases this), RisingG.nodup o h.2⟩

theorem nodup_lengthG [BEq α] [LawfulBEq α] : ∀ (a b : List α), a.Nodup → (∀ x ∈ a, x ∈ b) → a.length ≤ b.length
 | [], _, _, _ => Nat.zero_le _
 | x :: a, b, hn, h => by
  have hx := h x (by simp)
  have hn' := List.nodup_cons.1 hn
  have := nodup_lengthG a (b.erase x) hn'.2 (fun y hy => (List.mem_erase_of_ne (fun e => hn'.1 (by rw [← e]; exact hy))).2 (h y (List.mem_cons_of_mem _ hy)))
  rw [List.length_erase_of_mem hx] at this
  have hp : 0 < b.length := List.length_pos_of_mem hx
  simp only [List.length_cons]
  omega

theorem SetG.len [BEq α] [LawfulBEq α] (o : Ord lt) {ls out : List α} (h : SetG lt good ls out) : out.length ≤ ls.length := nodup_lengthG _ _ (h.1.nodup o) fun x hx => ((h.2 x).1 hx).1

/-- What may come next, behind the last one of out. -/
def candG (lt : α → α → Bool) (good : α → Bool) (out : List α) (s : α) : Bool :=
 good s && (match out.getLast? with | none => true | some l => lt l s)

/-- What has been found of the least one among seen: none, or the one. -/
def BestG (lt : α → α → Bool) (good : α → Bool) (out seen : List α) : Option α → Prop
 | none => ∀ s ∈ seen, candG lt good out s = false
 | some b => b ∈ seen ∧ candG lt good out b = true ∧ ∀ s ∈ seen, candG lt good out s = true → lt s b = false

theorem BestG.skip {out seen : List α} {b : Option α} {s : α} (h : BestG lt good out seen b) (hs : candG lt good out s = false) : BestG lt good out (seen ++ [s]) b := by
 cases b with
 | none => exact fun x hx => (List.mem_append.1 hx).elim (h x) (fun e => by rw [List.mem_singleton.1 e]; exact hs)
 | some b => exact ⟨List.mem_append_left _ h.1, h.2.1, fun x hx hc => (List.mem_append.1 hx).elim (fun e => h.2.2 x e hc) (fun e => by rw [List.mem_singleton.1 e, hs] at hc; cases hc)⟩

theorem BestG.keep {out seen : List α} {b s : α} (h : BestG lt good out seen (some b)) (hs : lt s b = false) : BestG lt good out (seen ++ [s]) (some b) :=
 ⟨List.mem_append_left _ h.1, h.2.1, fun x hx hc => (List.mem_append.1 hx).elim (fun e => h.2.2 x e hc) (fun e => by rw [List.mem_singleton.1 e]; exact hs)⟩

theorem BestG.take (o : Ord lt) {out seen : List α} {b : Option α} {s : α} (h : BestG lt good out seen b) (hc : candG lt good out s = true) (hs : ∀ c, b = some c → lt s c = true) : BestG lt good out (seen ++ [s]) (some s) := by
 refine ⟨by simp, hc, fun x hx hx2 => ?_⟩
 rcases List.mem_append.1 hx with e | e
 ·cases b with
  | none => rw [h x e] at hx2; cases hx2
  | some c =>
   cases hk : lt x s with
   | false => rfl
   | true =>
    have := o.trans _ _ _ hk (hs c rfl)
    rw [h.2.2 x e hx2] at this
    cases this
 ·rw [List.mem_singleton.1 e, o.irrefl]

/-- Some of the set, the least ones. -/
def SetPartG (lt : α → α → Bool) (good : α → Bool) (ls out : List α) : Prop :=
 RisingG lt out ∧ (∀ x ∈ out, x ∈ ls ∧ good x = true) ∧ ∀ x ∈ ls, good x = true → x ∈ out ∨ candG lt good out x = true

theorem SetPartG.nil (ls : List α) : SetPartG lt good ls [] := ⟨trivial, fun _ h => (by cases h), fun x _ hx => .inr (by simp [candG, hx])⟩

theorem SetPartG.len [BEq α] [LawfulBEq α] (o : Ord lt) {ls out : List α} (h : SetPartG lt good ls out) : out.length ≤ ls.length := nodup_lengthG _ _ (h.1.nodup o) fun x hx => (h.2.1 x hx).1

theorem SetPartG.done {ls out : List α} (h : SetPartG lt good ls out) (hb : BestG lt good out ls none) : SetG lt good ls out :=
 ⟨h.1, fun x => ⟨h.2.1 x, fun ⟨h1, h2⟩ => (h.2.2 x h1 h2).elim id fun hc => by rw [hb x h1] at hc; cases hc⟩⟩

theorem last_risingG : ∀ {out : List α} {l : α}, RisingG lt out → out.getLast? = some l → ∀ x ∈ out, x = l ∨ lt x l = true
 | [], _, _, _, x, hx => by cases hx
 | [y], l, _, hl, x, hx => by simp at hl hx; exact .inl (hx.trans hl)
 | y :: z :: r, l, h, hl, x, hx => by
  have hl' : (z :: r).getLast? = some l := by simpa [List.getLast?_cons_cons] using hl
  rcases List.mem_cons.1 hx with k | k
  ·subst k
   exact .inr (h.1 l (List.mem_of_getLast? hl'))
  ·exact last_risingG h.2 hl' x k

theorem SetPartG.step (o : Ord lt) {ls out : List α} {b : α} (h : SetPartG lt good ls out) (hb : BestG lt good out ls (some b)) : SetPartG lt good ls (out ++ [b]) := by
 obtain ⟨h1, h2, h3⟩ := hb
 have hc := h2
 simp only [candG, Bool.and_eq_true] at hc
 have hlt : ∀ y ∈ out, lt y b = true := by
  intro y hy
  cases hl : out.getLast? with
  | none => rw [List.getLast?_eq_none_iff.1 hl] at hy; cases hy
  | some l =>
   rw [hl] at hc
   rcases last_risingG h.1 hl y hy with k | k
   ·rw [k]; exact hc.2
   ·exact o.trans _ _ _ k hc.2
 have hl : (out ++ [b]).getLast? = some b := by simp
 refine ⟨h.1.snoc hlt, fun x hx => ?_, fun x hx hn => ?_⟩
 ·rcases List.mem_append.1 hx with k | k
  ·exact h.2.1 x k
  ·rw [List.mem_singleton.1 k]; exact ⟨h1, hc.1⟩
 ·rcases h.2.2 x hx hn with k | k
  ·exact .inl (List.mem_append_left _ k)
  ·rcases o.tri x b with e | e | e
   ·rw [h3 x hx k] at e; cases e
   ·exact .inl (by rw [e]; simp)
   ·exact .inr (by simp [candG, hn, e])

/-- Compacted, what is in order: what is kept, so far. -/
theorem compactG_inv [Inhabited α] [DecidableEq α] (o : Ord lt) (d : List α) (hs : d.Pairwise fun x y => lt y x = false) : ∀ m, m ≤ d.length →
  RisingG lt (Lib.compactUpTo d.toArray m) ∧ (∀ y, y ∈ Lib.compactUpTo d.toArray m ↔ y ∈ d.take m)
 | 0, _ => ⟨trivial, fun y => by simp [Lib.compactUpTo]⟩
 | m + 1, h => by
  obtain ⟨h1, h2⟩ := compactG_inv o d hs m (by omega)
  have hm : m < d.length := by omega
  have hg : d.toArray[m]! = d[m] := by simp [hm]
  rw [Lib.compactUpTo_succ, hg]
  by_cases h0 : m = 0
  ·subst h0
   have : Lib.keeps d.toArray 0 = true := by simp [Lib.keeps]
   rw [this, if_pos rfl]
   have e : Lib.compactUpTo d.toArray 0 = [] := rfl
   rw [e]
   refine ⟨⟨(fun _ h => by cases h), trivial⟩, fun y => ?_⟩
   rw [List.take_succ_eq_append_getElem hm]
   simp
  ·have hp : m - 1 < d.length := by omega
   have hg1 : d.toArray[m - 1]! = d[m - 1] := by simp [hp]
   have hle : lt d[m] d[m - 1] = false := List.pairwise_iff_getElem.1 hs (m - 1) m hp hm (by omega)
   have hmem : d[m - 1] ∈ d.take m := List.mem_take_iff_getElem.2 ⟨m - 1, by omega, rfl⟩
   by_cases hk : Lib.keeps d.toArray m = true
   ·rw [hk, if_pos rfl]
    have hne : d[m] ≠ d[m - 1] := by
     have : m = 0 ∨ d.toArray[m]! ≠ d.toArray[m - 1]! := by simpa [Lib.keeps] using hk
     rw [hg, hg1] at this
     exact this.resolve_left h0
    have hlt : lt d[m - 1] d[m] = true := by
     rcases o.tri d[m - 1] d[m] with k | k | k
     ·exact k
     ·exact absurd k.symm hne
     ·rw [hle] at k; cases k
    refine ⟨h1.snoc fun y hy => ?_, fun y => ?_⟩
    ·obtain ⟨j, hj, rfl⟩ := List.mem_take_iff_getElem.1 ((h2 y).1 hy)
     by_cases hjm : j = m - 1
     ·subst hjm; exact hlt
     ·have hjl : lt d[m - 1] d[j] = false := List.pairwise_iff_getElem.1 hs j (m - 1) (by omega) hp (by omega)
      rcases o.tri d[j] d[m - 1] with k | k | k
      ·exact o.trans _ _ _ k hlt
      ·rw [k]; exact hlt
      ·rw [hjl] at k; cases k
    ·rw [List.take_succ_eq_append_getElem hm]
     simp only [List.mem_append, h2 y]
   ·have hk' : Lib.keeps d.toArray m = false := by simpa using hk
    rw [hk', if_neg (by simp), List.append_nil]
    have he : d[m] = d[m - 1] := by
     have : ¬ (m = 0 ∨ d.toArray[m]! ≠ d.toArray[m - 1]!) := by simpa [Lib.keeps] using hk'
     rw [hg, hg1] at this
     simp only [not_or, Decidable.not_not] at this
     exact this.2
    refine ⟨h1, fun y => ?_⟩
    rw [List.take_succ_eq_append_getElem hm, h2 y]
    simp only [List.mem_append, List.mem_singleton]
    exact ⟨.inl, fun k => k.elim id fun e => by rw [e, he]; exact hmem⟩

/-- A list in order of just the right ones, compacted, is the set. -/
theorem compactG_set [Inhabited α] [DecidableEq α] (o : Ord lt) {ls d : List α} (hs : d.Pairwise fun x y => lt y x = false) (hd : ∀ x, x ∈ d ↔ x ∈ ls ∧ good x = true) : SetG lt good ls (Lib.compact d) := by
 obtain ⟨h1, h2⟩ := compactG_inv o d hs _ (Nat.le_refl _)
 refine ⟨h1, fun x => ?_⟩
 rw [List.take_of_length_le (Nat.le_refl _)] at h2
 rw [show Lib.compact d = Lib.compactUpTo d.toArray d.length from rfl, h2 x, hd x]
end

/-- Two orders, one behind the other. -/
def lexLt {α β : Type} [BEq α] (f : α → α → Bool) (g : β → β → Bool) (a b : α × β) : Bool := f a.1 b.1 || (a.1 == b.1 && g a.2 b.2)

theorem lexLt_ord {α β : Type} [BEq α] [LawfulBEq α] {f : α → α → Bool} {g : β → β → Bool} (hf : Ord f) (hg : Ord g) : Ord (lexLt f g) where
 irrefl a := by simp [lexLt, hf.irrefl, hg.irrefl]
 trans a b c h1 h2 := by
  simp only [lexLt, Bool.or_eq_true, Bool.and_eq_true, beq_iff_eq] at *
  rcases h1 with h1 | ⟨e1, h1⟩
  ·rcases h2 with h2 | ⟨e2, h2⟩
   ·exact .inl (hf.trans _ _ _ h1 h2)
   ·exact .inl (by rw [← e2]; exact h1)
  ·rcases h2 with h2 | ⟨e2, h2⟩
   ·exact .inl (by rw [e1]; exact h2)
   ·exact .inr ⟨e1.trans e2, hg.trans _ _ _ h1 h2⟩
 tri a b := by
  simp only [lexLt, Bool.or_eq_true, Bool.and_eq_true, beq_iff_eq]
  rcases hf.tri a.1 b.1 with h | h | h
  ·exact .inl (.inl h)
  ·rcases hg.tri a.2 b.2 with k | k | k
   ·exact .inl (.inr ⟨h, k⟩)
   ·exact .inr (.inl (Prod.ext h k))
   ·exact .inr (.inr (.inr ⟨h.symm, k⟩))
  ·exact .inr (.inr (.inl h))

end Go.Proofs.Ytjaplnainlbldaa

/- Names, and sets of them: plain words, nothing of the program's text. -/
namespace Go.Proofs.Ytjaplnainlbldaa
open Go.RowKit

/-- A sign of a name. -/
def okByte (c : UInt8) : Bool := (decide (97 ≤ c.toNat) && decide (c.toNat ≤ 122)) || (decide (48 ≤ c.toNat) && decide (c.toNat ≤ 57)) || decide (c.toNat = 45)
def okFirst (c : UInt8) : Bool := decide (97 ≤ c.toNat) && decide (c.toNat ≤ 122)
/-- A name. -/
def isName : List UInt8 → Bool
 | [] => false
 | c :: l => okFirst c && decide (l.length < 16) && (c :: l).all okByte

theorem okByte_yes {c : UInt8} (h : okByte c = true) : (97 ≤ c.toNat ∧ c.toNat ≤ 122) ∨ (48 ≤ c.toNat ∧ c.toNat ≤ 57) ∨ c.toNat = 45 := by
 simp only [okByte, Bool.or_eq_true, Bool.and_eq_true, decide_eq_true_eq] at h
 omega
theorem okByte_no {c : UInt8} (h : okByte c = false) : (c.toNat < 48 ∧ c.toNat ≠ 45) ∨ (57 < c.toNat ∧ c.toNat < 97) ∨ 122 < c.toNat := by
 simp only [okByte, Bool.or_eq_false_iff, Bool.and_eq_false_iff, decide_eq_false_iff_not] at h
 omega

theorem isName_long {l : List UInt8} (h : 16 < l.length) : isName l = false := by
 cases l with
 | nil => rfl
 | cons c l =>
  have : decide (l.length < 16) = false := by simp at h ⊢; omega
  simp [isName, this]

theorem isName_first {l : List UInt8} (h0 : 0 < l.length) (h : okFirst l[0] = false) : isName l = false := by
 cases l with
 | nil => simp at h0
 | cons c l => simp at h; simp [isName, h]

theorem isName_all {l : List UInt8} (h0 : 0 < l.length) (h : okFirst l[0] = true) (h1 : l.length ≤ 16) : isName l = l.all okByte := by
 cases l with
 | nil => simp at h0
 | cons c l =>
  have h2 : decide (l.length < 16) = true := by simp at h1 ⊢; omega
  simp only [List.getElem_cons_zero] at h
  simp only [isName, h, h2, Bool.true_and]

theorem isName_len {l : List UInt8} (h : isName l = true) : 0 < l.length ∧ l.length ≤ 16 := by
 cases l with
 | nil => cases h
 | cons c l =>
  simp only [isName, Bool.and_eq_true, decide_eq_true_eq] at h
  simp
  omega

theorem all_take_succ (l : List UInt8) (k : Nat) (h : k < l.length) (ha : (l.take k).all okByte = true) : (l.take (k + 1)).all okByte = okByte l[k] := by
 rw [List.take_succ_eq_append_getElem h, List.all_append, ha]
 simp

theorem all_of_bad (l : List UInt8) (k : Nat) (h : k < l.length) (hb : okByte l[k] = false) : l.all okByte = false := by
 rw [List.all_eq_false]
 exact ⟨l[k], List.getElem_mem h, by simp [hb]⟩

end Go.Proofs.Ytjaplnainlbldaa

/- Texts in order; sets of names: plain words, nothing of the program's text. -/
namespace Go.Proofs.Ytjaplnainlbldaa
open Go.RowKit

/-- Byte by byte. -/
def ltS (a b : List UInt8) : Bool := Op.bytesLess a b

theorem ltS_cons (a b : UInt8) (x y : List UInt8) : ltS (a :: x) (b :: y) = (decide (a < b) || (a == b && ltS x y)) := rfl
theorem ltS_nil (a : List UInt8) : ltS a [] = false := by cases a <;> rfl
theorem ltS_nil_cons (b : UInt8) (y : List UInt8) : ltS [] (b :: y) = true := rfl

theorem ltS_irrefl : ∀ (a : List UInt8), ltS a a = false
 | [] => rfl
 | a :: x => by
  rw [ltS_cons, ltS_irrefl x]
  simp

theorem ltS_trans : ∀ (a b c : List UInt8), ltS a b = true → ltS b c = true → ltS a c = true
 | _, [], _, h, _ => by rw [ltS_nil] at h; cases h
 | _, _ :: _, [], _, h => by rw [ltS_nil] at h; cases h
 | [], _ :: _, _ :: _, _, _ => rfl
 | a :: x, b :: y, c :: z, h1, h2 => by
  rw [ltS_cons] at *
  simp only [Bool.or_eq_true, decide_eq_true_eq, Bool.and_eq_true, beq_iff_eq] at *
  rcases h1 with h1 | ⟨rfl, h1⟩
  ·rcases h2 with h2 | ⟨rfl, _⟩
   ·exact .inl (UInt8.lt_trans h1 h2)
   ·exact .inl h1
  ·rcases h2 with h2 | ⟨rfl, h2⟩
   ·exact .inl h2
   ·exact .inr ⟨rfl, ltS_trans x y z h1 h2⟩

theorem ltS_tri : ∀ (a b : List UInt8), ltS a b = true ∨ a = b ∨ ltS b a = true
 | [], [] => .inr (.inl rfl)
 | [], _ :: _ => .inl rfl
 | _ :: _, [] => .inr (.inr rfl)
 | a :: x, b :: y => by
  rw [ltS_cons, ltS_cons]
  simp only [Bool.or_eq_true, decide_eq_true_eq, Bool.and_eq_true, beq_iff_eq]
  rcases UInt8.lt_or_eq_of_le (a := a) (b := b) |> fun _ => Nat.lt_trichotomy a.toNat b.toNat with h | h | h
  ·exact .inl (.inl (UInt8.lt_iff_toNat_lt.2 h))
  ·have hab : a = b := UInt8.toNat_inj.1 h
   subst hab
   rcases ltS_tri x y with k | k | k
   ·exact .inl (.inr ⟨rfl, k⟩)
   ·exact .inr (.inl (by rw [k]))
   ·exact .inr (.inr (.inr ⟨rfl, k⟩))
  ·exact .inr (.inr (.inl (UInt8.lt_iff_toNat_lt.2 h)))

/-- Rising, each once. -/
def Rising : List (List UInt8) → Prop
 | [] => True
 | x :: l => (∀ y ∈ l, ltS x y = true) ∧ Rising l

/-- out is the set of the right ones of ls. -/
def SetOf (ls out : List (List UInt8)) : Prop := Rising out ∧ ∀ x, x ∈ out ↔ x ∈ ls ∧ isName x = true

theorem Rising.snoc : ∀ {a : List (List UInt8)} {x : List UInt8}, Rising a → (∀ y ∈ a, ltS y x = true) → Rising (a ++ [x])
 | [], _, _, _ => ⟨fun _ h => (by cases h), trivial⟩
 | y :: a, x, h, hx => ⟨fun z hz => by
   rcases List.mem_append.1 hz with k | k
   ·exact h.1 z k
   ·rw [List.mem_singleton.1 k]; exact hx y (by simp), Rising.snoc h.2 fun z hz => hx z (List.mem_cons_of_mem _ hz)⟩

/-- A rising list of some of ls is no longer. -/
theorem Rising.nodup : ∀ {a : List (List UInt8)}, Rising a → a.Nodup
 | [], _ => List.nodup_nil
 | x :: a, h => List.nodup_cons.2 ⟨(fun hx => by have := h.1 x hx; rw [ltS_irrefl] at this; cases this), Rising.nodup h.2⟩

theorem nodup_length : ∀ (a b : List (List UInt8)), a.Nodup → (∀ x ∈ a, x ∈ b) → a.length ≤ b.length
 | [], _, _, _ => Nat.zero_le _
 | x :: a, b, hn, h => by
  have hx := h x (by simp)
  have hn' := List.nodup_cons.1 hn
  have := nodup_length a (b.erase x) hn'.2 (fun y hy => (List.mem_erase_of_ne (fun e => hn'.1 (by rw [← e]; exact hy))).2 (h y (List.mem_cons_of_mem _ hy)))
  rw [List.length_erase_of_mem hx] at this
  have hp : 0 < b.length := List.length_pos_of_mem hx
  simp only [List.length_cons]
  omega

/-- The texts that may come next, behind the last one of out. -/
def candS (out : List (List UInt8)) (s : List UInt8) : Bool := isName s && (out.isEmpty || ltS (out.getLastD []) s)

/-- What has been found of the least one among seen. -/
def Best (out seen : List (List UInt8)) (b : List UInt8) : Prop :=
 (b = [] ∧ ∀ s ∈ seen, candS out s = false) ∨ (b ∈ seen ∧ candS out b = true ∧ ∀ s ∈ seen, candS out s = true → ltS s b = false)

theorem candS_ne {out : List (List UInt8)} {s : List UInt8} (h : candS out s = true) : s ≠ [] := by
 intro e
 subst e
 simp [candS, isName] at h

theorem Best.skip {out seen : List (List UInt8)} {b s : List UInt8} (h : Best out seen b) (hs : candS out s = false) : Best out (seen ++ [s]) b := by
 rcases h with ⟨h1, h2⟩ | ⟨h1, h2, h3⟩
 ·exact .inl ⟨h1, fun x hx => (List.mem_append.1 hx).elim (h2 x) (fun e => by rw [List.mem_singleton.1 e]; exact hs)⟩
 ·exact .inr ⟨List.mem_append_left _ h1, h2, fun x hx hc => (List.mem_append.1 hx).elim (fun e => h3 x e hc) (fun e => by rw [List.mem_singleton.1 e, hs] at hc; cases hc)⟩

theorem Best.keep {out seen : List (List UInt8)} {b s : List UInt8} (h : Best out seen b) (hb : b ≠ []) (hs : ltS s b = false) : Best out (seen ++ [s]) b := by
 rcases h with ⟨h1, h2⟩ | ⟨h1, h2, h3⟩
 ·exact absurd h1 hb
 ·exact .inr ⟨List.mem_append_left _ h1, h2, fun x hx hc => (List.mem_append.1 hx).elim (fun e => h3 x e hc) (fun e => by rw [List.mem_singleton.1 e]; exact hs)⟩

theorem Best.take {out seen : List (List UInt8)} {b s : List UInt8} (h : Best out seen b) (hc : candS out s = true) (hs : b = [] ∨ ltS s b = true) : Best out (seen ++ [s]) s := by
 refine .inr ⟨by simp, hc, fun x hx hx2 => ?_⟩
 rcases List.mem_append.1 hx with e | e
 ·rcases h with ⟨_, h2⟩ | ⟨h1, h2, h3⟩
  ·rw [h2 x e] at hx2; cases hx2
  ·rcases hs with hs | hs
   ·exact absurd hs (candS_ne h2)
   ·cases hk : ltS x s with
    | false => rfl
    | true =>
     have := ltS_trans _ _ _ hk hs
     rw [h3 x e hx2] at this
     cases this
 ·rw [List.mem_singleton.1 e, ltS_irrefl]

/-- Some of the set, the least ones. -/
def SetPart (ls out : List (List UInt8)) : Prop := Rising out ∧ (∀ x ∈ out, x ∈ ls ∧ isName x = true) ∧ ∀ x ∈ ls, isName x = true → x ∈ out ∨ candS out x = true

theorem SetPart.nil (ls : List (List UInt8)) : SetPart ls [] := ⟨trivial, fun _ h => (by cases h), fun x _ hx => .inr (by simp [candS, hx])⟩

theorem SetPart.len {ls out : List (List UInt8)} (h : SetPart ls out) : out.length ≤ ls.length := nodup_length _ _ h.1.nodup fun x hx => (h.2.1 x hx).1

theorem SetPart.done {ls out : List (List UInt8)} (h : SetPart ls out) (hb : Best out ls []) : SetOf ls out := by
 refine ⟨h.1, fun x => ⟨h.2.1 x, fun ⟨h1, h2⟩ => (h.2.2 x h1 h2).elim id fun hc => ?_⟩⟩
 rcases hb with ⟨_, k⟩ | ⟨_, k, _⟩
 ·rw [k x h1] at hc; cases hc
 ·exact absurd rfl (candS_ne k)

theorem last_rising {out : List (List UInt8)} (h : Rising out) (x : List UInt8) (hx : x ∈ out) : x = out.getLastD [] ∨ ltS x (out.getLastD []) = true := by
 induction out with
 | nil => cases hx
 | cons y l ih =>
  cases l with
  | nil => exact .inl (by simpa using hx)
  | cons z l =>
   have e : (y :: z :: l).getLastD [] = (z :: l).getLastD [] := rfl
   rw [e]
   rcases List.mem_cons.1 hx with k | k
   ·subst k
    have hl : (z :: l).getLastD [] ∈ z :: l := by
     rw [List.getLastD_eq_getLast?, List.getLast?_eq_some_getLast (by simp)]
     exact List.getLast_mem _
    exact .inr (h.1 _ hl)
   ·exact ih h.2 k

theorem SetPart.step {ls out : List (List UInt8)} {b : List UInt8} (h : SetPart ls out) (hb : Best out ls b) (hne : b ≠ []) : SetPart ls (out ++ [b]) := by
 rcases hb with ⟨k, _⟩ | ⟨h1, h2, h3⟩
 ·exact absurd k hne
 ·have hc := h2
  simp only [candS, Bool.and_eq_true, Bool.or_eq_true] at hc
  have hlt : ∀ y ∈ out, ltS y b = true := by
   intro y hy
   rcases hc.2 with e | e
   ·rw [List.isEmpty_iff.1 e] at hy; cases hy
   ·rcases last_rising h.1 y hy with k | k
    ·rw [k]; exact e
    ·exact ltS_trans _ _ _ k e
  have hl : (out ++ [b]).getLastD [] = b := by simp
  refine ⟨h.1.snoc hlt, fun x hx => ?_, fun x hx hn => ?_⟩
  ·rcases List.mem_append.1 hx with k | k
   ·exact h.2.1 x k
   ·rw [List.mem_singleton.1 k]; exact ⟨h1, hc.1⟩
  ·rcases h.2.2 x hx hn with k | k
   ·exact .inl (List.mem_append_left _ k)
   ·rcases ltS_tri x b with e | e | e
    ·rw [h3 x hx k] at e; cases e
    ·exact .inl (by rw [e]; simp)
    ·exact .inr (by simp [candS, hn, e])

end Go.Proofs.Ytjaplnainlbldaa

/- Lists of texts that can be read. Nothing of the program's text. -/
namespace Go.Proofs.Ytjaplnainlbldaa
open Go.RowKit

theorem ba_get (l : List UInt8) (k : Nat) (h : k < (⟨l.toArray⟩ : ByteArray).size) : (⟨l.toArray⟩ : ByteArray)[k] = l[k]'h := rfl

/-- The texts ls can be read from the address ao on. -/
def StrsAt (D : Nat → Prop) (w : World) (ao : Option Addr) (ls : List (List UInt8)) : Prop :=
 ∀ i (h : i < ls.length), ∃ b off, ao = some ⟨b, off, none⟩ ∧ D b ∧ w.cell? ⟨b, off + i, none⟩ = some (.string ⟨ls[i].toArray⟩) ∧ ls[i].length ≤ 9223372036854775807

theorem StrsAt.keep {S D : Nat → Prop} {w w' : World} {ao : Option Addr} {ls : List (List UInt8)} (h : StrsAt D w ao ls) (hc : Chg S w w') (hS : ∀ i, D i → ¬ S i) : StrsAt D w' ao ls := fun i hi =>
 let ⟨b, off, h1, h2, h3, h4⟩ := h i hi
 ⟨b, off, h1, h2, hc.cell h3 (hS b h2), h4⟩

theorem StrsAt.mono {D D' : Nat → Prop} {w : World} {ao : Option Addr} {ls : List (List UInt8)} (h : StrsAt D w ao ls) (hD : ∀ i, D i → D' i) : StrsAt D' w ao ls := fun i hi =>
 let ⟨b, off, h1, h2, h3, h4⟩ := h i hi
 ⟨b, off, h1, hD b h2, h3, h4⟩

theorem StrsAt.nil (D : Nat → Prop) (w : World) (ao : Option Addr) : StrsAt D w ao [] := fun i hi => by simp at hi

end Go.Proofs.Ytjaplnainlbldaa

/- Roles, in order; sets of them; lists of them that can be read: plain words. -/
namespace Go.Proofs.Ytjaplnainlbldaa
open Go.RowKit

/-- An owner and a word. -/
abbrev RoleB := List UInt8 × List UInt8
def isRole (r : RoleB) : Bool := isName r.1 && isName r.2
def ltR (a b : RoleB) : Bool := lexLt ltS ltS a b
theorem ltS_ord : Ord ltS := ⟨ltS_irrefl, ltS_trans, ltS_tri⟩
theorem ltR_ord : Ord ltR := lexLt_ord ltS_ord ltS_ord
theorem ltR_def (a b : RoleB) : ltR a b = (ltS a.1 b.1 || (a.1 == b.1 && ltS a.2 b.2)) := rfl
/-- How two compare. -/
def cmpR (a b : RoleB) : Int := if ltR a b then -1 else if ltR b a then 1 else 0

/-- A role, as the program holds it. -/
def roleV (r : RoleB) : Value := .agg #[.string ⟨r.1.toArray⟩, .string ⟨r.2.toArray⟩]
def roleCells (r : RoleB) : List Value := [.string ⟨r.1.toArray⟩, .string ⟨r.2.toArray⟩]

/-- The role r lies at the two cells from o on. -/
def RoleAt (w : World) (b o : Nat) (r : RoleB) : Prop :=
 w.cell? ⟨b, o, none⟩ = some (.string ⟨r.1.toArray⟩) ∧ w.cell? ⟨b, o + 1, none⟩ = some (.string ⟨r.2.toArray⟩) ∧ r.1.length ≤ 9223372036854775807 ∧ r.2.length ≤ 9223372036854775807

/-- The roles ls can be read from the address ao on. -/
def RolesAt (D : Nat → Prop) (w : World) (ao : Option Addr) (ls : List RoleB) : Prop :=
 ∀ i (h : i < ls.length), ∃ b off, ao = some ⟨b, off, none⟩ ∧ D b ∧ RoleAt w b (off + i * 2) ls[i]

theorem RoleAt.keep {S : Nat → Prop} {w w' : World} {b o : Nat} {r : RoleB} (h : RoleAt w b o r) (hc : Chg S w w') (hS : ¬ S b) : RoleAt w' b o r :=
 ⟨hc.cell h.1 hS, hc.cell h.2.1 hS, h.2.2⟩

theorem RolesAt.keep {S D : Nat → Prop} {w w' : World} {ao : Option Addr} {ls : List RoleB} (h : RolesAt D w ao ls) (hc : Chg S w w') (hS : ∀ i, D i → ¬ S i) : RolesAt D w' ao ls := fun i hi =>
 let ⟨b, off, h1, h2, h3⟩ := h i hi
 ⟨b, off, h1, h2, h3.keep hc (hS b h2)⟩

theorem RolesAt.mono {D D' : Nat → Prop} {w : World} {ao : Option Addr} {ls : List RoleB} (h : RolesAt D w ao ls) (hD : ∀ i, D i → D' i) : RolesAt D' w ao ls := fun i hi =>
 let ⟨b, off, h1, h2, h3⟩ := h i hi
 ⟨b, off, h1, hD b h2, h3⟩

theorem RolesAt.nil (D : Nat → Prop) (w : World) (ao : Option Addr) : RolesAt D w ao [] := fun i hi => by simp at hi

end Go.Proofs.Ytjaplnainlbldaa

/- Plain arithmetic of layer 1's numbers: nothing of the program's text. -/
namespace Go.Proofs.Ytjaplnainlbldaa
open Go.RowKit

/-- The number that the bytes begin with, how many bytes it has, and the error. -/
def numN : Nat → List UInt8 → Nat → Nat → Nat × Nat × Nat
 | 0, _, _, _ => (0, 0, 11)
 | _ + 1, [], _, _ => (0, 0, 10)
 | f + 1, d :: l, k, n =>
  if d.toNat = 0 ∧ 0 < k then (0, 0, 11)
  else if d.toNat < 128 then (n + d.toNat * 128 ^ k, k + 1, 0)
  else numN f l (k + 1) (n + (d.toNat - 128) * 128 ^ k)

/-- The error of a text that is read. -/
def errText (l : List UInt8) (most : Int) : Nat :=
 if (numN 9 l 0 0).2.2 = 0 then
  (if most < ((numN 9 l 0 0).1 : Int) then 12 else if l.length - (numN 9 l 0 0).2.1 < (numN 9 l 0 0).1 then 10 else 0)
 else (numN 9 l 0 0).2.2

/-- A number's bytes: one that isn't the last; the last. -/
def dg (n : Nat) : UInt8 := UInt8.ofNat (128 + n % 128)
def ds (n : Nat) : UInt8 := UInt8.ofNat n
def enc (n : Nat) : List UInt8 := if n < 128 then [ds n] else dg n :: enc (n / 128)
 termination_by n
 decreasing_by omega

theorem enc_small {n : Nat} (h : n < 128) : enc n = [ds n] := by rw [enc, if_pos h]
theorem enc_big {n : Nat} (h : 128 ≤ n) : enc n = dg n :: enc (n / 128) := by rw [enc, if_neg (by omega)]

theorem enc_length : ∀ (k n : Nat), n < 128 ^ (k + 1) → (enc n).length ≤ k + 1
 | 0, n, h => by rw [enc_small (by omega)]; simp
 | k + 1, n, h => by
  by_cases h1 : n < 128
  ·rw [enc_small h1]; simp
  ·rw [enc_big (by omega)]
   have := enc_length k (n / 128) (by rw [Nat.pow_succ] at h; omega)
   simp only [List.length_cons]
   omega

theorem enc_length9 {n : Nat} (h : n < 9223372036854775808) : (enc n).length ≤ 9 := enc_length 8 n (by simpa using h)

theorem enc_pos (n : Nat) : 0 < (enc n).length := by
 by_cases h1 : n < 128
 ·rw [enc_small h1]; simp
 ·rw [enc_big (by omega)]; simp

theorem bits_and_i64_127 (n : Nat) (h : n < 9223372036854775808) : bits .and .i64 (n : Int) 127 = ((n % 128 : Nat) : Int) := by
 have h1 : (BitVec.ofInt 64 (n : Int)).toNat = n := by
  rw [BitVec.ofInt_natCast, BitVec.toNat_ofNat]; exact Nat.mod_eq_of_lt (by omega)
 show IntKind.i64.wrap ((BitVec.ofInt 64 (n : Int) &&& BitVec.ofInt 64 127).toNat : Int) = _
 rw [BitVec.toNat_and, h1]
 have h2 : (BitVec.ofInt 64 127).toNat = 2 ^ 7 - 1 := by decide
 rw [h2, Nat.and_two_pow_sub_one_eq_mod]
 exact IntWalk.i64_in _ (by omega)

theorem bits_or_u8_128 (d : Nat) (h : d < 128) : bits .or .u8 (d : Int) 128 = ((128 + d : Nat) : Int) := by
 have h1 : (BitVec.ofInt 8 (d : Int)).toNat = d := by
  rw [BitVec.ofInt_natCast, BitVec.toNat_ofNat]; exact Nat.mod_eq_of_lt (by omega)
 show IntKind.u8.wrap ((BitVec.ofInt 8 (d : Int) ||| BitVec.ofInt 8 128).toNat : Int) = _
 rw [BitVec.toNat_or, h1]
 have h2 : (BitVec.ofInt 8 128).toNat = 1 <<< 7 := by decide
 rw [h2, Nat.or_comm, ← Nat.shiftLeft_add_eq_or_of_lt (by simpa using h)]
 simp only [Nat.shiftLeft_eq]
 exact IntWalk.u8_in _ (by omega)

theorem dg_toNat (n : Nat) : (dg n).toNat = 128 + n % 128 := ofNat_u8 _ (by omega)
theorem ds_toNat {n : Nat} (h : n < 128) : (ds n).toNat = n := ofNat_u8 _ (by omega)

theorem digit_of (n : Nat) (h : n < 9223372036854775808) : bits .or .u8 (bits .and .i64 (n : Int) 127 % 256) 128 = ((dg n).toNat : Int) := by
 have e : ((n % 128 : Nat) : Int) % 256 = ((n % 128 : Nat) : Int) := by omega
 rw [bits_and_i64_127 n h, e, bits_or_u8_128 _ (Nat.mod_lt _ (by decide)), dg_toNat]

end Go.Proofs.Ytjaplnainlbldaa
