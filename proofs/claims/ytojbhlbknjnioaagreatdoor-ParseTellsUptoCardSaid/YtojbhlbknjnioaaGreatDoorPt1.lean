/- Texts that the proof leans on, in one: Mem, OrdMath, NameMath, SetMath, Strs, RoleMath, FmMath, Row, Conv, RefRight, RoleRef, RoleOwn. -/
import Derived.WalkKit
import Derived.WalkSpells
import Derived.WalkLawsBesides
import Derived.Lib.SlicesCompact
import Derived.Maps.AppendAt
import Derived.Test.YtojbhlbknjnioaaGreatDoorRows
import Derived.Lib.SlBytesConst
import Derived.Deep.QuietTactic
import Derived.BigQuiet
/- What the walks say of memory: bytes that can be read; which blocks a call may have turned. Nothing of the program's text. -/
namespace Go.Proofs.YtojbhlbknjnioaaGreatDoor
open Go.RowKit

theorem hid {p : Prop} (h : p) : Hid p := h

/-- w' is w with new blocks, and with writes to the blocks of S alone. -/
structure Chg (S : Nat → Prop) (w w' : World) : Prop where
  os : w'.os = w.os
  tape : w'.tape = w.tape
  output : w'.output = w.output
  size : w.heap.size ≤ w'.heap.size
  block : ∀ k, k < w.heap.size → ¬ S k → w'.heap[k]? = w.heap[k]?

theorem Chg.refl (S : Nat → Prop) (w : World) : Chg S w w := ⟨rfl, rfl, rfl, Nat.le_refl _, fun _ _ _ => rfl⟩

theorem Chg.trans {S T : Nat → Prop} {a b c : World} (h : Chg S a b) (k : Chg T b c) (hT : ∀ i, i < a.heap.size → T i → S i) : Chg S a c :=
  ⟨k.os.trans h.os, k.tape.trans h.tape, k.output.trans h.output, Nat.le_trans h.size k.size, fun i hi hs =>
    (k.block i (Nat.lt_of_lt_of_le hi h.size) (fun ht => hs (hT i hi ht))).trans (h.block i hi hs)⟩

theorem Chg.mono {S T : Nat → Prop} {a b : World} (h : Chg S a b) (hT : ∀ i, i < a.heap.size → S i → T i) : Chg T a b :=
  ⟨h.os, h.tape, h.output, h.size, fun i hi hs => h.block i hi (fun k => hs (hT i hi k))⟩

theorem Chg.alloc {S : Nat → Prop} {a b : World} (h : Chg S a b) (o : Obj) : Chg S a (b.alloc o) :=
  ⟨h.os, h.tape, h.output, Nat.le_trans h.size (by simp), fun i hi hs => (Below.heap_alloc _ _ _ (Nat.lt_of_lt_of_le hi h.size)).trans (h.block i hi hs)⟩

theorem Chg.setCell {S : Nat → Prop} {a b : World} (h : Chg S a b) {p : Addr} (hp : p.block < a.heap.size → S p.block) (u : Value) : Chg S a (b.setCell p u) :=
  ⟨h.os, h.tape, h.output, by have := h.size; simpa [World.setCell] using this, fun i hi hs =>
    (Below.heap_setCell _ _ _ _ (fun e => hs (by subst e; exact hp hi))).trans (h.block i hi hs)⟩

theorem Chg.drew {S : Nat → Prop} {a b : World} (h : Chg S a b) : Chg S a b.drew := ⟨h.os, h.tape, h.output, h.size, h.block⟩

theorem Chg.grown {S : Nat → Prop} {a b c : World} {row : Option Nat} (h : Chg S a b) (g : b.grownBy c row) (hr : ∀ k, row = some k → k < a.heap.size → S k) : Chg S a c :=
  ⟨g.os.trans h.os, g.tape.trans h.tape, g.output.trans h.output, Nat.le_trans h.size g.size, fun i hi hs =>
    (g.block i (Nat.lt_of_lt_of_le hi h.size) (fun e => hs (hr i e.symm hi))).trans (h.block i hi hs)⟩

theorem Chg.below {S : Nat → Prop} {a b : World} (h : Chg S a b) {B : Nat} (hB : B ≤ a.heap.size) (hS : ∀ i, i < B → ¬ S i) : Below B a b :=
  ⟨h.os, h.tape, h.output, h.size, fun k hk => h.block k (Nat.lt_of_lt_of_le hk hB) (hS k hk)⟩

theorem Chg.cell {S : Nat → Prop} {a b : World} (h : Chg S a b) {p : Addr} {v : Value} (hv : a.cell? p = some v) (hs : ¬ S p.block) : b.cell? p = some v :=
  (World.cell?_of_block (h.block p.block (World.block_lt_of_cell? a p hv) hs)).trans hv

/-- The bytes l can be read through the slice value v; its block is one of D. -/
def BytesAt (D : Nat → Prop) (w : World) (v : Value) (l : List UInt8) : Prop :=
  (∃ ao cp, v = .slice ao 0 cp ∧ l = [] ∧ (ao = none → cp = 0)) ∨
  ∃ b off cap, v = .slice (some ⟨b, off, none⟩) l.length cap ∧ l.length ≤ cap ∧ cap ≤ maxLen ∧ D b ∧ ∀ i (h : i < l.length), w.cell? ⟨b, off + i, none⟩ = some (.int .u8 (l[i].toNat : Int))

theorem cell_blk {w : World} {b : Nat} {cs : Array Value} {T : TypeId} {f : Nat × Nat} (h : w.heap[b]? = some (.cells cs T f)) (i : Nat) : w.cell? ⟨b, i, none⟩ = cs[i]? := by
  simp [World.cell?, h]

theorem froz_blk {w : World} {b : Nat} {cs : Array Value} {T : TypeId} (h : w.heap[b]? = some (.cells cs T (0, 0))) (i : Nat) : w.frozen? ⟨b, i, none⟩ = false := by
  simp [World.frozen?, h]

theorem lt_blk {w : World} {b : Nat} {o : Obj} (h : w.heap[b]? = some o) : b < w.heap.size := (Array.getElem?_eq_some_iff.1 h).1

theorem set_blk {w : World} {b : Nat} {cs : Array Value} {T : TypeId} {f : Nat × Nat} (h : w.heap[b]? = some (.cells cs T f)) (i : Nat) (v : Value) :
    (w.setCell ⟨b, i, none⟩ v).heap[b]? = some (.cells (cs.setIfInBounds i v) T f) := by
  simp [World.setCell, Array.getElem?_modify, h]

theorem blk_keep {S : Nat → Prop} {w w' : World} {b : Nat} {o : Obj} (h : w.heap[b]? = some o) (hc : Chg S w w') (hs : ¬ S b) : w'.heap[b]? = some o := (hc.block b (lt_blk h) hs).trans h

theorem setCell_chg (w : World) (b i : Nat) (v : Value) : Chg (· = b) w (w.setCell ⟨b, i, none⟩ v) := (Chg.refl (· = b) w).setCell (p := ⟨b, i, none⟩) (fun _ => rfl) v

end Go.Proofs.YtojbhlbknjnioaaGreatDoor

/- Things in order, and sets of the right ones among them: plain words, nothing of the program's text. -/
namespace Go.Proofs.YtojbhlbknjnioaaGreatDoor
open Go.RowKit

section
variable {α : Type} {lt : α → α → Bool} {good : α → Bool}

end

end Go.Proofs.YtojbhlbknjnioaaGreatDoor

/- Names, and sets of them: plain words, nothing of the program's text. -/
namespace Go.Proofs.YtojbhlbknjnioaaGreatDoor
open Go.RowKit

/-- A sign of a name. -/
def okByte (c : UInt8) : Bool := (decide (97 ≤ c.toNat) && decide (c.toNat ≤ 122)) || (decide (48 ≤ c.toNat) && decide (c.toNat ≤ 57)) || decide (c.toNat = 45)
def okFirst (c : UInt8) : Bool := decide (97 ≤ c.toNat) && decide (c.toNat ≤ 122)
/-- A name. -/
def isName : List UInt8 → Bool
  | [] => false
  | c :: l => okFirst c && decide (l.length < 16) && (c :: l).all okByte

theorem okByte_yes {c : UInt8} (h : okByte c = true) : (97 ≤ c.toNat ∧ c.toNat ≤ 122) ∨ (48 ≤ c.toNat ∧ c.toNat ≤ 57) ∨ c.toNat = 45 := by
  simp only [okByte, Bool.or_eq_true, Bool.and_eq_true, decide_eq_true_eq] at h
  omega
theorem okByte_no {c : UInt8} (h : okByte c = false) : (c.toNat < 48 ∧ c.toNat ≠ 45) ∨ (57 < c.toNat ∧ c.toNat < 97) ∨ 122 < c.toNat := by
  simp only [okByte, Bool.or_eq_false_iff, Bool.and_eq_false_iff, decide_eq_false_iff_not] at h
  omega

theorem isName_long {l : List UInt8} (h : 16 < l.length) : isName l = false := by
  cases l with
  | nil => rfl
  | cons c l =>
    have : decide (l.length < 16) = false := by simp at h ⊢; omega
    simp [isName, this]

theorem isName_first {l : List UInt8} (h0 : 0 < l.length) (h : okFirst l[0] = false) : isName l = false := by
  cases l with
  | nil => simp at h0
  | cons c l => simp at h; simp [isName, h]

theorem isName_all {l : List UInt8} (h0 : 0 < l.length) (h : okFirst l[0] = true) (h1 : l.length ≤ 16) : isName l = l.all okByte := by
  cases l with
  | nil => simp at h0
  | cons c l =>
    have h2 : decide (l.length < 16) = true := by simp at h1 ⊢; omega
    simp only [List.getElem_cons_zero] at h
    simp only [isName, h, h2, Bool.true_and]

theorem all_take_succ (l : List UInt8) (k : Nat) (h : k < l.length) (ha : (l.take k).all okByte = true) : (l.take (k + 1)).all okByte = okByte l[k] := by
  rw [List.take_succ_eq_append_getElem h, List.all_append, ha]
  simp

theorem all_of_bad (l : List UInt8) (k : Nat) (h : k < l.length) (hb : okByte l[k] = false) : l.all okByte = false := by
  rw [List.all_eq_false]
  exact ⟨l[k], List.getElem_mem h, by simp [hb]⟩

end Go.Proofs.YtojbhlbknjnioaaGreatDoor

/- Texts in order; sets of names: plain words, nothing of the program's text. -/
namespace Go.Proofs.YtojbhlbknjnioaaGreatDoor
open Go.RowKit

end Go.Proofs.YtojbhlbknjnioaaGreatDoor

/- Lists of texts that can be read. Nothing of the program's text. -/
namespace Go.Proofs.YtojbhlbknjnioaaGreatDoor
open Go.RowKit

theorem ba_get (l : List UInt8) (k : Nat) (h : k < (⟨l.toArray⟩ : ByteArray).size) : (⟨l.toArray⟩ : ByteArray)[k] = l[k]'h := rfl

/-- The texts ls can be read from the address ao on. -/
def StrsAt (D : Nat → Prop) (w : World) (ao : Option Addr) (ls : List (List UInt8)) : Prop :=
  ∀ i (h : i < ls.length), ∃ b off, ao = some ⟨b, off, none⟩ ∧ D b ∧ w.cell? ⟨b, off + i, none⟩ = some (.string ⟨ls[i].toArray⟩) ∧ ls[i].length ≤ 9223372036854775807

theorem StrsAt.keep {S D : Nat → Prop} {w w' : World} {ao : Option Addr} {ls : List (List UInt8)} (h : StrsAt D w ao ls) (hc : Chg S w w') (hS : ∀ i, D i → ¬ S i) : StrsAt D w' ao ls := fun i hi =>
  let ⟨b, off, h1, h2, h3, h4⟩ := h i hi
  ⟨b, off, h1, h2, hc.cell h3 (hS b h2), h4⟩

theorem StrsAt.nil (D : Nat → Prop) (w : World) (ao : Option Addr) : StrsAt D w ao [] := fun i hi => by simp at hi

end Go.Proofs.YtojbhlbknjnioaaGreatDoor

/- Roles, in order; sets of them; lists of them that can be read: plain words. -/
namespace Go.Proofs.YtojbhlbknjnioaaGreatDoor
open Go.RowKit

/-- An owner and a word. -/
abbrev RoleB := List UInt8 × List UInt8
def isRole (r : RoleB) : Bool := isName r.1 && isName r.2
/-- A role's text. -/
def roleText (r : RoleB) : List UInt8 := r.1 ++ (46 :: r.2)

/-- A role, as the program holds it. -/
def roleV (r : RoleB) : Value := .agg #[.string ⟨r.1.toArray⟩, .string ⟨r.2.toArray⟩]
def roleCells (r : RoleB) : List Value := [.string ⟨r.1.toArray⟩, .string ⟨r.2.toArray⟩]

end Go.Proofs.YtojbhlbknjnioaaGreatDoor

/- Formulas: plain words. -/
namespace Go.Proofs.YtojbhlbknjnioaaGreatDoor
open Go.RowKit

/-- A formula: its Op, its K, its Role, its Kids. -/
inductive FmB where
  | mk (op k : Int) (r : RoleB) (kids : List FmB)

def FmB.op : FmB → Int | .mk op _ _ _ => op
def FmB.k : FmB → Int | .mk _ k _ _ => k
def FmB.r : FmB → RoleB | .mk _ _ r _ => r
def FmB.kids : FmB → List FmB | .mk _ _ _ kids => kids

/- How many nodes; how deep; how great (layer 11's law's word). -/
mutual
def nodesF : FmB → Nat
  | .mk _ _ _ kids => 1 + nodesL kids
def nodesL : List FmB → Nat
  | [] => 0
  | f :: l => nodesF f + nodesL l
end
mutual
def deepF : FmB → Nat
  | .mk _ _ _ kids => 1 + deepL kids
def deepL : List FmB → Nat
  | [] => 0
  | f :: l => max (deepF f) (deepL l)
end
mutual
def greatF : FmB → Nat
  | .mk _ _ r kids => 1 + (r.1.length + r.2.length) / 16 + greatL kids
def greatL : List FmB → Nat
  | [] => 0
  | f :: l => greatF f + greatL l
end

/-- Is a node right, whatever its Kids are? -/
def rightN (op k : Int) (r : RoleB) (n : Nat) : Bool :=
  if op = 1 then isRole r && (decide (n = 0) && decide (k = 0))
  else if 8 < n ∨ r ≠ ([], []) then false
  else if op = 2 ∨ op = 3 then decide (k = 0)
  else if op = 4 then decide (0 < n) && (decide (0 ≤ k) && decide (k ≤ (n : Int)))
  else false
/- Are all nodes? -/
mutual
def rightF : FmB → Bool
  | .mk op k r kids => rightL kids && rightN op k r kids.length
def rightL : List FmB → Bool
  | [] => true
  | f :: l => rightF f && rightL l
end
def isF (f : FmB) : Bool := decide (nodesF f ≤ 64) && (decide (deepF f ≤ 6) && rightF f)

/- Is it true, of the roles that T tells? -/
/- The roles of its atoms. -/
theorem nodesF_eq (f : FmB) : nodesF f = 1 + nodesL f.kids := by cases f; rfl
theorem deepF_eq (f : FmB) : deepF f = 1 + deepL f.kids := by cases f; rfl
theorem greatF_eq (f : FmB) : greatF f = 1 + (f.r.1.length + f.r.2.length) / 16 + greatL f.kids := by cases f; rfl
theorem rightF_eq (f : FmB) : rightF f = (rightL f.kids && rightN f.op f.k f.r f.kids.length) := by cases f; rfl
theorem nodesL_app (a b : List FmB) : nodesL (a ++ b) = nodesL a + nodesL b := by
  induction a with
  | nil => simp [nodesL]
  | cons x l ih => rw [List.cons_append, nodesL, nodesL, ih]; omega
theorem nodesL_snoc (a : List FmB) (x : FmB) : nodesL (a ++ [x]) = nodesL a + nodesF x := by rw [nodesL_app]; simp [nodesL]
theorem deepL_snoc (a : List FmB) (x : FmB) : deepL (a ++ [x]) = max (deepL a) (deepF x) := by
  induction a with
  | nil => simp [deepL]
  | cons y l ih => rw [List.cons_append, deepL, deepL, ih]; omega
theorem greatL_snoc (a : List FmB) (x : FmB) : greatL (a ++ [x]) = greatL a + greatF x := by
  induction a with
  | nil => simp [greatL]
  | cons y l ih => rw [List.cons_append, greatL, greatL, ih]; omega
theorem rightL_snoc (a : List FmB) (x : FmB) : rightL (a ++ [x]) = (rightL a && rightF x) := by
  induction a with
  | nil => simp [rightL]
  | cons y l ih => rw [List.cons_append, rightL, rightL, ih, Bool.and_assoc]
theorem nodesF_pos (f : FmB) : 1 ≤ nodesF f := by rw [nodesF_eq]; omega
theorem nodesL_len (l : List FmB) : l.length ≤ nodesL l := by
  induction l with
  | nil => simp
  | cons x l ih => have := nodesF_pos x; rw [nodesL, List.length_cons]; omega
theorem nodesL_take (l : List FmB) (j : Nat) : nodesL (l.take j) ≤ nodesL l := by
  have h := nodesL_app (l.take j) (l.drop j)
  rw [List.take_append_drop] at h
  omega
theorem nodesL_get (l : List FmB) (j : Nat) (h : j < l.length) : nodesL (l.take (j + 1)) = nodesL (l.take j) + nodesF l[j] := by rw [List.take_succ_eq_append_getElem h, nodesL_snoc]
theorem nodesL_mem {l : List FmB} {f : FmB} (h : f ∈ l) : nodesF f ≤ nodesL l := by
  induction l with
  | nil => cases h
  | cons x l ih =>
    rcases List.mem_cons.1 h with rfl | h
    · rw [nodesL]; omega
    · have := ih h; rw [nodesL]; omega
theorem deepL_mem {l : List FmB} {f : FmB} (h : f ∈ l) : deepF f ≤ deepL l := by
  induction l with
  | nil => cases h
  | cons x l ih =>
    rcases List.mem_cons.1 h with rfl | h
    · rw [deepL]; omega
    · have := ih h; rw [deepL]; omega
theorem rightL_mem {l : List FmB} (h : rightL l = true) : ∀ f ∈ l, rightF f = true := by
  induction l with
  | nil => exact fun _ h => by cases h
  | cons x l ih =>
    intro f hf
    rw [rightL, Bool.and_eq_true] at h
    rcases List.mem_cons.1 hf with rfl | hf
    · exact h.1
    · exact ih h.2 f hf
theorem rightL_no {l : List FmB} {j : Nat} (hj : j < l.length) (h : rightF l[j] = false) : rightL l = false := by
  cases e : rightL l with
  | false => rfl
  | true => rw [rightL_mem e _ (List.getElem_mem hj)] at h; cases h
/-- By as many nodes as it has: every formula is reached. -/
theorem nodes_ind {P : FmB → Prop} (h : ∀ f : FmB, (∀ g ∈ f.kids, P g) → P f) : ∀ f, P f := by
  have key : ∀ n f, nodesF f ≤ n → P f := by
    intro n
    induction n with
    | zero => intro f hf; have := nodesF_pos f; omega
    | succ n ih =>
      intro f hf
      refine h f fun g hg => ih g ?_
      have := nodesL_mem hg
      rw [nodesF_eq] at hf
      omega
  exact fun f => key _ f (Nat.le_refl _)

/-- No fewer nodes than this greatness. -/
theorem great_nodes : ∀ f : FmB, nodesF f ≤ greatF f := by
  refine nodes_ind fun f h => ?_
  have key : ∀ l : List FmB, (∀ g ∈ l, nodesF g ≤ greatF g) → nodesL l ≤ greatL l := by
    intro l
    induction l with
    | nil => exact fun _ => Nat.le_refl _
    | cons x l ih =>
      intro h
      have h1 := h x (by simp)
      have h2 := ih (fun g hg => h g (by simp [hg]))
      rw [nodesL, greatL]
      omega
  have := key _ h
  rw [nodesF_eq, greatF_eq]
  omega

end Go.Proofs.YtojbhlbknjnioaaGreatDoor

/- A row of bytes of the call's own, that is written in place. -/
namespace Go.Proofs.YtojbhlbknjnioaaGreatDoor
open Go.RowKit

theorem add_off (b off i : Nat) : (⟨b, off, none⟩ : Addr).add i = ⟨b, off + i, none⟩ := by
  unfold Addr.add
  split <;> simp_all

end Go.Proofs.YtojbhlbknjnioaaGreatDoor

/- Conversions between strings and bytes; blocks of bytes. -/
namespace Go.Proofs.YtojbhlbknjnioaaGreatDoor
open Go.RowKit

theorem conv_bytes {D : Nat → Prop} {v : Value} {l : List UInt8} {w : World} (h : BytesAt D w v l) : (convert 44 9 v).run Tryz.prog w = .ok (.string ⟨l.toArray⟩) w := by
  rcases h with ⟨ao, cp, rfl, rfl, h0⟩ | ⟨b, off, cap, rfl, h1, h2, h3, h4⟩
  · cases ao with
    | none => exact run_convert_bytes_nil w 44 5 Tryz.underlying44 Tryz.underlying5 0 cp 9 Tryz.underlying9
    | some x => exact run_convert_bytes_back w 44 9 5 x cp [] Tryz.underlying44 Tryz.underlying5 Tryz.underlying9 (fun j hj => by simp at hj)
  · refine run_convert_bytes_back w 44 9 5 ⟨b, off, none⟩ cap l Tryz.underlying44 Tryz.underlying5 Tryz.underlying9 (fun j hj => ?_)
    rw [add_off]
    exact h4 j hj

theorem conv_one (d : UInt8) (x : Int) (w : World) (hx : x = (d.toNat : Int)) : (convert 44 9 (.slice (some ⟨w.heap.size, 0, none⟩) 1 1)).run Tryz.prog (w.alloc (.cells #[.int .u8 x] 5)) = .ok (.string ⟨#[d]⟩) (w.alloc (.cells #[.int .u8 x] 5)) := by
  subst hx
  refine conv_bytes (D := fun _ => True) (l := [d]) (.inr ⟨_, 0, 1, rfl, Nat.le_refl 1, by decide, trivial, fun i hi => ?_⟩)
  rw [cell_blk (heap_alloc_new w _)]
  match i, hi with
  | 0, _ => rfl

end Go.Proofs.YtojbhlbknjnioaaGreatDoor

/- The contracts of the document's Right. -/
namespace Go.Proofs.YtojbhlbknjnioaaGreatDoor
open Go.RowKit
theorem refright_any (l : List UInt8) (w : World) (hs : l.length ≤ 9223372036854775807) :
    Calls Tryz.prog 44 #[.string ⟨l.toArray⟩] w fun e w' => e = .returned (.bool (isName l)) ∧ w = w' := by
  by_cases h0 : l.length = 0
  · have he : l = [] := List.eq_nil_of_length_eq_zero h0
    subst he
    go_enter Tryz.func44, Tryz.ntmps44
    go_wp2
    go_ret
    exact ⟨rfl, rfl⟩
  · have hpos : 0 < l.length := by omega
    have hem : l.isEmpty = false := by cases l with | nil => simp at h0 | cons _ _ => rfl
    have gx := ba_get l
    by_cases h16 : 16 < l.length
    · have hx : Hid (isName l = false) := isName_long h16
      have d1 : decide (16 < (l.length : Int)) = true := by simp; omega
      go_enter Tryz.func44, Tryz.ntmps44
      go_wp2
      go_ret
      exact ⟨by rw [hx.out]; rfl, rfl⟩
    · have d1 : decide (16 < (l.length : Int)) = false := by simp; omega
      by_cases h97 : l[0].toNat < 97
      · have hx : Hid (isName l = false) := isName_first hpos (by simp [okFirst]; omega)
        have d2 : decide ((l[0].toNat : Int) < 97) = true := by simp; omega
        go_enter Tryz.func44, Tryz.ntmps44
        go_wp2
        go_ret
        exact ⟨by rw [hx.out]; rfl, rfl⟩
      · have d2 : decide ((l[0].toNat : Int) < 97) = false := by simp; omega
        by_cases h122 : 122 < l[0].toNat
        · have hx : Hid (isName l = false) := isName_first hpos (by simp [okFirst]; omega)
          have d3 : decide (122 < (l[0].toNat : Int)) = true := by simp; omega
          go_enter Tryz.func44, Tryz.ntmps44
          go_wp2
          go_ret
          exact ⟨by rw [hx.out]; rfl, rfl⟩
        · have d3 : decide (122 < (l[0].toNat : Int)) = false := by simp; omega
          have hx : Hid (isName l = l.all okByte) := isName_all hpos (by simp [okFirst]; omega) (by omega)
          go_enter Tryz.func44, Tryz.ntmps44
          go_wp2
          clear d1 d2 d3 hem
          go_loop [3] (fun i => ∃ k : Nat, k ≤ l.length ∧ i = .int .i64 k ∧ Hid ((l.take k).all okByte = true)) (fun i => l.length - (intOf i).toNat)
          case atStart => exact ⟨0, Nat.zero_le _, rfl, rfl⟩
          case round =>
            obtain ⟨k, hk, rfl, ha⟩ := hrel
            by_cases hlt : k < l.length
            · by_cases hok : okByte l[k] = true
              · have hn : Hid ((l.take (k + 1)).all okByte = true) := hid (by rw [all_take_succ _ k hlt ha.out, hok])
                clear ha
                rcases okByte_yes hok with hc | hc | hc
                · have p1 : decide ((l[k].toNat : Int) < 97) = false := by simp; omega
                  have p2 : decide (122 < (l[k].toNat : Int)) = false := by simp; omega
                  clear hok
                  have HC := hid hc
                  clear hc
                  go_wp2
                  go_round
                  case rel => exact ⟨k + 1, by omega, by go_num, hn⟩
                  case measure => simp [intOf]; omega
                · have p1 : decide ((l[k].toNat : Int) < 97) = true := by simp; omega
                  have p3 : decide ((l[k].toNat : Int) < 48) = false := by simp; omega
                  have p4 : decide (57 < (l[k].toNat : Int)) = false := by simp; omega
                  clear hok
                  have HC := hid hc
                  clear hc
                  go_wp2
                  go_round
                  case rel => exact ⟨k + 1, by omega, by go_num, hn⟩
                  case measure => simp [intOf]; omega
                · have p1 : decide ((l[k].toNat : Int) < 97) = true := by simp; omega
                  have p3 : decide ((l[k].toNat : Int) < 48) = true := by simp; omega
                  have p5 : ((l[k].toNat : Int) != 45) = false := by simp; omega
                  clear hok
                  have HC := hid hc
                  clear hc
                  go_wp2
                  go_round
                  case rel => exact ⟨k + 1, by omega, by go_num, hn⟩
                  case measure => simp [intOf]; omega
              · have hn : Hid (l.all okByte = false) := hid (all_of_bad l k hlt (by simpa using hok))
                clear ha
                rcases okByte_no (by simpa using hok) with hc | hc | hc
                · have p1 : decide ((l[k].toNat : Int) < 97) = true := by simp; omega
                  have p3 : decide ((l[k].toNat : Int) < 48) = true := by simp; omega
                  have p5 : ((l[k].toNat : Int) != 45) = true := by simp; omega
                  clear hok
                  have HC := hid hc
                  clear hc
                  go_wp2
                  go_ret
                  exact ⟨by rw [hx.out, hn.out]; rfl, rfl⟩
                · have p1 : decide ((l[k].toNat : Int) < 97) = true := by simp; omega
                  have p3 : decide ((l[k].toNat : Int) < 48) = false := by simp; omega
                  have p4 : decide (57 < (l[k].toNat : Int)) = true := by simp; omega
                  have p5 : ((l[k].toNat : Int) != 45) = true := by simp; omega
                  clear hok
                  have HC := hid hc
                  clear hc
                  go_wp2
                  go_ret
                  exact ⟨by rw [hx.out, hn.out]; rfl, rfl⟩
                · have p1 : decide ((l[k].toNat : Int) < 97) = false := by simp; omega
                  have p2 : decide (122 < (l[k].toNat : Int)) = true := by simp; omega
                  have p3 : decide ((l[k].toNat : Int) < 48) = false := by simp; omega
                  have p4 : decide (57 < (l[k].toNat : Int)) = true := by simp; omega
                  have p5 : ((l[k].toNat : Int) != 45) = true := by simp; omega
                  clear hok
                  have HC := hid hc
                  clear hc
                  go_wp2
                  go_ret
                  exact ⟨by rw [hx.out, hn.out]; rfl, rfl⟩
            · have hk2 : k = l.length := by omega
              subst hk2
              have hn : Hid (l.all okByte = true) := hid (by have := ha.out; rwa [List.take_of_length_le (Nat.le_refl _)] at this)
              go_wp2
              go_ret
              exact ⟨by rw [hx.out, hn.out]; rfl, rfl⟩
end Go.Proofs.YtojbhlbknjnioaaGreatDoor

/- The contracts of the document's Right of layer 4. -/
namespace Go.Proofs.YtojbhlbknjnioaaGreatDoor
open Go.RowKit

theorem rright_ref (r : RoleB) (w : World) (h1 : r.1.length ≤ 9223372036854775807) (h2 : r.2.length ≤ 9223372036854775807) :
    Calls Tryz.prog 30 #[roleV r] w fun e w' => e = .returned (.bool (isRole r)) ∧ Chg (fun _ => False) w w' := by
  obtain ⟨o, x⟩ := r
  have hc : Chg (fun _ => False) w (w.alloc (.cells #[.string ⟨o.toArray⟩, .string ⟨x.toArray⟩] 23)) := (Chg.refl _ w).alloc _
  have HC := hid hc
  clear hc
  cases ho : isName o with
  | false =>
    have hh : Hid (isRole (o, x) = false) := hid (by simp [isRole, ho])
    show Calls Tryz.prog 30 #[.agg #[.string ⟨o.toArray⟩, .string ⟨x.toArray⟩]] w _
    go_enter Tryz.func30, Tryz.ntmps30
    go_wp2_with (go_at_call 44; refine (refright_any o _ h1).mono ?_; rintro e w' ⟨rfl, rfl⟩; rw [ho])
    go_ret
    exact ⟨by rw [hh.out]; rfl, HC.out⟩
  | true =>
    have hh : Hid (isRole (o, x) = isName x) := hid (by simp [isRole, ho])
    show Calls Tryz.prog 30 #[.agg #[.string ⟨o.toArray⟩, .string ⟨x.toArray⟩]] w _
    go_enter Tryz.func30, Tryz.ntmps30
    go_wp2_with fail
    refine (refright_any o _ h1).mono ?_
    rintro e w' ⟨rfl, rfl⟩
    rw [ho]
    go_wp2_with fail
    refine (refright_any x _ h2).mono ?_
    rintro e w' ⟨rfl, rfl⟩
    go_wp2
    go_ret
    exact ⟨by rw [hh.out]; rfl, HC.out⟩
end Go.Proofs.YtojbhlbknjnioaaGreatDoor

/- Lists of roles of the call's own. -/
namespace Go.Proofs.YtojbhlbknjnioaaGreatDoor
open Go.RowKit

theorem ownsRow_keep {S : Nat → Prop} {B E n s : Nat} {w w' : World} {v : Value} {xs : List Value} (h : w.ownsRow B E s v n xs) (hc : Chg S w w') (hr : ∀ k, v.ownBlock = some k → ¬ S k) : w'.ownsRow B E s v n xs := by
  refine ⟨h.1, ?_⟩
  rcases h.2 with hn | ⟨g, cap, cur, hv, hg, hh, r⟩
  · exact .inl hn
  · exact .inr ⟨g, cap, cur, hv, hg, blk_keep hh hc (hr g (by rw [hv]; rfl)), r⟩

end Go.Proofs.YtojbhlbknjnioaaGreatDoor
