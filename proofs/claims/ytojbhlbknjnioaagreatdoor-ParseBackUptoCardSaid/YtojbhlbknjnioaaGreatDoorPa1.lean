/- Texts that the proof leans on, in one: Mem, OrdMath, NameMath, SetMath, Strs, RoleMath, FmMath, Row, Conv, RefRight, RoleRef, RoleOwn, FmCells. -/
import Derived.WalkKit
import Derived.WalkSpells
import Derived.WalkLawsBesides
import Derived.Lib.SlicesCompact
import Derived.Maps.AppendAt
import Derived.Test.YtojbhlbknjnioaaGreatDoorRows
import Derived.Lib.SlBytesConst
import Derived.Deep.QuietTactic
import Derived.BigQuiet
/- What the walks say of memory: bytes that can be read; which blocks a call may have turned. Nothing of the program's text. -/
namespace Go.Proofs.YtojbhlbknjnioaaGreatDoor
open Go.RowKit

theorem hid {p : Prop} (h : p) : Hid p := h

/-- A byte's cell. -/
def cb (x : UInt8) : Value := .int .u8 (x.toNat : Int)

/-- w' is w with new blocks, and with writes to the blocks of S alone. -/
structure Chg (S : Nat → Prop) (w w' : World) : Prop where
  os : w'.os = w.os
  tape : w'.tape = w.tape
  output : w'.output = w.output
  size : w.heap.size ≤ w'.heap.size
  block : ∀ k, k < w.heap.size → ¬ S k → w'.heap[k]? = w.heap[k]?

theorem Chg.refl (S : Nat → Prop) (w : World) : Chg S w w := ⟨rfl, rfl, rfl, Nat.le_refl _, fun _ _ _ => rfl⟩

theorem Chg.trans {S T : Nat → Prop} {a b c : World} (h : Chg S a b) (k : Chg T b c) (hT : ∀ i, i < a.heap.size → T i → S i) : Chg S a c :=
  ⟨k.os.trans h.os, k.tape.trans h.tape, k.output.trans h.output, Nat.le_trans h.size k.size, fun i hi hs =>
    (k.block i (Nat.lt_of_lt_of_le hi h.size) (fun ht => hs (hT i hi ht))).trans (h.block i hi hs)⟩

theorem Chg.mono {S T : Nat → Prop} {a b : World} (h : Chg S a b) (hT : ∀ i, i < a.heap.size → S i → T i) : Chg T a b :=
  ⟨h.os, h.tape, h.output, h.size, fun i hi hs => h.block i hi (fun k => hs (hT i hi k))⟩

theorem Chg.alloc {S : Nat → Prop} {a b : World} (h : Chg S a b) (o : Obj) : Chg S a (b.alloc o) :=
  ⟨h.os, h.tape, h.output, Nat.le_trans h.size (by simp), fun i hi hs => (Below.heap_alloc _ _ _ (Nat.lt_of_lt_of_le hi h.size)).trans (h.block i hi hs)⟩

theorem Chg.setCell {S : Nat → Prop} {a b : World} (h : Chg S a b) {p : Addr} (hp : p.block < a.heap.size → S p.block) (u : Value) : Chg S a (b.setCell p u) :=
  ⟨h.os, h.tape, h.output, by have := h.size; simpa [World.setCell] using this, fun i hi hs =>
    (Below.heap_setCell _ _ _ _ (fun e => hs (by subst e; exact hp hi))).trans (h.block i hi hs)⟩

theorem Chg.drew {S : Nat → Prop} {a b : World} (h : Chg S a b) : Chg S a b.drew := ⟨h.os, h.tape, h.output, h.size, h.block⟩

theorem Chg.grown {S : Nat → Prop} {a b c : World} {row : Option Nat} (h : Chg S a b) (g : b.grownBy c row) (hr : ∀ k, row = some k → k < a.heap.size → S k) : Chg S a c :=
  ⟨g.os.trans h.os, g.tape.trans h.tape, g.output.trans h.output, Nat.le_trans h.size g.size, fun i hi hs =>
    (g.block i (Nat.lt_of_lt_of_le hi h.size) (fun e => hs (hr i e.symm hi))).trans (h.block i hi hs)⟩

theorem Chg.below {S : Nat → Prop} {a b : World} (h : Chg S a b) {B : Nat} (hB : B ≤ a.heap.size) (hS : ∀ i, i < B → ¬ S i) : Below B a b :=
  ⟨h.os, h.tape, h.output, h.size, fun k hk => h.block k (Nat.lt_of_lt_of_le hk hB) (hS k hk)⟩

theorem Chg.cell {S : Nat → Prop} {a b : World} (h : Chg S a b) {p : Addr} {v : Value} (hv : a.cell? p = some v) (hs : ¬ S p.block) : b.cell? p = some v :=
  (World.cell?_of_block (h.block p.block (World.block_lt_of_cell? a p hv) hs)).trans hv

theorem cell_blk {w : World} {b : Nat} {cs : Array Value} {T : TypeId} {f : Nat × Nat} (h : w.heap[b]? = some (.cells cs T f)) (i : Nat) : w.cell? ⟨b, i, none⟩ = cs[i]? := by
  simp [World.cell?, h]

theorem froz_blk {w : World} {b : Nat} {cs : Array Value} {T : TypeId} (h : w.heap[b]? = some (.cells cs T (0, 0))) (i : Nat) : w.frozen? ⟨b, i, none⟩ = false := by
  simp [World.frozen?, h]

theorem lt_blk {w : World} {b : Nat} {o : Obj} (h : w.heap[b]? = some o) : b < w.heap.size := (Array.getElem?_eq_some_iff.1 h).1

theorem set_blk {w : World} {b : Nat} {cs : Array Value} {T : TypeId} {f : Nat × Nat} (h : w.heap[b]? = some (.cells cs T f)) (i : Nat) (v : Value) :
    (w.setCell ⟨b, i, none⟩ v).heap[b]? = some (.cells (cs.setIfInBounds i v) T f) := by
  simp [World.setCell, Array.getElem?_modify, h]

theorem blk_keep {S : Nat → Prop} {w w' : World} {b : Nat} {o : Obj} (h : w.heap[b]? = some o) (hc : Chg S w w') (hs : ¬ S b) : w'.heap[b]? = some o := (hc.block b (lt_blk h) hs).trans h

theorem setCell_chg (w : World) (b i : Nat) (v : Value) : Chg (· = b) w (w.setCell ⟨b, i, none⟩ v) := (Chg.refl (· = b) w).setCell (p := ⟨b, i, none⟩) (fun _ => rfl) v

end Go.Proofs.YtojbhlbknjnioaaGreatDoor

/- Things in order, and sets of the right ones among them: plain words, nothing of the program's text. -/
namespace Go.Proofs.YtojbhlbknjnioaaGreatDoor
open Go.RowKit

section
variable {α : Type} {lt : α → α → Bool} {good : α → Bool}

end

end Go.Proofs.YtojbhlbknjnioaaGreatDoor

/- Names, and sets of them: plain words, nothing of the program's text. -/
namespace Go.Proofs.YtojbhlbknjnioaaGreatDoor
open Go.RowKit

/-- A sign of a name. -/
def okByte (c : UInt8) : Bool := (decide (97 ≤ c.toNat) && decide (c.toNat ≤ 122)) || (decide (48 ≤ c.toNat) && decide (c.toNat ≤ 57)) || decide (c.toNat = 45)
def okFirst (c : UInt8) : Bool := decide (97 ≤ c.toNat) && decide (c.toNat ≤ 122)
/-- A name. -/
def isName : List UInt8 → Bool
  | [] => false
  | c :: l => okFirst c && decide (l.length < 16) && (c :: l).all okByte

theorem okByte_yes {c : UInt8} (h : okByte c = true) : (97 ≤ c.toNat ∧ c.toNat ≤ 122) ∨ (48 ≤ c.toNat ∧ c.toNat ≤ 57) ∨ c.toNat = 45 := by
  simp only [okByte, Bool.or_eq_true, Bool.and_eq_true, decide_eq_true_eq] at h
  omega
theorem isName_long {l : List UInt8} (h : 16 < l.length) : isName l = false := by
  cases l with
  | nil => rfl
  | cons c l =>
    have : decide (l.length < 16) = false := by simp at h ⊢; omega
    simp [isName, this]

theorem isName_first {l : List UInt8} (h0 : 0 < l.length) (h : okFirst l[0] = false) : isName l = false := by
  cases l with
  | nil => simp at h0
  | cons c l => simp at h; simp [isName, h]

theorem isName_all {l : List UInt8} (h0 : 0 < l.length) (h : okFirst l[0] = true) (h1 : l.length ≤ 16) : isName l = l.all okByte := by
  cases l with
  | nil => simp at h0
  | cons c l =>
    have h2 : decide (l.length < 16) = true := by simp at h1 ⊢; omega
    simp only [List.getElem_cons_zero] at h
    simp only [isName, h, h2, Bool.true_and]

theorem all_take_succ (l : List UInt8) (k : Nat) (h : k < l.length) (ha : (l.take k).all okByte = true) : (l.take (k + 1)).all okByte = okByte l[k] := by
  rw [List.take_succ_eq_append_getElem h, List.all_append, ha]
  simp

theorem all_of_bad (l : List UInt8) (k : Nat) (h : k < l.length) (hb : okByte l[k] = false) : l.all okByte = false := by
  rw [List.all_eq_false]
  exact ⟨l[k], List.getElem_mem h, by simp [hb]⟩

end Go.Proofs.YtojbhlbknjnioaaGreatDoor

/- Texts in order; sets of names: plain words, nothing of the program's text. -/
namespace Go.Proofs.YtojbhlbknjnioaaGreatDoor
open Go.RowKit

end Go.Proofs.YtojbhlbknjnioaaGreatDoor

/- Lists of texts that can be read. Nothing of the program's text. -/
namespace Go.Proofs.YtojbhlbknjnioaaGreatDoor
open Go.RowKit

theorem ba_get (l : List UInt8) (k : Nat) (h : k < (⟨l.toArray⟩ : ByteArray).size) : (⟨l.toArray⟩ : ByteArray)[k] = l[k]'h := rfl

end Go.Proofs.YtojbhlbknjnioaaGreatDoor

/- Roles, in order; sets of them; lists of them that can be read: plain words. -/
namespace Go.Proofs.YtojbhlbknjnioaaGreatDoor
open Go.RowKit

/-- An owner and a word. -/
abbrev RoleB := List UInt8 × List UInt8
def isRole (r : RoleB) : Bool := isName r.1 && isName r.2
/-- A role's text. -/
def roleText (r : RoleB) : List UInt8 := r.1 ++ (46 :: r.2)

/-- A role, as the program holds it. -/
def roleV (r : RoleB) : Value := .agg #[.string ⟨r.1.toArray⟩, .string ⟨r.2.toArray⟩]
def roleCells (r : RoleB) : List Value := [.string ⟨r.1.toArray⟩, .string ⟨r.2.toArray⟩]

/-- The role r lies at the two cells from o on. -/
def RoleAt (w : World) (b o : Nat) (r : RoleB) : Prop :=
  w.cell? ⟨b, o, none⟩ = some (.string ⟨r.1.toArray⟩) ∧ w.cell? ⟨b, o + 1, none⟩ = some (.string ⟨r.2.toArray⟩) ∧ r.1.length ≤ 9223372036854775807 ∧ r.2.length ≤ 9223372036854775807

/-- The roles ls can be read from the address ao on. -/
def RolesAt (D : Nat → Prop) (w : World) (ao : Option Addr) (ls : List RoleB) : Prop :=
  ∀ i (h : i < ls.length), ∃ b off, ao = some ⟨b, off, none⟩ ∧ D b ∧ RoleAt w b (off + i * 2) ls[i]

theorem RoleAt.keep {S : Nat → Prop} {w w' : World} {b o : Nat} {r : RoleB} (h : RoleAt w b o r) (hc : Chg S w w') (hS : ¬ S b) : RoleAt w' b o r :=
  ⟨hc.cell h.1 hS, hc.cell h.2.1 hS, h.2.2⟩

theorem RolesAt.keep {S D : Nat → Prop} {w w' : World} {ao : Option Addr} {ls : List RoleB} (h : RolesAt D w ao ls) (hc : Chg S w w') (hS : ∀ i, D i → ¬ S i) : RolesAt D w' ao ls := fun i hi =>
  let ⟨b, off, h1, h2, h3⟩ := h i hi
  ⟨b, off, h1, h2, h3.keep hc (hS b h2)⟩

theorem RolesAt.nil (D : Nat → Prop) (w : World) (ao : Option Addr) : RolesAt D w ao [] := fun i hi => by simp at hi

/-- Is r in the list? Are two lists the same? (Behind names: the walk's simp leaves them.) -/
def hasR (ls : List RoleB) (r : RoleB) : Bool := ls.contains r
theorem hasR_take (ls : List RoleB) (s : RoleB) (k : Nat) (h : k < ls.length) (hc : hasR (ls.take k) s = false) (hn : ls[k] ≠ s) : hasR (ls.take (k + 1)) s = false := by
  unfold hasR at hc ⊢
  rw [List.take_succ_eq_append_getElem h]
  simp only [List.contains_eq_mem, List.mem_append, List.mem_singleton, decide_eq_false_iff_not, not_or] at hc ⊢
  exact ⟨hc, fun e => hn e.symm⟩

end Go.Proofs.YtojbhlbknjnioaaGreatDoor

/- Formulas: plain words. -/
namespace Go.Proofs.YtojbhlbknjnioaaGreatDoor
open Go.RowKit

/-- A formula: its Op, its K, its Role, its Kids. -/
inductive FmB where
  | mk (op k : Int) (r : RoleB) (kids : List FmB)

def FmB.op : FmB → Int | .mk op _ _ _ => op
def FmB.k : FmB → Int | .mk _ k _ _ => k
def FmB.r : FmB → RoleB | .mk _ _ r _ => r
def FmB.kids : FmB → List FmB | .mk _ _ _ kids => kids

/- How many nodes; how deep; how great (layer 11's law's word). -/
mutual
def nodesF : FmB → Nat
  | .mk _ _ _ kids => 1 + nodesL kids
def nodesL : List FmB → Nat
  | [] => 0
  | f :: l => nodesF f + nodesL l
end
mutual
def deepF : FmB → Nat
  | .mk _ _ _ kids => 1 + deepL kids
def deepL : List FmB → Nat
  | [] => 0
  | f :: l => max (deepF f) (deepL l)
end
mutual
def greatF : FmB → Nat
  | .mk _ _ r kids => 1 + (r.1.length + r.2.length) / 16 + greatL kids
def greatL : List FmB → Nat
  | [] => 0
  | f :: l => greatF f + greatL l
end

/-- Is a node right, whatever its Kids are? -/
def rightN (op k : Int) (r : RoleB) (n : Nat) : Bool :=
  if op = 1 then isRole r && (decide (n = 0) && decide (k = 0))
  else if 8 < n ∨ r ≠ ([], []) then false
  else if op = 2 ∨ op = 3 then decide (k = 0)
  else if op = 4 then decide (0 < n) && (decide (0 ≤ k) && decide (k ≤ (n : Int)))
  else false
/- Are all nodes? -/
mutual
def rightF : FmB → Bool
  | .mk op k r kids => rightL kids && rightN op k r kids.length
def rightL : List FmB → Bool
  | [] => true
  | f :: l => rightF f && rightL l
end
def isF (f : FmB) : Bool := decide (nodesF f ≤ 64) && (decide (deepF f ≤ 6) && rightF f)

/-- How many Kids must be true. -/
def leastN (op k : Int) (n : Nat) : Int := if op = 2 then (n : Int) else if op = 3 then 1 else k
/- Is it true, of the roles that T tells? -/
mutual
def holdsF (T : RoleB → Bool) : FmB → Bool
  | .mk op k r kids => if op = 1 then T r else decide (leastN op k kids.length ≤ (holdsN T kids : Int))
def holdsN (T : RoleB → Bool) : List FmB → Nat
  | [] => 0
  | f :: l => (if holdsF T f then 1 else 0) + holdsN T l
end

/- The roles of its atoms. -/
theorem nodesF_eq (f : FmB) : nodesF f = 1 + nodesL f.kids := by cases f; rfl
theorem deepF_eq (f : FmB) : deepF f = 1 + deepL f.kids := by cases f; rfl
theorem greatF_eq (f : FmB) : greatF f = 1 + (f.r.1.length + f.r.2.length) / 16 + greatL f.kids := by cases f; rfl
theorem rightF_eq (f : FmB) : rightF f = (rightL f.kids && rightN f.op f.k f.r f.kids.length) := by cases f; rfl
theorem holdsF_eq (T : RoleB → Bool) (f : FmB) : holdsF T f = if f.op = 1 then T f.r else decide (leastN f.op f.k f.kids.length ≤ (holdsN T f.kids : Int)) := by cases f; rfl
theorem nodesL_app (a b : List FmB) : nodesL (a ++ b) = nodesL a + nodesL b := by
  induction a with
  | nil => simp [nodesL]
  | cons x l ih => rw [List.cons_append, nodesL, nodesL, ih]; omega
theorem nodesL_snoc (a : List FmB) (x : FmB) : nodesL (a ++ [x]) = nodesL a + nodesF x := by rw [nodesL_app]; simp [nodesL]
theorem deepL_snoc (a : List FmB) (x : FmB) : deepL (a ++ [x]) = max (deepL a) (deepF x) := by
  induction a with
  | nil => simp [deepL]
  | cons y l ih => rw [List.cons_append, deepL, deepL, ih]; omega
theorem greatL_snoc (a : List FmB) (x : FmB) : greatL (a ++ [x]) = greatL a + greatF x := by
  induction a with
  | nil => simp [greatL]
  | cons y l ih => rw [List.cons_append, greatL, greatL, ih]; omega
theorem rightL_snoc (a : List FmB) (x : FmB) : rightL (a ++ [x]) = (rightL a && rightF x) := by
  induction a with
  | nil => simp [rightL]
  | cons y l ih => rw [List.cons_append, rightL, rightL, ih, Bool.and_assoc]
theorem holdsN_snoc (T : RoleB → Bool) (a : List FmB) (x : FmB) : holdsN T (a ++ [x]) = holdsN T a + if holdsF T x then 1 else 0 := by
  induction a with
  | nil => simp [holdsN]
  | cons y l ih => rw [List.cons_append, holdsN, holdsN, ih]; omega
theorem nodesF_pos (f : FmB) : 1 ≤ nodesF f := by rw [nodesF_eq]; omega
theorem nodesL_len (l : List FmB) : l.length ≤ nodesL l := by
  induction l with
  | nil => simp
  | cons x l ih => have := nodesF_pos x; rw [nodesL, List.length_cons]; omega
theorem nodesL_take (l : List FmB) (j : Nat) : nodesL (l.take j) ≤ nodesL l := by
  have h := nodesL_app (l.take j) (l.drop j)
  rw [List.take_append_drop] at h
  omega
theorem nodesL_get (l : List FmB) (j : Nat) (h : j < l.length) : nodesL (l.take (j + 1)) = nodesL (l.take j) + nodesF l[j] := by rw [List.take_succ_eq_append_getElem h, nodesL_snoc]
theorem nodesL_mem {l : List FmB} {f : FmB} (h : f ∈ l) : nodesF f ≤ nodesL l := by
  induction l with
  | nil => cases h
  | cons x l ih =>
    rcases List.mem_cons.1 h with rfl | h
    · rw [nodesL]; omega
    · have := ih h; rw [nodesL]; omega
theorem deepL_mem {l : List FmB} {f : FmB} (h : f ∈ l) : deepF f ≤ deepL l := by
  induction l with
  | nil => cases h
  | cons x l ih =>
    rcases List.mem_cons.1 h with rfl | h
    · rw [deepL]; omega
    · have := ih h; rw [deepL]; omega
theorem rightL_mem {l : List FmB} (h : rightL l = true) : ∀ f ∈ l, rightF f = true := by
  induction l with
  | nil => exact fun _ h => by cases h
  | cons x l ih =>
    intro f hf
    rw [rightL, Bool.and_eq_true] at h
    rcases List.mem_cons.1 hf with rfl | hf
    · exact h.1
    · exact ih h.2 f hf
theorem rightL_no {l : List FmB} {j : Nat} (hj : j < l.length) (h : rightF l[j] = false) : rightL l = false := by
  cases e : rightL l with
  | false => rfl
  | true => rw [rightL_mem e _ (List.getElem_mem hj)] at h; cases h
/-- By as many nodes as it has: every formula is reached. -/
theorem nodes_ind {P : FmB → Prop} (h : ∀ f : FmB, (∀ g ∈ f.kids, P g) → P f) : ∀ f, P f := by
  have key : ∀ n f, nodesF f ≤ n → P f := by
    intro n
    induction n with
    | zero => intro f hf; have := nodesF_pos f; omega
    | succ n ih =>
      intro f hf
      refine h f fun g hg => ih g ?_
      have := nodesL_mem hg
      rw [nodesF_eq] at hf
      omega
  exact fun f => key _ f (Nat.le_refl _)

/-- No fewer nodes than this greatness. -/
theorem great_nodes : ∀ f : FmB, nodesF f ≤ greatF f := by
  refine nodes_ind fun f h => ?_
  have key : ∀ l : List FmB, (∀ g ∈ l, nodesF g ≤ greatF g) → nodesL l ≤ greatL l := by
    intro l
    induction l with
    | nil => exact fun _ => Nat.le_refl _
    | cons x l ih =>
      intro h
      have h1 := h x (by simp)
      have h2 := ih (fun g hg => h g (by simp [hg]))
      rw [nodesL, greatL]
      omega
  have := key _ h
  rw [nodesF_eq, greatF_eq]
  omega

end Go.Proofs.YtojbhlbknjnioaaGreatDoor

/- A row of bytes of the call's own, that is written in place. -/
namespace Go.Proofs.YtojbhlbknjnioaaGreatDoor
open Go.RowKit

theorem add_off (b off i : Nat) : (⟨b, off, none⟩ : Addr).add i = ⟨b, off + i, none⟩ := by
  unfold Addr.add
  split <;> simp_all

end Go.Proofs.YtojbhlbknjnioaaGreatDoor

/- Conversions between strings and bytes; blocks of bytes. -/
namespace Go.Proofs.YtojbhlbknjnioaaGreatDoor
open Go.RowKit

end Go.Proofs.YtojbhlbknjnioaaGreatDoor

/- The contracts of the document's Right. -/
namespace Go.Proofs.YtojbhlbknjnioaaGreatDoor
open Go.RowKit
end Go.Proofs.YtojbhlbknjnioaaGreatDoor

/- The contracts of the document's Right of layer 4. -/
namespace Go.Proofs.YtojbhlbknjnioaaGreatDoor
open Go.RowKit

end Go.Proofs.YtojbhlbknjnioaaGreatDoor

/- Lists of roles of the call's own. -/
namespace Go.Proofs.YtojbhlbknjnioaaGreatDoor
open Go.RowKit

theorem ownsRow_keep {S : Nat → Prop} {B E n s : Nat} {w w' : World} {v : Value} {xs : List Value} (h : w.ownsRow B E s v n xs) (hc : Chg S w w') (hr : ∀ k, v.ownBlock = some k → ¬ S k) : w'.ownsRow B E s v n xs := by
  refine ⟨h.1, ?_⟩
  rcases h.2 with hn | ⟨g, cap, cur, hv, hg, hh, r⟩
  · exact .inl hn
  · exact .inr ⟨g, cap, cur, hv, hg, blk_keep hh hc (hr g (by rw [hv]; rfl)), r⟩

def lenOfV : Value → Nat
  | .slice _ n _ => n
  | _ => 0

end Go.Proofs.YtojbhlbknjnioaaGreatDoor

/- Formulas as they lie in memory: those that came in, and those of the call's own. -/
namespace Go.Proofs.YtojbhlbknjnioaaGreatDoor
open Go.RowKit

/-- The formula f, at most n deep, lies at the five cells from o on. -/
def FmAt (D : Nat → Prop) (w : World) : Nat → Nat → Nat → FmB → Prop
  | 0, _, _, _ => False
  | n + 1, b, o, f => w.cell? ⟨b, o, none⟩ = some (.int .i64 f.op) ∧ w.cell? ⟨b, o + 1, none⟩ = some (.int .i64 f.k) ∧ w.cell? ⟨b, o + 2, none⟩ = some (.string ⟨f.r.1.toArray⟩) ∧ w.cell? ⟨b, o + 3, none⟩ = some (.string ⟨f.r.2.toArray⟩) ∧
    (f.r.1.length ≤ 9223372036854775807 ∧ f.r.2.length ≤ 9223372036854775807) ∧
    ∃ ao cp, w.cell? ⟨b, o + 4, none⟩ = some (.slice ao f.kids.length cp) ∧ (ao = none → cp = 0) ∧ ∀ i (h : i < f.kids.length), ∃ b' off, ao = some ⟨b', off, none⟩ ∧ D b' ∧ FmAt D w n b' (off + i * 5) f.kids[i]

/-- The formulas ls, each at most n deep, can be read from the address ao on. -/
def FmsAt (D : Nat → Prop) (w : World) (n : Nat) (ao : Option Addr) (ls : List FmB) : Prop :=
  ∀ i (h : i < ls.length), ∃ b off, ao = some ⟨b, off, none⟩ ∧ D b ∧ FmAt D w n b (off + i * 5) ls[i]

/-- What else is asked of a formula that is handed over. -/
def FmOk (f : FmB) : Prop := f.r.1.length ≤ 9223372036854775807 ∧ f.r.2.length ≤ 9223372036854775807

theorem FmAt.keep {S D : Nat → Prop} {w w' : World} (hc : Chg S w w') (hD : ∀ i, D i → ¬ S i) : ∀ {n b o : Nat} {f : FmB}, FmAt D w n b o f → ¬ S b → FmAt D w' n b o f
  | 0, _, _, _, h, _ => h
  | n + 1, b, o, f, ⟨h0, h1, h2, h3, h4, ao, cp, h5, h6, h7⟩, hb =>
    ⟨hc.cell h0 hb, hc.cell h1 hb, hc.cell h2 hb, hc.cell h3 hb, h4, ao, cp, hc.cell h5 hb, h6, fun i hi => by
      obtain ⟨b', off, k1, k2, k3⟩ := h7 i hi
      exact ⟨b', off, k1, k2, FmAt.keep hc hD k3 (hD _ k2)⟩⟩

theorem FmsAt.keep {S D : Nat → Prop} {w w' : World} {n : Nat} {ao : Option Addr} {ls : List FmB} (h : FmsAt D w n ao ls) (hc : Chg S w w') (hD : ∀ i, D i → ¬ S i) : FmsAt D w' n ao ls := fun i hi => by
  obtain ⟨b', off, k1, k2, k3⟩ := h i hi
  exact ⟨b', off, k1, k2, FmAt.keep hc hD k3 (hD _ k2)⟩

theorem FmAt.mono {D E : Nat → Prop} {w : World} (hD : ∀ i, D i → E i) : ∀ {n b o : Nat} {f : FmB}, FmAt D w n b o f → FmAt E w n b o f
  | 0, _, _, _, h => h
  | n + 1, b, o, f, ⟨h0, h1, h2, h3, h4, ao, cp, h5, h6, h7⟩ =>
    ⟨h0, h1, h2, h3, h4, ao, cp, h5, h6, fun i hi => by
      obtain ⟨b', off, k1, k2, k3⟩ := h7 i hi
      exact ⟨b', off, k1, hD _ k2, FmAt.mono hD k3⟩⟩
theorem FmsAt.mono {D E : Nat → Prop} {w : World} {n : Nat} {ao : Option Addr} {ls : List FmB} (h : FmsAt D w n ao ls) (hD : ∀ i, D i → E i) : FmsAt E w n ao ls := fun i hi => by
  obtain ⟨b', off, k1, k2, k3⟩ := h i hi
  exact ⟨b', off, k1, hD _ k2, FmAt.mono hD k3⟩

theorem FmsAt.nil (D : Nat → Prop) (w : World) (n : Nat) (ao : Option Addr) : FmsAt D w n ao [] := fun i h => absurd h (by simp)

def fmBox (f : FmB) (ao : Option Addr) (cp : Nat) : Array Value := #[.int .i64 f.op, .int .i64 f.k, .string ⟨f.r.1.toArray⟩, .string ⟨f.r.2.toArray⟩, .slice ao f.kids.length cp]

theorem fm_at_blk {D : Nat → Prop} {w : World} {g n : Nat} {f : FmB} {ao : Option Addr} {cp : Nat} {ty : TypeId} {z : Nat × Nat} (h : w.heap[g]? = some (.cells (fmBox f ao cp) ty z)) (hok : FmOk f) (hz : ao = none → cp = 0) (hk : FmsAt D w n ao f.kids) : FmAt D w (n + 1) g 0 f :=
  ⟨cell_blk h 0, cell_blk h 1, cell_blk h 2, cell_blk h 3, hok, ao, cp, cell_blk h 4, hz, hk⟩

theorem Tryz.info26 : (Tryz.prog.info? 26).map (fun i => (i.zero, i.size, i.bytes)) = some (some (.agg #[.int .i64 0, .int .i64 0, .string ⟨#[]⟩, .string ⟨#[]⟩, .slice none 0 0]), 5, 72) := by kernel_rfl

theorem FmAt.open_ {D : Nat → Prop} {w : World} {n b o : Nat} {f : FmB} (h : FmAt D w n b o f) : ∃ m ao cp, m < n ∧ (w.cell? ⟨b, o, none⟩ = some (.int .i64 f.op) ∧ w.cell? ⟨b, o + 1, none⟩ = some (.int .i64 f.k) ∧ w.cell? ⟨b, o + 2, none⟩ = some (.string ⟨f.r.1.toArray⟩) ∧ w.cell? ⟨b, o + 3, none⟩ = some (.string ⟨f.r.2.toArray⟩) ∧ w.cell? ⟨b, o + 4, none⟩ = some (.slice ao f.kids.length cp)) ∧ FmOk f ∧ (ao = none → cp = 0) ∧ FmsAt D w m ao f.kids := by
  cases n with
  | zero => exact h.elim
  | succ m =>
    obtain ⟨h0, h1, h2, h3, h4, ao, cp, h5, h6, h7⟩ := h
    exact ⟨m, ao, cp, Nat.lt_succ_self m, ⟨h0, h1, h2, h3, h5⟩, h4, h6, h7⟩
end Go.Proofs.YtojbhlbknjnioaaGreatDoor
