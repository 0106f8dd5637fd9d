/- Texts that the proof leans on, in one: RefKey, TagRef, RefCheck, RefSign, RefCredStep, RefCredGet, RefSGet, RefKGet, StepEq, RefKSame, End, Defer. -/
import Derived.Test.YtcdjjengkdbngaaKc10
import Derived.Test.YtcdjjengkdbngaaKc8
import Derived.Test.YtcdjjengkdbngaaKc5
import Derived.Test.YtcdjjengkdbngaaKc2
import Derived.Test.YtcdjjengkdbngaaKc7
import Derived.Test.YtcdjjengkdbngaaKc6
import Derived.Defers
import Derived.Recover
import Derived.LaidEqlPtr
/- Whose key signs: the contract of the document's key, of layer 6. -/
namespace Go.Proofs.Ytcdjjengkdbngaa
open Go.RowKit

end Go.Proofs.Ytcdjjengkdbngaa

/- The contract of the document's Make. -/
namespace Go.Proofs.Ytcdjjengkdbngaa
open Go.RowKit

end Go.Proofs.Ytcdjjengkdbngaa

/- The contract of the document's Check, of layer 6. -/
namespace Go.Proofs.Ytcdjjengkdbngaa
open Go.RowKit

end Go.Proofs.Ytcdjjengkdbngaa

/- The contract of the document's Sign, of layer 6. -/
namespace Go.Proofs.Ytcdjjengkdbngaa
open Go.RowKit

end Go.Proofs.Ytcdjjengkdbngaa

/- The document's Get of a role and of a name, of a tape in whatever state; what follows for a credential. -/
namespace Go.Proofs.Ytcdjjengkdbngaa
open Go.RowKit

/-- How a tape goes on, when a role is read of it; when a name is. -/
def RStep (l : List UInt8) (e : Int) (r : RoleB) (l' : List UInt8) (e' : Int) : Prop :=
  (e = 0 ∧ roleOk l = true ∧ r = roleOf l ∧ l' = roleRest l ∧ e' = 0) ∨ (e = 0 ∧ roleOk l = false ∧ e' = roleBad l) ∨ (e ≠ 0 ∧ e' = e)
def NStep (l : List UInt8) (e : Int) (s : List UInt8) (l' : List UInt8) (e' : Int) : Prop :=
  (e = 0 ∧ nameOk l = true ∧ s = nameOf l ∧ l' = nameRest l ∧ e' = 0) ∨ (e = 0 ∧ nameOk l = false ∧ e' = nameBad l) ∨ (e ≠ 0 ∧ e' = e)

theorem roleRest_len (l : List UInt8) : (roleRest l).length ≤ l.length := by
  have h1 := nameRest_len l
  have h2 := nameRest_len (nameRest l)
  unfold roleRest
  omega

theorem RStep.ok {l r l' e'} (h : RStep l 0 r l' e') (he : e' = 0) : roleOk l = true ∧ r = roleOf l ∧ l' = roleRest l := by
  rcases h with ⟨_, h1, h2, h3, _⟩ | ⟨_, _, h1⟩ | ⟨h1, _⟩
  · exact ⟨h1, h2, h3⟩
  · exact absurd (h1.symm.trans he) (roleBad_ne l)
  · exact absurd rfl h1
theorem RStep.bad {l r l' e'} (h : RStep l 0 r l' e') (he : e' ≠ 0) : roleOk l = false ∧ e' = roleBad l := by
  rcases h with ⟨_, _, _, _, h1⟩ | ⟨_, h1, h2⟩ | ⟨h1, _⟩
  · exact absurd h1 he
  · exact ⟨h1, h2⟩
  · exact absurd rfl h1
theorem RStep.same {l e r l' e'} (h : RStep l e r l' e') (he : e ≠ 0) : e' = e := by
  rcases h with ⟨h1, _⟩ | ⟨h1, _⟩ | ⟨_, h2⟩
  · exact absurd h1 he
  · exact absurd h1 he
  · exact h2
theorem NStep.ok {l s l' e'} (h : NStep l 0 s l' e') (he : e' = 0) : nameOk l = true ∧ s = nameOf l ∧ l' = nameRest l := by
  rcases h with ⟨_, h1, h2, h3, _⟩ | ⟨_, _, h1⟩ | ⟨h1, _⟩
  · exact ⟨h1, h2, h3⟩
  · exact absurd (h1.symm.trans he) (nameBad_ne l)
  · exact absurd rfl h1
theorem NStep.bad {l s l' e'} (h : NStep l 0 s l' e') (he : e' ≠ 0) : nameOk l = false ∧ e' = nameBad l := by
  rcases h with ⟨_, _, _, _, h1⟩ | ⟨_, h1, h2⟩ | ⟨h1, _⟩
  · exact absurd h1 he
  · exact ⟨h1, h2⟩
  · exact absurd rfl h1
theorem NStep.same {l e s l' e'} (h : NStep l e s l' e') (he : e ≠ 0) : e' = e := by
  rcases h with ⟨h1, _⟩ | ⟨h1, _⟩ | ⟨_, h2⟩
  · exact absurd h1 he
  · exact absurd h1 he
  · exact h2

end Go.Proofs.Ytcdjjengkdbngaa

/- The contract of the document's Get of layer 5. -/
namespace Go.Proofs.Ytcdjjengkdbngaa
open Go.RowKit

end Go.Proofs.Ytcdjjengkdbngaa

/- The contract of the document's Get, of layer 6. -/
namespace Go.Proofs.Ytcdjjengkdbngaa
open Go.RowKit

theorem getEnd_rest {c s : CredB} {l r : List UInt8} (h : getEnd c l = .ok s r) : r = l := by
  unfold getEnd at h
  split at h
  · simp only [GetC.ok.injEq] at h; exact h.2.symm
  · cases h

theorem getWho_len {c s : CredB} {l r : List UInt8} (h : getWho c l = .ok s r) : r.length ≤ l.length := by
  unfold getWho at h
  split at h
  · rw [getEnd_rest h]; exact nameRest_len l
  · cases h
theorem getWord_len {c s : CredB} {l r : List UInt8} (h : getWord c l = .ok s r) : r.length ≤ l.length := by
  unfold getWord at h
  split at h
  · rw [getEnd_rest h]; exact nameRest_len l
  · cases h
theorem getC_len {c s : CredB} {l r : List UInt8} (h : getC c l = .ok s r) : r.length ≤ l.length := by
  unfold getC at h
  split at h
  · rw [getEnd_rest h]; exact roleRest_len l
  · cases h
theorem getB_len {c s : CredB} {l r : List UInt8} (h : getB c l = .ok s r) : r.length ≤ l.length := by
  have h1 := roleRest_len l
  unfold getB at h
  split at h
  · split at h
    · exact Nat.le_trans (getWord_len h) h1
    · split at h
      · exact Nat.le_trans (getC_len h) h1
      · rw [getEnd_rest h]; exact h1
  · cases h

theorem getHead_len {k : Int} {s : CredB} {l r : List UInt8} (h : getHead k l = .ok s r) : r.length ≤ l.length := by
  have h1 := roleRest_len l
  unfold getHead at h
  split at h
  · split at h
    · exact Nat.le_trans (getWho_len h) h1
    · exact Nat.le_trans (getB_len h) h1
  · cases h

theorem credGet_len {s : CredB} {l r : List UInt8} (h : credGet l = .ok s r) : r.length ≤ l.length := by
  have h1 : (numRest l).length ≤ l.length := by unfold numRest; rw [List.length_drop]; omega
  unfold credGet at h
  split at h
  · split at h
    · exact Nat.le_trans (getHead_len h) h1
    · cases h
  · cases h

end Go.Proofs.Ytcdjjengkdbngaa

/- The contract of the document's Get, of layer 9. -/
namespace Go.Proofs.Ytcdjjengkdbngaa
open Go.RowKit

theorem getEnd_right {c s : CredB} {l r : List UInt8} (h : getEnd c l = .ok s r) : isCred s = true := by
  unfold getEnd at h
  split at h
  · rename_i hc
    simp only [GetC.ok.injEq] at h
    rw [← h.1]; exact hc
  · cases h
theorem getWho_right {c s : CredB} {l r : List UInt8} (h : getWho c l = .ok s r) : isCred s = true := by
  unfold getWho at h
  split at h
  · exact getEnd_right h
  · cases h
theorem getWord_right {c s : CredB} {l r : List UInt8} (h : getWord c l = .ok s r) : isCred s = true := by
  unfold getWord at h
  split at h
  · exact getEnd_right h
  · cases h
theorem getC_right {c s : CredB} {l r : List UInt8} (h : getC c l = .ok s r) : isCred s = true := by
  unfold getC at h
  split at h
  · exact getEnd_right h
  · cases h
theorem getB_right {c s : CredB} {l r : List UInt8} (h : getB c l = .ok s r) : isCred s = true := by
  unfold getB at h
  split at h
  · split at h
    · exact getWord_right h
    · split at h
      · exact getC_right h
      · exact getEnd_right h
  · cases h
theorem getHead_right {k : Int} {s : CredB} {l r : List UInt8} (h : getHead k l = .ok s r) : isCred s = true := by
  unfold getHead at h
  split at h
  · split at h
    · exact getWho_right h
    · exact getB_right h
  · cases h
theorem credGet_right {s : CredB} {l r : List UInt8} (h : credGet l = .ok s r) : isCred s = true := by
  unfold credGet at h
  split at h
  · split at h
    · exact getHead_right h
    · cases h
  · cases h

inductive GetK where
  | bad (e : Nat)
  | ok (ls : List StepB) (rest : List UInt8)

/-- What is got: n steps, behind those that have been got. -/
def chainGo : Nat → List UInt8 → List StepB → GetK
  | 0, l, acc => .ok acc l
  | n + 1, l, acc => match credGet l with
    | .bad e => .bad e
    | .ok c r => if nameOk r = true then chainGo n (nameRest r) (acc ++ [⟨c, (c.head, nameOf r)⟩]) else .bad (nameBad r)
def chainGet (l : List UInt8) (most : Int) : GetK := if errNum l most = 0 then chainGo (numOf l) (numRest l) [] else .bad (errNum l most)

/-- How far the loop is. -/
def ChainAt (n i : Nat) (r0 l : List UInt8) (e : Int) (out : List StepB) : Prop :=
  (e = 0 → chainGo n r0 [] = chainGo (n - i) l out ∧ l.length ≤ 9223372036854775807 ∧ ∀ x ∈ out, stepShort x 9223372036854775807) ∧ (e ≠ 0 → ∃ m : Nat, chainGo n r0 [] = .bad m ∧ e = m)

theorem chainGo_bad {n i m : Nat} {r0 l : List UInt8} {out : List StepB} (h : ChainAt n i r0 l 0 out) (hi : i < n) (hg : credGet l = .bad m) : chainGo n r0 [] = .bad m := by
  rw [(h.1 rfl).1]
  obtain ⟨q, hq⟩ : ∃ q, n - i = q + 1 := ⟨n - i - 1, by omega⟩
  rw [hq, chainGo, hg]
theorem chainGo_no {n i : Nat} {r0 l r : List UInt8} {c : CredB} {out : List StepB} (h : ChainAt n i r0 l 0 out) (hi : i < n) (hg : credGet l = .ok c r) (hn : nameOk r = false) : chainGo n r0 [] = .bad (nameBad r) := by
  rw [(h.1 rfl).1]
  obtain ⟨q, hq⟩ : ∃ q, n - i = q + 1 := ⟨n - i - 1, by omega⟩
  rw [hq, chainGo, hg]
  simp [hn]
theorem chainGo_yes {n i : Nat} {r0 l r : List UInt8} {c : CredB} {out : List StepB} (h : ChainAt n i r0 l 0 out) (hi : i < n) (hg : credGet l = .ok c r) (hn : nameOk r = true) : chainGo n r0 [] = chainGo (n - (i + 1)) (nameRest r) (out ++ [⟨c, (c.head, nameOf r)⟩]) := by
  rw [(h.1 rfl).1]
  obtain ⟨q, hq⟩ : ∃ q, n - i = q + 1 := ⟨n - i - 1, by omega⟩
  rw [hq, chainGo, hg, show n - (i + 1) = q by omega]
  simp [hn]

end Go.Proofs.Ytcdjjengkdbngaa

/- '==' and '!=' at steps whose cells are told. -/
namespace Go.Proofs.Ytcdjjengkdbngaa
open Go.RowKit

def eqK (a b : StepB) : Bool := decide (a = b)
theorem eqK_iff (a b : StepB) : eqK a b = decide (a.c.kind = b.c.kind ∧ a.c.head.1 = b.c.head.1 ∧ a.c.head.2 = b.c.head.2 ∧ a.c.who = b.c.who ∧ a.c.b.1 = b.c.b.1 ∧ a.c.b.2 = b.c.b.2 ∧ a.c.c.1 = b.c.c.1 ∧ a.c.c.2 = b.c.c.2 ∧ a.c.w2 = b.c.w2 ∧ a.f.1.1 = b.f.1.1 ∧ a.f.1.2 = b.f.1.2 ∧ a.f.2 = b.f.2) := by
  unfold eqK
  apply decide_eq_decide.2
  obtain ⟨⟨k, ⟨h1, h2⟩, w1, ⟨b1, b2⟩, ⟨c1, c2⟩, w2⟩, ⟨⟨f1, f2⟩, f3⟩⟩ := a
  obtain ⟨⟨k', ⟨h1', h2'⟩, w1', ⟨b1', b2'⟩, ⟨c1', c2'⟩, w2'⟩, ⟨⟨f1', f2'⟩, f3'⟩⟩ := b
  simp [and_assoc]

set_option maxRecDepth 100000 in
set_option maxHeartbeats 4000000 in
theorem run_neqgK (x y : Operand) (a b : StepB) (w : World) : Sem.run Try.prog (eqGuard BinOp.neq 36 x y (.agg #[.int .i64 a.c.kind, .string ⟨a.c.head.1.toArray⟩, .string ⟨a.c.head.2.toArray⟩, .string ⟨a.c.who.toArray⟩, .string ⟨a.c.b.1.toArray⟩, .string ⟨a.c.b.2.toArray⟩, .string ⟨a.c.c.1.toArray⟩, .string ⟨a.c.c.2.toArray⟩, .string ⟨a.c.w2.toArray⟩, .string ⟨a.f.1.1.toArray⟩, .string ⟨a.f.1.2.toArray⟩, .string ⟨a.f.2.toArray⟩]) (.agg #[.int .i64 b.c.kind, .string ⟨b.c.head.1.toArray⟩, .string ⟨b.c.head.2.toArray⟩, .string ⟨b.c.who.toArray⟩, .string ⟨b.c.b.1.toArray⟩, .string ⟨b.c.b.2.toArray⟩, .string ⟨b.c.c.1.toArray⟩, .string ⟨b.c.c.2.toArray⟩, .string ⟨b.c.w2.toArray⟩, .string ⟨b.f.1.1.toArray⟩, .string ⟨b.f.1.2.toArray⟩, .string ⟨b.f.2.toArray⟩])) w = .ok () w := by
  go_simp
set_option maxRecDepth 100000 in
set_option maxHeartbeats 4000000 in
theorem run_neqK (a b : StepB) (w : World) : Sem.run Try.prog (binOp BinOp.neq 36 (.agg #[.int .i64 a.c.kind, .string ⟨a.c.head.1.toArray⟩, .string ⟨a.c.head.2.toArray⟩, .string ⟨a.c.who.toArray⟩, .string ⟨a.c.b.1.toArray⟩, .string ⟨a.c.b.2.toArray⟩, .string ⟨a.c.c.1.toArray⟩, .string ⟨a.c.c.2.toArray⟩, .string ⟨a.c.w2.toArray⟩, .string ⟨a.f.1.1.toArray⟩, .string ⟨a.f.1.2.toArray⟩, .string ⟨a.f.2.toArray⟩]) (.agg #[.int .i64 b.c.kind, .string ⟨b.c.head.1.toArray⟩, .string ⟨b.c.head.2.toArray⟩, .string ⟨b.c.who.toArray⟩, .string ⟨b.c.b.1.toArray⟩, .string ⟨b.c.b.2.toArray⟩, .string ⟨b.c.c.1.toArray⟩, .string ⟨b.c.c.2.toArray⟩, .string ⟨b.c.w2.toArray⟩, .string ⟨b.f.1.1.toArray⟩, .string ⟨b.f.1.2.toArray⟩, .string ⟨b.f.2.toArray⟩])) w = .ok (.bool (!eqK a b)) w := by
  rw [eqK_iff]
  go_simp
  by_cases h0 : a.c.kind = b.c.kind
  rotate_left
  · simp [h0]
  simp only [h0, if_true, decide_true, Bool.not_true, Bool.false_or]
  by_cases h1 : a.c.head.1 = b.c.head.1
  rotate_left
  · simp [h1]
  simp only [h1, if_true, decide_true, Bool.not_true, Bool.false_or]
  by_cases h2 : a.c.head.2 = b.c.head.2
  rotate_left
  · simp [h2]
  simp only [h2, if_true, decide_true, Bool.not_true, Bool.false_or]
  by_cases h3 : a.c.who = b.c.who
  rotate_left
  · simp [h3]
  simp only [h3, if_true, decide_true, Bool.not_true, Bool.false_or]
  by_cases h4 : a.c.b.1 = b.c.b.1
  rotate_left
  · simp [h4]
  simp only [h4, if_true, decide_true, Bool.not_true, Bool.false_or]
  by_cases h5 : a.c.b.2 = b.c.b.2
  rotate_left
  · simp [h5]
  simp only [h5, if_true, decide_true, Bool.not_true, Bool.false_or]
  by_cases h6 : a.c.c.1 = b.c.c.1
  rotate_left
  · simp [h6]
  simp only [h6, if_true, decide_true, Bool.not_true, Bool.false_or]
  by_cases h7 : a.c.c.2 = b.c.c.2
  rotate_left
  · simp [h7]
  simp only [h7, if_true, decide_true, Bool.not_true, Bool.false_or]
  by_cases h8 : a.c.w2 = b.c.w2
  rotate_left
  · simp [h8]
  simp only [h8, if_true, decide_true, Bool.not_true, Bool.false_or]
  by_cases h9 : a.f.1.1 = b.f.1.1
  rotate_left
  · simp [h9]
  simp only [h9, if_true, decide_true, Bool.not_true, Bool.false_or]
  by_cases h10 : a.f.1.2 = b.f.1.2
  rotate_left
  · simp [h10]
  simp only [h10, if_true, decide_true, Bool.not_true, Bool.false_or]
  by_cases h11 : a.f.2 = b.f.2 <;> simp [h11]
end Go.Proofs.Ytcdjjengkdbngaa

/- The contract of the document's Same, of layer 9. -/
namespace Go.Proofs.Ytcdjjengkdbngaa
open Go.RowKit
attribute [local go_sem ↓ high] run_neqgK run_neqK

end Go.Proofs.Ytcdjjengkdbngaa

/- The contract of a reader's end. -/
namespace Go.Proofs.Ytcdjjengkdbngaa
open Go.RowKit

def Ended (R : Nat) (r : Int) (w : World) (e : Ending) (w' : World) : Prop :=
  e = .returned (.int .i64 r) ∧ ReaderAt w' R false (.slice none 0 0) 0 ∧ Chg (· = R) w w'

theorem ended_mk {R : Nat} {r : Int} {w : World} {op : Bool} {v : Value} {flt : Int} (hR : ReaderAt w R op v flt) :
    Ended R r w (.returned (.int .i64 r)) (((w.setCell ⟨R, 0, none⟩ (.bool false)).setCell ⟨R, 1, none⟩ (.slice none 0 0)).setCell ⟨R, 2, none⟩ (.int .i64 0)) := by
  refine ⟨rfl, ?_, ?_⟩
  · exact set_blk (set_blk (set_blk hR 0 (.bool false)) 1 (.slice none 0 0)) 2 (.int .i64 0)
  · exact (((Chg.refl (· = R) w).setCell (p := ⟨R, _, none⟩) (fun _ => rfl) _).setCell (p := ⟨R, _, none⟩) (fun _ => rfl) _).setCell (p := ⟨R, _, none⟩) (fun _ => rfl) _

set_option maxRecDepth 100000 in
theorem end_fault (R n cap : Nat) (flt : Int) (ao : Option Addr) (op : Bool) (w : World) (hR : ReaderAt w R op (.slice ao n cap) flt) (hf : (flt == 0) = false) :
    Calls Try.prog 57 #[.pointer (some ⟨R, 0, none⟩)] w (Ended R flt w) := by
  have h0 := cell_blk hR 0
  have h1 := cell_blk hR 1
  have h2 := cell_blk hR 2
  have f0 := froz_blk hR 0
  have f1 := froz_blk hR 1
  have f2 := froz_blk hR 2
  simp only [List.getElem?_toArray, List.getElem?_cons_zero, List.getElem?_cons_succ] at h0 h1 h2
  go_enter Try.func57, Try.ntmps57
  go_wp2
  go_ret
  exact ended_mk hR

set_option maxRecDepth 100000 in
theorem end_trail (R n cap : Nat) (ao : Option Addr) (op : Bool) (w : World) (hR : ReaderAt w R op (.slice ao n cap) 0) (hn : 0 < (n : Int)) :
    Calls Try.prog 57 #[.pointer (some ⟨R, 0, none⟩)] w (Ended R 13 w) := by
  have h0 := cell_blk hR 0
  have h1 := cell_blk hR 1
  have h2 := cell_blk hR 2
  have f0 := froz_blk hR 0
  have f1 := froz_blk hR 1
  have f2 := froz_blk hR 2
  simp only [List.getElem?_toArray, List.getElem?_cons_zero, List.getElem?_cons_succ] at h0 h1 h2
  go_enter Try.func57, Try.ntmps57
  go_wp2
  go_ret
  exact ended_mk hR

set_option maxRecDepth 100000 in
theorem end_ok (R cap : Nat) (ao : Option Addr) (op : Bool) (w : World) (hR : ReaderAt w R op (.slice ao 0 cap) 0) :
    Calls Try.prog 57 #[.pointer (some ⟨R, 0, none⟩)] w (Ended R 0 w) := by
  have h0 := cell_blk hR 0
  have h1 := cell_blk hR 1
  have h2 := cell_blk hR 2
  have f0 := froz_blk hR 0
  have f1 := froz_blk hR 1
  have f2 := froz_blk hR 2
  simp only [List.getElem?_toArray, List.getElem?_cons_zero, List.getElem?_cons_succ] at h0 h1 h2
  go_enter Try.func57, Try.ntmps57
  go_wp2
  go_ret
  exact ended_mk hR

theorem end_any (R n cap : Nat) (flt : Int) (ao : Option Addr) (op : Bool) (w : World) (hR : ReaderAt w R op (.slice ao n cap) flt) :
    Calls Try.prog 57 #[.pointer (some ⟨R, 0, none⟩)] w (Ended R (endOf flt n) w) := by
  unfold endOf
  by_cases hf : flt = 0
  · subst hf
    rw [if_pos rfl]
    by_cases hn : 0 < n
    · rw [if_pos hn]
      exact end_trail R n cap ao op w hR (by omega)
    · rw [if_neg hn]
      obtain rfl : n = 0 := by omega
      exact end_ok R cap ao op w hR
  · rw [if_neg hf]
    exact end_fault R n cap flt ao op w hR (by simpa using hf)

end Go.Proofs.Ytcdjjengkdbngaa

/- The three contracts of the function that Read defers. -/
namespace Go.Proofs.Ytcdjjengkdbngaa
open Go.RowKit

theorem assert_nil (w : World) : (Instr.typeAssert .nilIface 20 114 true).run Try.prog w = .ok (.tuple #[.agg #[.pointer none], .bool false]) w := by kernel_rfl
theorem assert_stop (a : Option Addr) (w : World) : (Instr.typeAssert (.iface 114 (.agg #[.pointer a])) 20 114 true).run Try.prog w = .ok (.tuple #[.agg #[.pointer a], .bool true]) w := by kernel_rfl
theorem neq_ptr_same {P : Program} (w : World) {tp te : TypeId} {j : TypeInfo} (a : Addr) (hp : P.underlying tp = some (.pointer te)) (hte : P.info? te = some j) :
    (binOp .neq tp (.pointer (some a)) (.pointer (some a))).run P w = .ok (.bool false) w := by
  have h : ∀ d : Nat, (Op.equalIn (d + 1) tp (.pointer (some a)) (.pointer (some a))).run P w = .ok true w := fun d => by
    simp [Op.equalIn, run_underlying hp, sizeOf, typeInfo, hte, run_sameAddr_same]
  simp only [binOp]
  simp [Op.equal, Op.maxDepth, h 9999]

theorem Try.info111 : (Try.prog.info? 111).map (fun i => i.size) = some 3 := by kernel_rfl

theorem info54_of : ∃ j, Try.prog.info? 111 = some j ∧ j.size ≠ 0 := by
  have h := Try.info111
  cases e : Try.prog.info? 111 with
  | none => rw [e] at h; simp at h
  | some j =>
    rw [e] at h
    simp at h
    exact ⟨j, rfl, by omega⟩

theorem neq39_same (a : Addr) (w : World) : (binOp .neq 67 (.pointer (some a)) (.pointer (some a))).run Try.prog w = .ok (.bool false) w := by
  obtain ⟨j, hj, _⟩ := info54_of
  exact neq_ptr_same w a Try.underlying67 hj

/-- What the function that Read defers leaves of memory. -/
def ReadLeft (R E : Nat) (r : Int) (w w' : World) : Prop :=
  ReaderAt w' R false (.slice none 0 0) 0 ∧ w'.heap[E]? = some (.cells #[.int .i64 r] 37 (0, 0)) ∧ Chg (fun k => k = R ∨ k = E) w w'

theorem readLeft_mk {R E : Nat} {r : Int} {ev : Int} {w w1 : World} {o : Obj} (hER : E ≠ R) (hR : ReaderAt w1 R false (.slice none 0 0) 0) (hE : w1.heap[E]? = some (.cells #[.int .i64 ev] 37 (0, 0))) (hch : Chg (· = R) w w1) :
    ReadLeft R E r w ((w1.setCell ⟨E, 0, none⟩ (.int .i64 r)).alloc o) := by
  have h1 := set_blk hE 0 (.int .i64 r)
  have h2 : (w1.setCell ⟨E, 0, none⟩ (.int .i64 r)).heap[R]? = w1.heap[R]? := set_blk_ne (by show R ≠ E; omega)
  refine ⟨?_, ?_, ?_⟩
  · exact (Below.heap_alloc _ _ _ (lt_blk (h2.trans hR))).trans (h2.trans hR)
  · exact (Below.heap_alloc _ _ _ (lt_blk h1)).trans h1
  · exact (((hch.mono (fun _ _ h => .inl h)).setCell (p := ⟨E, 0, none⟩) (fun _ => .inr rfl) _).alloc o)

theorem postS_end {fn : Func} {c₀ : Frame} {cs : List Frame} {R : Ending → FrameMode → World → Prop} {u : FrameMode} {t : Array Value} {w : World} (hr : fn.results = #[]) (h : R (.returned (.tuple #[])) u w) :
    bodyPostS Try.prog fn c₀ cs R .normal { tmps := t, defers := [] } ({ c₀ with mode := u } :: cs) w :=
  ⟨rfl, u, rfl, .tuple #[], results_none hr _ _ _, h⟩

theorem mode_self {c : Frame} {u : FrameMode} (h : c.mode = u) : ({ c with mode := u } : Frame) = c := by
  subst h
  rfl

set_option maxRecDepth 100000 in
/-- f has ended by itself. -/
theorem deferred_idle (V R E n cap : Nat) (flt : Int) (ao : Option Addr) (op : Bool) (ev : Int) (w : World) (hR : ReaderAt w R op (.slice ao n cap) flt)
    (hV : w.heap[V]? = some (.cells #[.pointer (some ⟨R, 0, none⟩)] 67 (0, 0))) (hE : w.heap[E]? = some (.cells #[.int .i64 ev] 37 (0, 0))) (hER : E ≠ R) :
    CallsD Try.prog 56 #[.pointer (some ⟨V, 0, none⟩), .pointer (some ⟨E, 0, none⟩)] .returning w fun e u' w' =>
      e = .returned (.tuple #[]) ∧ u' = .returning ∧ ReadLeft R E (endOf flt n) w w' := by
  have v0 := cell_blk hV 0
  simp only [List.getElem?_toArray, List.getElem?_cons_zero] at v0
  refine callsD_of_wpS Try.func56 rfl fun c₀ cs hu => ?_
  simp only [Try.ntmps56, List.size_toArray, List.length_cons, List.length_nil, Nat.reduceAdd, Nat.reduceSub, Array.replicate_succ, Array.replicate_zero, List.push_toArray, List.append_toArray, List.nil_append, List.cons_append]
  apply wpS_seq
  refine wpS_of_wp ?_
  go_wp2_with (go_at_call 57; refine (end_any R n cap flt ao op _ hR).mono ?_; rintro e w1 ⟨rfl, hR1, hch⟩; have hE1 := (hch.block E (lt_blk hE) hER).trans hE; have e0 := cell_blk hE1 0; have fe0 := froz_blk hE1 0; simp only [List.getElem?_toArray, List.getElem?_cons_zero] at e0)
  apply wpS_seq
  apply wpS_region
  simp [wpOpsS, go_sem, recoverD, hu, Exit.thenS]
  refine wpS_of_wp ?_
  have ha := assert_nil
  have HL := fun o => hid (readLeft_mk (r := endOf flt n) (o := o) hER hR1 hE1 hch)
  have HU := hid (mode_self hu)
  clear hch hR1 hE1 e0 fe0 v0 hV hE hR hu
  go_wp2
  rw [← HU.out]
  exact postS_end rfl ⟨rfl, rfl, (HL _).out⟩

set_option maxRecDepth 100000 in
/-- f was ended by this reader's error. -/
theorem deferred_stops (V R E n cap : Nat) (flt : Int) (ao : Option Addr) (op : Bool) (ev : Int) (w : World) (hR : ReaderAt w R op (.slice ao n cap) flt)
    (hV : w.heap[V]? = some (.cells #[.pointer (some ⟨R, 0, none⟩)] 67 (0, 0))) (hE : w.heap[E]? = some (.cells #[.int .i64 ev] 37 (0, 0))) (hER : E ≠ R) (hVR : V ≠ R) (hVE : V ≠ E) (older : List PanicEntry) :
    CallsD Try.prog 56 #[.pointer (some ⟨V, 0, none⟩), .pointer (some ⟨E, 0, none⟩)] (.panicking ({ v := stopOf R, recovered := false } :: older)) w fun e u' w' =>
      e = .returned (.tuple #[]) ∧ u' = .panicking ({ v := stopOf R, recovered := true } :: older) ∧ ReadLeft R E (endOf flt n) w w' := by
  unfold stopOf
  have v0 := cell_blk hV 0
  simp only [List.getElem?_toArray, List.getElem?_cons_zero] at v0
  refine callsD_of_wpS Try.func56 rfl fun c₀ cs hu => ?_
  simp only [Try.ntmps56, List.size_toArray, List.length_cons, List.length_nil, Nat.reduceAdd, Nat.reduceSub, Array.replicate_succ, Array.replicate_zero, List.push_toArray, List.append_toArray, List.nil_append, List.cons_append]
  apply wpS_seq
  refine wpS_of_wp ?_
  go_wp2_with (go_at_call 57; refine (end_any R n cap flt ao op _ hR).mono ?_; rintro e w1 ⟨rfl, hR1, hch⟩; have hE1 := (hch.block E (lt_blk hE) hER).trans hE; have e0 := cell_blk hE1 0; have fe0 := froz_blk hE1 0; simp only [List.getElem?_toArray, List.getElem?_cons_zero] at e0)
  apply wpS_seq
  apply wpS_region
  simp [wpOpsS, go_sem, recoverD, hu, Exit.thenS]
  refine wpS_of_wp ?_
  have ha := assert_stop (some ⟨R, 0, none⟩)
  have hq := neq39_same ⟨R, 0, none⟩
  have HL := fun o => hid (readLeft_mk (r := endOf flt n) (o := o) hER hR1 hE1 hch)
  have v1 := hch.cell v0 hVR
  have hb := World.block_lt_of_cell? w1 _ v1
  simp only [] at hb
  clear hch hR1 hE1 e0 fe0 v0 hV hE hR hu
  go_wp2
  exact postS_end rfl ⟨rfl, rfl, (HL _).out⟩

end Go.Proofs.Ytcdjjengkdbngaa
