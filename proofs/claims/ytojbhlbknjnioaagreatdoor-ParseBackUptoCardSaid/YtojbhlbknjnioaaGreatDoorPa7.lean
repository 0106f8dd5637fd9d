/- Texts that the proof leans on, in one: PcRight, PcBytes, FmBytes, ModelMath, FactCells, StepCells, RefFIn, RefFStep, DrewN, RefSameS, OwnS, RefSet, RefKFacts, FmOwn, PaMath. -/
import Derived.Test.YtojbhlbknjnioaaGreatDoorPa6
import Derived.Test.YtojbhlbknjnioaaGreatDoorPa5
import Derived.Test.YtojbhlbknjnioaaGreatDoorPa1
import Derived.Deep.QuietTactic
import Derived.BigQuiet
import Derived.Test.YtojbhlbknjnioaaGreatDoorProg
import Derived.Test.YtojbhlbknjnioaaGreatDoorChecked
import Derived.Maps.AppendAt
/- cred.Right: the program's contract. -/
namespace Go.Proofs.YtojbhlbknjnioaaGreatDoor
open Go.RowKit

end Go.Proofs.YtojbhlbknjnioaaGreatDoor

/- cred.Bytes: the program's contract. -/
namespace Go.Proofs.YtojbhlbknjnioaaGreatDoor
open Go.RowKit

end Go.Proofs.YtojbhlbknjnioaaGreatDoor

/- The bytes of a formula; what pens leave, carried on. -/
namespace Go.Proofs.YtojbhlbknjnioaaGreatDoor
open Go.RowKit

end Go.Proofs.YtojbhlbknjnioaaGreatDoor

/- The least model of credentials: plain words, nothing of the program's text. -/
namespace Go.Proofs.YtojbhlbknjnioaaGreatDoor
open Go.RowKit

end Go.Proofs.YtojbhlbknjnioaaGreatDoor

/- Facts, as they lie in memory; lists of them of the call's own. -/
namespace Go.Proofs.YtojbhlbknjnioaaGreatDoor
open Go.RowKit

end Go.Proofs.YtojbhlbknjnioaaGreatDoor

/- Steps of chains as they lie in memory. -/
namespace Go.Proofs.YtojbhlbknjnioaaGreatDoor
open Go.RowKit

end Go.Proofs.YtojbhlbknjnioaaGreatDoor

/- The contract of the document's In, of layer 8. -/
namespace Go.Proofs.YtojbhlbknjnioaaGreatDoor
open Go.RowKit
attribute [local go_sem ↓ high] run_eqg_role run_eql_role

end Go.Proofs.YtojbhlbknjnioaaGreatDoor

/- The contract of the document's Step, of layer 8. -/
namespace Go.Proofs.YtojbhlbknjnioaaGreatDoor
open Go.RowKit

end Go.Proofs.YtojbhlbknjnioaaGreatDoor

/- Draws add up. -/
namespace Go.Proofs.YtojbhlbknjnioaaGreatDoor
open Go.RowKit

end Go.Proofs.YtojbhlbknjnioaaGreatDoor

/- The contract of the document's Same, of lists of texts. -/
namespace Go.Proofs.YtojbhlbknjnioaaGreatDoor
open Go.RowKit

end Go.Proofs.YtojbhlbknjnioaaGreatDoor

/- Lists of texts of the call's own. -/
namespace Go.Proofs.YtojbhlbknjnioaaGreatDoor
open Go.RowKit

end Go.Proofs.YtojbhlbknjnioaaGreatDoor

/- The contract of the document's Set. -/
namespace Go.Proofs.YtojbhlbknjnioaaGreatDoor
open Go.RowKit

end Go.Proofs.YtojbhlbknjnioaaGreatDoor

/- The contracts of the document's Facts, and names, of layer 9. -/
namespace Go.Proofs.YtojbhlbknjnioaaGreatDoor
open Go.RowKit

theorem ownsRow_lowK {B A : Nat} {w : World} {ty : TypeId} {n : Nat} {v : Value} {len : Nat} {row : List Value} (h : w.ownsRow B ty n v len row) (hA : A ≤ B) : w.ownsRow A ty n v len row := by
  rcases h with ⟨h1, h2 | ⟨g, cap, cur, h3, h4, h5⟩⟩
  · exact ⟨h1, .inl h2⟩
  · exact ⟨h1, .inr ⟨g, cap, cur, h3, Nat.le_trans hA h4, h5⟩⟩

end Go.Proofs.YtojbhlbknjnioaaGreatDoor

/- Formulas of the call's own: trees whose rows of Kids lie each in a block of its own. -/
namespace Go.Proofs.YtojbhlbknjnioaaGreatDoor
open Go.RowKit

inductive AT where
  | mk (op k : Int) (r : RoleB) (v : Value) (kids : List AT)
def AT.op : AT → Int | .mk op _ _ _ _ => op
def AT.k : AT → Int | .mk _ k _ _ _ => k
def AT.r : AT → RoleB | .mk _ _ r _ _ => r
def AT.v : AT → Value | .mk _ _ _ v _ => v
def AT.kids : AT → List AT | .mk _ _ _ _ kids => kids

mutual
def eraseA : AT → FmB
  | .mk op k r _ kids => .mk op k r (eraseL kids)
def eraseL : List AT → List FmB
  | [] => []
  | t :: l => eraseA t :: eraseL l
end
def cellsA (t : AT) : List Value := [.int .i64 t.op, .int .i64 t.k, .string ⟨t.r.1.toArray⟩, .string ⟨t.r.2.toArray⟩, t.v]
def rowA (ts : List AT) : List Value := ts.flatMap cellsA
/- The blocks that it lies in. -/
mutual
def blksA : AT → List Nat
  | .mk _ _ _ v kids => v.ownBlock.toList ++ blksL kids
def blksL : List AT → List Nat
  | [] => []
  | t :: l => blksA t ++ blksL l
end
/- It is the call's own, from the block B on. -/
mutual
def OwnA (B : Nat) (w : World) : AT → Prop
  | .mk _ _ r v kids => (r.1.length ≤ 9223372036854775807 ∧ r.2.length ≤ 9223372036854775807) ∧ w.ownsRow B 26 5 v kids.length (rowA kids) ∧ OwnL B w kids
def OwnL (B : Nat) (w : World) : List AT → Prop
  | [] => True
  | t :: l => OwnA B w t ∧ OwnL B w l
end

theorem eraseA_eq (t : AT) : eraseA t = .mk t.op t.k t.r (eraseL t.kids) := by cases t; rfl
theorem blksA_eq (t : AT) : blksA t = t.v.ownBlock.toList ++ blksL t.kids := by cases t; rfl
theorem ownA_eq (B : Nat) (w : World) (t : AT) : OwnA B w t ↔ (t.r.1.length ≤ 9223372036854775807 ∧ t.r.2.length ≤ 9223372036854775807) ∧ w.ownsRow B 26 5 t.v t.kids.length (rowA t.kids) ∧ OwnL B w t.kids := by cases t; exact Iff.rfl
theorem eraseL_map (l : List AT) : eraseL l = l.map eraseA := by
  induction l with
  | nil => rfl
  | cons t l ih => rw [eraseL, ih, List.map_cons]
theorem blksL_flat (l : List AT) : blksL l = l.flatMap blksA := by
  induction l with
  | nil => rfl
  | cons t l ih => rw [blksL, ih, List.flatMap_cons]
theorem ownL_all (B : Nat) (w : World) (l : List AT) : OwnL B w l ↔ ∀ t ∈ l, OwnA B w t := by
  induction l with
  | nil => exact ⟨fun _ _ h => (by cases h), fun _ => trivial⟩
  | cons t l ih =>
    rw [OwnL, ih]
    exact ⟨fun h s hs => (List.mem_cons.1 hs).elim (fun e => e ▸ h.1) (h.2 s), fun h => ⟨h t (by simp), fun s hs => h s (by simp [hs])⟩⟩
theorem eraseL_len (l : List AT) : (eraseL l).length = l.length := by rw [eraseL_map, List.length_map]

theorem at_ind {P : AT → Prop} (h : ∀ t : AT, (∀ s ∈ t.kids, P s) → P t) : ∀ t, P t := by
  have key : ∀ n t, nodesF (eraseA t) ≤ n → P t := by
    intro n
    induction n with
    | zero => intro t ht; have := nodesF_pos (eraseA t); omega
    | succ n ih =>
      intro t ht
      refine h t fun s hs => ih s ?_
      have h1 : eraseA s ∈ eraseL t.kids := by rw [eraseL_map]; exact List.mem_map.2 ⟨s, hs, rfl⟩
      have h2 := nodesL_mem h1
      rw [eraseA_eq, nodesF] at ht
      omega
  exact fun t => key _ t (Nat.le_refl _)

theorem rowA_snoc (l : List AT) (x : AT) : rowA (l ++ [x]) = rowA l ++ cellsA x := by simp [rowA]
theorem rowA_get : ∀ (ls : List AT) (i j : Nat) (h : i < ls.length) (_ : j < 5), (rowA ls)[i * 5 + j]? = (cellsA ls[i])[j]?
  | x :: l, 0, j, _, hj => by
    rw [Nat.zero_mul, Nat.zero_add, rowA, List.flatMap_cons, List.getElem?_append_left (by simpa [cellsA] using hj)]
    rfl
  | x :: l, i + 1, j, h, hj => by
    have hl : (cellsA x).length = 5 := rfl
    have := rowA_get l i j (by simpa using h) hj
    rw [rowA, List.flatMap_cons, List.getElem?_append_right (by rw [hl, Nat.add_mul]; omega), hl]
    rw [show (i + 1) * 5 + j - 5 = i * 5 + j by rw [Nat.add_mul]; omega]
    exact this

theorem ownA_lt {B : Nat} {w : World} : ∀ t : AT, OwnA B w t → ∀ b ∈ blksA t, B ≤ b ∧ b < w.heap.size := by
  refine at_ind fun t ih h b hb => ?_
  rw [ownA_eq] at h
  rw [blksA_eq, List.mem_append] at hb
  rcases hb with hb | hb
  · exact h.2.1.lt b (by simpa using hb)
  · rw [blksL_flat, List.mem_flatMap] at hb
    obtain ⟨s, hs, hb⟩ := hb
    exact ih s hs ((ownL_all _ _ _).1 h.2.2 s hs) b hb

theorem ownA_keep {S : Nat → Prop} {B : Nat} {w w' : World} (hc : Chg S w w') : ∀ t : AT, OwnA B w t → (∀ b ∈ blksA t, ¬ S b) → OwnA B w' t := by
  refine at_ind fun t ih h hS => ?_
  rw [ownA_eq] at h ⊢
  rw [blksA_eq] at hS
  refine ⟨h.1, ownsRow_keep h.2.1 hc (fun k hk => hS k (List.mem_append_left _ (by simp [hk]))), (ownL_all _ _ _).2 fun s hs => ih s hs ((ownL_all _ _ _).1 h.2.2 s hs) fun b hb => hS b (List.mem_append_right _ ?_)⟩
  rw [blksL_flat]
  exact List.mem_flatMap.2 ⟨s, hs, hb⟩
theorem ownL_keep {S : Nat → Prop} {B : Nat} {w w' : World} (hc : Chg S w w') {l : List AT} (h : OwnL B w l) (hS : ∀ b ∈ blksL l, ¬ S b) : OwnL B w' l := (ownL_all _ _ _).2 fun s hs => ownA_keep hc s ((ownL_all _ _ _).1 h s hs) fun b hb => hS b (by rw [blksL_flat]; exact List.mem_flatMap.2 ⟨s, hs, hb⟩)
theorem ownL_lt {B : Nat} {w : World} {l : List AT} (h : OwnL B w l) : ∀ b ∈ blksL l, B ≤ b ∧ b < w.heap.size := fun b hb => by
  rw [blksL_flat, List.mem_flatMap] at hb
  obtain ⟨s, hs, hb⟩ := hb
  exact ownA_lt s ((ownL_all _ _ _).1 h s hs) b hb
theorem ownA_low {B A : Nat} {w : World} (hA : A ≤ B) : ∀ t : AT, OwnA B w t → OwnA A w t := by
  refine at_ind fun t ih h => ?_
  rw [ownA_eq] at h ⊢
  exact ⟨h.1, ownsRow_lowK h.2.1 hA, (ownL_all _ _ _).2 fun s hs => ih s hs ((ownL_all _ _ _).1 h.2.2 s hs)⟩
theorem ownL_low {B A : Nat} {w : World} (hA : A ≤ B) {l : List AT} (h : OwnL B w l) : OwnL A w l := (ownL_all _ _ _).2 fun s hs => ownA_low hA s ((ownL_all _ _ _).1 h s hs)

theorem rowV_shape {B : Nat} {w : World} {v : Value} {l : List AT} (h : w.ownsRow B 26 5 v l.length (rowA l)) : ∃ ao cp, v = .slice ao l.length cp ∧ (ao = none → cp = 0) ∧ l.length ≤ cp := by
  rcases h.2 with ⟨rfl, h0⟩ | ⟨g, cap, cur, rfl, _, _, h1, _⟩
  · exact ⟨none, 0, by rw [h0], fun _ => rfl, by omega⟩
  · exact ⟨_, _, rfl, fun e => (by cases e), h1⟩

/-- It can be read as any formula. -/
theorem own_fm {B : Nat} {w : World} : ∀ (t : AT), OwnA B w t → ∀ (n b o : Nat), deepF (eraseA t) ≤ n → (∀ j, j < 5 → w.cell? ⟨b, o + j, none⟩ = (cellsA t)[j]?) → FmAt (fun k => B ≤ k ∧ k < w.heap.size) w n b o (eraseA t) := by
  refine at_ind fun t ih h n b o hn hc => ?_
  rw [ownA_eq] at h
  obtain ⟨h1, h2, h3⟩ := h
  have hd := deepF_eq (eraseA t)
  rw [hd] at hn
  obtain ⟨m, rfl⟩ : ∃ m, n = m + 1 := ⟨n - 1, by omega⟩
  have c0 := hc 0 (by omega)
  have c1 := hc 1 (by omega)
  have c2 := hc 2 (by omega)
  have c3 := hc 3 (by omega)
  have c4 := hc 4 (by omega)
  obtain ⟨ao, cp, hv, hz, hle⟩ := rowV_shape h2
  simp only [cellsA, List.getElem?_cons_zero, List.getElem?_cons_succ, Nat.add_zero] at c0 c1 c2 c3 c4
  rw [eraseA_eq] at hn ⊢
  refine ⟨c0, c1, c2, c3, h1, ao, cp, by rw [hv] at c4; simp only [FmB.kids, eraseL_len]; exact c4, hz, fun i hi => ?_⟩
  have hi2 : i < t.kids.length := by simpa only [FmB.kids, eraseL_len] using hi
  have hx : (eraseL t.kids)[i]'(by simpa only [FmB.kids] using hi) = eraseA t.kids[i] := by simp [eraseL_map]
  have hmem : t.kids[i] ∈ t.kids := List.getElem_mem hi2
  have hdi : deepF (eraseA t.kids[i]) ≤ deepL (eraseL t.kids) := deepL_mem (by rw [eraseL_map]; exact List.mem_map.2 ⟨_, hmem, rfl⟩)
  rcases h2.2 with ⟨e, h0⟩ | ⟨g, cap, cur, e, hg, hh, k1, k2, k3, k4⟩
  · omega
  · rw [e] at hv
    injection hv with hv _ _
    subst hv
    refine ⟨g, 0, rfl, ⟨hg, lt_blk hh⟩, ?_⟩
    show FmAt _ w m g (0 + i * 5) ((eraseL t.kids)[i]'(by simpa only [FmB.kids] using hi))
    rw [hx]
    refine ih _ hmem ((ownL_all _ _ _).1 h3 _ hmem) m g (0 + i * 5) (by simp only [FmB.kids] at hn; omega) fun j hj => ?_
    have hget := rowA_get t.kids i j hi2 hj
    have hs : j < (cellsA t.kids[i]).length := by simpa [cellsA] using hj
    rw [List.getElem?_eq_getElem hs] at hget ⊢
    rw [e] at h2
    have := h2.cells (g := g) rfl (i * 5 + j) _ hget
    rw [add_off] at this
    rw [Nat.zero_add] at this ⊢
    exact this

theorem own_fms {B : Nat} {w : World} {t : AT} (h : OwnA B w t) : ∃ ao cp, t.v = .slice ao t.kids.length cp ∧ (ao = none → cp = 0) ∧ FmsAt (fun k => B ≤ k ∧ k < w.heap.size) w (deepF (eraseA t)) ao (eraseL t.kids) ∧ FmOk (eraseA t) := by
  have h0 := h
  rw [ownA_eq] at h
  obtain ⟨h1, h2, h3⟩ := h
  obtain ⟨ao, cp, hv, hz, hle⟩ := rowV_shape h2
  refine ⟨ao, cp, hv, hz, fun i hi => ?_, by rw [eraseA_eq]; exact h1⟩
  have hi2 : i < t.kids.length := by simpa only [eraseL_len] using hi
  have hx : (eraseL t.kids)[i] = eraseA t.kids[i] := by simp [eraseL_map]
  have hmem : t.kids[i] ∈ t.kids := List.getElem_mem hi2
  have hdi : deepF (eraseA t.kids[i]) ≤ deepL (eraseL t.kids) := deepL_mem (by rw [eraseL_map]; exact List.mem_map.2 ⟨_, hmem, rfl⟩)
  have hd := deepF_eq (eraseA t)
  rw [eraseA_eq] at hd
  simp only [FmB.kids] at hd
  rcases h2.2 with ⟨e, h0⟩ | ⟨g, cap, cur, e, hg, hh, k1, k2, k3, k4⟩
  · omega
  · rw [e] at hv
    injection hv with hv _ _
    subst hv
    refine ⟨g, 0, rfl, ⟨hg, lt_blk hh⟩, ?_⟩
    rw [hx]
    refine own_fm _ ((ownL_all _ _ _).1 h3 _ hmem) _ g (0 + i * 5) (by rw [eraseA_eq t]; omega) fun j hj => ?_
    have hget := rowA_get t.kids i j hi2 hj
    have hs : j < (cellsA t.kids[i]).length := by simpa [cellsA] using hj
    rw [List.getElem?_eq_getElem hs] at hget ⊢
    rw [e] at h2
    have := h2.cells (g := g) rfl (i * 5 + j) _ hget
    rw [add_off] at this
    rw [Nat.zero_add] at this ⊢
    exact this
end Go.Proofs.YtojbhlbknjnioaaGreatDoor

/- Formulas as words (layer 12): plain words. What is told is parsed. -/
namespace Go.Proofs.YtojbhlbknjnioaaGreatDoor
open Go.RowKit

abbrev Tok := List UInt8
/-- A sign of a word. -/
def signP (c : UInt8) : Bool := (decide (97 ≤ c.toNat) && decide (c.toNat ≤ 122)) || (decide (48 ≤ c.toNat) && decide (c.toNat ≤ 57)) || decide (c.toNat = 45) || decide (c.toNat = 46)
def markP (c : UInt8) : Bool := decide (c.toNat = 40) || decide (c.toNat = 41) || decide (c.toNat = 44)
def blankP (c : UInt8) : Bool := decide (c.toNat = 32) || decide (c.toNat = 9) || decide (c.toNat = 10)
def flushP (cur : Tok) (l : List Tok) : List Tok := if cur = [] then l else cur :: l
/-- The words and marks of a text, behind a word's beginning. -/
def wordsP : List UInt8 → Tok → Option (List Tok)
  | [], cur => some (flushP cur [])
  | c :: s, cur =>
    if signP c then wordsP s (cur ++ [c])
    else if markP c then (wordsP s []).map (fun l => flushP cur ([c] :: l))
    else if blankP c then (wordsP s []).map (flushP cur)
    else none

def orW : Tok := [111, 114]
def andW : Tok := [97, 110, 100]
def allW : Tok := [97, 108, 108]
def someW : Tok := [115, 111, 109, 101]
def atW : Tok := [97, 116]
/-- The word w is next: what is behind it. -/
def hasT (w : Tok) : List Tok → Option (List Tok)
  | [] => none
  | x :: r => if x = w then some r else none
/-- The number that a word says: one or two digits, without noughts ahead. -/
def numW (k : Tok) : Option Int :=
  if k.all (fun c => decide (48 ≤ c.toNat) && decide (c.toNat ≤ 57)) && (decide (k ≠ []) && (decide (k.length ≤ 2) && !(decide (k.length = 2) && k.head? == some 48))) then some (k.foldl (fun n c => 10 * n + ((c.toNat : Int) - 48)) 0) else none
def fmOf (op : Int) : List FmB → FmB → FmB
  | [], f => f
  | l, f => .mk op 0 ([], []) (f :: l)

mutual
def anyP : Nat → List Tok → Option (FmB × List Tok)
  | 0, _ => none
  | n + 1, ts => match bothP n ts with
    | none => none
    | some (f, r) => (orsP n r).map fun p => (fmOf 3 p.1 f, p.2)
def orsP : Nat → List Tok → Option (List FmB × List Tok)
  | 0, _ => none
  | n + 1, ts => match hasT orW ts with
    | none => some ([], ts)
    | some r => match bothP n r with
      | none => none
      | some (f, r) => (orsP n r).map fun p => (f :: p.1, p.2)
def bothP : Nat → List Tok → Option (FmB × List Tok)
  | 0, _ => none
  | n + 1, ts => match oneP n ts with
    | none => none
    | some (f, r) => (andsP n r).map fun p => (fmOf 2 p.1 f, p.2)
def andsP : Nat → List Tok → Option (List FmB × List Tok)
  | 0, _ => none
  | n + 1, ts => match hasT andW ts with
    | none => some ([], ts)
    | some r => match oneP n r with
      | none => none
      | some (f, r) => (andsP n r).map fun p => (f :: p.1, p.2)
def oneP : Nat → List Tok → Option (FmB × List Tok)
  | 0, _ => none
  | _ + 1, [] => none
  | n + 1, w :: r =>
    if w = [40] then match anyP n r with
      | none => none
      | some (f, r) => (hasT [41] r).map fun r => (f, r)
    else if w = allW then (listP n r).map fun p => (.mk 2 0 ([], []) p.1, p.2)
    else if w = someW then (listP n r).map fun p => (.mk 3 0 ([], []) p.1, p.2)
    else if w = atW then match r with
      | [] => none
      | k :: r => match numW k with
        | none => none
        | some x => (listP n r).map fun p => (.mk 4 x ([], []) p.1, p.2)
    else (parseR w).map fun x => (.mk 1 0 x [], r)
def listP : Nat → List Tok → Option (List FmB × List Tok)
  | 0, _ => none
  | n + 1, ts => match hasT [40] ts with
    | none => none
    | some r => match hasT [41] r with
      | some r => some ([], r)
      | none => match anyP n r with
        | none => none
        | some (f, r) => match manyP n r with
          | none => none
          | some (l, r) => (hasT [41] r).map fun r => (f :: l, r)
def manyP : Nat → List Tok → Option (List FmB × List Tok)
  | 0, _ => none
  | n + 1, ts => match hasT [44] ts with
    | none => some ([], ts)
    | some r => match anyP n r with
      | none => none
      | some (f, r) => (manyP n r).map fun p => (f :: p.1, p.2)
end

def digitP (k : Int) : UInt8 := UInt8.ofNat (48 + k.toNat)
def headW (op k : Int) : List UInt8 := if op = 3 then someW else if op = 4 then atW ++ [32, digitP k] else allW
def headT (op k : Int) : List Tok := if op = 3 then [someW] else if op = 4 then [atW, [digitP k]] else [allW]
/- A formula's text, and its words. -/
mutual
def textF : FmB → List UInt8
  | .mk op k r kids => if op = 1 then roleText r else headW op k ++ (40 :: (textL kids ++ [41]))
def textL : List FmB → List UInt8
  | [] => []
  | f :: l => textF f ++ textT l
def textT : List FmB → List UInt8
  | [] => []
  | f :: l => 44 :: 32 :: (textF f ++ textT l)
end
mutual
def tokF : FmB → List Tok
  | .mk op k r kids => if op = 1 then [roleText r] else headT op k ++ ([40] :: (tokL kids ++ [[41]]))
def tokL : List FmB → List Tok
  | [] => []
  | f :: l => tokF f ++ tokT l
def tokT : List FmB → List Tok
  | [] => []
  | f :: l => [44] :: (tokF f ++ tokT l)
end

/-- Nothing that stands there goes on with a word. -/
def StopP : List UInt8 → Prop
  | [] => True
  | c :: _ => signP c = false

theorem words_word : ∀ (x s cur : List UInt8), (∀ c ∈ x, signP c = true) → wordsP (x ++ s) cur = wordsP s (cur ++ x)
  | [], s, cur, _ => by rw [List.nil_append, List.append_nil]
  | c :: x, s, cur, h => by
    rw [List.cons_append, wordsP, if_pos (h c (by simp)), words_word x s _ (fun d hd => h d (List.mem_cons_of_mem _ hd)), List.append_assoc]
    rfl
theorem words_stop : ∀ (s cur : List UInt8), cur ≠ [] → StopP s → wordsP s cur = (wordsP s []).map (cur :: ·)
  | [], cur, hc, _ => by simp [wordsP, flushP, hc]
  | c :: s, cur, hc, h => by
    have h : signP c = false := h
    simp only [wordsP, h, Bool.false_eq_true, if_false]
    by_cases hm : markP c = true
    · simp only [hm, if_true, Option.map_map]
      congr 1
      funext l
      simp [flushP, hc]
    · have hm : markP c = false := by simpa using hm
      by_cases hb : blankP c = true
      · simp only [hm, hb, Bool.false_eq_true, if_false, if_true, Option.map_map]
        congr 1
        funext l
        simp [flushP, hc]
      · simp [hm, hb]
theorem words_one (x s : List UInt8) (hx : x ≠ []) (h : ∀ c ∈ x, signP c = true) (hs : StopP s) : wordsP (x ++ s) [] = (wordsP s []).map (x :: ·) := by
  rw [words_word x s [] h, List.nil_append, words_stop s x hx hs]
theorem words_mark (c : UInt8) (s : List UInt8) (h : signP c = false) (hm : markP c = true) : wordsP (c :: s) [] = (wordsP s []).map ([c] :: ·) := by
  simp only [wordsP, h, hm, Bool.false_eq_true, if_false, if_true]
  congr 1
theorem words_blank (c : UInt8) (s : List UInt8) (h : signP c = false) (hm : markP c = false) (hb : blankP c = true) : wordsP (c :: s) [] = wordsP s [] := by
  simp only [wordsP, h, hm, hb, Bool.false_eq_true, if_false, if_true]
  have : (flushP [] : List Tok → List Tok) = id := by funext l; simp [flushP]
  rw [this, Option.map_id]
  rfl
theorem sign_ok {c : UInt8} (h : okByte c = true) : signP c = true := by
  simp only [okByte, signP, Bool.or_eq_true] at h ⊢
  exact .inl h
theorem sign_name {l : List UInt8} (h : isName l = true) : ∀ c ∈ l, signP c = true := by
  intro c hc
  cases l with
  | nil => cases hc
  | cons x l =>
    simp only [isName, Bool.and_eq_true, List.all_eq_true] at h
    exact sign_ok (h.2 c hc)
theorem sign_role {r : RoleB} (h : isRole r = true) : ∀ c ∈ roleText r, signP c = true := by
  simp only [isRole, Bool.and_eq_true] at h
  intro c hc
  rw [roleText, List.mem_append, List.mem_cons] at hc
  rcases hc with hc | rfl | hc
  · exact sign_name h.1 c hc
  · decide
  · exact sign_name h.2 c hc
theorem role_ne (r : RoleB) : roleText r ≠ [] := by simp [roleText]

theorem digit_nat {k : Int} (h0 : 0 ≤ k) (h8 : k ≤ 8) : (digitP k).toNat = 48 + k.toNat := by
  unfold digitP
  rw [UInt8.toNat_ofNat', Nat.mod_eq_of_lt (by omega)]
theorem sign_digit {k : Int} (h0 : 0 ≤ k) (h8 : k ≤ 8) : signP (digitP k) = true := by
  have h := digit_nat h0 h8
  simp only [signP, Bool.or_eq_true, Bool.and_eq_true, decide_eq_true_eq, h]
  omega

theorem rightN_k {op k : Int} {r : RoleB} {n : Nat} (h : rightN op k r n = true) (h1 : op ≠ 1) : r = ([], []) ∧ (op = 2 ∧ k = 0 ∨ op = 3 ∧ k = 0 ∨ op = 4 ∧ 0 ≤ k ∧ k ≤ 8) := by
  unfold rightN at h
  rw [if_neg h1] at h
  by_cases h8 : 8 < n ∨ r ≠ ([], [])
  · rw [if_pos h8] at h; cases h
  · rw [if_neg h8] at h
    simp only [not_or, Nat.not_lt, ne_eq, Decidable.not_not] at h8
    refine ⟨h8.2, ?_⟩
    by_cases h2 : op = 2 ∨ op = 3
    · rw [if_pos h2, decide_eq_true_eq] at h
      rcases h2 with h2 | h2
      · exact .inl ⟨h2, h⟩
      · exact .inr (.inl ⟨h2, h⟩)
    · rw [if_neg h2] at h
      by_cases h4 : op = 4
      · rw [if_pos h4] at h
        simp only [Bool.and_eq_true, decide_eq_true_eq] at h
        exact .inr (.inr ⟨h4, h.2.1, by omega⟩)
      · rw [if_neg h4] at h; cases h

theorem stop_T (l : List FmB) {s : List UInt8} (h : StopP s) : StopP (textT l ++ s) := by
  cases l with
  | nil => rw [textT, List.nil_append]; exact h
  | cons f l => rw [textT]; exact (by decide : signP 44 = false)

theorem words_T : ∀ (l : List FmB), (∀ g ∈ l, ∀ s, StopP s → wordsP (textF g ++ s) [] = (wordsP s []).map (tokF g ++ ·)) → ∀ s, StopP s → wordsP (textT l ++ s) [] = (wordsP s []).map (tokT l ++ ·)
  | [], _, s, _ => by simp [textT, tokT]
  | f :: l, h, s, hs => by
    rw [textT, List.cons_append, List.cons_append, List.append_assoc, words_mark 44 _ (by decide) (by decide), words_blank 32 _ (by decide) (by decide) (by decide), h f (by simp) _ (stop_T l hs), words_T l (fun g hg => h g (List.mem_cons_of_mem _ hg)) s hs, tokT]
    simp only [Option.map_map]
    congr 1
    funext x
    simp

/-- The words of a formula's text. -/
theorem words_F : ∀ f : FmB, rightF f = true → ∀ s, StopP s → wordsP (textF f ++ s) [] = (wordsP s []).map (tokF f ++ ·) := by
  refine nodes_ind fun f ih hr s hs => ?_
  obtain ⟨op, k, r, kids⟩ := f
  simp only [rightF, Bool.and_eq_true] at hr
  simp only [FmB.kids] at ih
  have ihk : ∀ g ∈ kids, ∀ s, StopP s → wordsP (textF g ++ s) [] = (wordsP s []).map (tokF g ++ ·) := fun g hg => ih g hg (rightL_mem hr.1 g hg)
  have hL : ∀ s, StopP s → wordsP (textL kids ++ s) [] = (wordsP s []).map (tokL kids ++ ·) := by
    intro s hs
    cases kids with
    | nil => simp [textL, tokL]
    | cons f l =>
      rw [textL, tokL, List.append_assoc, ihk f (by simp) _ (stop_T l hs), words_T l (fun g hg => ihk g (List.mem_cons_of_mem _ hg)) s hs]
      simp only [Option.map_map]
      congr 1
      funext x
      simp
  by_cases h1 : op = 1
  · have hro : isRole r = true := by
      have := hr.2
      unfold rightN at this
      rw [if_pos h1, Bool.and_eq_true] at this
      exact this.1
    rw [textF, tokF, if_pos h1, if_pos h1, words_one _ s (role_ne r) (sign_role hro) hs]
    rfl
  · obtain ⟨_, hop⟩ := rightN_k hr.2 h1
    have hB : wordsP ((40 :: (textL kids ++ [41])) ++ s) [] = (wordsP s []).map (([40] :: (tokL kids ++ [[41]])) ++ ·) := by
      rw [List.cons_append, words_mark 40 _ (by decide) (by decide), List.append_assoc, hL _ (by exact (by decide : signP 41 = false)), List.cons_append, List.nil_append, words_mark 41 _ (by decide) (by decide)]
      simp only [Option.map_map]
      congr 1
      funext x
      simp
    have hst : StopP ((40 :: (textL kids ++ [41])) ++ s) := (by decide : signP 40 = false)
    rw [textF, tokF, if_neg h1, if_neg h1, List.append_assoc]
    rcases hop with ⟨rfl, _⟩ | ⟨rfl, _⟩ | ⟨rfl, h0, h8⟩
    · have e1 : headW 2 k = allW := rfl
      have e2 : headT 2 k = [allW] := rfl
      rw [e1, e2, words_one allW _ (by decide) (by decide) hst, hB, Option.map_map]
      congr 1
    · have e1 : headW 3 k = someW := rfl
      have e2 : headT 3 k = [someW] := rfl
      rw [e1, e2, words_one someW _ (by decide) (by decide) hst, hB, Option.map_map]
      congr 1
    · have e1 : headW 4 k = atW ++ [32, digitP k] := rfl
      have e2 : headT 4 k = [atW, [digitP k]] := rfl
      rw [e1, e2, List.append_assoc, words_one atW _ (by decide) (by decide) (by exact (by decide : signP 32 = false)), List.cons_append, words_blank 32 _ (by decide) (by decide) (by decide), words_one [digitP k] _ (by simp) (fun c hc => by rw [List.mem_singleton.1 hc]; exact sign_digit h0 h8) hst, hB]
      simp only [Option.map_map]
      congr 1

/-- The text of a right formula has its words. -/
theorem words_text (f : FmB) (h : rightF f = true) : wordsP (textF f) [] = some (tokF f) := by
  have := words_F f h [] trivial
  rw [List.append_nil] at this
  rw [this]
  simp [wordsP, flushP]
end Go.Proofs.YtojbhlbknjnioaaGreatDoor
