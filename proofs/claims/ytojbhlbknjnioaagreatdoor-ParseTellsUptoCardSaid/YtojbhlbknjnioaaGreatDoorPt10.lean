/- Texts that the proof leans on, in one: RefSet, RefKFacts, FmOwn, PaMath, PaBack, PaShort. -/
import Derived.Test.YtojbhlbknjnioaaGreatDoorPt9
import Derived.Test.YtojbhlbknjnioaaGreatDoorPt1
import Derived.Maps.AppendAt
/- The contract of the document's Set. -/
namespace Go.Proofs.YtojbhlbknjnioaaGreatDoor
open Go.RowKit

end Go.Proofs.YtojbhlbknjnioaaGreatDoor

/- The contracts of the document's Facts, and names, of layer 9. -/
namespace Go.Proofs.YtojbhlbknjnioaaGreatDoor
open Go.RowKit

theorem ownsRow_lowK {B A : Nat} {w : World} {ty : TypeId} {n : Nat} {v : Value} {len : Nat} {row : List Value} (h : w.ownsRow B ty n v len row) (hA : A ≤ B) : w.ownsRow A ty n v len row := by
  rcases h with ⟨h1, h2 | ⟨g, cap, cur, h3, h4, h5⟩⟩
  · exact ⟨h1, .inl h2⟩
  · exact ⟨h1, .inr ⟨g, cap, cur, h3, Nat.le_trans hA h4, h5⟩⟩

end Go.Proofs.YtojbhlbknjnioaaGreatDoor

/- Formulas of the call's own: trees whose rows of Kids lie each in a block of its own. -/
namespace Go.Proofs.YtojbhlbknjnioaaGreatDoor
open Go.RowKit

inductive AT where
  | mk (op k : Int) (r : RoleB) (v : Value) (kids : List AT)
def AT.op : AT → Int | .mk op _ _ _ _ => op
def AT.k : AT → Int | .mk _ k _ _ _ => k
def AT.r : AT → RoleB | .mk _ _ r _ _ => r
def AT.v : AT → Value | .mk _ _ _ v _ => v
def AT.kids : AT → List AT | .mk _ _ _ _ kids => kids

mutual
def eraseA : AT → FmB
  | .mk op k r _ kids => .mk op k r (eraseL kids)
def eraseL : List AT → List FmB
  | [] => []
  | t :: l => eraseA t :: eraseL l
end
def cellsA (t : AT) : List Value := [.int .i64 t.op, .int .i64 t.k, .string ⟨t.r.1.toArray⟩, .string ⟨t.r.2.toArray⟩, t.v]
def rowA (ts : List AT) : List Value := ts.flatMap cellsA
/- The blocks that it lies in. -/
mutual
def blksA : AT → List Nat
  | .mk _ _ _ v kids => v.ownBlock.toList ++ blksL kids
def blksL : List AT → List Nat
  | [] => []
  | t :: l => blksA t ++ blksL l
end
/- It is the call's own, from the block B on. -/
mutual
def OwnA (B : Nat) (w : World) : AT → Prop
  | .mk _ _ r v kids => (r.1.length ≤ 9223372036854775807 ∧ r.2.length ≤ 9223372036854775807) ∧ w.ownsRow B 26 5 v kids.length (rowA kids) ∧ OwnL B w kids
def OwnL (B : Nat) (w : World) : List AT → Prop
  | [] => True
  | t :: l => OwnA B w t ∧ OwnL B w l
end

theorem eraseA_eq (t : AT) : eraseA t = .mk t.op t.k t.r (eraseL t.kids) := by cases t; rfl
theorem blksA_eq (t : AT) : blksA t = t.v.ownBlock.toList ++ blksL t.kids := by cases t; rfl
theorem ownA_eq (B : Nat) (w : World) (t : AT) : OwnA B w t ↔ (t.r.1.length ≤ 9223372036854775807 ∧ t.r.2.length ≤ 9223372036854775807) ∧ w.ownsRow B 26 5 t.v t.kids.length (rowA t.kids) ∧ OwnL B w t.kids := by cases t; exact Iff.rfl
theorem eraseL_map (l : List AT) : eraseL l = l.map eraseA := by
  induction l with
  | nil => rfl
  | cons t l ih => rw [eraseL, ih, List.map_cons]
theorem blksL_flat (l : List AT) : blksL l = l.flatMap blksA := by
  induction l with
  | nil => rfl
  | cons t l ih => rw [blksL, ih, List.flatMap_cons]
theorem ownL_all (B : Nat) (w : World) (l : List AT) : OwnL B w l ↔ ∀ t ∈ l, OwnA B w t := by
  induction l with
  | nil => exact ⟨fun _ _ h => (by cases h), fun _ => trivial⟩
  | cons t l ih =>
    rw [OwnL, ih]
    exact ⟨fun h s hs => (List.mem_cons.1 hs).elim (fun e => e ▸ h.1) (h.2 s), fun h => ⟨h t (by simp), fun s hs => h s (by simp [hs])⟩⟩
theorem eraseL_len (l : List AT) : (eraseL l).length = l.length := by rw [eraseL_map, List.length_map]

theorem at_ind {P : AT → Prop} (h : ∀ t : AT, (∀ s ∈ t.kids, P s) → P t) : ∀ t, P t := by
  have key : ∀ n t, nodesF (eraseA t) ≤ n → P t := by
    intro n
    induction n with
    | zero => intro t ht; have := nodesF_pos (eraseA t); omega
    | succ n ih =>
      intro t ht
      refine h t fun s hs => ih s ?_
      have h1 : eraseA s ∈ eraseL t.kids := by rw [eraseL_map]; exact List.mem_map.2 ⟨s, hs, rfl⟩
      have h2 := nodesL_mem h1
      rw [eraseA_eq, nodesF] at ht
      omega
  exact fun t => key _ t (Nat.le_refl _)

theorem rowA_snoc (l : List AT) (x : AT) : rowA (l ++ [x]) = rowA l ++ cellsA x := by simp [rowA]
theorem rowA_get : ∀ (ls : List AT) (i j : Nat) (h : i < ls.length) (_ : j < 5), (rowA ls)[i * 5 + j]? = (cellsA ls[i])[j]?
  | x :: l, 0, j, _, hj => by
    rw [Nat.zero_mul, Nat.zero_add, rowA, List.flatMap_cons, List.getElem?_append_left (by simpa [cellsA] using hj)]
    rfl
  | x :: l, i + 1, j, h, hj => by
    have hl : (cellsA x).length = 5 := rfl
    have := rowA_get l i j (by simpa using h) hj
    rw [rowA, List.flatMap_cons, List.getElem?_append_right (by rw [hl, Nat.add_mul]; omega), hl]
    rw [show (i + 1) * 5 + j - 5 = i * 5 + j by rw [Nat.add_mul]; omega]
    exact this

theorem ownA_lt {B : Nat} {w : World} : ∀ t : AT, OwnA B w t → ∀ b ∈ blksA t, B ≤ b ∧ b < w.heap.size := by
  refine at_ind fun t ih h b hb => ?_
  rw [ownA_eq] at h
  rw [blksA_eq, List.mem_append] at hb
  rcases hb with hb | hb
  · exact h.2.1.lt b (by simpa using hb)
  · rw [blksL_flat, List.mem_flatMap] at hb
    obtain ⟨s, hs, hb⟩ := hb
    exact ih s hs ((ownL_all _ _ _).1 h.2.2 s hs) b hb

theorem ownA_keep {S : Nat → Prop} {B : Nat} {w w' : World} (hc : Chg S w w') : ∀ t : AT, OwnA B w t → (∀ b ∈ blksA t, ¬ S b) → OwnA B w' t := by
  refine at_ind fun t ih h hS => ?_
  rw [ownA_eq] at h ⊢
  rw [blksA_eq] at hS
  refine ⟨h.1, ownsRow_keep h.2.1 hc (fun k hk => hS k (List.mem_append_left _ (by simp [hk]))), (ownL_all _ _ _).2 fun s hs => ih s hs ((ownL_all _ _ _).1 h.2.2 s hs) fun b hb => hS b (List.mem_append_right _ ?_)⟩
  rw [blksL_flat]
  exact List.mem_flatMap.2 ⟨s, hs, hb⟩
theorem ownL_keep {S : Nat → Prop} {B : Nat} {w w' : World} (hc : Chg S w w') {l : List AT} (h : OwnL B w l) (hS : ∀ b ∈ blksL l, ¬ S b) : OwnL B w' l := (ownL_all _ _ _).2 fun s hs => ownA_keep hc s ((ownL_all _ _ _).1 h s hs) fun b hb => hS b (by rw [blksL_flat]; exact List.mem_flatMap.2 ⟨s, hs, hb⟩)
theorem ownL_lt {B : Nat} {w : World} {l : List AT} (h : OwnL B w l) : ∀ b ∈ blksL l, B ≤ b ∧ b < w.heap.size := fun b hb => by
  rw [blksL_flat, List.mem_flatMap] at hb
  obtain ⟨s, hs, hb⟩ := hb
  exact ownA_lt s ((ownL_all _ _ _).1 h s hs) b hb
theorem ownA_low {B A : Nat} {w : World} (hA : A ≤ B) : ∀ t : AT, OwnA B w t → OwnA A w t := by
  refine at_ind fun t ih h => ?_
  rw [ownA_eq] at h ⊢
  exact ⟨h.1, ownsRow_lowK h.2.1 hA, (ownL_all _ _ _).2 fun s hs => ih s hs ((ownL_all _ _ _).1 h.2.2 s hs)⟩
theorem ownL_low {B A : Nat} {w : World} (hA : A ≤ B) {l : List AT} (h : OwnL B w l) : OwnL A w l := (ownL_all _ _ _).2 fun s hs => ownA_low hA s ((ownL_all _ _ _).1 h s hs)

theorem rowV_shape {B : Nat} {w : World} {v : Value} {l : List AT} (h : w.ownsRow B 26 5 v l.length (rowA l)) : ∃ ao cp, v = .slice ao l.length cp ∧ (ao = none → cp = 0) ∧ l.length ≤ cp := by
  rcases h.2 with ⟨rfl, h0⟩ | ⟨g, cap, cur, rfl, _, _, h1, _⟩
  · exact ⟨none, 0, by rw [h0], fun _ => rfl, by omega⟩
  · exact ⟨_, _, rfl, fun e => (by cases e), h1⟩

/-- It can be read as any formula. -/
theorem own_fm {B : Nat} {w : World} : ∀ (t : AT), OwnA B w t → ∀ (n b o : Nat), deepF (eraseA t) ≤ n → (∀ j, j < 5 → w.cell? ⟨b, o + j, none⟩ = (cellsA t)[j]?) → FmAt (fun k => B ≤ k ∧ k < w.heap.size) w n b o (eraseA t) := by
  refine at_ind fun t ih h n b o hn hc => ?_
  rw [ownA_eq] at h
  obtain ⟨h1, h2, h3⟩ := h
  have hd := deepF_eq (eraseA t)
  rw [hd] at hn
  obtain ⟨m, rfl⟩ : ∃ m, n = m + 1 := ⟨n - 1, by omega⟩
  have c0 := hc 0 (by omega)
  have c1 := hc 1 (by omega)
  have c2 := hc 2 (by omega)
  have c3 := hc 3 (by omega)
  have c4 := hc 4 (by omega)
  obtain ⟨ao, cp, hv, hz, hle⟩ := rowV_shape h2
  simp only [cellsA, List.getElem?_cons_zero, List.getElem?_cons_succ, Nat.add_zero] at c0 c1 c2 c3 c4
  rw [eraseA_eq] at hn ⊢
  refine ⟨c0, c1, c2, c3, h1, ao, cp, by rw [hv] at c4; simp only [FmB.kids, eraseL_len]; exact c4, hz, fun i hi => ?_⟩
  have hi2 : i < t.kids.length := by simpa only [FmB.kids, eraseL_len] using hi
  have hx : (eraseL t.kids)[i]'(by simpa only [FmB.kids] using hi) = eraseA t.kids[i] := by simp [eraseL_map]
  have hmem : t.kids[i] ∈ t.kids := List.getElem_mem hi2
  have hdi : deepF (eraseA t.kids[i]) ≤ deepL (eraseL t.kids) := deepL_mem (by rw [eraseL_map]; exact List.mem_map.2 ⟨_, hmem, rfl⟩)
  rcases h2.2 with ⟨e, h0⟩ | ⟨g, cap, cur, e, hg, hh, k1, k2, k3, k4⟩
  · omega
  · rw [e] at hv
    injection hv with hv _ _
    subst hv
    refine ⟨g, 0, rfl, ⟨hg, lt_blk hh⟩, ?_⟩
    show FmAt _ w m g (0 + i * 5) ((eraseL t.kids)[i]'(by simpa only [FmB.kids] using hi))
    rw [hx]
    refine ih _ hmem ((ownL_all _ _ _).1 h3 _ hmem) m g (0 + i * 5) (by simp only [FmB.kids] at hn; omega) fun j hj => ?_
    have hget := rowA_get t.kids i j hi2 hj
    have hs : j < (cellsA t.kids[i]).length := by simpa [cellsA] using hj
    rw [List.getElem?_eq_getElem hs] at hget ⊢
    rw [e] at h2
    have := h2.cells (g := g) rfl (i * 5 + j) _ hget
    rw [add_off] at this
    rw [Nat.zero_add] at this ⊢
    exact this

theorem own_fms {B : Nat} {w : World} {t : AT} (h : OwnA B w t) : ∃ ao cp, t.v = .slice ao t.kids.length cp ∧ (ao = none → cp = 0) ∧ FmsAt (fun k => B ≤ k ∧ k < w.heap.size) w (deepF (eraseA t)) ao (eraseL t.kids) ∧ FmOk (eraseA t) := by
  have h0 := h
  rw [ownA_eq] at h
  obtain ⟨h1, h2, h3⟩ := h
  obtain ⟨ao, cp, hv, hz, hle⟩ := rowV_shape h2
  refine ⟨ao, cp, hv, hz, fun i hi => ?_, by rw [eraseA_eq]; exact h1⟩
  have hi2 : i < t.kids.length := by simpa only [eraseL_len] using hi
  have hx : (eraseL t.kids)[i] = eraseA t.kids[i] := by simp [eraseL_map]
  have hmem : t.kids[i] ∈ t.kids := List.getElem_mem hi2
  have hdi : deepF (eraseA t.kids[i]) ≤ deepL (eraseL t.kids) := deepL_mem (by rw [eraseL_map]; exact List.mem_map.2 ⟨_, hmem, rfl⟩)
  have hd := deepF_eq (eraseA t)
  rw [eraseA_eq] at hd
  simp only [FmB.kids] at hd
  rcases h2.2 with ⟨e, h0⟩ | ⟨g, cap, cur, e, hg, hh, k1, k2, k3, k4⟩
  · omega
  · rw [e] at hv
    injection hv with hv _ _
    subst hv
    refine ⟨g, 0, rfl, ⟨hg, lt_blk hh⟩, ?_⟩
    rw [hx]
    refine own_fm _ ((ownL_all _ _ _).1 h3 _ hmem) _ g (0 + i * 5) (by rw [eraseA_eq t]; omega) fun j hj => ?_
    have hget := rowA_get t.kids i j hi2 hj
    have hs : j < (cellsA t.kids[i]).length := by simpa [cellsA] using hj
    rw [List.getElem?_eq_getElem hs] at hget ⊢
    rw [e] at h2
    have := h2.cells (g := g) rfl (i * 5 + j) _ hget
    rw [add_off] at this
    rw [Nat.zero_add] at this ⊢
    exact this
end Go.Proofs.YtojbhlbknjnioaaGreatDoor

/- Formulas as words (layer 12): plain words. What is told is parsed. -/
namespace Go.Proofs.YtojbhlbknjnioaaGreatDoor
open Go.RowKit

abbrev Tok := List UInt8
/-- A sign of a word. -/
def signP (c : UInt8) : Bool := (decide (97 ≤ c.toNat) && decide (c.toNat ≤ 122)) || (decide (48 ≤ c.toNat) && decide (c.toNat ≤ 57)) || decide (c.toNat = 45) || decide (c.toNat = 46)
def markP (c : UInt8) : Bool := decide (c.toNat = 40) || decide (c.toNat = 41) || decide (c.toNat = 44)
def blankP (c : UInt8) : Bool := decide (c.toNat = 32) || decide (c.toNat = 9) || decide (c.toNat = 10)
def flushP (cur : Tok) (l : List Tok) : List Tok := if cur = [] then l else cur :: l
/-- The words and marks of a text, behind a word's beginning. -/
def wordsP : List UInt8 → Tok → Option (List Tok)
  | [], cur => some (flushP cur [])
  | c :: s, cur =>
    if signP c then wordsP s (cur ++ [c])
    else if markP c then (wordsP s []).map (fun l => flushP cur ([c] :: l))
    else if blankP c then (wordsP s []).map (flushP cur)
    else none

def orW : Tok := [111, 114]
def andW : Tok := [97, 110, 100]
def allW : Tok := [97, 108, 108]
def someW : Tok := [115, 111, 109, 101]
def atW : Tok := [97, 116]
/-- The word w is next: what is behind it. -/
def hasT (w : Tok) : List Tok → Option (List Tok)
  | [] => none
  | x :: r => if x = w then some r else none
/-- The number that a word says: one or two digits, without noughts ahead. -/
def numW (k : Tok) : Option Int :=
  if k.all (fun c => decide (48 ≤ c.toNat) && decide (c.toNat ≤ 57)) && (decide (k ≠ []) && (decide (k.length ≤ 2) && !(decide (k.length = 2) && k.head? == some 48))) then some (k.foldl (fun n c => 10 * n + ((c.toNat : Int) - 48)) 0) else none
def fmOf (op : Int) : List FmB → FmB → FmB
  | [], f => f
  | l, f => .mk op 0 ([], []) (f :: l)

mutual
def anyP : Nat → List Tok → Option (FmB × List Tok)
  | 0, _ => none
  | n + 1, ts => match bothP n ts with
    | none => none
    | some (f, r) => (orsP n r).map fun p => (fmOf 3 p.1 f, p.2)
def orsP : Nat → List Tok → Option (List FmB × List Tok)
  | 0, _ => none
  | n + 1, ts => match hasT orW ts with
    | none => some ([], ts)
    | some r => match bothP n r with
      | none => none
      | some (f, r) => (orsP n r).map fun p => (f :: p.1, p.2)
def bothP : Nat → List Tok → Option (FmB × List Tok)
  | 0, _ => none
  | n + 1, ts => match oneP n ts with
    | none => none
    | some (f, r) => (andsP n r).map fun p => (fmOf 2 p.1 f, p.2)
def andsP : Nat → List Tok → Option (List FmB × List Tok)
  | 0, _ => none
  | n + 1, ts => match hasT andW ts with
    | none => some ([], ts)
    | some r => match oneP n r with
      | none => none
      | some (f, r) => (andsP n r).map fun p => (f :: p.1, p.2)
def oneP : Nat → List Tok → Option (FmB × List Tok)
  | 0, _ => none
  | _ + 1, [] => none
  | n + 1, w :: r =>
    if w = [40] then match anyP n r with
      | none => none
      | some (f, r) => (hasT [41] r).map fun r => (f, r)
    else if w = allW then (listP n r).map fun p => (.mk 2 0 ([], []) p.1, p.2)
    else if w = someW then (listP n r).map fun p => (.mk 3 0 ([], []) p.1, p.2)
    else if w = atW then match r with
      | [] => none
      | k :: r => match numW k with
        | none => none
        | some x => (listP n r).map fun p => (.mk 4 x ([], []) p.1, p.2)
    else (parseR w).map fun x => (.mk 1 0 x [], r)
def listP : Nat → List Tok → Option (List FmB × List Tok)
  | 0, _ => none
  | n + 1, ts => match hasT [40] ts with
    | none => none
    | some r => match hasT [41] r with
      | some r => some ([], r)
      | none => match anyP n r with
        | none => none
        | some (f, r) => match manyP n r with
          | none => none
          | some (l, r) => (hasT [41] r).map fun r => (f :: l, r)
def manyP : Nat → List Tok → Option (List FmB × List Tok)
  | 0, _ => none
  | n + 1, ts => match hasT [44] ts with
    | none => some ([], ts)
    | some r => match anyP n r with
      | none => none
      | some (f, r) => (manyP n r).map fun p => (f :: p.1, p.2)
end

def digitP (k : Int) : UInt8 := UInt8.ofNat (48 + k.toNat)
def headW (op k : Int) : List UInt8 := if op = 3 then someW else if op = 4 then atW ++ [32, digitP k] else allW
/- A formula's text, and its words. -/
mutual
def textF : FmB → List UInt8
  | .mk op k r kids => if op = 1 then roleText r else headW op k ++ (40 :: (textL kids ++ [41]))
def textL : List FmB → List UInt8
  | [] => []
  | f :: l => textF f ++ textT l
def textT : List FmB → List UInt8
  | [] => []
  | f :: l => 44 :: 32 :: (textF f ++ textT l)
end
/-- Nothing that stands there goes on with a word. -/
def StopP : List UInt8 → Prop
  | [] => True
  | c :: _ => signP c = false

theorem words_word : ∀ (x s cur : List UInt8), (∀ c ∈ x, signP c = true) → wordsP (x ++ s) cur = wordsP s (cur ++ x)
  | [], s, cur, _ => by rw [List.nil_append, List.append_nil]
  | c :: x, s, cur, h => by
    rw [List.cons_append, wordsP, if_pos (h c (by simp)), words_word x s _ (fun d hd => h d (List.mem_cons_of_mem _ hd)), List.append_assoc]
    rfl
theorem words_stop : ∀ (s cur : List UInt8), cur ≠ [] → StopP s → wordsP s cur = (wordsP s []).map (cur :: ·)
  | [], cur, hc, _ => by simp [wordsP, flushP, hc]
  | c :: s, cur, hc, h => by
    have h : signP c = false := h
    simp only [wordsP, h, Bool.false_eq_true, if_false]
    by_cases hm : markP c = true
    · simp only [hm, if_true, Option.map_map]
      congr 1
      funext l
      simp [flushP, hc]
    · have hm : markP c = false := by simpa using hm
      by_cases hb : blankP c = true
      · simp only [hm, hb, Bool.false_eq_true, if_false, if_true, Option.map_map]
        congr 1
        funext l
        simp [flushP, hc]
      · simp [hm, hb]
theorem words_one (x s : List UInt8) (hx : x ≠ []) (h : ∀ c ∈ x, signP c = true) (hs : StopP s) : wordsP (x ++ s) [] = (wordsP s []).map (x :: ·) := by
  rw [words_word x s [] h, List.nil_append, words_stop s x hx hs]
theorem words_mark (c : UInt8) (s : List UInt8) (h : signP c = false) (hm : markP c = true) : wordsP (c :: s) [] = (wordsP s []).map ([c] :: ·) := by
  simp only [wordsP, h, hm, Bool.false_eq_true, if_false, if_true]
  congr 1
theorem words_blank (c : UInt8) (s : List UInt8) (h : signP c = false) (hm : markP c = false) (hb : blankP c = true) : wordsP (c :: s) [] = wordsP s [] := by
  simp only [wordsP, h, hm, hb, Bool.false_eq_true, if_false, if_true]
  have : (flushP [] : List Tok → List Tok) = id := by funext l; simp [flushP]
  rw [this, Option.map_id]
  rfl
theorem digit_nat {k : Int} (h0 : 0 ≤ k) (h8 : k ≤ 8) : (digitP k).toNat = 48 + k.toNat := by
  unfold digitP
  rw [UInt8.toNat_ofNat', Nat.mod_eq_of_lt (by omega)]
theorem rightN_k {op k : Int} {r : RoleB} {n : Nat} (h : rightN op k r n = true) (h1 : op ≠ 1) : r = ([], []) ∧ (op = 2 ∧ k = 0 ∨ op = 3 ∧ k = 0 ∨ op = 4 ∧ 0 ≤ k ∧ k ≤ 8) := by
  unfold rightN at h
  rw [if_neg h1] at h
  by_cases h8 : 8 < n ∨ r ≠ ([], [])
  · rw [if_pos h8] at h; cases h
  · rw [if_neg h8] at h
    simp only [not_or, Nat.not_lt, ne_eq, Decidable.not_not] at h8
    refine ⟨h8.2, ?_⟩
    by_cases h2 : op = 2 ∨ op = 3
    · rw [if_pos h2, decide_eq_true_eq] at h
      rcases h2 with h2 | h2
      · exact .inl ⟨h2, h⟩
      · exact .inr (.inl ⟨h2, h⟩)
    · rw [if_neg h2] at h
      by_cases h4 : op = 4
      · rw [if_pos h4] at h
        simp only [Bool.and_eq_true, decide_eq_true_eq] at h
        exact .inr (.inr ⟨h4, h.2.1, by omega⟩)
      · rw [if_neg h4] at h; cases h

end Go.Proofs.YtojbhlbknjnioaaGreatDoor

/- What is told of a formula is parsed: plain words of layer 12. -/
namespace Go.Proofs.YtojbhlbknjnioaaGreatDoor
open Go.RowKit

/-- The answer of a text: the formula, and the error (as a number). -/
def zeroF : FmB := .mk 0 0 ([], []) []
def parseF (s : List UInt8) : FmB × Nat :=
  if 2048 < s.length then (zeroF, 12)
  else match wordsP s [] with
    | none => (zeroF, 11)
    | some ts => match anyP (4 * ts.length + 8) ts with
      | none => (zeroF, 11)
      | some (f, r) => if r ≠ [] then (zeroF, 11) else if isF f then (f, 0) else (zeroF, 12)

end Go.Proofs.YtojbhlbknjnioaaGreatDoor

/- What the grammar reads: how many words it takes at the least. Plain words of layer 12. -/
namespace Go.Proofs.YtojbhlbknjnioaaGreatDoor
open Go.RowKit

theorem hasT_len {w : Tok} {ts r : List Tok} (h : hasT w ts = some r) : r.length + 1 = ts.length := by
  cases ts with
  | nil => cases h
  | cons x l =>
    rw [hasT] at h
    by_cases e : x = w
    · rw [if_pos e] at h; rw [← Option.some.inj h]; simp
    · rw [if_neg e] at h; cases h

theorem fmOf_nodes (op : Int) (l : List FmB) (f : FmB) : nodesF (fmOf op l f) ≤ nodesF f + nodesL l + l.length := by
  cases l with
  | nil => simp [fmOf, nodesL]
  | cons x l =>
    have e : fmOf op (x :: l) f = .mk op 0 ([], []) (f :: x :: l) := rfl
    rw [e]
    simp only [nodesF, nodesL, List.length_cons]
    omega

/-- Each node takes a word, and what is behind is shorter. -/
theorem read_len : ∀ n : Nat,
    (∀ ts f r, anyP n ts = some (f, r) → nodesF f + r.length ≤ ts.length) ∧ (∀ ts l r, orsP n ts = some (l, r) → nodesL l + l.length + r.length ≤ ts.length) ∧
    (∀ ts f r, bothP n ts = some (f, r) → nodesF f + r.length ≤ ts.length) ∧ (∀ ts l r, andsP n ts = some (l, r) → nodesL l + l.length + r.length ≤ ts.length) ∧
    (∀ ts f r, oneP n ts = some (f, r) → nodesF f + r.length ≤ ts.length) ∧ (∀ ts l r, listP n ts = some (l, r) → nodesL l + l.length + 1 + r.length ≤ ts.length) ∧
    (∀ ts l r, manyP n ts = some (l, r) → nodesL l + l.length + r.length ≤ ts.length) := by
  intro n
  induction n with
  | zero => exact ⟨fun _ _ _ h => by simp [anyP] at h, fun _ _ _ h => by simp [orsP] at h, fun _ _ _ h => by simp [bothP] at h, fun _ _ _ h => by simp [andsP] at h, fun _ _ _ h => by simp [oneP] at h, fun _ _ _ h => by simp [listP] at h, fun _ _ _ h => by simp [manyP] at h⟩
  | succ n ih =>
    obtain ⟨iA, iO, iB, iN, i1, iL, iM⟩ := ih
    have more : ∀ (w : Tok) (rd : List Tok → Option (FmB × List Tok)) (go : List Tok → Option (List FmB × List Tok)), (∀ ts f r, rd ts = some (f, r) → nodesF f + r.length ≤ ts.length) → (∀ ts l r, go ts = some (l, r) → nodesL l + l.length + r.length ≤ ts.length) →
        ∀ ts l r, (match hasT w ts with
          | none => some ([], ts)
          | some r => match rd r with
            | none => none
            | some (f, r) => (go r).map fun p => (f :: p.1, p.2)) = some (l, r) → nodesL l + l.length + r.length ≤ ts.length := by
      intro w rd go hrd hgo ts l r h
      cases h1 : hasT w ts with
      | none =>
        rw [h1] at h
        simp only [Option.some.injEq, Prod.mk.injEq] at h
        obtain ⟨rfl, rfl⟩ := h
        simp [nodesL]
      | some r1 =>
        have hl := hasT_len h1
        rw [h1] at h
        simp only at h
        cases h2 : rd r1 with
        | none => rw [h2] at h; cases h
        | some p =>
          obtain ⟨f, r2⟩ := p
          have h3 := hrd _ _ _ h2
          rw [h2] at h
          simp only [Option.map_eq_some_iff, Prod.mk.injEq, Prod.exists] at h
          obtain ⟨l2, r3, h4, rfl, rfl⟩ := h
          have h5 := hgo _ _ _ h4
          simp only [nodesL, List.length_cons]
          omega
    have both : ∀ (op : Int) (rd : List Tok → Option (FmB × List Tok)) (go : List Tok → Option (List FmB × List Tok)), (∀ ts f r, rd ts = some (f, r) → nodesF f + r.length ≤ ts.length) → (∀ ts l r, go ts = some (l, r) → nodesL l + l.length + r.length ≤ ts.length) →
        ∀ ts f r, (match rd ts with
          | none => none
          | some (f, r) => (go r).map fun p => (fmOf op p.1 f, p.2)) = some (f, r) → nodesF f + r.length ≤ ts.length := by
      intro op rd go hrd hgo ts f r h
      cases h2 : rd ts with
      | none => rw [h2] at h; cases h
      | some p =>
        obtain ⟨g, r2⟩ := p
        have h3 := hrd _ _ _ h2
        rw [h2] at h
        simp only [Option.map_eq_some_iff, Prod.mk.injEq, Prod.exists] at h
        obtain ⟨l2, r3, h4, rfl, rfl⟩ := h
        have h5 := hgo _ _ _ h4
        have h6 := fmOf_nodes op l2 g
        omega
    have lst : ∀ (op k : Int) (l : List FmB), nodesF (.mk op k ([], []) l) = 1 + nodesL l := fun _ _ _ => rfl
    refine ⟨fun ts f r h => ?_, fun ts l r h => ?_, fun ts f r h => ?_, fun ts l r h => ?_, fun ts f r h => ?_, fun ts l r h => ?_, fun ts l r h => ?_⟩
    · rw [anyP] at h; exact both 3 _ _ iB iO ts f r h
    · rw [orsP] at h; exact more orW _ _ iB iO ts l r h
    · rw [bothP] at h; exact both 2 _ _ i1 iN ts f r h
    · rw [andsP] at h; exact more andW _ _ i1 iN ts l r h
    · cases ts with
      | nil => simp [oneP] at h
      | cons w ts =>
        unfold oneP at h
        by_cases e1 : w = [40]
        · rw [if_pos e1] at h
          cases h2 : anyP n ts with
          | none => rw [h2] at h; cases h
          | some p =>
            obtain ⟨g, r2⟩ := p
            have h3 := iA _ _ _ h2
            rw [h2] at h
            simp only [Option.map_eq_some_iff, Prod.mk.injEq] at h
            obtain ⟨r3, h4, rfl, rfl⟩ := h
            have h5 := hasT_len h4
            simp only [List.length_cons]
            omega
        · rw [if_neg e1] at h
          by_cases e2 : w = allW
          · rw [if_pos e2] at h
            simp only [Option.map_eq_some_iff, Prod.mk.injEq, Prod.exists] at h
            obtain ⟨l2, r3, h4, rfl, rfl⟩ := h
            have h5 := iL _ _ _ h4
            rw [lst, List.length_cons]
            omega
          · rw [if_neg e2] at h
            by_cases e3 : w = someW
            · rw [if_pos e3] at h
              simp only [Option.map_eq_some_iff, Prod.mk.injEq, Prod.exists] at h
              obtain ⟨l2, r3, h4, rfl, rfl⟩ := h
              have h5 := iL _ _ _ h4
              rw [lst, List.length_cons]
              omega
            · rw [if_neg e3] at h
              by_cases e4 : w = atW
              · rw [if_pos e4] at h
                cases ts with
                | nil => cases h
                | cons k ts =>
                  simp only at h
                  cases h6 : numW k with
                  | none => rw [h6] at h; cases h
                  | some x =>
                    rw [h6] at h
                    simp only [Option.map_eq_some_iff, Prod.mk.injEq, Prod.exists] at h
                    obtain ⟨l2, r3, h4, rfl, rfl⟩ := h
                    have h5 := iL _ _ _ h4
                    rw [lst, List.length_cons, List.length_cons]
                    omega
              · rw [if_neg e4] at h
                simp only [Option.map_eq_some_iff, Prod.mk.injEq] at h
                obtain ⟨x, _, rfl, rfl⟩ := h
                simp only [nodesF, nodesL, List.length_cons]
                omega
    · rw [listP] at h
      cases h1 : hasT [40] ts with
      | none => rw [h1] at h; cases h
      | some r1 =>
        have hl := hasT_len h1
        rw [h1] at h
        simp only at h
        cases h2 : hasT [41] r1 with
        | some r2 =>
          have hl2 := hasT_len h2
          rw [h2] at h
          simp only [Option.some.injEq, Prod.mk.injEq] at h
          obtain ⟨rfl, rfl⟩ := h
          simp only [nodesL, List.length_nil]
          omega
        | none =>
          rw [h2] at h
          simp only at h
          cases h3 : anyP n r1 with
          | none => rw [h3] at h; cases h
          | some p =>
            obtain ⟨g, r2⟩ := p
            have h4 := iA _ _ _ h3
            rw [h3] at h
            simp only at h
            cases h5 : manyP n r2 with
            | none => rw [h5] at h; cases h
            | some p =>
              obtain ⟨l2, r3⟩ := p
              have h6 := iM _ _ _ h5
              rw [h5] at h
              simp only [Option.map_eq_some_iff, Prod.mk.injEq] at h
              obtain ⟨r4, h7, rfl, rfl⟩ := h
              have h8 := hasT_len h7
              simp only [nodesL, List.length_cons]
              omega
    · rw [manyP] at h; exact more [44] _ _ iA iM ts l r h

/-- The words of a text are no more than its bytes. -/
theorem words_len : ∀ (s cur : List UInt8) (l : List Tok), wordsP s cur = some l → l.length ≤ s.length + (if cur = [] then 0 else 1)
  | [], cur, l, h => by
    simp only [wordsP, Option.some.injEq] at h
    rw [← h]
    unfold flushP
    split <;> simp
  | c :: s, cur, l, h => by
    rw [wordsP] at h
    by_cases e1 : signP c = true
    · rw [if_pos e1] at h
      have := words_len s _ l h
      rw [if_neg (by simp)] at this
      simp only [List.length_cons]
      omega
    · rw [if_neg e1] at h
      by_cases e2 : markP c = true
      · rw [if_pos e2, Option.map_eq_some_iff] at h
        obtain ⟨l2, h2, rfl⟩ := h
        have := words_len s [] l2 h2
        rw [if_pos rfl] at this
        unfold flushP
        split <;> simp only [List.length_cons] <;> omega
      · rw [if_neg e2] at h
        by_cases e3 : blankP c = true
        · rw [if_pos e3, Option.map_eq_some_iff] at h
          obtain ⟨l2, h2, rfl⟩ := h
          have := words_len s [] l2 h2
          rw [if_pos rfl] at this
          unfold flushP
          split <;> simp only [List.length_cons] <;> omega
        · rw [if_neg e3] at h; cases h
end Go.Proofs.YtojbhlbknjnioaaGreatDoor
