/- Texts that the proof leans on, in one: SetMath, Strs, RoleMath, Math, CredMath, Row, Conv. -/
import Derived.Test.YtjaplnainlbldaaUc1
import Derived.Maps.AppendAt
import Derived.Test.YtjaplnainlbldaaRows
import Derived.Lib.SlBytesConst
/- Texts in order; sets of names: plain words, nothing of the program's text. -/
namespace Go.Proofs.Ytjaplnainlbldaa
open Go.RowKit

/-- Byte by byte. -/
def ltS (a b : List UInt8) : Bool := Op.bytesLess a b

theorem ltS_cons (a b : UInt8) (x y : List UInt8) : ltS (a :: x) (b :: y) = (decide (a < b) || (a == b && ltS x y)) := rfl
theorem ltS_nil (a : List UInt8) : ltS a [] = false := by cases a <;> rfl
theorem ltS_nil_cons (b : UInt8) (y : List UInt8) : ltS [] (b :: y) = true := rfl

theorem ltS_irrefl : ∀ (a : List UInt8), ltS a a = false
  | [] => rfl
  | a :: x => by
    rw [ltS_cons, ltS_irrefl x]
    simp

theorem ltS_trans : ∀ (a b c : List UInt8), ltS a b = true → ltS b c = true → ltS a c = true
  | _, [], _, h, _ => by rw [ltS_nil] at h; cases h
  | _, _ :: _, [], _, h => by rw [ltS_nil] at h; cases h
  | [], _ :: _, _ :: _, _, _ => rfl
  | a :: x, b :: y, c :: z, h1, h2 => by
    rw [ltS_cons] at *
    simp only [Bool.or_eq_true, decide_eq_true_eq, Bool.and_eq_true, beq_iff_eq] at *
    rcases h1 with h1 | ⟨rfl, h1⟩
    · rcases h2 with h2 | ⟨rfl, _⟩
      · exact .inl (UInt8.lt_trans h1 h2)
      · exact .inl h1
    · rcases h2 with h2 | ⟨rfl, h2⟩
      · exact .inl h2
      · exact .inr ⟨rfl, ltS_trans x y z h1 h2⟩

theorem ltS_tri : ∀ (a b : List UInt8), ltS a b = true ∨ a = b ∨ ltS b a = true
  | [], [] => .inr (.inl rfl)
  | [], _ :: _ => .inl rfl
  | _ :: _, [] => .inr (.inr rfl)
  | a :: x, b :: y => by
    rw [ltS_cons, ltS_cons]
    simp only [Bool.or_eq_true, decide_eq_true_eq, Bool.and_eq_true, beq_iff_eq]
    rcases UInt8.lt_or_eq_of_le (a := a) (b := b) |> fun _ => Nat.lt_trichotomy a.toNat b.toNat with h | h | h
    · exact .inl (.inl (UInt8.lt_iff_toNat_lt.2 h))
    · have hab : a = b := UInt8.toNat_inj.1 h
      subst hab
      rcases ltS_tri x y with k | k | k
      · exact .inl (.inr ⟨rfl, k⟩)
      · exact .inr (.inl (by rw [k]))
      · exact .inr (.inr (.inr ⟨rfl, k⟩))
    · exact .inr (.inr (.inl (UInt8.lt_iff_toNat_lt.2 h)))

/-- Rising, each once. -/
def Rising : List (List UInt8) → Prop
  | [] => True
  | x :: l => (∀ y ∈ l, ltS x y = true) ∧ Rising l

/-- out is the set of the right ones of ls. -/
def SetOf (ls out : List (List UInt8)) : Prop := Rising out ∧ ∀ x, x ∈ out ↔ x ∈ ls ∧ isName x = true

theorem Rising.ext : ∀ {a b : List (List UInt8)}, Rising a → Rising b → (∀ x, x ∈ a ↔ x ∈ b) → a = b
  | [], [], _, _, _ => rfl
  | [], y :: b, _, _, h => by have := (h y).2 (by simp); simp at this
  | x :: a, [], _, _, h => by have := (h x).1 (by simp); simp at this
  | x :: a, y :: b, ha, hb, h => by
    have hxy : x = y := by
      rcases ltS_tri x y with k | k | k
      · have h1 := (h x).1 (by simp)
        rcases List.mem_cons.1 h1 with e | e
        · exact e
        · have := ltS_trans _ _ _ k (hb.1 x e)
          rw [ltS_irrefl] at this
          cases this
      · exact k
      · have h1 := (h y).2 (by simp)
        rcases List.mem_cons.1 h1 with e | e
        · exact e.symm
        · have := ltS_trans _ _ _ k (ha.1 y e)
          rw [ltS_irrefl] at this
          cases this
    subst hxy
    congr 1
    refine Rising.ext ha.2 hb.2 fun z => ⟨fun hz => ?_, fun hz => ?_⟩
    · rcases List.mem_cons.1 ((h z).1 (List.mem_cons_of_mem _ hz)) with e | e
      · subst e
        have := ha.1 _ hz
        rw [ltS_irrefl] at this
        cases this
      · exact e
    · rcases List.mem_cons.1 ((h z).2 (List.mem_cons_of_mem _ hz)) with e | e
      · subst e
        have := hb.1 _ hz
        rw [ltS_irrefl] at this
        cases this
      · exact e

/-- There is one set alone. -/
theorem SetOf.one {ls a b : List (List UInt8)} (ha : SetOf ls a) (hb : SetOf ls b) : a = b := ha.1.ext hb.1 fun x => (ha.2 x).trans (hb.2 x).symm

theorem Rising.snoc : ∀ {a : List (List UInt8)} {x : List UInt8}, Rising a → (∀ y ∈ a, ltS y x = true) → Rising (a ++ [x])
  | [], _, _, _ => ⟨fun _ h => (by cases h), trivial⟩
  | y :: a, x, h, hx => ⟨fun z hz => by
      rcases List.mem_append.1 hz with k | k
      · exact h.1 z k
      · rw [List.mem_singleton.1 k]; exact hx y (by simp), Rising.snoc h.2 fun z hz => hx z (List.mem_cons_of_mem _ hz)⟩

/-- A rising list of some of ls is no longer. -/
theorem Rising.nodup : ∀ {a : List (List UInt8)}, Rising a → a.Nodup
  | [], _ => List.nodup_nil
  | x :: a, h => List.nodup_cons.2 ⟨(fun hx => by have := h.1 x hx; rw [ltS_irrefl] at this; cases this), Rising.nodup h.2⟩

theorem nodup_length : ∀ (a b : List (List UInt8)), a.Nodup → (∀ x ∈ a, x ∈ b) → a.length ≤ b.length
  | [], _, _, _ => Nat.zero_le _
  | x :: a, b, hn, h => by
    have hx := h x (by simp)
    have hn' := List.nodup_cons.1 hn
    have := nodup_length a (b.erase x) hn'.2 (fun y hy => (List.mem_erase_of_ne (fun e => hn'.1 (by rw [← e]; exact hy))).2 (h y (List.mem_cons_of_mem _ hy)))
    rw [List.length_erase_of_mem hx] at this
    have hp : 0 < b.length := List.length_pos_of_mem hx
    simp only [List.length_cons]
    omega

/-- The texts that may come next, behind the last one of out. -/
def candS (out : List (List UInt8)) (s : List UInt8) : Bool := isName s && (out.isEmpty || ltS (out.getLastD []) s)

/-- What has been found of the least one among seen. -/
def Best (out seen : List (List UInt8)) (b : List UInt8) : Prop :=
  (b = [] ∧ ∀ s ∈ seen, candS out s = false) ∨ (b ∈ seen ∧ candS out b = true ∧ ∀ s ∈ seen, candS out s = true → ltS s b = false)

theorem candS_ne {out : List (List UInt8)} {s : List UInt8} (h : candS out s = true) : s ≠ [] := by
  intro e
  subst e
  simp [candS, isName] at h

theorem Best.skip {out seen : List (List UInt8)} {b s : List UInt8} (h : Best out seen b) (hs : candS out s = false) : Best out (seen ++ [s]) b := by
  rcases h with ⟨h1, h2⟩ | ⟨h1, h2, h3⟩
  · exact .inl ⟨h1, fun x hx => (List.mem_append.1 hx).elim (h2 x) (fun e => by rw [List.mem_singleton.1 e]; exact hs)⟩
  · exact .inr ⟨List.mem_append_left _ h1, h2, fun x hx hc => (List.mem_append.1 hx).elim (fun e => h3 x e hc) (fun e => by rw [List.mem_singleton.1 e, hs] at hc; cases hc)⟩

theorem Best.keep {out seen : List (List UInt8)} {b s : List UInt8} (h : Best out seen b) (hb : b ≠ []) (hs : ltS s b = false) : Best out (seen ++ [s]) b := by
  rcases h with ⟨h1, h2⟩ | ⟨h1, h2, h3⟩
  · exact absurd h1 hb
  · exact .inr ⟨List.mem_append_left _ h1, h2, fun x hx hc => (List.mem_append.1 hx).elim (fun e => h3 x e hc) (fun e => by rw [List.mem_singleton.1 e]; exact hs)⟩

theorem Best.take {out seen : List (List UInt8)} {b s : List UInt8} (h : Best out seen b) (hc : candS out s = true) (hs : b = [] ∨ ltS s b = true) : Best out (seen ++ [s]) s := by
  refine .inr ⟨by simp, hc, fun x hx hx2 => ?_⟩
  rcases List.mem_append.1 hx with e | e
  · rcases h with ⟨_, h2⟩ | ⟨h1, h2, h3⟩
    · rw [h2 x e] at hx2; cases hx2
    · rcases hs with hs | hs
      · exact absurd hs (candS_ne h2)
      · cases hk : ltS x s with
        | false => rfl
        | true =>
          have := ltS_trans _ _ _ hk hs
          rw [h3 x e hx2] at this
          cases this
  · rw [List.mem_singleton.1 e, ltS_irrefl]

/-- Some of the set, the least ones. -/
def SetPart (ls out : List (List UInt8)) : Prop := Rising out ∧ (∀ x ∈ out, x ∈ ls ∧ isName x = true) ∧ ∀ x ∈ ls, isName x = true → x ∈ out ∨ candS out x = true

theorem SetPart.nil (ls : List (List UInt8)) : SetPart ls [] := ⟨trivial, fun _ h => (by cases h), fun x _ hx => .inr (by simp [candS, hx])⟩

theorem SetPart.len {ls out : List (List UInt8)} (h : SetPart ls out) : out.length ≤ ls.length := nodup_length _ _ h.1.nodup fun x hx => (h.2.1 x hx).1

theorem SetPart.done {ls out : List (List UInt8)} (h : SetPart ls out) (hb : Best out ls []) : SetOf ls out := by
  refine ⟨h.1, fun x => ⟨h.2.1 x, fun ⟨h1, h2⟩ => (h.2.2 x h1 h2).elim id fun hc => ?_⟩⟩
  rcases hb with ⟨_, k⟩ | ⟨_, k, _⟩
  · rw [k x h1] at hc; cases hc
  · exact absurd rfl (candS_ne k)

theorem last_rising {out : List (List UInt8)} (h : Rising out) (x : List UInt8) (hx : x ∈ out) : x = out.getLastD [] ∨ ltS x (out.getLastD []) = true := by
  induction out with
  | nil => cases hx
  | cons y l ih =>
    cases l with
    | nil => exact .inl (by simpa using hx)
    | cons z l =>
      have e : (y :: z :: l).getLastD [] = (z :: l).getLastD [] := rfl
      rw [e]
      rcases List.mem_cons.1 hx with k | k
      · subst k
        have hl : (z :: l).getLastD [] ∈ z :: l := by
          rw [List.getLastD_eq_getLast?, List.getLast?_eq_some_getLast (by simp)]
          exact List.getLast_mem _
        exact .inr (h.1 _ hl)
      · exact ih h.2 k

theorem SetPart.step {ls out : List (List UInt8)} {b : List UInt8} (h : SetPart ls out) (hb : Best out ls b) (hne : b ≠ []) : SetPart ls (out ++ [b]) := by
  rcases hb with ⟨k, _⟩ | ⟨h1, h2, h3⟩
  · exact absurd k hne
  · have hc := h2
    simp only [candS, Bool.and_eq_true, Bool.or_eq_true] at hc
    have hlt : ∀ y ∈ out, ltS y b = true := by
      intro y hy
      rcases hc.2 with e | e
      · rw [List.isEmpty_iff.1 e] at hy; cases hy
      · rcases last_rising h.1 y hy with k | k
        · rw [k]; exact e
        · exact ltS_trans _ _ _ k e
    have hl : (out ++ [b]).getLastD [] = b := by simp
    refine ⟨h.1.snoc hlt, fun x hx => ?_, fun x hx hn => ?_⟩
    · rcases List.mem_append.1 hx with k | k
      · exact h.2.1 x k
      · rw [List.mem_singleton.1 k]; exact ⟨h1, hc.1⟩
    · rcases h.2.2 x hx hn with k | k
      · exact .inl (List.mem_append_left _ k)
      · rcases ltS_tri x b with e | e | e
        · rw [h3 x hx k] at e; cases e
        · exact .inl (by rw [e]; simp)
        · exact .inr (by simp [candS, hn, e])

end Go.Proofs.Ytjaplnainlbldaa

/- Lists of texts that can be read. Nothing of the program's text. -/
namespace Go.Proofs.Ytjaplnainlbldaa
open Go.RowKit

theorem ba_get (l : List UInt8) (k : Nat) (h : k < (⟨l.toArray⟩ : ByteArray).size) : (⟨l.toArray⟩ : ByteArray)[k] = l[k]'h := rfl

/-- The texts ls can be read from the address ao on. -/
def StrsAt (D : Nat → Prop) (w : World) (ao : Option Addr) (ls : List (List UInt8)) : Prop :=
  ∀ i (h : i < ls.length), ∃ b off, ao = some ⟨b, off, none⟩ ∧ D b ∧ w.cell? ⟨b, off + i, none⟩ = some (.string ⟨ls[i].toArray⟩) ∧ ls[i].length ≤ 9223372036854775807

theorem StrsAt.keep {S D : Nat → Prop} {w w' : World} {ao : Option Addr} {ls : List (List UInt8)} (h : StrsAt D w ao ls) (hc : Chg S w w') (hS : ∀ i, D i → ¬ S i) : StrsAt D w' ao ls := fun i hi =>
  let ⟨b, off, h1, h2, h3, h4⟩ := h i hi
  ⟨b, off, h1, h2, hc.cell h3 (hS b h2), h4⟩

theorem StrsAt.mono {D D' : Nat → Prop} {w : World} {ao : Option Addr} {ls : List (List UInt8)} (h : StrsAt D w ao ls) (hD : ∀ i, D i → D' i) : StrsAt D' w ao ls := fun i hi =>
  let ⟨b, off, h1, h2, h3, h4⟩ := h i hi
  ⟨b, off, h1, hD b h2, h3, h4⟩

theorem StrsAt.nil (D : Nat → Prop) (w : World) (ao : Option Addr) : StrsAt D w ao [] := fun i hi => by simp at hi

end Go.Proofs.Ytjaplnainlbldaa

/- Roles, in order; sets of them; lists of them that can be read: plain words. -/
namespace Go.Proofs.Ytjaplnainlbldaa
open Go.RowKit

/-- An owner and a word. -/
abbrev RoleB := List UInt8 × List UInt8
def isRole (r : RoleB) : Bool := isName r.1 && isName r.2
def ltR (a b : RoleB) : Bool := lexLt ltS ltS a b
theorem ltS_ord : Ord ltS := ⟨ltS_irrefl, ltS_trans, ltS_tri⟩
theorem ltR_ord : Ord ltR := lexLt_ord ltS_ord ltS_ord
theorem ltR_def (a b : RoleB) : ltR a b = (ltS a.1 b.1 || (a.1 == b.1 && ltS a.2 b.2)) := rfl
def SetR (ls out : List RoleB) : Prop := SetG ltR isRole ls out
theorem SetR.one {ls a b : List RoleB} (ha : SetR ls a) (hb : SetR ls b) : a = b := SetG.one ltR_ord ha hb

/-- How two compare. -/
def cmpR (a b : RoleB) : Int := if ltR a b then -1 else if ltR b a then 1 else 0

/-- A role, as the program holds it. -/
def roleV (r : RoleB) : Value := .agg #[.string ⟨r.1.toArray⟩, .string ⟨r.2.toArray⟩]
def roleCells (r : RoleB) : List Value := [.string ⟨r.1.toArray⟩, .string ⟨r.2.toArray⟩]

/-- The role r lies at the two cells from o on. -/
def RoleAt (w : World) (b o : Nat) (r : RoleB) : Prop :=
  w.cell? ⟨b, o, none⟩ = some (.string ⟨r.1.toArray⟩) ∧ w.cell? ⟨b, o + 1, none⟩ = some (.string ⟨r.2.toArray⟩) ∧ r.1.length ≤ 9223372036854775807 ∧ r.2.length ≤ 9223372036854775807

/-- The roles ls can be read from the address ao on. -/
def RolesAt (D : Nat → Prop) (w : World) (ao : Option Addr) (ls : List RoleB) : Prop :=
  ∀ i (h : i < ls.length), ∃ b off, ao = some ⟨b, off, none⟩ ∧ D b ∧ RoleAt w b (off + i * 2) ls[i]

theorem RoleAt.keep {S : Nat → Prop} {w w' : World} {b o : Nat} {r : RoleB} (h : RoleAt w b o r) (hc : Chg S w w') (hS : ¬ S b) : RoleAt w' b o r :=
  ⟨hc.cell h.1 hS, hc.cell h.2.1 hS, h.2.2⟩

theorem RolesAt.keep {S D : Nat → Prop} {w w' : World} {ao : Option Addr} {ls : List RoleB} (h : RolesAt D w ao ls) (hc : Chg S w w') (hS : ∀ i, D i → ¬ S i) : RolesAt D w' ao ls := fun i hi =>
  let ⟨b, off, h1, h2, h3⟩ := h i hi
  ⟨b, off, h1, h2, h3.keep hc (hS b h2)⟩

theorem RolesAt.mono {D D' : Nat → Prop} {w : World} {ao : Option Addr} {ls : List RoleB} (h : RolesAt D w ao ls) (hD : ∀ i, D i → D' i) : RolesAt D' w ao ls := fun i hi =>
  let ⟨b, off, h1, h2, h3⟩ := h i hi
  ⟨b, off, h1, hD b h2, h3⟩

theorem RolesAt.nil (D : Nat → Prop) (w : World) (ao : Option Addr) : RolesAt D w ao [] := fun i hi => by simp at hi

theorem RolesAt.low {D : Nat → Prop} {w : World} {ao : Option Addr} {ls : List RoleB} (h : RolesAt D w ao ls) : RolesAt (fun k => k < w.heap.size) w ao ls := fun i hi =>
  let ⟨b, off, h1, _, h3⟩ := h i hi
  ⟨b, off, h1, World.block_lt_of_cell? w _ h3.1, h3⟩

end Go.Proofs.Ytjaplnainlbldaa

/- Plain arithmetic of layer 1's numbers: nothing of the program's text. -/
namespace Go.Proofs.Ytjaplnainlbldaa
open Go.RowKit

/-- The number that the bytes begin with, how many bytes it has, and the error. -/
def numN : Nat → List UInt8 → Nat → Nat → Nat × Nat × Nat
  | 0, _, _, _ => (0, 0, 11)
  | _ + 1, [], _, _ => (0, 0, 10)
  | f + 1, d :: l, k, n =>
    if d.toNat = 0 ∧ 0 < k then (0, 0, 11)
    else if d.toNat < 128 then (n + d.toNat * 128 ^ k, k + 1, 0)
    else numN f l (k + 1) (n + (d.toNat - 128) * 128 ^ k)

/-- The error of a text that is read. -/
def errText (l : List UInt8) (most : Int) : Nat :=
  if (numN 9 l 0 0).2.2 = 0 then
    (if most < ((numN 9 l 0 0).1 : Int) then 12 else if l.length - (numN 9 l 0 0).2.1 < (numN 9 l 0 0).1 then 10 else 0)
  else (numN 9 l 0 0).2.2

/-- A number's bytes: one that isn't the last; the last. -/
def dg (n : Nat) : UInt8 := UInt8.ofNat (128 + n % 128)
def ds (n : Nat) : UInt8 := UInt8.ofNat n
def enc (n : Nat) : List UInt8 := if n < 128 then [ds n] else dg n :: enc (n / 128)
  termination_by n
  decreasing_by omega

theorem enc_small {n : Nat} (h : n < 128) : enc n = [ds n] := by rw [enc, if_pos h]
theorem enc_big {n : Nat} (h : 128 ≤ n) : enc n = dg n :: enc (n / 128) := by rw [enc, if_neg (by omega)]

theorem enc_length : ∀ (k n : Nat), n < 128 ^ (k + 1) → (enc n).length ≤ k + 1
  | 0, n, h => by rw [enc_small (by omega)]; simp
  | k + 1, n, h => by
    by_cases h1 : n < 128
    · rw [enc_small h1]; simp
    · rw [enc_big (by omega)]
      have := enc_length k (n / 128) (by rw [Nat.pow_succ] at h; omega)
      simp only [List.length_cons]
      omega

theorem enc_length9 {n : Nat} (h : n < 9223372036854775808) : (enc n).length ≤ 9 := enc_length 8 n (by simpa using h)

theorem enc_pos (n : Nat) : 0 < (enc n).length := by
  by_cases h1 : n < 128
  · rw [enc_small h1]; simp
  · rw [enc_big (by omega)]; simp

theorem bits_and_i64_127 (n : Nat) (h : n < 9223372036854775808) : bits .and .i64 (n : Int) 127 = ((n % 128 : Nat) : Int) := by
  have h1 : (BitVec.ofInt 64 (n : Int)).toNat = n := by
    rw [BitVec.ofInt_natCast, BitVec.toNat_ofNat]; exact Nat.mod_eq_of_lt (by omega)
  show IntKind.i64.wrap ((BitVec.ofInt 64 (n : Int) &&& BitVec.ofInt 64 127).toNat : Int) = _
  rw [BitVec.toNat_and, h1]
  have h2 : (BitVec.ofInt 64 127).toNat = 2 ^ 7 - 1 := by decide
  rw [h2, Nat.and_two_pow_sub_one_eq_mod]
  exact IntWalk.i64_in _ (by omega)

theorem bits_or_u8_128 (d : Nat) (h : d < 128) : bits .or .u8 (d : Int) 128 = ((128 + d : Nat) : Int) := by
  have h1 : (BitVec.ofInt 8 (d : Int)).toNat = d := by
    rw [BitVec.ofInt_natCast, BitVec.toNat_ofNat]; exact Nat.mod_eq_of_lt (by omega)
  show IntKind.u8.wrap ((BitVec.ofInt 8 (d : Int) ||| BitVec.ofInt 8 128).toNat : Int) = _
  rw [BitVec.toNat_or, h1]
  have h2 : (BitVec.ofInt 8 128).toNat = 1 <<< 7 := by decide
  rw [h2, Nat.or_comm, ← Nat.shiftLeft_add_eq_or_of_lt (by simpa using h)]
  simp only [Nat.shiftLeft_eq]
  exact IntWalk.u8_in _ (by omega)

theorem dg_toNat (n : Nat) : (dg n).toNat = 128 + n % 128 := ofNat_u8 _ (by omega)
theorem ds_toNat {n : Nat} (h : n < 128) : (ds n).toNat = n := ofNat_u8 _ (by omega)

theorem digit_of (n : Nat) (h : n < 9223372036854775808) : bits .or .u8 (bits .and .i64 (n : Int) 127 % 256) 128 = ((dg n).toNat : Int) := by
  have e : ((n % 128 : Nat) : Int) % 256 = ((n % 128 : Nat) : Int) := by omega
  rw [bits_and_i64_127 n h, e, bits_or_u8_128 _ (Nat.mod_lt _ (by decide)), dg_toNat]

end Go.Proofs.Ytjaplnainlbldaa

/- Credentials: which are right, their bytes, their order; how they lie in memory: plain words. -/
namespace Go.Proofs.Ytjaplnainlbldaa
open Go.RowKit

/-- A credential. -/
structure CredB where
  kind : Int
  head : RoleB
  who : List UInt8
  b : RoleB
  c : RoleB
  w2 : List UInt8
  deriving DecidableEq, Inhabited

def noneR : RoleB := ([], [])
def noCred : CredB := ⟨0, noneR, [], noneR, noneR, []⟩

/-- The right ones, kind by kind. -/
def isCred (c : CredB) : Bool :=
  isRole c.head &&
    (if c.kind = 1 then isName c.who && (c.b == noneR && (c.c == noneR && c.w2 == []))
     else (c.who == [] && isRole c.b) &&
      (if c.kind = 2 then c.c == noneR && c.w2 == []
       else if c.kind = 3 then c.c == noneR && (c.b.1 == c.head.1 && isName c.w2)
       else c.kind == 4 && (c.w2 == [] && (isRole c.c && ltR c.b c.c))))

/-- A credential, as the program holds it. -/
def credCells (c : CredB) : List Value :=
  [.int .i64 c.kind, .string ⟨c.head.1.toArray⟩, .string ⟨c.head.2.toArray⟩, .string ⟨c.who.toArray⟩, .string ⟨c.b.1.toArray⟩, .string ⟨c.b.2.toArray⟩, .string ⟨c.c.1.toArray⟩, .string ⟨c.c.2.toArray⟩, .string ⟨c.w2.toArray⟩]
def credBox (c : CredB) : Array Value :=
  #[.int .i64 c.kind, .string ⟨c.head.1.toArray⟩, .string ⟨c.head.2.toArray⟩, .string ⟨c.who.toArray⟩, .string ⟨c.b.1.toArray⟩, .string ⟨c.b.2.toArray⟩, .string ⟨c.c.1.toArray⟩, .string ⟨c.c.2.toArray⟩, .string ⟨c.w2.toArray⟩]
def credV (c : CredB) : Value := .agg (credBox c)

/-- No field is longer than any text can be. -/
def credShort (c : CredB) (n : Nat) : Prop :=
  c.head.1.length ≤ n ∧ c.head.2.length ≤ n ∧ c.who.length ≤ n ∧ c.b.1.length ≤ n ∧ c.b.2.length ≤ n ∧ c.c.1.length ≤ n ∧ c.c.2.length ≤ n ∧ c.w2.length ≤ n

/-- The credential c lies at the nine cells from o on. -/
structure CredAt (w : World) (b o : Nat) (c : CredB) : Prop where
  k0 : w.cell? ⟨b, o, none⟩ = some (.int .i64 c.kind)
  k1 : w.cell? ⟨b, o + 1, none⟩ = some (.string ⟨c.head.1.toArray⟩)
  k2 : w.cell? ⟨b, o + 2, none⟩ = some (.string ⟨c.head.2.toArray⟩)
  k3 : w.cell? ⟨b, o + 3, none⟩ = some (.string ⟨c.who.toArray⟩)
  k4 : w.cell? ⟨b, o + 4, none⟩ = some (.string ⟨c.b.1.toArray⟩)
  k5 : w.cell? ⟨b, o + 5, none⟩ = some (.string ⟨c.b.2.toArray⟩)
  k6 : w.cell? ⟨b, o + 6, none⟩ = some (.string ⟨c.c.1.toArray⟩)
  k7 : w.cell? ⟨b, o + 7, none⟩ = some (.string ⟨c.c.2.toArray⟩)
  k8 : w.cell? ⟨b, o + 8, none⟩ = some (.string ⟨c.w2.toArray⟩)

/-- The credentials ls can be read from the address ao on. -/
def CredsAt (D : Nat → Prop) (w : World) (ao : Option Addr) (ls : List CredB) : Prop :=
  ∀ i (h : i < ls.length), ∃ b off, ao = some ⟨b, off, none⟩ ∧ D b ∧ CredAt w b (off + i * 9) ls[i] ∧ credShort ls[i] 9223372036854775807

theorem CredAt.keep {S : Nat → Prop} {w w' : World} {b o : Nat} {c : CredB} (h : CredAt w b o c) (hc : Chg S w w') (hS : ¬ S b) : CredAt w' b o c :=
  ⟨hc.cell h.k0 hS, hc.cell h.k1 hS, hc.cell h.k2 hS, hc.cell h.k3 hS, hc.cell h.k4 hS, hc.cell h.k5 hS, hc.cell h.k6 hS, hc.cell h.k7 hS, hc.cell h.k8 hS⟩

theorem CredsAt.keep {S D : Nat → Prop} {w w' : World} {ao : Option Addr} {ls : List CredB} (h : CredsAt D w ao ls) (hc : Chg S w w') (hS : ∀ i, D i → ¬ S i) : CredsAt D w' ao ls := fun i hi =>
  let ⟨b, off, h1, h2, h3, h4⟩ := h i hi
  ⟨b, off, h1, h2, h3.keep hc (hS b h2), h4⟩

theorem CredsAt.mono {D D' : Nat → Prop} {w : World} {ao : Option Addr} {ls : List CredB} (h : CredsAt D w ao ls) (hD : ∀ i, D i → D' i) : CredsAt D' w ao ls := fun i hi =>
  let ⟨b, off, h1, h2, h3⟩ := h i hi
  ⟨b, off, h1, hD b h2, h3⟩

theorem CredsAt.nil (D : Nat → Prop) (w : World) (ao : Option Addr) : CredsAt D w ao [] := fun i hi => by simp at hi

theorem CredsAt.low {D : Nat → Prop} {w : World} {ao : Option Addr} {ls : List CredB} (h : CredsAt D w ao ls) : CredsAt (fun k => k < w.heap.size) w ao ls := fun i hi =>
  let ⟨b, off, h1, _, h3⟩ := h i hi
  ⟨b, off, h1, World.block_lt_of_cell? w _ h3.1.k0, h3⟩

theorem cred_at_blk {w : World} {g : Nat} {c : CredB} {ty : TypeId} {f : Nat × Nat} (h : w.heap[g]? = some (.cells (credBox c) ty f)) : CredAt w g 0 c :=
  ⟨cell_blk h 0, cell_blk h 1, cell_blk h 2, cell_blk h 3, cell_blk h 4, cell_blk h 5, cell_blk h 6, cell_blk h 7, cell_blk h 8⟩

/-- Is c in the list? Are two lists the same? Are two the same? (Behind names: the walk's simp leaves them.) -/
def hasC (ls : List CredB) (c : CredB) : Bool := ls.contains c
def sameC (a b : List CredB) : Bool := a == b
def eqC (a b : CredB) : Bool := a == b

end Go.Proofs.Ytjaplnainlbldaa

/- A row of bytes of the call's own, that is written in place. -/
namespace Go.Proofs.Ytjaplnainlbldaa
open Go.RowKit

/-- The block g holds the bytes l at its head, T being a byte's type. -/
def RowAt (T : TypeId) (w : World) (g cap : Nat) (l : List UInt8) : Prop :=
  l.length ≤ cap ∧ cap ≤ maxLen ∧ ∃ cs : Array Value, w.heap[g]? = some (.cells cs T (0, 0)) ∧ ∀ j (h : j < l.length), cs[j]? = some (cb l[j])

theorem RowAt.bytes {T : TypeId} {w : World} {g cap : Nat} {l : List UInt8} (h : RowAt T w g cap l) : BytesAt (fun k => k = g) w (.slice (some ⟨g, 0, none⟩) l.length cap) l := by
  obtain ⟨h1, h2, cs, h3, h4⟩ := h
  refine .inr ⟨g, 0, cap, rfl, h1, h2, rfl, fun i hi => ?_⟩
  rw [cell_blk h3, Nat.zero_add]
  exact h4 i hi

theorem RowAt.cell {T : TypeId} {w : World} {g cap : Nat} {l : List UInt8} (h : RowAt T w g cap l) (i : Nat) (hi : i < l.length) : w.cell? ⟨g, i, none⟩ = some (.int .u8 (l[i].toNat : Int)) := by
  obtain ⟨h1, h2, cs, h3, h4⟩ := h
  rw [cell_blk h3]
  exact h4 i hi

theorem RowAt.set {T : TypeId} {w : World} {g cap : Nat} {l : List UInt8} (h : RowAt T w g cap l) (i : Nat) (y : UInt8) : RowAt T (w.setCell ⟨g, i, none⟩ (cb y)) g cap (l.set i y) := by
  obtain ⟨h1, h2, cs, h3, h4⟩ := h
  refine ⟨by simpa using h1, h2, _, set_blk h3 i (cb y), fun j hj => ?_⟩
  have hj' : j < l.length := by simpa using hj
  have hjc : j < cs.size := (Array.getElem?_eq_some_iff.1 (h4 j hj')).1
  rw [List.getElem_set]
  by_cases hij : i = j
  · subst hij
    rw [if_pos rfl]
    simp [hjc]
  · rw [if_neg hij, Array.getElem?_setIfInBounds_ne hij]
    exact h4 j hj'

theorem RowAt.keep {T : TypeId} {S : Nat → Prop} {w w' : World} {g cap : Nat} {l : List UInt8} (h : RowAt T w g cap l) (hc : Chg S w w') (hs : ¬ S g) : RowAt T w' g cap l := by
  obtain ⟨h1, h2, cs, h3, h4⟩ := h
  exact ⟨h1, h2, cs, blk_keep h3 hc hs, h4⟩

theorem cb_getElem? (l : List UInt8) (i : Nat) (u : Value) (h : (l.map cb)[i]? = some u) : ∃ hi : i < l.length, u = .int .u8 (l[i].toNat : Int) := by
  have hi : i < l.length := by
    have := (List.getElem?_eq_some_iff.1 h).1
    simpa using this
  refine ⟨hi, ?_⟩
  simp [hi] at h
  exact h.symm

theorem cb_one (l : List UInt8) : ∀ u ∈ l.map cb, u.oneCell' = true := by
  intro u hu
  simp at hu
  obtain ⟨x, _, rfl⟩ := hu
  rfl

theorem add_off (b off i : Nat) : (⟨b, off, none⟩ : Addr).add i = ⟨b, off + i, none⟩ := by
  unfold Addr.add
  split <;> simp_all

end Go.Proofs.Ytjaplnainlbldaa

/- Conversions between strings and bytes; blocks of bytes. -/
namespace Go.Proofs.Ytjaplnainlbldaa
open Go.RowKit

theorem Try.info5 : (Try.prog.info? 5).map (fun i => (i.zero, i.size, i.bytes)) = some (some (.int .u8 0), 1, 1) := by kernel_rfl

theorem conv_bytes {D : Nat → Prop} {v : Value} {l : List UInt8} {w : World} (h : BytesAt D w v l) : (convert 65 9 v).run Try.prog w = .ok (.string ⟨l.toArray⟩) w := by
  rcases h with ⟨ao, cp, rfl, rfl, h0⟩ | ⟨b, off, cap, rfl, h1, h2, h3, h4⟩
  · cases ao with
    | none => exact run_convert_bytes_nil w 65 5 Try.underlying65 Try.underlying5 0 cp 9 Try.underlying9
    | some x => exact run_convert_bytes_back w 65 9 5 x cp [] Try.underlying65 Try.underlying5 Try.underlying9 (fun j hj => by simp at hj)
  · refine run_convert_bytes_back w 65 9 5 ⟨b, off, none⟩ cap l Try.underlying65 Try.underlying5 Try.underlying9 (fun j hj => ?_)
    rw [add_off]
    exact h4 j hj

theorem conv_one (d : UInt8) (x : Int) (w : World) (hx : x = (d.toNat : Int)) : (convert 65 9 (.slice (some ⟨w.heap.size, 0, none⟩) 1 1)).run Try.prog (w.alloc (.cells #[.int .u8 x] 5)) = .ok (.string ⟨#[d]⟩) (w.alloc (.cells #[.int .u8 x] 5)) := by
  subst hx
  refine conv_bytes (D := fun _ => True) (l := [d]) (.inr ⟨_, 0, 1, rfl, Nat.le_refl 1, by decide, trivial, fun i hi => ?_⟩)
  rw [cell_blk (heap_alloc_new w _)]
  match i, hi with
  | 0, _ => rfl

theorem bytesRow_list (acc : List UInt8) (cap : Nat) (i : Nat) (h : i < acc.length) : (bytesRow ⟨acc.toArray⟩ cap)[i]? = some (.int .u8 (acc[i].toNat : Int)) := by
  have := bytesRow_at ⟨acc.toArray⟩ cap i (by simpa using h)
  simpa using this

/-- '[]byte(s)'. -/
theorem bytes_of (acc : List UInt8) (w : World) (c : Nat) (hc : acc.length ≤ c) (hm : c ≤ maxLen) (f : Nat × Nat) :
    BytesAt (fun k => k = w.heap.size) (w.alloc (.cells (bytesRow ⟨acc.toArray⟩ c) 5 f)) (.slice (some ⟨w.heap.size, 0, none⟩) acc.length c) acc := by
  refine .inr ⟨_, 0, c, rfl, hc, hm, rfl, fun i hi => ?_⟩
  rw [cell_blk (heap_alloc_new w _), Nat.zero_add]
  exact bytesRow_list acc c i hi

theorem conv_str (acc : List UInt8) (w : World) : (convert 9 65 (.string ⟨acc.toArray⟩)).run Try.prog w = .ok (.slice (some ⟨w.heap.size, 0, none⟩) acc.length (grownCap w acc.length 0 5))
      (w.drew.alloc (.cells (bytesRow ⟨acc.toArray⟩ (grownCap w acc.length 0 5)) 5 ((bytesRow ⟨acc.toArray⟩ (grownCap w acc.length 0 5)).size, (bytesRow ⟨acc.toArray⟩ (grownCap w acc.length 0 5)).size + 1))) := by
  have := run_bytes_of_string (P := Try.prog) w 9 65 5 ⟨acc.toArray⟩ Try.underlying9 Try.underlying65 Try.underlying5
  exact this

end Go.Proofs.Ytjaplnainlbldaa
