/- Texts in order; sets of names: plain words, nothing of the program's text. -/
import Derived.Test.YtaejhkjigppelaaNameMath
namespace Go.Proofs.Ytaejhkjigppelaa
open Go.RowKit

/-- Byte by byte. -/
def ltS (a b : List UInt8) : Bool := Op.bytesLess a b

theorem ltS_cons (a b : UInt8) (x y : List UInt8) : ltS (a :: x) (b :: y) = (decide (a < b) || (a == b && ltS x y)) := rfl
theorem ltS_nil (a : List UInt8) : ltS a [] = false := by cases a <;> rfl
theorem ltS_nil_cons (b : UInt8) (y : List UInt8) : ltS [] (b :: y) = true := rfl

theorem ltS_irrefl : ∀ (a : List UInt8), ltS a a = false
  | [] => rfl
  | a :: x => by
    rw [ltS_cons, ltS_irrefl x]
    simp

theorem ltS_trans : ∀ (a b c : List UInt8), ltS a b = true → ltS b c = true → ltS a c = true
  | _, [], _, h, _ => by rw [ltS_nil] at h; cases h
  | _, _ :: _, [], _, h => by rw [ltS_nil] at h; cases h
  | [], _ :: _, _ :: _, _, _ => rfl
  | a :: x, b :: y, c :: z, h1, h2 => by
    rw [ltS_cons] at *
    simp only [Bool.or_eq_true, decide_eq_true_eq, Bool.and_eq_true, beq_iff_eq] at *
    rcases h1 with h1 | ⟨rfl, h1⟩
    · rcases h2 with h2 | ⟨rfl, _⟩
      · exact .inl (UInt8.lt_trans h1 h2)
      · exact .inl h1
    · rcases h2 with h2 | ⟨rfl, h2⟩
      · exact .inl h2
      · exact .inr ⟨rfl, ltS_trans x y z h1 h2⟩

theorem ltS_tri : ∀ (a b : List UInt8), ltS a b = true ∨ a = b ∨ ltS b a = true
  | [], [] => .inr (.inl rfl)
  | [], _ :: _ => .inl rfl
  | _ :: _, [] => .inr (.inr rfl)
  | a :: x, b :: y => by
    rw [ltS_cons, ltS_cons]
    simp only [Bool.or_eq_true, decide_eq_true_eq, Bool.and_eq_true, beq_iff_eq]
    rcases UInt8.lt_or_eq_of_le (a := a) (b := b) |> fun _ => Nat.lt_trichotomy a.toNat b.toNat with h | h | h
    · exact .inl (.inl (UInt8.lt_iff_toNat_lt.2 h))
    · have hab : a = b := UInt8.toNat_inj.1 h
      subst hab
      rcases ltS_tri x y with k | k | k
      · exact .inl (.inr ⟨rfl, k⟩)
      · exact .inr (.inl (by rw [k]))
      · exact .inr (.inr (.inr ⟨rfl, k⟩))
    · exact .inr (.inr (.inl (UInt8.lt_iff_toNat_lt.2 h)))

/-- Rising, each once. -/
def Rising : List (List UInt8) → Prop
  | [] => True
  | x :: l => (∀ y ∈ l, ltS x y = true) ∧ Rising l

/-- out is the set of the right ones of ls. -/
def SetOf (ls out : List (List UInt8)) : Prop := Rising out ∧ ∀ x, x ∈ out ↔ x ∈ ls ∧ isName x = true

theorem Rising.ext : ∀ {a b : List (List UInt8)}, Rising a → Rising b → (∀ x, x ∈ a ↔ x ∈ b) → a = b
  | [], [], _, _, _ => rfl
  | [], y :: b, _, _, h => by have := (h y).2 (by simp); simp at this
  | x :: a, [], _, _, h => by have := (h x).1 (by simp); simp at this
  | x :: a, y :: b, ha, hb, h => by
    have hxy : x = y := by
      rcases ltS_tri x y with k | k | k
      · have h1 := (h x).1 (by simp)
        rcases List.mem_cons.1 h1 with e | e
        · exact e
        · have := ltS_trans _ _ _ k (hb.1 x e)
          rw [ltS_irrefl] at this
          cases this
      · exact k
      · have h1 := (h y).2 (by simp)
        rcases List.mem_cons.1 h1 with e | e
        · exact e.symm
        · have := ltS_trans _ _ _ k (ha.1 y e)
          rw [ltS_irrefl] at this
          cases this
    subst hxy
    congr 1
    refine Rising.ext ha.2 hb.2 fun z => ⟨fun hz => ?_, fun hz => ?_⟩
    · rcases List.mem_cons.1 ((h z).1 (List.mem_cons_of_mem _ hz)) with e | e
      · subst e
        have := ha.1 _ hz
        rw [ltS_irrefl] at this
        cases this
      · exact e
    · rcases List.mem_cons.1 ((h z).2 (List.mem_cons_of_mem _ hz)) with e | e
      · subst e
        have := hb.1 _ hz
        rw [ltS_irrefl] at this
        cases this
      · exact e

/-- There is one set alone. -/
theorem SetOf.one {ls a b : List (List UInt8)} (ha : SetOf ls a) (hb : SetOf ls b) : a = b := ha.1.ext hb.1 fun x => (ha.2 x).trans (hb.2 x).symm

theorem Rising.snoc : ∀ {a : List (List UInt8)} {x : List UInt8}, Rising a → (∀ y ∈ a, ltS y x = true) → Rising (a ++ [x])
  | [], _, _, _ => ⟨fun _ h => (by cases h), trivial⟩
  | y :: a, x, h, hx => ⟨fun z hz => by
      rcases List.mem_append.1 hz with k | k
      · exact h.1 z k
      · rw [List.mem_singleton.1 k]; exact hx y (by simp), Rising.snoc h.2 fun z hz => hx z (List.mem_cons_of_mem _ hz)⟩

/-- A rising list of some of ls is no longer. -/
theorem Rising.nodup : ∀ {a : List (List UInt8)}, Rising a → a.Nodup
  | [], _ => List.nodup_nil
  | x :: a, h => List.nodup_cons.2 ⟨(fun hx => by have := h.1 x hx; rw [ltS_irrefl] at this; cases this), Rising.nodup h.2⟩

theorem nodup_length : ∀ (a b : List (List UInt8)), a.Nodup → (∀ x ∈ a, x ∈ b) → a.length ≤ b.length
  | [], _, _, _ => Nat.zero_le _
  | x :: a, b, hn, h => by
    have hx := h x (by simp)
    have hn' := List.nodup_cons.1 hn
    have := nodup_length a (b.erase x) hn'.2 (fun y hy => (List.mem_erase_of_ne (fun e => hn'.1 (by rw [← e]; exact hy))).2 (h y (List.mem_cons_of_mem _ hy)))
    rw [List.length_erase_of_mem hx] at this
    have hp : 0 < b.length := List.length_pos_of_mem hx
    simp only [List.length_cons]
    omega

/-- The texts that may come next, behind the last one of out. -/
def candS (out : List (List UInt8)) (s : List UInt8) : Bool := isName s && (out.isEmpty || ltS (out.getLastD []) s)

/-- What has been found of the least one among seen. -/
def Best (out seen : List (List UInt8)) (b : List UInt8) : Prop :=
  (b = [] ∧ ∀ s ∈ seen, candS out s = false) ∨ (b ∈ seen ∧ candS out b = true ∧ ∀ s ∈ seen, candS out s = true → ltS s b = false)

theorem candS_ne {out : List (List UInt8)} {s : List UInt8} (h : candS out s = true) : s ≠ [] := by
  intro e
  subst e
  simp [candS, isName] at h

theorem Best.skip {out seen : List (List UInt8)} {b s : List UInt8} (h : Best out seen b) (hs : candS out s = false) : Best out (seen ++ [s]) b := by
  rcases h with ⟨h1, h2⟩ | ⟨h1, h2, h3⟩
  · exact .inl ⟨h1, fun x hx => (List.mem_append.1 hx).elim (h2 x) (fun e => by rw [List.mem_singleton.1 e]; exact hs)⟩
  · exact .inr ⟨List.mem_append_left _ h1, h2, fun x hx hc => (List.mem_append.1 hx).elim (fun e => h3 x e hc) (fun e => by rw [List.mem_singleton.1 e, hs] at hc; cases hc)⟩

theorem Best.keep {out seen : List (List UInt8)} {b s : List UInt8} (h : Best out seen b) (hb : b ≠ []) (hs : ltS s b = false) : Best out (seen ++ [s]) b := by
  rcases h with ⟨h1, h2⟩ | ⟨h1, h2, h3⟩
  · exact absurd h1 hb
  · exact .inr ⟨List.mem_append_left _ h1, h2, fun x hx hc => (List.mem_append.1 hx).elim (fun e => h3 x e hc) (fun e => by rw [List.mem_singleton.1 e]; exact hs)⟩

theorem Best.take {out seen : List (List UInt8)} {b s : List UInt8} (h : Best out seen b) (hc : candS out s = true) (hs : b = [] ∨ ltS s b = true) : Best out (seen ++ [s]) s := by
  refine .inr ⟨by simp, hc, fun x hx hx2 => ?_⟩
  rcases List.mem_append.1 hx with e | e
  · rcases h with ⟨_, h2⟩ | ⟨h1, h2, h3⟩
    · rw [h2 x e] at hx2; cases hx2
    · rcases hs with hs | hs
      · exact absurd hs (candS_ne h2)
      · cases hk : ltS x s with
        | false => rfl
        | true =>
          have := ltS_trans _ _ _ hk hs
          rw [h3 x e hx2] at this
          cases this
  · rw [List.mem_singleton.1 e, ltS_irrefl]

/-- Some of the set, the least ones. -/
def SetPart (ls out : List (List UInt8)) : Prop := Rising out ∧ (∀ x ∈ out, x ∈ ls ∧ isName x = true) ∧ ∀ x ∈ ls, isName x = true → x ∈ out ∨ candS out x = true

theorem SetPart.nil (ls : List (List UInt8)) : SetPart ls [] := ⟨trivial, fun _ h => (by cases h), fun x _ hx => .inr (by simp [candS, hx])⟩

theorem SetPart.len {ls out : List (List UInt8)} (h : SetPart ls out) : out.length ≤ ls.length := nodup_length _ _ h.1.nodup fun x hx => (h.2.1 x hx).1

theorem SetPart.done {ls out : List (List UInt8)} (h : SetPart ls out) (hb : Best out ls []) : SetOf ls out := by
  refine ⟨h.1, fun x => ⟨h.2.1 x, fun ⟨h1, h2⟩ => (h.2.2 x h1 h2).elim id fun hc => ?_⟩⟩
  rcases hb with ⟨_, k⟩ | ⟨_, k, _⟩
  · rw [k x h1] at hc; cases hc
  · exact absurd rfl (candS_ne k)

theorem last_rising {out : List (List UInt8)} (h : Rising out) (x : List UInt8) (hx : x ∈ out) : x = out.getLastD [] ∨ ltS x (out.getLastD []) = true := by
  induction out with
  | nil => cases hx
  | cons y l ih =>
    cases l with
    | nil => exact .inl (by simpa using hx)
    | cons z l =>
      have e : (y :: z :: l).getLastD [] = (z :: l).getLastD [] := rfl
      rw [e]
      rcases List.mem_cons.1 hx with k | k
      · subst k
        have hl : (z :: l).getLastD [] ∈ z :: l := by
          rw [List.getLastD_eq_getLast?, List.getLast?_eq_some_getLast (by simp)]
          exact List.getLast_mem _
        exact .inr (h.1 _ hl)
      · exact ih h.2 k

theorem SetPart.step {ls out : List (List UInt8)} {b : List UInt8} (h : SetPart ls out) (hb : Best out ls b) (hne : b ≠ []) : SetPart ls (out ++ [b]) := by
  rcases hb with ⟨k, _⟩ | ⟨h1, h2, h3⟩
  · exact absurd k hne
  · have hc := h2
    simp only [candS, Bool.and_eq_true, Bool.or_eq_true] at hc
    have hlt : ∀ y ∈ out, ltS y b = true := by
      intro y hy
      rcases hc.2 with e | e
      · rw [List.isEmpty_iff.1 e] at hy; cases hy
      · rcases last_rising h.1 y hy with k | k
        · rw [k]; exact e
        · exact ltS_trans _ _ _ k e
    have hl : (out ++ [b]).getLastD [] = b := by simp
    refine ⟨h.1.snoc hlt, fun x hx => ?_, fun x hx hn => ?_⟩
    · rcases List.mem_append.1 hx with k | k
      · exact h.2.1 x k
      · rw [List.mem_singleton.1 k]; exact ⟨h1, hc.1⟩
    · rcases h.2.2 x hx hn with k | k
      · exact .inl (List.mem_append_left _ k)
      · rcases ltS_tri x b with e | e | e
        · rw [h3 x hx k] at e; cases e
        · exact .inl (by rw [e]; simp)
        · exact .inr (by simp [candS, hn, hl, e])

end Go.Proofs.Ytaejhkjigppelaa
