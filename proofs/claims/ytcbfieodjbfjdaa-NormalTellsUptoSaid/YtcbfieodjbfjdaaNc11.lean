/- Texts that the proof leans on, in one: ShelfStr, RoleCmp, NnMath, CredOrd, ModelMath, CredOwn, FactCells, StepCells, RefFIn, RefFStep, DrewN, RefSameS, OwnS, RefSet, RefKFacts, FmOwn, PbApp. -/
import Derived.Test.YtcbfieodjbfjdaaProg
import Derived.Lib.Bytealg
import Derived.Test.YtcbfieodjbfjdaaNc2
import Derived.Test.YtcbfieodjbfjdaaNc3
import Derived.Test.YtcbfieodjbfjdaaNc10
import Derived.Test.YtcbfieodjbfjdaaNc8
import Derived.Test.YtcbfieodjbfjdaaNc1
import Derived.Deep.QuietTactic
import Derived.BigQuiet
import Derived.Test.YtcbfieodjbfjdaaChecked
import Derived.Maps.AppendAt

namespace Go.Proofs.Ytcbfieodjbfjdaa
end Go.Proofs.Ytcbfieodjbfjdaa

/- The order of two roles, as a program tells it by strings.Compare. -/
namespace Go.Proofs.Ytcbfieodjbfjdaa
open Go.RowKit

theorem cmpB_eq : ∀ (a b : List UInt8), Lib.compareBytes a b = if ltS a b then -1 else if ltS b a then 1 else 0
  | [], [] => rfl
  | [], _ :: _ => rfl
  | _ :: _, [] => by simp [Lib.compareBytes, ltS_nil, ltS_nil_cons]
  | x :: a, y :: b => by
    rw [Lib.compareBytes, ltS_cons, ltS_cons, cmpB_eq a b]
    by_cases h1 : x < y
    · simp [h1]
    · by_cases h2 : y < x
      · have hne : x ≠ y := fun e => by subst e; exact h1 h2
        simp [h1, h2, hne]
      · have e : x = y := by
          have h1' : ¬ x.toNat < y.toNat := h1
          have h2' : ¬ y.toNat < x.toNat := h2
          exact UInt8.toNat_inj.1 (by omega)
        subst e
        simp [h1]

end Go.Proofs.Ytcbfieodjbfjdaa

/- Normal forms: plain words. -/
namespace Go.Proofs.Ytcbfieodjbfjdaa
open Go.RowKit

/-- What is written of a formula: nothing of one that isn't right. -/
def wrN (f : FmB) : List UInt8 := if isF f then encF f else []
/-- Stand two formulas in order? -/
def leN (x y : FmB) : Prop := ltS (wrN y) (wrN x) = false

theorem leN_trans {x y z : FmB} (h1 : leN x y) (h2 : leN y z) : leN x z := by
  unfold leN at *
  cases h : ltS (wrN z) (wrN x) with
  | false => rfl
  | true =>
    rcases ltS_tri (wrN y) (wrN z) with k | k | k
    · rw [ltS_trans _ _ _ k h] at h1; cases h1
    · rw [k] at h1; rw [h] at h1; cases h1
    · rw [k] at h2; cases h2

open Classical in
/-- Of neighbours that are equal one. -/
noncomputable def cmpctN : List FmB → List FmB
  | [] => []
  | [x] => [x]
  | x :: y :: l => if x = y then cmpctN (y :: l) else x :: cmpctN (y :: l)

theorem cmpct_mem : ∀ (l : List FmB) (z : FmB), z ∈ cmpctN l ↔ z ∈ l
  | [], z => Iff.rfl
  | [x], z => Iff.rfl
  | x :: y :: l, z => by
    rw [cmpctN]
    by_cases e : x = y
    · rw [if_pos e, cmpct_mem (y :: l) z, e]; simp
    · rw [if_neg e, List.mem_cons, cmpct_mem (y :: l) z]; simp
theorem cmpct_sub : ∀ (l : List FmB), (cmpctN l).Sublist l
  | [] => List.Sublist.refl _
  | [x] => List.Sublist.refl _
  | x :: y :: l => by
    rw [cmpctN]
    split
    · exact (cmpct_sub (y :: l)).cons _
    · exact (cmpct_sub (y :: l)).cons_cons _
/-- No neighbours are equal. -/
def Apart : List FmB → Prop
  | [] => True
  | [_] => True
  | x :: y :: l => x ≠ y ∧ Apart (y :: l)
theorem cmpct_head : ∀ (x : FmB) (l : List FmB), ∃ t, cmpctN (x :: l) = x :: t
  | x, [] => ⟨[], rfl⟩
  | x, y :: l => by
    rw [cmpctN]
    split
    · rename_i e; subst e; exact cmpct_head x l
    · exact ⟨_, rfl⟩
theorem cmpct_apart : ∀ (l : List FmB), Apart (cmpctN l)
  | [] => trivial
  | [x] => trivial
  | x :: y :: l => by
    rw [cmpctN]
    split
    · exact cmpct_apart (y :: l)
    · rename_i e
      have h := cmpct_apart (y :: l)
      obtain ⟨t, ht⟩ := cmpct_head y l
      rw [ht] at h ⊢
      exact ⟨e, h⟩
theorem cmpct_len : ∀ (l : List FmB), (cmpctN l).length ≤ l.length := fun l => (cmpct_sub l).length_le

/-- In order, no neighbours equal, all right: each is before all that come behind. -/
theorem nodup_sorted {l : List FmB} (hs : l.Pairwise leN) (ha : Apart l) (hi : ∀ x ∈ l, ∀ y ∈ l, wrN x = wrN y → x = y) : l.Nodup := by
  induction l with
  | nil => exact List.nodup_nil
  | cons x l ih =>
    rw [List.pairwise_cons] at hs
    cases l with
    | nil => simp
    | cons y l =>
      refine List.nodup_cons.2 ⟨fun hx => ?_, ih hs.2 ha.2 (fun a ha b hb => hi a (List.mem_cons_of_mem _ ha) b (List.mem_cons_of_mem _ hb))⟩
      have h1 : leN x y := hs.1 y (by simp)
      have h2 : leN y x := by
        rcases List.mem_cons.1 hx with e | e
        · exact absurd e ha.1
        · exact (List.pairwise_cons.1 hs.2).1 x e
      refine ha.1 (hi x (by simp) y (by simp) ?_)
      unfold leN at h1 h2
      rcases ltS_tri (wrN x) (wrN y) with k | k | k
      · rw [k] at h2; cases h2
      · exact k
      · rw [k] at h1; cases h1

/-- Two rows in order, of the same formulas, all told apart by what is written of them, are one. -/
theorem sorted_perm {a b : List FmB} (hp : a.Perm b) (ha : a.Pairwise leN) (hb : b.Pairwise leN) (hi : ∀ x ∈ a, ∀ y ∈ a, wrN x = wrN y → x = y) : a = b := by
  refine hp.eq_of_pairwise (le := leN) (fun x y hx hy h1 h2 => hi x hx y (hp.mem_iff.2 hy) ?_) ha hb
  unfold leN at h1 h2
  rcases ltS_tri (wrN x) (wrN y) with k | k | k
  · rw [k] at h2; cases h2
  · exact k
  · rw [k] at h1; cases h1

/-- Is it All or Some of none? -/
def isC (f : FmB) : Bool := decide (f.op ≠ 1 ∧ f.kids = [])
/-- A row of Kids, those of the same Op opened. -/
def flatN (op : Int) (ks : List FmB) : List FmB := ks.flatMap (fun k => if k.op = op then k.kids else [k])
/-- All or Some of so many: of one, that. -/
def oneN (op : Int) : List FmB → FmB
  | [x] => x
  | l => .mk op 0 ([], []) l
/-- x is All or Some, brought into shape, of Kids that are. -/
def JoinR (op : Int) (ks : List FmB) (x : FmB) : Prop :=
  (∃ k ∈ ks, k.op ≠ op ∧ isC k = true ∧ x = k) ∨ ((∀ k ∈ ks, k.op ≠ op → isC k = false) ∧ ∃ l : List FmB, l.Perm (flatN op ks) ∧ l.Pairwise leN ∧ x = oneN op (cmpctN l))
/-- Those that aren't constant; how many are always true. -/
def restN (ks : List FmB) : List FmB := ks.filter (fun k => !isC k)
def truesN (ks : List FmB) : Nat := (ks.filter (fun k => isC k && decide (k.op = 2))).length
/-- x is AtK, brought into shape, of Kids that are. -/
def AtR (k : Int) (ks : List FmB) (x : FmB) : Prop :=
  (k - truesN ks ≤ 0 ∧ x = .mk 2 0 ([], []) []) ∨
  (0 < k - truesN ks ∧ ((restN ks).length : Int) < k - truesN ks ∧ x = .mk 3 0 ([], []) []) ∨
  (0 < k - truesN ks ∧ k - truesN ks = (restN ks).length ∧ JoinR 2 (restN ks) x) ∨
  (0 < k - truesN ks ∧ k - truesN ks < (restN ks).length ∧ k - truesN ks = 1 ∧ JoinR 3 (restN ks) x) ∨
  (1 < k - truesN ks ∧ k - truesN ks < (restN ks).length ∧ ∃ l : List FmB, l.Perm (restN ks) ∧ l.Pairwise leN ∧ x = .mk 4 (k - truesN ks) ([], []) l)
/- x is a formula's normal form. -/
mutual
def ShapeR : FmB → FmB → Prop
  | .mk op k r kids, x => if op = 1 then x = .mk 1 0 r [] else ∃ ks, ShapeL kids ks ∧ if op = 4 then AtR k ks x else JoinR op ks x
def ShapeL : List FmB → List FmB → Prop
  | [], ys => ys = []
  | f :: l, ys => ∃ y t, ys = y :: t ∧ ShapeR f y ∧ ShapeL l t
end
theorem shapeR_eq (f x : FmB) : ShapeR f x ↔ if f.op = 1 then x = .mk 1 0 f.r [] else ∃ ks, ShapeL f.kids ks ∧ if f.op = 4 then AtR f.k ks x else JoinR f.op ks x := by cases f; rfl
theorem ShapeL.len : ∀ {l ys : List FmB}, ShapeL l ys → ys.length = l.length
  | [], ys, h => by rw [ShapeL] at h; rw [h]
  | f :: l, ys, h => by
    rw [ShapeL] at h
    obtain ⟨y, t, rfl, _, h⟩ := h
    rw [List.length_cons, List.length_cons, ShapeL.len h]
theorem ShapeL.snoc : ∀ {l ys : List FmB} {f y : FmB}, ShapeL l ys → ShapeR f y → ShapeL (l ++ [f]) (ys ++ [y])
  | [], ys, f, y, h, hy => by
    rw [ShapeL] at h
    subst h
    rw [List.nil_append, List.nil_append, ShapeL]
    exact ⟨y, [], rfl, hy, by rw [ShapeL]⟩
  | g :: l, ys, f, y, h, hy => by
    rw [ShapeL] at h
    obtain ⟨z, t, rfl, h1, h2⟩ := h
    rw [List.cons_append, ShapeL]
    exact ⟨z, t ++ [y], by simp, h1, ShapeL.snoc h2 hy⟩
end Go.Proofs.Ytcbfieodjbfjdaa

/- The order of credentials, made whole: by their bytes, then by their fields; sets of right ones: plain words. -/
namespace Go.Proofs.Ytcbfieodjbfjdaa
open Go.RowKit

end Go.Proofs.Ytcbfieodjbfjdaa

/- The least model of credentials: plain words, nothing of the program's text. -/
namespace Go.Proofs.Ytcbfieodjbfjdaa
open Go.RowKit

end Go.Proofs.Ytcbfieodjbfjdaa

/- Lists of credentials of the call's own. -/
namespace Go.Proofs.Ytcbfieodjbfjdaa
open Go.RowKit

end Go.Proofs.Ytcbfieodjbfjdaa

/- Facts, as they lie in memory; lists of them of the call's own. -/
namespace Go.Proofs.Ytcbfieodjbfjdaa
open Go.RowKit

end Go.Proofs.Ytcbfieodjbfjdaa

/- Steps of chains as they lie in memory. -/
namespace Go.Proofs.Ytcbfieodjbfjdaa
open Go.RowKit

end Go.Proofs.Ytcbfieodjbfjdaa

/- The contract of the document's In, of layer 8. -/
namespace Go.Proofs.Ytcbfieodjbfjdaa
open Go.RowKit
attribute [local go_sem ↓ high] run_eqg_role run_eql_role

end Go.Proofs.Ytcbfieodjbfjdaa

/- The contract of the document's Step, of layer 8. -/
namespace Go.Proofs.Ytcbfieodjbfjdaa
open Go.RowKit

end Go.Proofs.Ytcbfieodjbfjdaa

/- Draws add up. -/
namespace Go.Proofs.Ytcbfieodjbfjdaa
open Go.RowKit

end Go.Proofs.Ytcbfieodjbfjdaa

/- The contract of the document's Same, of lists of texts. -/
namespace Go.Proofs.Ytcbfieodjbfjdaa
open Go.RowKit

end Go.Proofs.Ytcbfieodjbfjdaa

/- Lists of texts of the call's own. -/
namespace Go.Proofs.Ytcbfieodjbfjdaa
open Go.RowKit

end Go.Proofs.Ytcbfieodjbfjdaa

/- The contract of the document's Set. -/
namespace Go.Proofs.Ytcbfieodjbfjdaa
open Go.RowKit

end Go.Proofs.Ytcbfieodjbfjdaa

/- The contracts of the document's Facts, and names, of layer 9. -/
namespace Go.Proofs.Ytcbfieodjbfjdaa
open Go.RowKit

theorem ownsRow_lowK {B A : Nat} {w : World} {ty : TypeId} {n : Nat} {v : Value} {len : Nat} {row : List Value} (h : w.ownsRow B ty n v len row) (hA : A ≤ B) : w.ownsRow A ty n v len row := by
  rcases h with ⟨h1, h2 | ⟨g, cap, cur, h3, h4, h5⟩⟩
  · exact ⟨h1, .inl h2⟩
  · exact ⟨h1, .inr ⟨g, cap, cur, h3, Nat.le_trans hA h4, h5⟩⟩

end Go.Proofs.Ytcbfieodjbfjdaa

/- Formulas of the call's own: trees whose rows of Kids lie each in a block of its own. -/
namespace Go.Proofs.Ytcbfieodjbfjdaa
open Go.RowKit

inductive AT where
  | mk (op k : Int) (r : RoleB) (v : Value) (kids : List AT)
def AT.op : AT → Int | .mk op _ _ _ _ => op
def AT.k : AT → Int | .mk _ k _ _ _ => k
def AT.r : AT → RoleB | .mk _ _ r _ _ => r
def AT.v : AT → Value | .mk _ _ _ v _ => v
def AT.kids : AT → List AT | .mk _ _ _ _ kids => kids

mutual
def eraseA : AT → FmB
  | .mk op k r _ kids => .mk op k r (eraseL kids)
def eraseL : List AT → List FmB
  | [] => []
  | t :: l => eraseA t :: eraseL l
end
def cellsA (t : AT) : List Value := [.int .i64 t.op, .int .i64 t.k, .string ⟨t.r.1.toArray⟩, .string ⟨t.r.2.toArray⟩, t.v]
def rowA (ts : List AT) : List Value := ts.flatMap cellsA
/- The blocks that it lies in. -/
mutual
def blksA : AT → List Nat
  | .mk _ _ _ v kids => v.ownBlock.toList ++ blksL kids
def blksL : List AT → List Nat
  | [] => []
  | t :: l => blksA t ++ blksL l
end
/- It is the call's own, from the block B on. -/
mutual
def OwnA (B : Nat) (w : World) : AT → Prop
  | .mk _ _ r v kids => (r.1.length ≤ 9223372036854775807 ∧ r.2.length ≤ 9223372036854775807) ∧ w.ownsRow B 26 5 v kids.length (rowA kids) ∧ OwnL B w kids
def OwnL (B : Nat) (w : World) : List AT → Prop
  | [] => True
  | t :: l => OwnA B w t ∧ OwnL B w l
end

theorem eraseA_eq (t : AT) : eraseA t = .mk t.op t.k t.r (eraseL t.kids) := by cases t; rfl
theorem blksA_eq (t : AT) : blksA t = t.v.ownBlock.toList ++ blksL t.kids := by cases t; rfl
theorem ownA_eq (B : Nat) (w : World) (t : AT) : OwnA B w t ↔ (t.r.1.length ≤ 9223372036854775807 ∧ t.r.2.length ≤ 9223372036854775807) ∧ w.ownsRow B 26 5 t.v t.kids.length (rowA t.kids) ∧ OwnL B w t.kids := by cases t; exact Iff.rfl
theorem eraseL_map (l : List AT) : eraseL l = l.map eraseA := by
  induction l with
  | nil => rfl
  | cons t l ih => rw [eraseL, ih, List.map_cons]
theorem blksL_flat (l : List AT) : blksL l = l.flatMap blksA := by
  induction l with
  | nil => rfl
  | cons t l ih => rw [blksL, ih, List.flatMap_cons]
theorem ownL_all (B : Nat) (w : World) (l : List AT) : OwnL B w l ↔ ∀ t ∈ l, OwnA B w t := by
  induction l with
  | nil => exact ⟨fun _ _ h => (by cases h), fun _ => trivial⟩
  | cons t l ih =>
    rw [OwnL, ih]
    exact ⟨fun h s hs => (List.mem_cons.1 hs).elim (fun e => e ▸ h.1) (h.2 s), fun h => ⟨h t (by simp), fun s hs => h s (by simp [hs])⟩⟩
theorem eraseL_len (l : List AT) : (eraseL l).length = l.length := by rw [eraseL_map, List.length_map]

theorem at_ind {P : AT → Prop} (h : ∀ t : AT, (∀ s ∈ t.kids, P s) → P t) : ∀ t, P t := by
  have key : ∀ n t, nodesF (eraseA t) ≤ n → P t := by
    intro n
    induction n with
    | zero => intro t ht; have := nodesF_pos (eraseA t); omega
    | succ n ih =>
      intro t ht
      refine h t fun s hs => ih s ?_
      have h1 : eraseA s ∈ eraseL t.kids := by rw [eraseL_map]; exact List.mem_map.2 ⟨s, hs, rfl⟩
      have h2 := nodesL_mem h1
      rw [eraseA_eq, nodesF] at ht
      omega
  exact fun t => key _ t (Nat.le_refl _)

theorem rowA_len (l : List AT) : (rowA l).length = l.length * 5 := by
  unfold rowA
  induction l with
  | nil => rfl
  | cons x l ih => rw [List.flatMap_cons, List.length_append, ih, List.length_cons]; simp [cellsA]; omega
theorem rowA_get : ∀ (ls : List AT) (i j : Nat) (h : i < ls.length) (_ : j < 5), (rowA ls)[i * 5 + j]? = (cellsA ls[i])[j]?
  | x :: l, 0, j, _, hj => by
    rw [Nat.zero_mul, Nat.zero_add, rowA, List.flatMap_cons, List.getElem?_append_left (by simpa [cellsA] using hj)]
    rfl
  | x :: l, i + 1, j, h, hj => by
    have hl : (cellsA x).length = 5 := rfl
    have := rowA_get l i j (by simpa using h) hj
    rw [rowA, List.flatMap_cons, List.getElem?_append_right (by rw [hl, Nat.add_mul]; omega), hl]
    rw [show (i + 1) * 5 + j - 5 = i * 5 + j by rw [Nat.add_mul]; omega]
    exact this

theorem ownA_lt {B : Nat} {w : World} : ∀ t : AT, OwnA B w t → ∀ b ∈ blksA t, B ≤ b ∧ b < w.heap.size := by
  refine at_ind fun t ih h b hb => ?_
  rw [ownA_eq] at h
  rw [blksA_eq, List.mem_append] at hb
  rcases hb with hb | hb
  · exact h.2.1.lt b (by simpa using hb)
  · rw [blksL_flat, List.mem_flatMap] at hb
    obtain ⟨s, hs, hb⟩ := hb
    exact ih s hs ((ownL_all _ _ _).1 h.2.2 s hs) b hb

theorem ownA_keep {S : Nat → Prop} {B : Nat} {w w' : World} (hc : Chg S w w') : ∀ t : AT, OwnA B w t → (∀ b ∈ blksA t, ¬ S b) → OwnA B w' t := by
  refine at_ind fun t ih h hS => ?_
  rw [ownA_eq] at h ⊢
  rw [blksA_eq] at hS
  refine ⟨h.1, ownsRow_keep h.2.1 hc (fun k hk => hS k (List.mem_append_left _ (by simp [hk]))), (ownL_all _ _ _).2 fun s hs => ih s hs ((ownL_all _ _ _).1 h.2.2 s hs) fun b hb => hS b (List.mem_append_right _ ?_)⟩
  rw [blksL_flat]
  exact List.mem_flatMap.2 ⟨s, hs, hb⟩
theorem ownL_keep {S : Nat → Prop} {B : Nat} {w w' : World} (hc : Chg S w w') {l : List AT} (h : OwnL B w l) (hS : ∀ b ∈ blksL l, ¬ S b) : OwnL B w' l := (ownL_all _ _ _).2 fun s hs => ownA_keep hc s ((ownL_all _ _ _).1 h s hs) fun b hb => hS b (by rw [blksL_flat]; exact List.mem_flatMap.2 ⟨s, hs, hb⟩)
theorem ownL_lt {B : Nat} {w : World} {l : List AT} (h : OwnL B w l) : ∀ b ∈ blksL l, B ≤ b ∧ b < w.heap.size := fun b hb => by
  rw [blksL_flat, List.mem_flatMap] at hb
  obtain ⟨s, hs, hb⟩ := hb
  exact ownA_lt s ((ownL_all _ _ _).1 h s hs) b hb
theorem ownA_low {B A : Nat} {w : World} (hA : A ≤ B) : ∀ t : AT, OwnA B w t → OwnA A w t := by
  refine at_ind fun t ih h => ?_
  rw [ownA_eq] at h ⊢
  exact ⟨h.1, ownsRow_lowK h.2.1 hA, (ownL_all _ _ _).2 fun s hs => ih s hs ((ownL_all _ _ _).1 h.2.2 s hs)⟩
theorem rowV_shape {B : Nat} {w : World} {v : Value} {l : List AT} (h : w.ownsRow B 26 5 v l.length (rowA l)) : ∃ ao cp, v = .slice ao l.length cp ∧ (ao = none → cp = 0) ∧ l.length ≤ cp := by
  rcases h.2 with ⟨rfl, h0⟩ | ⟨g, cap, cur, rfl, _, _, h1, _⟩
  · exact ⟨none, 0, by rw [h0], fun _ => rfl, by omega⟩
  · exact ⟨_, _, rfl, fun e => (by cases e), h1⟩

/-- It can be read as any formula. -/
theorem own_fm {B : Nat} {w : World} : ∀ (t : AT), OwnA B w t → ∀ (n b o : Nat), deepF (eraseA t) ≤ n → (∀ j, j < 5 → w.cell? ⟨b, o + j, none⟩ = (cellsA t)[j]?) → FmAt (fun k => B ≤ k ∧ k < w.heap.size) w n b o (eraseA t) := by
  refine at_ind fun t ih h n b o hn hc => ?_
  rw [ownA_eq] at h
  obtain ⟨h1, h2, h3⟩ := h
  have hd := deepF_eq (eraseA t)
  rw [hd] at hn
  obtain ⟨m, rfl⟩ : ∃ m, n = m + 1 := ⟨n - 1, by omega⟩
  have c0 := hc 0 (by omega)
  have c1 := hc 1 (by omega)
  have c2 := hc 2 (by omega)
  have c3 := hc 3 (by omega)
  have c4 := hc 4 (by omega)
  obtain ⟨ao, cp, hv, hz, hle⟩ := rowV_shape h2
  simp only [cellsA, List.getElem?_cons_zero, List.getElem?_cons_succ, Nat.add_zero] at c0 c1 c2 c3 c4
  rw [eraseA_eq] at hn ⊢
  refine ⟨c0, c1, c2, c3, h1, ao, cp, by rw [hv] at c4; simp only [FmB.kids, eraseL_len]; exact c4, hz, fun i hi => ?_⟩
  have hi2 : i < t.kids.length := by simpa only [FmB.kids, eraseL_len] using hi
  have hx : (eraseL t.kids)[i]'(by simpa only [FmB.kids] using hi) = eraseA t.kids[i] := by simp [eraseL_map]
  have hmem : t.kids[i] ∈ t.kids := List.getElem_mem hi2
  have hdi : deepF (eraseA t.kids[i]) ≤ deepL (eraseL t.kids) := deepL_mem (by rw [eraseL_map]; exact List.mem_map.2 ⟨_, hmem, rfl⟩)
  rcases h2.2 with ⟨e, h0⟩ | ⟨g, cap, cur, e, hg, hh, k1, k2, k3, k4⟩
  · omega
  · rw [e] at hv
    injection hv with hv _ _
    subst hv
    refine ⟨g, 0, rfl, ⟨hg, lt_blk hh⟩, ?_⟩
    show FmAt _ w m g (0 + i * 5) ((eraseL t.kids)[i]'(by simpa only [FmB.kids] using hi))
    rw [hx]
    refine ih _ hmem ((ownL_all _ _ _).1 h3 _ hmem) m g (0 + i * 5) (by simp only [FmB.kids] at hn; omega) fun j hj => ?_
    have hget := rowA_get t.kids i j hi2 hj
    have hs : j < (cellsA t.kids[i]).length := by simpa [cellsA] using hj
    rw [List.getElem?_eq_getElem hs] at hget ⊢
    rw [e] at h2
    have := h2.cells (g := g) rfl (i * 5 + j) _ hget
    rw [add_off] at this
    rw [Nat.zero_add] at this ⊢
    exact this

theorem own_fms {B : Nat} {w : World} {t : AT} (h : OwnA B w t) : ∃ ao cp, t.v = .slice ao t.kids.length cp ∧ (ao = none → cp = 0) ∧ FmsAt (fun k => B ≤ k ∧ k < w.heap.size) w (deepF (eraseA t)) ao (eraseL t.kids) ∧ FmOk (eraseA t) := by
  have h0 := h
  rw [ownA_eq] at h
  obtain ⟨h1, h2, h3⟩ := h
  obtain ⟨ao, cp, hv, hz, hle⟩ := rowV_shape h2
  refine ⟨ao, cp, hv, hz, fun i hi => ?_, by rw [eraseA_eq]; exact h1⟩
  have hi2 : i < t.kids.length := by simpa only [eraseL_len] using hi
  have hx : (eraseL t.kids)[i] = eraseA t.kids[i] := by simp [eraseL_map]
  have hmem : t.kids[i] ∈ t.kids := List.getElem_mem hi2
  have hdi : deepF (eraseA t.kids[i]) ≤ deepL (eraseL t.kids) := deepL_mem (by rw [eraseL_map]; exact List.mem_map.2 ⟨_, hmem, rfl⟩)
  have hd := deepF_eq (eraseA t)
  rw [eraseA_eq] at hd
  simp only [FmB.kids] at hd
  rcases h2.2 with ⟨e, h0⟩ | ⟨g, cap, cur, e, hg, hh, k1, k2, k3, k4⟩
  · omega
  · rw [e] at hv
    injection hv with hv _ _
    subst hv
    refine ⟨g, 0, rfl, ⟨hg, lt_blk hh⟩, ?_⟩
    rw [hx]
    refine own_fm _ ((ownL_all _ _ _).1 h3 _ hmem) _ g (0 + i * 5) (by rw [eraseA_eq t]; omega) fun j hj => ?_
    have hget := rowA_get t.kids i j hi2 hj
    have hs : j < (cellsA t.kids[i]).length := by simpa [cellsA] using hj
    rw [List.getElem?_eq_getElem hs] at hget ⊢
    rw [e] at h2
    have := h2.cells (g := g) rfl (i * 5 + j) _ hget
    rw [add_off] at this
    rw [Nat.zero_add] at this ⊢
    exact this
end Go.Proofs.Ytcbfieodjbfjdaa

/- Rows of formulas of the call's own: one, and one more. -/
namespace Go.Proofs.Ytcbfieodjbfjdaa
open Go.RowKit

theorem Try.underlying24b : Try.prog.underlying 24 = some (.slice 26) := by kernel_rfl
theorem wpList_append_runb {P : Program} {w w' : World} {ops : Array Oper} {rest : List Oper} {o : Oper} {a : Act} {Q : Exit → Act → World → Prop} (hgd : o.guard = none) (s x : Operand) (t : TypeId)
    (ho : o.op = .call { callee := .builtin .append, args := #[s, x], argTypes := #[t, t] }) {v y v' : Value} (hs : a.eval s = v) (hx : a.eval x = y) (hr : (Builtin.append_ #[t, t] o.type #[v, y]).run P w = .ok v' w')
    (h : wpList P ops Q rest (a.put o.dst v') w') : wpList P ops Q (o :: rest) a w := by
  refine wpList_plain hgd fun K hK => ?_
  unfold Oper.wp execOp
  simp only [ho, resolve, invoke, builtin, Sem.run_bind, Sem.run_pure, Result.andThen_ok, List.map_toArray, List.map_cons, List.map_nil, hs, hx, hr]
  exact hK _ _ h

/-- A row of formulas of the call's own. -/
structure OwnRw (B : Nat) (w : World) (v : Value) (ts : List AT) : Prop where
  row : w.ownsRow B 26 5 v ts.length (rowA ts)
  own : OwnL B w ts
  nd : (v.ownBlock.toList ++ blksL ts).Nodup
/-- A formula whose row of Kids it is. -/
theorem OwnRw.fm {B : Nat} {w : World} {v : Value} {ts : List AT} (h : OwnRw B w v ts) (op k : Int) : OwnA B w (.mk op k ([], []) v ts) ∧ (blksA (.mk op k ([], []) v ts)).Nodup := by
  refine ⟨?_, h.nd⟩
  rw [ownA_eq]
  exact ⟨⟨by simp [AT.r], by simp [AT.r]⟩, h.row, h.own⟩
theorem own_one {t : AT} {B : Nat} {w : World} (h : OwnA B w t) : t.v.oneCell' = true := by
  obtain ⟨ao, cp, hv, _⟩ := own_fms h
  rw [hv]
  rfl
end Go.Proofs.Ytcbfieodjbfjdaa
