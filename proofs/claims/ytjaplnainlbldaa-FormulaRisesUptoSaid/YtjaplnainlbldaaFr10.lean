/- Texts that the proof leans on, in one: RoleCompare, PcRight, PcBytes, FmBytes, ModelMath, FactCells, StepCells, RefFIn, RefFStep, DrewN, RefSameS, OwnS, RefSet, RefKFacts, FmOwn. -/
import Derived.Test.YtjaplnainlbldaaFr9
import Derived.Test.YtjaplnainlbldaaFr8
import Derived.Test.YtjaplnainlbldaaFr7
import Derived.Test.YtjaplnainlbldaaFr1
import Derived.Test.YtjaplnainlbldaaFr2
import Derived.Deep.QuietTactic
import Derived.BigQuiet
import Derived.Test.YtjaplnainlbldaaProg
import Derived.Test.YtjaplnainlbldaaChecked
import Derived.Maps.AppendAt
/- The program's Compare of roles: cmp.Or of both strings.Compare. -/
namespace Go.Proofs.Ytjaplnainlbldaa
open Go.RowKit

/-- What each slot of Compare's line holds. -/
def cmpSpecs (A : Nat) (o x p y : List UInt8) (res : Int) : List Spec :=
  [.any, .any, .eq (.pointer (some ⟨A, 0, none⟩)), .eq (.pointer (some ⟨A + 1, 0, none⟩)), .eq (.int .i64 res),
   .eq (.pointer (some ⟨A, 0, none⟩)), .eq (.string ⟨o.toArray⟩), .eq (.pointer (some ⟨A + 1, 0, none⟩)), .eq (.string ⟨p.toArray⟩), .eq (.int .i64 (Lib.compareBytes o p)),
   .eq (.pointer (some ⟨A, 1, none⟩)), .eq (.string ⟨x.toArray⟩), .eq (.pointer (some ⟨A + 1, 1, none⟩)), .eq (.string ⟨y.toArray⟩), .eq (.int .i64 (Lib.compareBytes x y)),
   .two (Lib.compareBytes o p) (Lib.compareBytes x y), .eq (.int .i64 res)]

set_option maxRecDepth 100000 in
set_option maxHeartbeats 1000000 in
theorem pcompare_grows (a b : RoleB) (w : World) : Calls Try.prog 119 #[roleV a, roleV b] w fun e w' => e = .returned (.int .i64 (cmpR a b)) ∧ Gr w w' := by
  rw [cmpR_eq]
  obtain ⟨o, x⟩ := a
  obtain ⟨p, y⟩ := b
  dsimp only
  generalize hres : (if Lib.compareBytes o p = 0 then Lib.compareBytes x y else Lib.compareBytes o p) = res
  have HR := hid hres
  clear hres
  have hc : Gr w ((w.alloc (.cells #[.string ⟨o.toArray⟩, .string ⟨x.toArray⟩] 24)).alloc (.cells #[.string ⟨p.toArray⟩, .string ⟨y.toArray⟩] 24)) := ((Gr.refl w).alloc _).alloc _
  have hA := blk_keep (heap_alloc_new w (.cells #[.string ⟨o.toArray⟩, .string ⟨x.toArray⟩] 24)) ((Chg.refl (fun _ => False) _).alloc (.cells #[.string ⟨p.toArray⟩, .string ⟨y.toArray⟩] 24)) id
  have hB := heap_alloc_new (w.alloc (.cells #[.string ⟨o.toArray⟩, .string ⟨x.toArray⟩] 24)) (.cells #[.string ⟨p.toArray⟩, .string ⟨y.toArray⟩] 24)
  rw [show (w.alloc (.cells #[.string ⟨o.toArray⟩, .string ⟨x.toArray⟩] 24)).heap.size = w.heap.size + 1 by simp] at hB
  show Calls Try.prog 119 #[.agg #[.string ⟨o.toArray⟩, .string ⟨x.toArray⟩], .agg #[.string ⟨p.toArray⟩, .string ⟨y.toArray⟩]] w _
  go_enter Try.func119, Try.ntmps119
  go_wp2_with fail
  generalize (w.alloc (.cells #[.string ⟨o.toArray⟩, .string ⟨x.toArray⟩] 24)).alloc (.cells #[.string ⟨p.toArray⟩, .string ⟨y.toArray⟩] 24) = w1 at *
  generalize w.heap.size = A at *
  refine wp_region_grown (cmpSpecs A o x p y res) [5, 6, 7, 8, 9, 10, 11, 12, 13, 14, 15, 16, 4] [2, 3] (by kernel_rfl) (by kernel_rfl) (by rfl) (by kernel_rfl) ?start ?obs ?fin
  case start =>
    simp only [List.forall_mem_cons]
    exact ⟨⟨_, rfl, rfl⟩, ⟨_, rfl, rfl⟩, fun _ h => by cases h⟩
  case obs =>
    have a0 := cell_blk hA 0
    have a1 := cell_blk hA 1
    have b0 := cell_blk hB 0
    have b1 := cell_blk hB 1
    simp only [List.getElem?_toArray, List.getElem?_cons_zero, List.getElem?_cons_succ] at a0 a1 b0 b1
    clear hA hB hc
    refine Obs.cons none (by kernel_rfl) ?_ ?_
    · refine Ob.plain fun a w hR hk K k => ?_
      obtain ⟨_, e2, rfl⟩ := hk 2 (by decide)
      clear hk
      go_simp
      exact k _ _ (Gr.refl _) rfl
    refine Obs.cons none (by kernel_rfl) ?_ ?_
    · refine Ob.plain fun a w hR hk K k => ?_
      obtain ⟨_, e5, rfl⟩ := hk 5 (by decide)
      clear hk
      have c := (hR.chg (fun _ => False)).cell a0 id
      go_simp
      exact k _ _ (Gr.refl _) rfl
    refine Obs.cons none (by kernel_rfl) ?_ ?_
    · refine Ob.plain fun a w hR hk K k => ?_
      obtain ⟨_, e3, rfl⟩ := hk 3 (by decide)
      clear hk
      go_simp
      exact k _ _ (Gr.refl _) rfl
    refine Obs.cons none (by kernel_rfl) ?_ ?_
    · refine Ob.plain fun a w hR hk K k => ?_
      obtain ⟨_, e7, rfl⟩ := hk 7 (by decide)
      clear hk
      have c := (hR.chg (fun _ => False)).cell b0 id
      go_simp
      exact k _ _ (Gr.refl _) rfl
    refine Obs.cons none (by kernel_rfl) ?_ ?_
    · refine Ob.plain fun a w hR hk K k => ?_
      obtain ⟨_, e6, rfl⟩ := hk 6 (by decide)
      obtain ⟨_, e8, rfl⟩ := hk 8 (by decide)
      clear hk
      go_simp
      refine (Try.strings_Compare ⟨o.toArray⟩ ⟨p.toArray⟩ _).mono ?_
      rintro e w' ⟨rfl, rfl⟩
      exact k _ _ (Gr.refl _) rfl
    refine Obs.cons none (by kernel_rfl) ?_ ?_
    · refine Ob.plain fun a w hR hk K k => ?_
      obtain ⟨_, e2, rfl⟩ := hk 2 (by decide)
      clear hk
      go_simp
      exact k _ _ (Gr.refl _) rfl
    refine Obs.cons none (by kernel_rfl) ?_ ?_
    · refine Ob.plain fun a w hR hk K k => ?_
      obtain ⟨_, e10, rfl⟩ := hk 10 (by decide)
      clear hk
      have c := (hR.chg (fun _ => False)).cell a1 id
      go_simp
      exact k _ _ (Gr.refl _) rfl
    refine Obs.cons none (by kernel_rfl) ?_ ?_
    · refine Ob.plain fun a w hR hk K k => ?_
      obtain ⟨_, e3, rfl⟩ := hk 3 (by decide)
      clear hk
      go_simp
      exact k _ _ (Gr.refl _) rfl
    refine Obs.cons none (by kernel_rfl) ?_ ?_
    · refine Ob.plain fun a w hR hk K k => ?_
      obtain ⟨_, e12, rfl⟩ := hk 12 (by decide)
      clear hk
      have c := (hR.chg (fun _ => False)).cell b1 id
      go_simp
      exact k _ _ (Gr.refl _) rfl
    refine Obs.cons none (by kernel_rfl) ?_ ?_
    · refine Ob.plain fun a w hR hk K k => ?_
      obtain ⟨_, e11, rfl⟩ := hk 11 (by decide)
      obtain ⟨_, e13, rfl⟩ := hk 13 (by decide)
      clear hk
      go_simp
      refine (Try.strings_Compare ⟨x.toArray⟩ ⟨y.toArray⟩ _).mono ?_
      rintro e w' ⟨rfl, rfl⟩
      exact k _ _ (Gr.refl _) rfl
    refine Obs.cons none (by kernel_rfl) ?_ ?_
    · refine Ob.plain fun a w hR hk K k => ?_
      obtain ⟨_, e9, rfl⟩ := hk 9 (by decide)
      obtain ⟨_, e14, rfl⟩ := hk 14 (by decide)
      clear hk
      go_simp
      exact k _ _ ((Gr.refl _).alloc _) ⟨_, _, _, rfl, heap_alloc_new _ _⟩
    refine Obs.cons none (by kernel_rfl) ?_ ?_
    · refine Ob.plain fun a w hR hk K k => ?_
      obtain ⟨_, e15, g, ty, f, rfl, hg⟩ := hk 15 (by decide)
      clear hk
      go_simp
      refine (por_two g f ty _ _ _ hg).mono ?_
      rintro e w' ⟨rfl, rfl⟩
      rw [HR.out]
      exact k _ _ (Gr.refl _) rfl
    refine Obs.cons none (by kernel_rfl) ?_ Obs.nil
    · refine Ob.plain fun a w hR hk K k => ?_
      obtain ⟨_, e16, rfl⟩ := hk 16 (by decide)
      clear hk
      go_simp
      exact k _ _ (Gr.refl _) rfl
  case fin =>
    intro vals w2 hc2 hv
    have h4 : vals 4 = .int .i64 res := hv 4 (by decide)
    have HC := hid (hc.trans hc2)
    clear hA hB hc hc2 hv
    simp only [putAll, List.setIfInBounds_toArray, List.set_cons_zero, List.set_cons_succ, h4]
    go_wp2
    go_ret
    exact ⟨rfl, HC.out⟩

end Go.Proofs.Ytjaplnainlbldaa

/- cred.Right: the program's contract. -/
namespace Go.Proofs.Ytjaplnainlbldaa
open Go.RowKit

end Go.Proofs.Ytjaplnainlbldaa

/- cred.Bytes: the program's contract. -/
namespace Go.Proofs.Ytjaplnainlbldaa
open Go.RowKit

theorem pc_roleEnc_len {r : RoleB} (h : isRole r = true) : (roleEnc r).length ≤ 34 := by
  have hl := role_len h
  rw [roleEnc, enc_small (by omega), enc_small (by omega)]
  simp
  omega

end Go.Proofs.Ytjaplnainlbldaa

/- The bytes of a formula; what pens leave, carried on. -/
namespace Go.Proofs.Ytjaplnainlbldaa
open Go.RowKit

mutual
def encF : FmB → List UInt8
  | .mk op k r kids => enc op.toNat ++ (if op = 1 then roleEnc r else (if op = 4 then enc k.toNat else []) ++ (enc kids.length ++ encFs kids))
def encFs : List FmB → List UInt8
  | [] => []
  | f :: l => encF f ++ encFs l
end
theorem encFs_app (a b : List FmB) : encFs (a ++ b) = encFs a ++ encFs b := by
  induction a with
  | nil => simp [encFs]
  | cons y l ih => rw [List.cons_append, encFs, encFs, ih, List.append_assoc]
theorem encFs_snoc (a : List FmB) (x : FmB) : encFs (a ++ [x]) = encFs a ++ encF x := by
  induction a with
  | nil => simp [encFs]
  | cons y l ih => rw [List.cons_append, encFs, encFs, ih, List.append_assoc]
theorem encF_eq (f : FmB) : encF f = enc f.op.toNat ++ (if f.op = 1 then roleEnc f.r else (if f.op = 4 then enc f.k.toNat else []) ++ (enc f.kids.length ++ encFs f.kids)) := by cases f; rfl

theorem rightN_op {op k : Int} {r : RoleB} {n : Nat} (h : rightN op k r n = true) : (op = 1 ∧ isRole r = true ∧ n = 0 ∧ k = 0) ∨ ((op = 2 ∨ op = 3) ∧ r = ([], []) ∧ n ≤ 8 ∧ k = 0) ∨ (op = 4 ∧ r = ([], []) ∧ 0 < n ∧ n ≤ 8 ∧ 0 ≤ k ∧ k ≤ (n : Int)) := by
  unfold rightN at h
  by_cases h1 : op = 1
  · rw [if_pos h1] at h
    simp at h
    exact .inl ⟨h1, h.1, by simpa using h.2.1, h.2.2⟩
  · rw [if_neg h1] at h
    by_cases h2 : 8 < n ∨ r ≠ ([], [])
    · rw [if_pos h2] at h; cases h
    · rw [if_neg h2] at h
      have h3 : n ≤ 8 ∧ r = ([], []) := ⟨by omega, by
        by_cases e : r = ([], [])
        · exact e
        · exact absurd (.inr e) h2⟩
      by_cases h4 : op = 2 ∨ op = 3
      · rw [if_pos h4] at h
        exact .inr (.inl ⟨h4, h3.2, h3.1, of_decide_eq_true h⟩)
      · rw [if_neg h4] at h
        by_cases h5 : op = 4
        · rw [if_pos h5] at h
          simp at h
          exact .inr (.inr ⟨h5, h3.2, by omega, h3.1, h.2.1, h.2.2⟩)
        · rw [if_neg h5] at h; cases h

theorem encF_len : ∀ f : FmB, rightF f = true → (encF f).length ≤ 40 * nodesF f := by
  refine nodes_ind fun f ih hr => ?_
  rw [rightF_eq, Bool.and_eq_true] at hr
  have hk := rightL_mem hr.1
  have key : ∀ l : List FmB, (∀ g ∈ l, (encF g).length ≤ 40 * nodesF g) → (encFs l).length ≤ 40 * nodesL l := by
    intro l
    induction l with
    | nil => exact fun _ => by simp [encFs]
    | cons x l ih2 =>
      intro h
      have h1 := h x (by simp)
      have h2 := ih2 (fun g hg => h g (by simp [hg]))
      rw [encFs, nodesL, List.length_append]
      omega
  have hkk := key _ (fun g hg => ih g hg (hk g hg))
  rw [encF_eq, nodesF_eq]
  rcases rightN_op hr.2 with ⟨h1, h2, h3, h4⟩ | ⟨h1, h2, h3, h4⟩ | ⟨h1, h2, h3, h4, h5, h6⟩
  · have hl := pc_roleEnc_len h2
    rw [if_pos h1, h1, List.length_append, show (1 : Int).toNat = 1 from rfl, enc_small (by omega)]
    simp only [List.length_cons, List.length_nil]
    omega
  · have e1 : f.op ≠ 1 := by omega
    have e4 : f.op ≠ 4 := by omega
    have e5 : f.op.toNat < 128 := by omega
    rw [if_neg e1, if_neg e4, List.nil_append, List.length_append, List.length_append, enc_small e5, enc_small (by omega)]
    simp only [List.length_cons, List.length_nil]
    omega
  · have e1 : f.op ≠ 1 := by omega
    have e5 : f.op.toNat < 128 := by omega
    have e6 : f.k.toNat < 128 := by omega
    rw [if_neg e1, if_pos h1, List.length_append, List.length_append, List.length_append, enc_small e5, enc_small e6, enc_small (by omega)]
    simp only [List.length_cons, List.length_nil]
    omega

theorem encFs_len (l : List FmB) (h : rightL l = true) : (encFs l).length ≤ 40 * nodesL l := by
  have hk := rightL_mem h
  clear h
  induction l with
  | nil => simp [encFs]
  | cons x l ih2 =>
    have h1 := encF_len x (hk x (by simp))
    have h2 := ih2 (fun g hg => hk g (by simp [hg]))
    rw [encFs, nodesL, List.length_append]
    omega
theorem rightL_take {l : List FmB} (h : rightL l = true) (j : Nat) : rightL (l.take j) = true := by
  have e : rightL (l.take j ++ l.drop j) = true := by rw [List.take_append_drop]; exact h
  have app : ∀ a b : List FmB, rightL (a ++ b) = true → rightL a = true := by
    intro a b
    induction a with
    | nil => exact fun _ => rfl
    | cons x a ih =>
      intro h
      rw [List.cons_append, rightL, Bool.and_eq_true] at h
      rw [rightL, h.1, ih h.2]
      rfl
  exact app _ _ e

theorem PenPost.next {B P : Nat} {ao0 : Option Addr} {ys : List UInt8} {w1 wj : World} (h : PenPost B P ao0 ys w1 wj) : ∃ ao cap, PenAt B wj P ao cap ys ∧ ∀ zs w', PenPost B P ao zs wj w' → PenPost B P ao0 zs w1 w' := by
  obtain ⟨ao, cap, hp, hc⟩ := h
  exact ⟨ao, cap, hp, fun zs w' ⟨ao', cap', hp', hc'⟩ => ⟨ao', cap', hp', hc.trans hc'⟩⟩
theorem PenPost.chg {B P : Nat} {ao0 : Option Addr} {ys : List UInt8} {w1 wj : World} (h : PenPost B P ao0 ys w1 wj) : Chg (fun k => k = P ∨ rowOf ao0 = some k) w1 wj := by
  obtain ⟨ao, cap, hp, hc⟩ := h
  exact hc.chg
theorem PenPost.quiet {B P : Nat} {ao0 : Option Addr} {ys : List UInt8} {w1 wj w' : World} (h : PenPost B P ao0 ys w1 wj) (hc : Chg (fun _ => False) wj w') : PenPost B P ao0 ys w1 w' := by
  obtain ⟨ao, cap, hp, hch⟩ := h
  exact ⟨ao, cap, hp.keep hc id (fun _ _ => id), ⟨hch.chg.trans hc (fun _ _ h => h.elim), hch.row⟩⟩
theorem PenPost.from_ {B P : Nat} {ao0 : Option Addr} {ys : List UInt8} {w w1 w' : World} (hc : Chg (fun _ => False) w w1) (h : PenPost B P ao0 ys w1 w') : PenPost B P ao0 ys w w' := by
  obtain ⟨ao, cap, hp, hch⟩ := h
  refine ⟨ao, cap, hp, (hc.mono (fun _ _ h => h.elim)).trans hch.chg (fun i _ h => h), ?_⟩
  rcases hch.row with h | ⟨g, k1, k2⟩
  · exact .inl h
  · have := hc.size
    exact .inr ⟨g, k1, by omega⟩
theorem PenPost.start {B P cap : Nat} {ao : Option Addr} {xs : List UInt8} {w : World} (h : PenAt B w P ao cap xs) : PenPost B P ao xs w w := ⟨ao, cap, h, PChg.refl _ _ _⟩
theorem PenAt.rowlt {B P cap : Nat} {ao : Option Addr} {xs : List UInt8} {w : World} (h : PenAt B w P ao cap xs) : ∀ k, rowOf ao = some k → B ≤ k ∧ k < w.heap.size := fun k hk => h.row.lt k ((rowOf_block _ _ _).trans hk)
end Go.Proofs.Ytjaplnainlbldaa

/- The least model of credentials: plain words, nothing of the program's text. -/
namespace Go.Proofs.Ytjaplnainlbldaa
open Go.RowKit

/-- Somebody is in a role. -/
abbrev FactB := RoleB × List UInt8
end Go.Proofs.Ytjaplnainlbldaa

/- Facts, as they lie in memory; lists of them of the call's own. -/
namespace Go.Proofs.Ytjaplnainlbldaa
open Go.RowKit

end Go.Proofs.Ytjaplnainlbldaa

/- Steps of chains as they lie in memory. -/
namespace Go.Proofs.Ytjaplnainlbldaa
open Go.RowKit

end Go.Proofs.Ytjaplnainlbldaa

/- The contract of the document's In, of layer 8. -/
namespace Go.Proofs.Ytjaplnainlbldaa
open Go.RowKit
attribute [local go_sem ↓ high] run_eqg_role run_eql_role

end Go.Proofs.Ytjaplnainlbldaa

/- The contract of the document's Step, of layer 8. -/
namespace Go.Proofs.Ytjaplnainlbldaa
open Go.RowKit

end Go.Proofs.Ytjaplnainlbldaa

/- Draws add up. -/
namespace Go.Proofs.Ytjaplnainlbldaa
open Go.RowKit

end Go.Proofs.Ytjaplnainlbldaa

/- The contract of the document's Same, of lists of texts. -/
namespace Go.Proofs.Ytjaplnainlbldaa
open Go.RowKit

end Go.Proofs.Ytjaplnainlbldaa

/- Lists of texts of the call's own. -/
namespace Go.Proofs.Ytjaplnainlbldaa
open Go.RowKit

end Go.Proofs.Ytjaplnainlbldaa

/- The contract of the document's Set. -/
namespace Go.Proofs.Ytjaplnainlbldaa
open Go.RowKit

end Go.Proofs.Ytjaplnainlbldaa

/- The contracts of the document's Facts, and names, of layer 9. -/
namespace Go.Proofs.Ytjaplnainlbldaa
open Go.RowKit

theorem ownsRow_lowK {B A : Nat} {w : World} {ty : TypeId} {n : Nat} {v : Value} {len : Nat} {row : List Value} (h : w.ownsRow B ty n v len row) (hA : A ≤ B) : w.ownsRow A ty n v len row := by
  rcases h with ⟨h1, h2 | ⟨g, cap, cur, h3, h4, h5⟩⟩
  · exact ⟨h1, .inl h2⟩
  · exact ⟨h1, .inr ⟨g, cap, cur, h3, Nat.le_trans hA h4, h5⟩⟩

end Go.Proofs.Ytjaplnainlbldaa

/- Formulas of the call's own: trees whose rows of Kids lie each in a block of its own. -/
namespace Go.Proofs.Ytjaplnainlbldaa
open Go.RowKit

inductive AT where
  | mk (op k : Int) (r : RoleB) (v : Value) (kids : List AT)
def AT.op : AT → Int | .mk op _ _ _ _ => op
def AT.k : AT → Int | .mk _ k _ _ _ => k
def AT.r : AT → RoleB | .mk _ _ r _ _ => r
def AT.v : AT → Value | .mk _ _ _ v _ => v
def AT.kids : AT → List AT | .mk _ _ _ _ kids => kids

mutual
def eraseA : AT → FmB
  | .mk op k r _ kids => .mk op k r (eraseL kids)
def eraseL : List AT → List FmB
  | [] => []
  | t :: l => eraseA t :: eraseL l
end
def cellsA (t : AT) : List Value := [.int .i64 t.op, .int .i64 t.k, .string ⟨t.r.1.toArray⟩, .string ⟨t.r.2.toArray⟩, t.v]
def rowA (ts : List AT) : List Value := ts.flatMap cellsA
/- The blocks that it lies in. -/
mutual
def blksA : AT → List Nat
  | .mk _ _ _ v kids => v.ownBlock.toList ++ blksL kids
def blksL : List AT → List Nat
  | [] => []
  | t :: l => blksA t ++ blksL l
end
/- It is the call's own, from the block B on. -/
mutual
def OwnA (B : Nat) (w : World) : AT → Prop
  | .mk _ _ r v kids => (r.1.length ≤ 9223372036854775807 ∧ r.2.length ≤ 9223372036854775807) ∧ w.ownsRow B 58 5 v kids.length (rowA kids) ∧ OwnL B w kids
def OwnL (B : Nat) (w : World) : List AT → Prop
  | [] => True
  | t :: l => OwnA B w t ∧ OwnL B w l
end

theorem eraseA_eq (t : AT) : eraseA t = .mk t.op t.k t.r (eraseL t.kids) := by cases t; rfl
theorem blksA_eq (t : AT) : blksA t = t.v.ownBlock.toList ++ blksL t.kids := by cases t; rfl
theorem ownA_eq (B : Nat) (w : World) (t : AT) : OwnA B w t ↔ (t.r.1.length ≤ 9223372036854775807 ∧ t.r.2.length ≤ 9223372036854775807) ∧ w.ownsRow B 58 5 t.v t.kids.length (rowA t.kids) ∧ OwnL B w t.kids := by cases t; exact Iff.rfl
theorem eraseL_map (l : List AT) : eraseL l = l.map eraseA := by
  induction l with
  | nil => rfl
  | cons t l ih => rw [eraseL, ih, List.map_cons]
theorem blksL_flat (l : List AT) : blksL l = l.flatMap blksA := by
  induction l with
  | nil => rfl
  | cons t l ih => rw [blksL, ih, List.flatMap_cons]
theorem ownL_all (B : Nat) (w : World) (l : List AT) : OwnL B w l ↔ ∀ t ∈ l, OwnA B w t := by
  induction l with
  | nil => exact ⟨fun _ _ h => (by cases h), fun _ => trivial⟩
  | cons t l ih =>
    rw [OwnL, ih]
    exact ⟨fun h s hs => (List.mem_cons.1 hs).elim (fun e => e ▸ h.1) (h.2 s), fun h => ⟨h t (by simp), fun s hs => h s (by simp [hs])⟩⟩
theorem eraseL_len (l : List AT) : (eraseL l).length = l.length := by rw [eraseL_map, List.length_map]

theorem at_ind {P : AT → Prop} (h : ∀ t : AT, (∀ s ∈ t.kids, P s) → P t) : ∀ t, P t := by
  have key : ∀ n t, nodesF (eraseA t) ≤ n → P t := by
    intro n
    induction n with
    | zero => intro t ht; have := nodesF_pos (eraseA t); omega
    | succ n ih =>
      intro t ht
      refine h t fun s hs => ih s ?_
      have h1 : eraseA s ∈ eraseL t.kids := by rw [eraseL_map]; exact List.mem_map.2 ⟨s, hs, rfl⟩
      have h2 := nodesL_mem h1
      rw [eraseA_eq, nodesF] at ht
      omega
  exact fun t => key _ t (Nat.le_refl _)

theorem rowA_snoc (l : List AT) (x : AT) : rowA (l ++ [x]) = rowA l ++ cellsA x := by simp [rowA]
theorem rowA_get : ∀ (ls : List AT) (i j : Nat) (h : i < ls.length) (_ : j < 5), (rowA ls)[i * 5 + j]? = (cellsA ls[i])[j]?
  | x :: l, 0, j, _, hj => by
    rw [Nat.zero_mul, Nat.zero_add, rowA, List.flatMap_cons, List.getElem?_append_left (by simpa [cellsA] using hj)]
    rfl
  | x :: l, i + 1, j, h, hj => by
    have hl : (cellsA x).length = 5 := rfl
    have := rowA_get l i j (by simpa using h) hj
    rw [rowA, List.flatMap_cons, List.getElem?_append_right (by rw [hl, Nat.add_mul]; omega), hl]
    rw [show (i + 1) * 5 + j - 5 = i * 5 + j by rw [Nat.add_mul]; omega]
    exact this

theorem ownA_lt {B : Nat} {w : World} : ∀ t : AT, OwnA B w t → ∀ b ∈ blksA t, B ≤ b ∧ b < w.heap.size := by
  refine at_ind fun t ih h b hb => ?_
  rw [ownA_eq] at h
  rw [blksA_eq, List.mem_append] at hb
  rcases hb with hb | hb
  · exact h.2.1.lt b (by simpa using hb)
  · rw [blksL_flat, List.mem_flatMap] at hb
    obtain ⟨s, hs, hb⟩ := hb
    exact ih s hs ((ownL_all _ _ _).1 h.2.2 s hs) b hb

theorem ownA_keep {S : Nat → Prop} {B : Nat} {w w' : World} (hc : Chg S w w') : ∀ t : AT, OwnA B w t → (∀ b ∈ blksA t, ¬ S b) → OwnA B w' t := by
  refine at_ind fun t ih h hS => ?_
  rw [ownA_eq] at h ⊢
  rw [blksA_eq] at hS
  refine ⟨h.1, ownsRow_keep h.2.1 hc (fun k hk => hS k (List.mem_append_left _ (by simp [hk]))), (ownL_all _ _ _).2 fun s hs => ih s hs ((ownL_all _ _ _).1 h.2.2 s hs) fun b hb => hS b (List.mem_append_right _ ?_)⟩
  rw [blksL_flat]
  exact List.mem_flatMap.2 ⟨s, hs, hb⟩
theorem ownL_keep {S : Nat → Prop} {B : Nat} {w w' : World} (hc : Chg S w w') {l : List AT} (h : OwnL B w l) (hS : ∀ b ∈ blksL l, ¬ S b) : OwnL B w' l := (ownL_all _ _ _).2 fun s hs => ownA_keep hc s ((ownL_all _ _ _).1 h s hs) fun b hb => hS b (by rw [blksL_flat]; exact List.mem_flatMap.2 ⟨s, hs, hb⟩)
theorem ownL_lt {B : Nat} {w : World} {l : List AT} (h : OwnL B w l) : ∀ b ∈ blksL l, B ≤ b ∧ b < w.heap.size := fun b hb => by
  rw [blksL_flat, List.mem_flatMap] at hb
  obtain ⟨s, hs, hb⟩ := hb
  exact ownA_lt s ((ownL_all _ _ _).1 h s hs) b hb
theorem ownA_low {B A : Nat} {w : World} (hA : A ≤ B) : ∀ t : AT, OwnA B w t → OwnA A w t := by
  refine at_ind fun t ih h => ?_
  rw [ownA_eq] at h ⊢
  exact ⟨h.1, ownsRow_lowK h.2.1 hA, (ownL_all _ _ _).2 fun s hs => ih s hs ((ownL_all _ _ _).1 h.2.2 s hs)⟩
theorem ownL_low {B A : Nat} {w : World} (hA : A ≤ B) {l : List AT} (h : OwnL B w l) : OwnL A w l := (ownL_all _ _ _).2 fun s hs => ownA_low hA s ((ownL_all _ _ _).1 h s hs)

theorem rowV_shape {B : Nat} {w : World} {v : Value} {l : List AT} (h : w.ownsRow B 58 5 v l.length (rowA l)) : ∃ ao cp, v = .slice ao l.length cp ∧ (ao = none → cp = 0) ∧ l.length ≤ cp := by
  rcases h.2 with ⟨rfl, h0⟩ | ⟨g, cap, cur, rfl, _, _, h1, _⟩
  · exact ⟨none, 0, by rw [h0], fun _ => rfl, by omega⟩
  · exact ⟨_, _, rfl, fun e => (by cases e), h1⟩

/-- It can be read as any formula. -/
theorem own_fm {B : Nat} {w : World} : ∀ (t : AT), OwnA B w t → ∀ (n b o : Nat), deepF (eraseA t) ≤ n → (∀ j, j < 5 → w.cell? ⟨b, o + j, none⟩ = (cellsA t)[j]?) → FmAt (fun k => B ≤ k ∧ k < w.heap.size) w n b o (eraseA t) := by
  refine at_ind fun t ih h n b o hn hc => ?_
  rw [ownA_eq] at h
  obtain ⟨h1, h2, h3⟩ := h
  have hd := deepF_eq (eraseA t)
  rw [hd] at hn
  obtain ⟨m, rfl⟩ : ∃ m, n = m + 1 := ⟨n - 1, by omega⟩
  have c0 := hc 0 (by omega)
  have c1 := hc 1 (by omega)
  have c2 := hc 2 (by omega)
  have c3 := hc 3 (by omega)
  have c4 := hc 4 (by omega)
  obtain ⟨ao, cp, hv, hz, hle⟩ := rowV_shape h2
  simp only [cellsA, List.getElem?_cons_zero, List.getElem?_cons_succ, Nat.add_zero] at c0 c1 c2 c3 c4
  rw [eraseA_eq] at hn ⊢
  refine ⟨c0, c1, c2, c3, h1, ao, cp, by rw [hv] at c4; simp only [FmB.kids, eraseL_len]; exact c4, hz, fun i hi => ?_⟩
  have hi2 : i < t.kids.length := by simpa only [FmB.kids, eraseL_len] using hi
  have hx : (eraseL t.kids)[i]'(by simpa only [FmB.kids] using hi) = eraseA t.kids[i] := by simp [eraseL_map]
  have hmem : t.kids[i] ∈ t.kids := List.getElem_mem hi2
  have hdi : deepF (eraseA t.kids[i]) ≤ deepL (eraseL t.kids) := deepL_mem (by rw [eraseL_map]; exact List.mem_map.2 ⟨_, hmem, rfl⟩)
  rcases h2.2 with ⟨e, h0⟩ | ⟨g, cap, cur, e, hg, hh, k1, k2, k3, k4⟩
  · omega
  · rw [e] at hv
    injection hv with hv _ _
    subst hv
    refine ⟨g, 0, rfl, ⟨hg, lt_blk hh⟩, ?_⟩
    show FmAt _ w m g (0 + i * 5) ((eraseL t.kids)[i]'(by simpa only [FmB.kids] using hi))
    rw [hx]
    refine ih _ hmem ((ownL_all _ _ _).1 h3 _ hmem) m g (0 + i * 5) (by simp only [FmB.kids] at hn; omega) fun j hj => ?_
    have hget := rowA_get t.kids i j hi2 hj
    have hs : j < (cellsA t.kids[i]).length := by simpa [cellsA] using hj
    rw [List.getElem?_eq_getElem hs] at hget ⊢
    rw [e] at h2
    have := h2.cells (g := g) rfl (i * 5 + j) _ hget
    rw [add_off] at this
    rw [Nat.zero_add] at this ⊢
    exact this

theorem own_fms {B : Nat} {w : World} {t : AT} (h : OwnA B w t) : ∃ ao cp, t.v = .slice ao t.kids.length cp ∧ (ao = none → cp = 0) ∧ FmsAt (fun k => B ≤ k ∧ k < w.heap.size) w (deepF (eraseA t)) ao (eraseL t.kids) ∧ FmOk (eraseA t) := by
  have h0 := h
  rw [ownA_eq] at h
  obtain ⟨h1, h2, h3⟩ := h
  obtain ⟨ao, cp, hv, hz, hle⟩ := rowV_shape h2
  refine ⟨ao, cp, hv, hz, fun i hi => ?_, by rw [eraseA_eq]; exact h1⟩
  have hi2 : i < t.kids.length := by simpa only [eraseL_len] using hi
  have hx : (eraseL t.kids)[i] = eraseA t.kids[i] := by simp [eraseL_map]
  have hmem : t.kids[i] ∈ t.kids := List.getElem_mem hi2
  have hdi : deepF (eraseA t.kids[i]) ≤ deepL (eraseL t.kids) := deepL_mem (by rw [eraseL_map]; exact List.mem_map.2 ⟨_, hmem, rfl⟩)
  have hd := deepF_eq (eraseA t)
  rw [eraseA_eq] at hd
  simp only [FmB.kids] at hd
  rcases h2.2 with ⟨e, h0⟩ | ⟨g, cap, cur, e, hg, hh, k1, k2, k3, k4⟩
  · omega
  · rw [e] at hv
    injection hv with hv _ _
    subst hv
    refine ⟨g, 0, rfl, ⟨hg, lt_blk hh⟩, ?_⟩
    rw [hx]
    refine own_fm _ ((ownL_all _ _ _).1 h3 _ hmem) _ g (0 + i * 5) (by rw [eraseA_eq t]; omega) fun j hj => ?_
    have hget := rowA_get t.kids i j hi2 hj
    have hs : j < (cellsA t.kids[i]).length := by simpa [cellsA] using hj
    rw [List.getElem?_eq_getElem hs] at hget ⊢
    rw [e] at h2
    have := h2.cells (g := g) rfl (i * 5 + j) _ hget
    rw [add_off] at this
    rw [Nat.zero_add] at this ⊢
    exact this
end Go.Proofs.Ytjaplnainlbldaa
