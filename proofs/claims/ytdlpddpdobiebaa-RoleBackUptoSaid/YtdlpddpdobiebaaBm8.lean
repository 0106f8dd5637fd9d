/- Texts that the proof leans on, in one: RoleParse, RoleOwn, RoleBytes, RoleProg, ShelfStr. -/
import Derived.Test.YtdlpddpdobiebaaBm6
import Derived.Test.YtdlpddpdobiebaaBm7
import Derived.Test.YtdlpddpdobiebaaBm1
import Derived.Maps.AppendAt
import Derived.Test.YtdlpddpdobiebaaBm5
import Derived.Test.YtdlpddpdobiebaaBm2
import Derived.Test.YtdlpddpdobiebaaBm4
import Derived.Shelf.Small.Strs
import Derived.Shelf.Strings.Search1
import Derived.Shelf.Strings.Search2
import Derived.Test.YtdlpddpdobiebaaProg
/- Which role a text is. -/
namespace Go.Proofs.Ytdlpddpdobiebaa
open Go.RowKit

/-- The text ahead of the first full stop, and the one behind it. -/
def cutDot : List UInt8 → Option (List UInt8 × List UInt8)
  | [] => none
  | c :: l => if c.toNat = 46 then some ([], l) else (cutDot l).map fun p => (c :: p.1, p.2)
def parseR (s : List UInt8) : Option RoleB := match cutDot s with
  | none => none
  | some r => if isRole r = true then some r else none

theorem results_row_tmp {fn : Func} {p u : Tmp} {ty : TypeId} (h : fn.results = #[.cell p ty, .tmp u]) (tmps : Array Value) (w : World) (g : Nat) (cs : Array Value)
    (hp : tmps.getD p undef = .pointer (some ⟨g, 0, none⟩)) (hl : (loadVar ty ⟨g, 0, none⟩).run Try.prog w = .ok (.agg cs) w) :
    (results fn tmps).run Try.prog w = .ok (.tuple #[.agg cs, tmps.getD u undef]) w := by
  rw [results_cell_tmp h, hp]
  simp [asAddr, Result.andThen, hl]

theorem cutDot_none : ∀ (s : List UInt8), (∀ c ∈ s, c.toNat ≠ 46) → cutDot s = none
  | [], _ => rfl
  | c :: l, h => by
    rw [cutDot, if_neg (h c (by simp)), cutDot_none l (fun d hd => h d (List.mem_cons_of_mem _ hd))]
    rfl

theorem cutDot_at : ∀ (s : List UInt8) (k : Nat) (hk : k < s.length), (∀ c ∈ s.take k, c.toNat ≠ 46) → s[k].toNat = 46 → cutDot s = some (s.take k, s.drop (k + 1))
  | c :: l, 0, _, _, h => by
    have : c.toNat = 46 := h
    rw [cutDot, if_pos this]
    rfl
  | c :: l, k + 1, hk, hn, h => by
    rw [cutDot, if_neg (hn c (by simp)), cutDot_at l k (by simpa using hk) (fun d hd => hn d (by rw [List.take_succ_cons]; exact List.mem_cons_of_mem _ hd)) (by simpa using h)]
    rfl

def ParsePost (s : List UInt8) (w : World) (e : Ending) (w' : World) : Prop :=
  e = .returned (.tuple #[roleV ((parseR s).getD noRole), .bool (parseR s).isSome]) ∧ Chg (fun _ => False) w w'
end Go.Proofs.Ytdlpddpdobiebaa

/- Lists of roles of the call's own. -/
namespace Go.Proofs.Ytdlpddpdobiebaa
open Go.RowKit

theorem Try.info24 : (Try.prog.info? 24).map (fun i => (i.zero, i.size, i.bytes)) = some (some (.agg #[.string ⟨#[]⟩, .string ⟨#[]⟩]), 2, 32) := by kernel_rfl

theorem ownsRow_keep {S : Nat → Prop} {B E n s : Nat} {w w' : World} {v : Value} {xs : List Value} (h : w.ownsRow B E s v n xs) (hc : Chg S w w') (hr : ∀ k, v.ownBlock = some k → ¬ S k) : w'.ownsRow B E s v n xs := by
  refine ⟨h.1, ?_⟩
  rcases h.2 with hn | ⟨g, cap, cur, hv, hg, hh, r⟩
  · exact .inl hn
  · exact .inr ⟨g, cap, cur, hv, hg, blk_keep hh hc (hr g (by rw [hv]; rfl)), r⟩

theorem ownsRow_lt {B E n s : Nat} {w : World} {v : Value} {xs : List Value} (h : w.ownsRow B E s v n xs) (k : Nat) (hk : v.ownBlock = some k) : B ≤ k ∧ k < w.heap.size := by
  rcases h.2 with ⟨hn, _⟩ | ⟨g, cap, cur, hv, hg, hh, r⟩
  · rw [hn] at hk; cases hk
  · rw [hv] at hk; cases hk; exact ⟨hg, lt_blk hh⟩

def roleRow (ls : List RoleB) : List Value := ls.flatMap roleCells

theorem roleRow_length (ls : List RoleB) : (roleRow ls).length = ls.length * 2 := by
  induction ls with
  | nil => rfl
  | cons x l ih => simp only [roleRow, List.flatMap_cons, List.length_append, List.length_cons] at ih ⊢; rw [ih]; simp [roleCells]; omega

theorem roleRow_get : ∀ (ls : List RoleB) (i : Nat) (h : i < ls.length), (roleRow ls)[i * 2]? = some (.string ⟨ls[i].1.toArray⟩) ∧ (roleRow ls)[i * 2 + 1]? = some (.string ⟨ls[i].2.toArray⟩)
  | x :: l, 0, _ => ⟨rfl, rfl⟩
  | x :: l, i + 1, h => by
    have := roleRow_get l i (by simpa using h)
    have e : roleRow (x :: l) = .string ⟨x.1.toArray⟩ :: .string ⟨x.2.toArray⟩ :: roleRow l := rfl
    rw [e, show (i + 1) * 2 = i * 2 + 1 + 1 by omega]
    exact this

theorem roleRow_snoc (ls : List RoleB) (x : RoleB) : roleRow (ls ++ [x]) = roleRow ls ++ roleCells x := by
  simp [roleRow]

/-- A list of roles of the call's own. -/
def OwnR (B : Nat) (w : World) (v : Value) (ls : List RoleB) : Prop := w.ownsRow B 24 2 v ls.length (roleRow ls)

theorem OwnR.roles {B : Nat} {w : World} {v : Value} {ls : List RoleB} (h : OwnR B w v ls) (hb : ∀ x ∈ ls, x.1.length ≤ 9223372036854775807 ∧ x.2.length ≤ 9223372036854775807) :
    ∃ ao cap, v = .slice ao ls.length cap ∧ RolesAt (fun k => B ≤ k ∧ k < w.heap.size) w ao ls ∧ (ao = none → cap = 0) := by
  rcases h.2 with ⟨rfl, h0⟩ | ⟨g, cap, cur, rfl, hg, hh, h1, h2, h3, h4⟩
  · have : ls = [] := List.eq_nil_of_length_eq_zero h0
    subst this
    exact ⟨none, 0, rfl, RolesAt.nil _ _ _, fun _ => rfl⟩
  · refine ⟨_, _, rfl, fun i hi => ⟨g, 0, rfl, ⟨hg, lt_blk hh⟩, ?_, ?_, hb _ (List.getElem_mem hi)⟩, fun e => by cases e⟩
    · have := h.cells (g := g) rfl (i * 2) _ (roleRow_get ls i hi).1
      rw [add_off] at this
      exact this
    · have := h.cells (g := g) rfl (i * 2 + 1) _ (roleRow_get ls i hi).2
      rw [add_off] at this
      exact this

theorem OwnR.shape {B : Nat} {w : World} {v : Value} {ls : List RoleB} (h : OwnR B w v ls) : ∃ ao cap, v = .slice ao ls.length cap := by
  rcases h.2 with ⟨rfl, h0⟩ | ⟨g, cap, cur, rfl, _⟩
  · exact ⟨none, 0, by rw [h0]⟩
  · exact ⟨_, _, rfl⟩

theorem OwnR.keep {S : Nat → Prop} {B : Nat} {w w' : World} {v : Value} {ls : List RoleB} (h : OwnR B w v ls) (hc : Chg S w w') (hr : ∀ k, v.ownBlock = some k → ¬ S k) : OwnR B w' v ls := ownsRow_keep h hc hr

theorem role_cells_new (w : World) (x : RoleB) (j : Nat) (u : Value) (h : (roleCells x)[j]? = some u) : (w.alloc (.cells #[.string ⟨x.1.toArray⟩, .string ⟨x.2.toArray⟩] 24)).cell? ((⟨w.heap.size, 0, none⟩ : Addr).add j) = some u := by
  rw [add_off, cell_blk (heap_alloc_new w _), Nat.zero_add]
  match j, h with
  | 0, h => exact h
  | 1, h => exact h

/-- What Set leaves: the set, in new memory. -/
def SetPostR (ls : List RoleB) (w : World) (e : Ending) (w' : World) : Prop :=
  ∃ out ao cap, e = .returned (.slice ao out.length cap) ∧ SetR ls out ∧ RolesAt (fun k => w.heap.size ≤ k ∧ k < w'.heap.size) w' ao out ∧ Chg (fun _ => False) w w' ∧ (ao = none → cap = 0)

def lenOfV : Value → Nat
  | .slice _ n _ => n
  | _ => 0

theorem roles_lit (ls : List RoleB) (w : World) (f : Nat × Nat) (hb : ∀ x ∈ ls, x.1.length ≤ 9223372036854775807 ∧ x.2.length ≤ 9223372036854775807) :
    RolesAt (fun k => k = w.heap.size) (w.alloc (.cells (roleRow ls).toArray 24 f)) (some ⟨w.heap.size, 0, none⟩) ls := fun i hi =>
  ⟨w.heap.size, 0, rfl, rfl, by rw [cell_blk (heap_alloc_new w _), Nat.zero_add, List.getElem?_toArray]; exact (roleRow_get ls i hi).1, by rw [cell_blk (heap_alloc_new w _), Nat.zero_add, List.getElem?_toArray]; exact (roleRow_get ls i hi).2, hb _ (List.getElem_mem hi)⟩
end Go.Proofs.Ytdlpddpdobiebaa

/- The contracts of the document's Bytes and Get of layer 4. -/
namespace Go.Proofs.Ytdlpddpdobiebaa
open Go.RowKit

/-- A role's bytes. -/
def roleEnc (r : RoleB) : List UInt8 := (enc r.1.length ++ r.1) ++ (enc r.2.length ++ r.2)

def bytesSpecs (A : Nat) (o x : List UInt8) : List Spec := [.any, .eq (.pointer (some ⟨A, 0, none⟩)), .eq (.string ⟨(roleEnc (o, x)).toArray⟩), .eq (.pointer (some ⟨A, 0, none⟩)), .eq (.string ⟨o.toArray⟩), .eq (.string ⟨(enc o.length ++ o).toArray⟩), .eq (.pointer (some ⟨A, 1, none⟩)), .eq (.string ⟨x.toArray⟩), .eq (.string ⟨(enc x.length ++ x).toArray⟩), .eq (.string ⟨(roleEnc (o, x)).toArray⟩)]

set_option maxRecDepth 100000 in
theorem rbytes_ref (r : RoleB) (w : World) (h1 : r.1.length ≤ 1048576) (h2 : r.2.length ≤ 1048576) :
    Calls Try.prog 20 #[roleV r] w fun e w' => e = .returned (.string ⟨(roleEnc r).toArray⟩) ∧ Chg (fun _ => False) w w' := by
  obtain ⟨o, x⟩ := r
  dsimp only at h1 h2
  have hc : Chg (fun _ => False) w (w.alloc (.cells #[.string ⟨o.toArray⟩, .string ⟨x.toArray⟩] 24)) := (Chg.refl _ w).alloc _
  have hA := heap_alloc_new w (.cells #[.string ⟨o.toArray⟩, .string ⟨x.toArray⟩] 24)
  have a0 := cell_blk hA 0
  have a1 := cell_blk hA 1
  simp only [List.getElem?_toArray, List.getElem?_cons_zero, List.getElem?_cons_succ] at a0 a1
  have l1 := enc_length9 (n := o.length) (by omega)
  have l2 := enc_length9 (n := x.length) (by omega)
  show Calls Try.prog 20 #[.agg #[.string ⟨o.toArray⟩, .string ⟨x.toArray⟩]] w _
  go_enter Try.func20, Try.ntmps20
  go_wp2_with fail
  clear hA
  generalize w.alloc (.cells #[.string ⟨o.toArray⟩, .string ⟨x.toArray⟩] 24) = w1 at *
  generalize w.heap.size = A at *
  refine wp_region_specs (bytesSpecs A o x) [3, 4, 5, 6, 7, 8, 9, 2] [1] (by kernel_rfl) (by kernel_rfl) (by rfl) (by kernel_rfl) ?start ?obs ?fin
  case start =>
    simp only [List.forall_mem_cons]
    exact ⟨⟨_, rfl, rfl⟩, fun _ h => by cases h⟩
  case obs =>
    clear hc
    refine Obs.cons none (by kernel_rfl) ?_ ?_
    · refine Ob.plain fun a w hR hk K k => ?_
      obtain ⟨_, e1, rfl⟩ := hk 1 (by decide)
      clear hk
      go_simp
      exact k _ _ (Chg.refl _ _) rfl
    refine Obs.cons none (by kernel_rfl) ?_ ?_
    · refine Ob.plain fun a w hR hk K k => ?_
      obtain ⟨_, e3, rfl⟩ := hk 3 (by decide)
      clear hk
      have q0 := hR.cell a0 id
      go_simp
      exact k _ _ (Chg.refl _ _) rfl
    refine Obs.cons none (by kernel_rfl) ?_ ?_
    · refine Ob.plain fun a w hR hk K k => ?_
      obtain ⟨_, e4, rfl⟩ := hk 4 (by decide)
      clear hk
      go_simp
      refine (reftext_any o _ (by omega)).mono ?_
      rintro e w2 ⟨rfl, hc⟩
      exact k _ _ hc rfl
    refine Obs.cons none (by kernel_rfl) ?_ ?_
    · refine Ob.plain fun a w hR hk K k => ?_
      obtain ⟨_, e1, rfl⟩ := hk 1 (by decide)
      clear hk
      go_simp
      exact k _ _ (Chg.refl _ _) rfl
    refine Obs.cons none (by kernel_rfl) ?_ ?_
    · refine Ob.plain fun a w hR hk K k => ?_
      obtain ⟨_, e6, rfl⟩ := hk 6 (by decide)
      clear hk
      have q0 := hR.cell a1 id
      go_simp
      exact k _ _ (Chg.refl _ _) rfl
    refine Obs.cons none (by kernel_rfl) ?_ ?_
    · refine Ob.plain fun a w hR hk K k => ?_
      obtain ⟨_, e7, rfl⟩ := hk 7 (by decide)
      clear hk
      go_simp
      refine (reftext_any x _ (by omega)).mono ?_
      rintro e w2 ⟨rfl, hc⟩
      exact k _ _ hc rfl
    refine Obs.cons none (by kernel_rfl) ?_ ?_
    · refine Ob.plain fun a w hR hk K k => ?_
      obtain ⟨_, e5, rfl⟩ := hk 5 (by decide)
      obtain ⟨_, e8, rfl⟩ := hk 8 (by decide)
      clear hk
      obtain ⟨u, hu⟩ : ∃ u, u = enc o.length ++ o := ⟨_, rfl⟩
      obtain ⟨v, hv⟩ : ∃ v, v = enc x.length ++ x := ⟨_, rfl⟩
      have hul : ¬ 9223372036854775807 < u.length + v.length := by rw [hu, hv, List.length_append, List.length_append]; omega
      rw [← hu] at e5
      rw [← hv] at e8
      have HU := hid (And.intro hu hv)
      clear hu hv
      go_simp
      exact k _ _ (Chg.refl _ _) (congrArg Value.string ((ByteArray.mk_append_mk u v).trans (by rw [HU.out.1, HU.out.2]; rfl)))
    refine Obs.cons none (by kernel_rfl) ?_ ?_
    · refine Ob.plain fun a w hR hk K k => ?_
      obtain ⟨_, e9, f9⟩ := hk 9 (by decide)
      clear hk
      go_simp
      exact k _ _ (Chg.refl _ _) f9
    exact Obs.nil
  case fin =>
    intro vals w9 hc9 hv
    have h6 : vals 2 = .string ⟨(roleEnc (o, x)).toArray⟩ := hv 2 (by decide)
    simp only [putAll, List.setIfInBounds_toArray, List.set_cons_zero, List.set_cons_succ, h6]
    go_wp2
    go_ret
    exact ⟨rfl, hc.trans hc9 (fun _ _ h => h)⟩
end Go.Proofs.Ytdlpddpdobiebaa

/- The contracts of the program's Right, Text, Put, Get of layer 4. -/
namespace Go.Proofs.Ytdlpddpdobiebaa
open Go.RowKit

theorem role_len {r : RoleB} (h : isRole r = true) : r.1.length ≤ 16 ∧ r.2.length ≤ 16 := by
  simp only [isRole, Bool.and_eq_true] at h
  exact ⟨(isName_len h.1).2, (isName_len h.2).2⟩

theorem pright (r : RoleB) (w : World) (h1 : r.1.length ≤ 9223372036854775807) (h2 : r.2.length ≤ 9223372036854775807) :
    Calls Try.prog 12 #[roleV r] w fun e w' => e = .returned (.bool (isRole r)) ∧ Chg (fun _ => False) w w' := by
  obtain ⟨o, x⟩ := r
  have hc : Chg (fun _ => False) w (w.alloc (.cells #[.string ⟨o.toArray⟩, .string ⟨x.toArray⟩] 24)) := (Chg.refl _ w).alloc _
  have HC := hid hc
  clear hc
  show Calls Try.prog 12 #[.agg #[.string ⟨o.toArray⟩, .string ⟨x.toArray⟩]] w _
  cases ho : isName o with
  | false =>
    have hh : Hid (isRole (o, x) = false) := hid (by simp [isRole, ho])
    go_enter Try.func12, Try.ntmps12
    go_wp2_with fail
    refine (right_any o _ h1).mono ?_
    rintro e w' ⟨rfl, rfl⟩
    rw [ho]
    go_wp2
    go_ret
    exact ⟨by rw [hh.out]; rfl, HC.out⟩
  | true =>
    have hh : Hid (isRole (o, x) = isName x) := hid (by simp [isRole, ho])
    go_enter Try.func12, Try.ntmps12
    go_wp2_with fail
    refine (right_any o _ h1).mono ?_
    rintro e w' ⟨rfl, rfl⟩
    rw [ho]
    go_wp2_with fail
    refine (right_any x _ h2).mono ?_
    rintro e w' ⟨rfl, rfl⟩
    go_wp2
    go_ret
    exact ⟨by rw [hh.out]; rfl, HC.out⟩

theorem ptext (r : RoleB) (w : World) (h1 : r.1.length ≤ 1048576) (h2 : r.2.length ≤ 1048576) :
    Calls Try.prog 14 #[roleV r] w fun e w' => e = .returned (.string ⟨(roleText r).toArray⟩) ∧ Chg (fun _ => False) w w' := by
  obtain ⟨o, x⟩ := r
  dsimp only at h1 h2
  have hc : Chg (fun _ => False) w (w.alloc (.cells #[.string ⟨o.toArray⟩, .string ⟨x.toArray⟩] 24)) := (Chg.refl _ w).alloc _
  have HC := hid hc
  clear hc
  show Calls Try.prog 14 #[.agg #[.string ⟨o.toArray⟩, .string ⟨x.toArray⟩]] w _
  have hb1 : ¬ 9223372036854775807 < o.length + 1 := by omega
  have hb2 : ¬ 9223372036854775807 < o.length + 1 + x.length := by omega
  go_enter Try.func14, Try.ntmps14
  go_wp2
  go_ret
  refine ⟨congrArg (fun b => Ending.returned (.string b)) ?_, HC.out⟩
  show (⟨o.toArray⟩ : ByteArray) ++ ⟨([46] : List UInt8).toArray⟩ ++ ⟨x.toArray⟩ = ⟨(roleText (o, x)).toArray⟩
  rw [ByteArray.mk_append_mk, ByteArray.mk_append_mk]
  simp [roleText]

theorem pput_no (p : Value) (r : RoleB) (w : World) (h1 : r.1.length ≤ 9223372036854775807) (h2 : r.2.length ≤ 9223372036854775807) (hn : isRole r = false) :
    Calls Try.prog 21 #[p, roleV r] w fun e w' => e = .returned (.bool false) ∧ Chg (fun _ => False) w w' := by
  obtain ⟨o, x⟩ := r
  have hc : Chg (fun _ => False) w (w.alloc (.cells #[.string ⟨o.toArray⟩, .string ⟨x.toArray⟩] 24)) := (Chg.refl _ w).alloc _
  show Calls Try.prog 21 #[p, .agg #[.string ⟨o.toArray⟩, .string ⟨x.toArray⟩]] w _
  go_enter Try.func21, Try.ntmps21
  go_wp2_with fail
  refine (pright (o, x) _ h1 h2).mono ?_
  rintro e w1 ⟨rfl, hc1⟩
  rw [hn]
  have HC := hid (hc.trans hc1 (fun _ _ h => h))
  clear hc hc1
  go_wp2
  go_ret
  exact ⟨rfl, HC.out⟩

theorem pput_nil (r : RoleB) (w : World) (h1 : r.1.length ≤ 9223372036854775807) (h2 : r.2.length ≤ 9223372036854775807) :
    Calls Try.prog 21 #[.pointer none, roleV r] w fun e w' => e = .returned (.bool false) ∧ Chg (fun _ => False) w w' := by
  cases hn : isRole r with
  | false => exact pput_no _ r w h1 h2 hn
  | true =>
    obtain ⟨o, x⟩ := r
    have hc : Chg (fun _ => False) w (w.alloc (.cells #[.string ⟨o.toArray⟩, .string ⟨x.toArray⟩] 24)) := (Chg.refl _ w).alloc _
    have hA := heap_alloc_new w (.cells #[.string ⟨o.toArray⟩, .string ⟨x.toArray⟩] 24)
    show Calls Try.prog 21 #[.pointer none, .agg #[.string ⟨o.toArray⟩, .string ⟨x.toArray⟩]] w _
    go_enter Try.func21, Try.ntmps21
    go_wp2_with fail
    refine (pright (o, x) _ h1 h2).mono ?_
    rintro e w1 ⟨rfl, hc1⟩
    rw [hn]
    have hA1 := blk_keep hA hc1 id
    have hcw := hc.trans hc1 (fun _ _ h => h)
    have a0 := cell_blk hA1 0
    simp only [List.getElem?_toArray, List.getElem?_cons_zero] at a0
    clear hc hc1 hA hA1
    go_wp2_with fail
    refine (put_nil o w1 h1).mono ?_
    rintro e w2 ⟨rfl, hc2⟩
    have HC := hid (hcw.trans hc2 (fun _ _ h => h))
    clear hcw hc2
    go_wp2
    go_ret
    exact ⟨rfl, HC.out⟩

set_option maxRecDepth 100000 in
theorem pput_yes (B P cap : Nat) (ao : Option Addr) (zs : List UInt8) (r : RoleB) (w : World) (hp : PenAt B w P ao cap zs) (hB : B ≤ w.heap.size) (hPB : P < B) (hx : zs.length ≤ 999000) (hn : isRole r = true) :
    Calls Try.prog 21 #[.pointer (some ⟨P, 0, none⟩), roleV r] w fun e w' => e = .returned (.bool true) ∧ PenPost B P ao (zs ++ roleEnc r) w w' := by
  obtain ⟨o, x⟩ := r
  have hl := role_len hn
  have hn2 : isName o = true ∧ isName x = true := by simpa [isRole] using hn
  dsimp only at hl
  have hc : Chg (fun _ => False) w (w.alloc (.cells #[.string ⟨o.toArray⟩, .string ⟨x.toArray⟩] 24)) := (Chg.refl _ w).alloc _
  have hA := heap_alloc_new w (.cells #[.string ⟨o.toArray⟩, .string ⟨x.toArray⟩] 24)
  have hPl := lt_blk hp.cell
  have hrow0 : ∀ k, rowOf ao = some k → B ≤ k ∧ k < w.heap.size := fun k hk => hp.row.lt k ((rowOf_block _ _ _).trans hk)
  have hp1 := hp.keep hc id (fun _ _ => id)
  show Calls Try.prog 21 #[.pointer (some ⟨P, 0, none⟩), .agg #[.string ⟨o.toArray⟩, .string ⟨x.toArray⟩]] w _
  go_enter Try.func21, Try.ntmps21
  go_wp2_with fail
  refine (pright (o, x) _ (by show o.length ≤ _; omega) (by show x.length ≤ _; omega)).mono ?_
  rintro e w1 ⟨rfl, hc1⟩
  rw [hn]
  have hA1 := blk_keep hA hc1 id
  have hp2 := hp1.keep hc1 id (fun _ _ => id)
  have hcw := hc.trans hc1 (fun _ _ h => h)
  have a0 := cell_blk hA1 0
  simp only [List.getElem?_toArray, List.getElem?_cons_zero] at a0
  clear hc hc1 hA hp1
  have hs1 := hcw.size
  go_wp2_with fail
  refine (put_yes B P cap ao zs o w1 hp2 (by omega) hPB (by omega) hn2.1).mono ?_
  rintro e w2 ⟨rfl, ao2, cap2, hp3, hch⟩
  have hA2 := blk_keep hA1 hch.chg (fun h => h.elim (fun h => by omega) (fun h => by have := (hrow0 _ h).2; omega))
  have hs2 := hch.chg.size
  have a1 := cell_blk hA2 1
  simp only [List.getElem?_toArray, List.getElem?_cons_zero, List.getElem?_cons_succ] at a1
  have hel : (enc o.length ++ o).length ≤ 32 := by rw [enc_small (by omega)]; simp; omega
  clear a0 hA1 hp2 hA2
  go_wp2_with fail
  refine (put_yes B P cap2 ao2 (zs ++ (enc o.length ++ o)) x w2 hp3 (by omega) hPB (by rw [List.length_append]; omega) hn2.2).mono ?_
  rintro e w3 ⟨rfl, ao3, cap3, hp4, hch2⟩
  have HH := hid (And.intro hp4 (And.intro hch2 (And.intro hch hcw)))
  clear hp3 hp4 hch hch2 hcw a1
  go_wp2
  go_ret
  obtain ⟨h4, h5, h6, h7⟩ := HH.out
  refine ⟨rfl, ao3, cap3, by rw [List.append_assoc] at h4; exact h4, ?_⟩
  have h8 := h6.trans h5
  refine ⟨(h7.mono (fun _ _ h => h.elim)).trans h8.chg (fun i _ h => h), ?_⟩
  rcases h8.row with h | ⟨g, k1, k2⟩
  · exact .inl h
  · have := h7.size
    exact .inr ⟨g, k1, by omega⟩
/-- Get of a role, of an open reader. -/
def GetOkR (D : Nat → Prop) (R : Nat) (l : List UInt8) (w : World) (e : Ending) (w' : World) : Prop :=
  e = .returned (roleV (roleOf l)) ∧ ∃ v', BytesAt D w' v' (roleRest l) ∧ ReaderAt w' R true v' 0 ∧ Chg (· = R) w w'

set_option maxRecDepth 100000 in
theorem pget_reads {D : Nat → Prop} {R : Nat} {v : Value} {l : List UInt8} {w : World} (hl : l.length ≤ 140737488355328) (hv : BytesAt D w v l) (hDR : ¬ D R) (hDl : ∀ i, D i → i < w.heap.size) (hR : ReaderAt w R true v 0) (hok : roleOk l = true) :
    Calls Try.prog 25 #[.pointer (some ⟨R, 0, none⟩)] w (GetOkR D R l w) := by
  have hok' : nameOk l = true ∧ nameOk (nameRest l) = true := by simpa [roleOk] using hok
  have hl1 := nameRest_len l
  clear hok
  have hc0 : Chg (fun _ => False) w (w.alloc (.cells #[.string ⟨#[]⟩, .string ⟨#[]⟩] 24)) := (Chg.refl _ w).alloc _
  have hC := heap_alloc_new w (.cells #[.string ⟨#[]⟩, .string ⟨#[]⟩] 24)
  have hR0 : ReaderAt _ R true v 0 := blk_keep hR hc0 id
  have hRC : R < w.heap.size := lt_blk hR
  have hv0 := hv.keep hc0 (fun _ _ => id)
  go_enter Try.func25, Try.ntmps25
  go_wp2_with fail
  generalize w.alloc (.cells #[.string ⟨#[]⟩, .string ⟨#[]⟩] 24) = w1 at *
  generalize hCC : w.heap.size = C at *
  refine (get_reads hl hv0 hDR hR0 hok'.1).mono ?_
  rintro e w2 ⟨rfl, v2, hv2, hR2, hc2⟩
  have hC2 := blk_keep hC hc2 (by omega)
  go_wp2_with fail
  refine (get_reads (by omega) hv2 hDR hR2 hok'.2).mono ?_
  rintro e w3 ⟨rfl, v3, hv3, hR3, hc3⟩
  have hC3 := blk_keep hC2 hc3 (by omega)
  have q0 := cell_blk hC3 0
  have q1 := cell_blk hC3 1
  have f0 := froz_blk hC3 0
  have f1 := froz_blk hC3 1
  simp only [List.getElem?_toArray, List.getElem?_cons_zero, List.getElem?_cons_succ] at q0 q1
  have hcw : Chg (· = R) w w3 := ((hc0.mono (fun _ _ h => h.elim)).trans hc2 (fun _ _ h => h)).trans hc3 (fun _ _ h => h)
  have HR : Hid (roleOf l = (nameOf l, nameOf (nameRest l))) := rfl
  have HRR : Hid (roleRest l = nameRest (nameRest l)) := rfl
  clear hv hR hR0 hv0 hc0 hC hv2 hR2 hc2 hC2 hc3 hok'
  generalize nameOf l = o at *
  generalize nameOf (nameRest l) = x at *
  generalize nameRest (nameRest l) = rest at *
  have hs1 := setCell_chg w3 C 0 (.string ⟨o.toArray⟩)
  have hs2 := setCell_chg (w3.setCell ⟨C, 0, none⟩ (.string ⟨o.toArray⟩)) C 1 (.string ⟨x.toArray⟩)
  have hsR : ReaderAt ((w3.setCell ⟨C, 0, none⟩ (.string ⟨o.toArray⟩)).setCell ⟨C, 1, none⟩ (.string ⟨x.toArray⟩)) R true v3 0 := blk_keep (blk_keep hR3 hs1 (by omega)) hs2 (by omega)
  have hsv := (hv3.keep hs1 (fun i hi h => by have := hDl i hi; omega)).keep hs2 (fun i hi h => by have := hDl i hi; omega)
  have hch : Chg (· = R) w ((w3.setCell ⟨C, 0, none⟩ (.string ⟨o.toArray⟩)).setCell ⟨C, 1, none⟩ (.string ⟨x.toArray⟩)) := (hcw.trans hs1 (fun i hi h => by omega)).trans hs2 (fun i hi h => by omega)
  have hD : ((w3.setCell ⟨C, 0, none⟩ (.string ⟨o.toArray⟩)).setCell ⟨C, 1, none⟩ (.string ⟨x.toArray⟩)).heap[C]? = some (.cells #[.string ⟨o.toArray⟩, .string ⟨x.toArray⟩] 24 (0, 0)) := set_blk (set_blk hC3 0 (.string ⟨o.toArray⟩)) 1 (.string ⟨x.toArray⟩)
  have HH := hid (And.intro hD (And.intro hsv (And.intro hsR hch)))
  clear hs1 hs2 hsR hch hcw hR3 hv3 hC3 hD hsv
  go_wp2
  refine bodyPost_ret (results_cell_row (P := Try.prog) rfl _ _ C 24 _ (0, 0) _ rfl HH.out.1 Try.underlying24 rfl (by kernel_rfl)) rfl ?_
  exact ⟨by rw [HR.out]; rfl, v3, by rw [HRR.out]; exact HH.out.2.1, HH.out.2.2⟩

set_option maxRecDepth 100000 in
theorem pget_stops {D : Nat → Prop} {R : Nat} {v : Value} {l : List UInt8} {w : World} (hl : l.length ≤ 140737488355328) (hv : BytesAt D w v l) (hDR : ¬ D R) (hR : ReaderAt w R true v 0) (hok : roleOk l = false) :
    Calls Try.prog 25 #[.pointer (some ⟨R, 0, none⟩)] w (Stops R (roleBad l) w) := by
  have hl1 := nameRest_len l
  have hc0 : Chg (fun _ => False) w (w.alloc (.cells #[.string ⟨#[]⟩, .string ⟨#[]⟩] 24)) := (Chg.refl _ w).alloc _
  have hR0 : ReaderAt _ R true v 0 := blk_keep hR hc0 id
  have hv0 := hv.keep hc0 (fun _ _ => id)
  have hc0' : Chg (· = R) w (w.alloc (.cells #[.string ⟨#[]⟩, .string ⟨#[]⟩] 24)) := hc0.mono (fun _ _ h => h.elim)
  cases h1 : nameOk l with
  | false =>
    have hb : roleBad l = nameBad l := by rw [roleBad, if_neg (by rw [h1]; decide)]
    rw [hb]
    have hst := get_stops hl hv0 hDR hR0 h1
    generalize nameBad l = bad at *
    clear hb h1 hok
    go_enter Try.func25, Try.ntmps25
    go_wp2_with fail
    refine hst.mono ?_
    rintro e w2 ⟨rfl, ao, m, cp, hr, hc⟩
    exact ⟨rfl, rfl, ao, m, cp, hr, hc0'.trans hc (fun _ _ h => h)⟩
  | true =>
    have h2 : nameOk (nameRest l) = false := by simpa [roleOk, h1] using hok
    have hb : roleBad l = nameBad (nameRest l) := by rw [roleBad, if_pos h1]
    rw [hb]
    have hrd := get_reads hl hv0 hDR hR0 h1
    go_enter Try.func25, Try.ntmps25
    go_wp2_with fail
    refine hrd.mono ?_
    rintro e w2 ⟨rfl, v2, hv2, hR2, hc2⟩
    have hst := get_stops (by omega) hv2 hDR hR2 h2
    have hcw := hc0'.trans hc2 (fun _ _ h => h)
    clear hb h1 h2 hok hrd hc0 hc0' hR0 hv0 hc2 hv hR hv2 hR2
    generalize nameBad (nameRest l) = bad at *
    generalize nameOf l = o at *
    go_wp2_with fail
    refine hst.mono ?_
    rintro e w3 ⟨rfl, ao, m, cp, hr, hc⟩
    exact ⟨rfl, rfl, ao, m, cp, hr, hcw.trans hc (fun _ _ h => h)⟩
end Go.Proofs.Ytdlpddpdobiebaa

/-
  DERIVED: THE SHELF's CONTRACTS AT THIS DUMP, IN PLAIN WORDS (tools/lay-plain.mjs out of 'TryShelfStr.lean', which tools/lay-shelf.mjs wrote): THE SAME DECLARATIONS UNDER THE SAME NAMES: 'import', 'namespace', 'open', 'def', 'theorem' AND NOTHING ELSE: no command of the shelf's: FOR A HAND-IN. Each laying: the table of numbers ('.._ren') and one theorem, a field a fact of the dump's own or the kernel's comparison; each contract: ONE APPLICATION.
-/
namespace Go.Proofs
open Go.Shelf
def Try.lays213_ren : Go.Shelf.Ren := ⟨fun | 213 => 47 | 265 => 59 | n => n, fun | 9 => 9 | 3 => 3 | n => n, fun | n => n⟩
theorem Try.lays213 : Go.Proofs.Lays.n213 Try.prog Try.lays213_ren := {
  mixed := by kernel_rfl
  f213 := Try.func47.trans (congrArg some (by kernel_rfl))
  f265 := Try.func59.trans (congrArg some (by kernel_rfl))
  t3 := Try.underlying3
  a3 := Try.isAgg3
  z3 := Try.sizeOf3
  v3 := Try.zeroValue3
  t9 := Try.underlying9
  a9 := Try.isAgg9
  z9 := Try.sizeOf9
  v9 := Try.zeroValue9 }
open Go.RowKit in
/-- internal/bytealg.CompareString (what strings.Compare calls): IT RETURNS 'Lib.compareBytes a b'; the world is as it was. (LAID: no walk: one application.) -/
theorem Try.bytealg_CompareString (a b : ByteArray) (w : World) :
    Calls Try.prog 47 #[.string a, .string b] w fun e w' => e = .returned (.int .i64 (Lib.compareBytes a.data.toList b.data.toList)) ∧ w' = w := Any.bytealg_CompareString Try.lays213 a b w
def Try.lays106_ren : Go.Shelf.Ren := ⟨fun | 106 => 32 | 213 => 47 | 265 => 59 | n => n, fun | 9 => 9 | 3 => 3 | n => n, fun | n => n⟩
theorem Try.lays106 : Go.Proofs.Lays.n106 Try.prog Try.lays106_ren := {
  mixed := by kernel_rfl
  f106 := Try.func32.trans (congrArg some (by kernel_rfl))
  f213 := Try.func47.trans (congrArg some (by kernel_rfl))
  f265 := Try.func59.trans (congrArg some (by kernel_rfl))
  t3 := Try.underlying3
  a3 := Try.isAgg3
  z3 := Try.sizeOf3
  v3 := Try.zeroValue3
  t9 := Try.underlying9
  a9 := Try.isAgg9
  z9 := Try.sizeOf9
  v9 := Try.zeroValue9 }
open Go.RowKit in
/-- strings.Compare: "Compare returns an integer comparing two strings lexicographically. The result will be 0 if a == b, -1 if a < b, and +1 if a > b.": IT RETURNS 'Lib.compareBytes a b'; the world is as it was. (LAID: no walk: one application.) -/
theorem Try.strings_Compare (a b : ByteArray) (w : World) :
    Calls Try.prog 32 #[.string a, .string b] w fun e w' => e = .returned (.int .i64 (Lib.compareBytes a.data.toList b.data.toList)) ∧ w' = w := Any.strings_Compare Try.lays106 a b w
def Try.lays219_ren : Go.Shelf.Ren := ⟨fun | 219 => 58 | 217 => 75 | 225 => 76 | 224 => 77 | 267 => 78 | 266 => 84 | 314 => 85 | n => n, fun | 9 => 9 | 3 => 3 | 4 => 4 | 5 => 5 | 46 => 77 | 146 => 106 | 51 => 92 | n => n, fun | 1 => 0 | n => n⟩
theorem Try.lays219 : Go.Proofs.Lays.n219 Try.prog Try.lays219_ren := {
  mixed := by kernel_rfl
  f217 := Try.func75.trans (congrArg some (by kernel_rfl))
  f219 := Try.func58.trans (congrArg some (by kernel_rfl))
  f224 := Try.func77.trans (congrArg some (by kernel_rfl))
  f225 := Try.func76.trans (congrArg some (by kernel_rfl))
  f266 := Try.func84.trans (congrArg some (by kernel_rfl))
  f267 := Try.func78.trans (congrArg some (by kernel_rfl))
  f314 := Try.func85.trans (congrArg some (by kernel_rfl))
  t3 := Try.underlying3
  a3 := Try.isAgg3
  z3 := Try.sizeOf3
  v3 := Try.zeroValue3
  t4 := Try.underlying4
  a4 := Try.isAgg4
  z4 := Try.sizeOf4
  v4 := Try.zeroValue4
  t5 := Try.underlying5
  a5 := Try.isAgg5
  z5 := Try.sizeOf5
  v5 := Try.zeroValue5
  t9 := Try.underlying9
  a9 := Try.isAgg9
  z9 := Try.sizeOf9
  v9 := Try.zeroValue9
  t46 := Try.underlying77
  a46 := Try.isAgg77
  z46 := Try.sizeOf77
  v46 := Try.zeroValue77
  t51 := Try.underlying92
  a51 := Try.isAgg92
  z51 := Try.sizeOf92
  v51 := Try.zeroValue92
  t146 := Try.underlying106
  a146 := Try.isAgg106
  z146 := Try.sizeOf106
  v146 := Try.zeroValue106
  g1 := by kernel_rfl }
open Go.RowKit Go.Lib in
/-- internal/stringslite.Index (what strings.Index calls) AT A substr OF ONE BYTE c: IT RETURNS 'Lib.indexByte s c'; the world is as it was. (LAID: no walk: one application.) -/
theorem Try.stringslite_Index_one (s : ByteArray) (c : UInt8) (w : World) :
    Calls Try.prog 58 #[.string s, .string ⟨#[c]⟩] w fun e w' => e = .returned (.int .i64 (Lib.indexByte s.data.toList c)) ∧ w' = w := Any.stringslite_Index_one Try.lays219 s c w
end Go.Proofs
