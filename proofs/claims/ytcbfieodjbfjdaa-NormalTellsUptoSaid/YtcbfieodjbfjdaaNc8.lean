/- Texts that the proof leans on, in one: NmPut, NmGet, RefGet, RoleBytes, TapeBad, RoleGet, RoleProg, RoleEqL, FmRight, FmIs. -/
import Derived.Test.YtcbfieodjbfjdaaNc7
import Derived.Test.YtcbfieodjbfjdaaNc1
import Derived.Test.YtcbfieodjbfjdaaNc6
import Derived.Test.YtcbfieodjbfjdaaNc2
import Derived.Test.YtcbfieodjbfjdaaNc3
/- The contracts of the program's Put and Get. -/
namespace Go.Proofs.Ytcbfieodjbfjdaa
open Go.RowKit

theorem name_len {s : List UInt8} (hn : isName s = true) : 0 < s.length ∧ s.length ≤ 16 := by
  cases s with
  | nil => cases hn
  | cons c l =>
    simp only [isName, Bool.and_eq_true, decide_eq_true_eq] at hn
    simp
    omega

set_option maxRecDepth 100000 in
theorem put_yes (B P cap : Nat) (ao : Option Addr) (zs s : List UInt8) (w : World) (hp : PenAt B w P ao cap zs) (hB : B ≤ w.heap.size) (hPB : P < B) (hx : zs.length ≤ 1000000) (hn : isName s = true) :
    Calls Try.prog 149 #[.pointer (some ⟨P, 0, none⟩), .string ⟨s.toArray⟩] w fun e w' => e = .returned (.bool true) ∧ PenPost B P ao (zs ++ (enc s.length ++ s)) w w' := by
  have hl := name_len hn
  have hcv := conv_str s w
  have hg1 := grownCap_ge w s.length 0 5
  have hg2 := grownCap_le_maxLen w s.length 0 5 (by unfold maxLen; omega)
  have hba := bytes_of s w.drew (grownCap w s.length 0 5) hg1 hg2 ((bytesRow ⟨s.toArray⟩ (grownCap w s.length 0 5)).size, (bytesRow ⟨s.toArray⟩ (grownCap w s.length 0 5)).size + 1)
  have hPw := lt_blk hp.cell
  have hrow : ∀ k, rowOf ao = some k → k < w.heap.size := fun k hk => (hp.row.lt k ((rowOf_block _ _ _).trans hk)).2
  have hc3 : Chg (fun _ => False) w (w.drew.alloc (.cells (bytesRow ⟨s.toArray⟩ (grownCap w s.length 0 5)) 5 ((bytesRow ⟨s.toArray⟩ (grownCap w s.length 0 5)).size, (bytesRow ⟨s.toArray⟩ (grownCap w s.length 0 5)).size + 1))) := ((Chg.refl _ w).drew).alloc _
  have hp3 := hp.keep hc3 id (fun _ _ => id)
  have hs3 := hc3.size
  have htx := text_any B P cap ao zs s _ _ hp3 (by omega) hPB (by omega) (by omega) hba (fun i hi => by subst hi; exact ⟨by show w.heap.size ≠ P; omega, fun e => by have := hrow _ e; exact absurd this (Nat.lt_irrefl _)⟩)
  have HC := hid hc3
  clear hc3 hp3 hba hg1 hg2 hs3 hrow hp
  go_enter Try.func149, Try.ntmps149
  go_wp2_with (first
    | (go_at_call 103; refine (right_any s _ (by omega)).mono ?_; rintro e w' ⟨rfl, rfl⟩; rw [hn])
    | (go_at_call 150; refine htx.mono ?_; rintro e w' ⟨rfl, ao', cap', hp', hch⟩))
  go_ret
  refine ⟨rfl, ao', cap', hp', ⟨(HC.out.mono (fun _ _ h => h.elim)).trans hch.chg (fun i _ h => h), ?_⟩⟩
  rcases hch.row with h | ⟨g, h1, h2⟩
  · exact .inl h
  · have := HC.out.size
    exact .inr ⟨g, h1, by omega⟩
end Go.Proofs.Ytcbfieodjbfjdaa

/- The contract of the program's Get, of an open reader and of none. -/
namespace Go.Proofs.Ytcbfieodjbfjdaa
open Go.RowKit

end Go.Proofs.Ytcbfieodjbfjdaa

/- The contract of the document's Get (layer 3), and what End says then. -/
namespace Go.Proofs.Ytcbfieodjbfjdaa
open Go.RowKit

end Go.Proofs.Ytcbfieodjbfjdaa

/- The contracts of the document's Bytes and Get of layer 4. -/
namespace Go.Proofs.Ytcbfieodjbfjdaa
open Go.RowKit

/-- A role's bytes. -/
def roleEnc (r : RoleB) : List UInt8 := (enc r.1.length ++ r.1) ++ (enc r.2.length ++ r.2)

def bytesSpecs (A : Nat) (o x : List UInt8) : List Spec := [.any, .eq (.pointer (some ⟨A, 0, none⟩)), .eq (.string ⟨(roleEnc (o, x)).toArray⟩), .eq (.pointer (some ⟨A, 0, none⟩)), .eq (.string ⟨o.toArray⟩), .eq (.string ⟨(enc o.length ++ o).toArray⟩), .eq (.pointer (some ⟨A, 1, none⟩)), .eq (.string ⟨x.toArray⟩), .eq (.string ⟨(enc x.length ++ x).toArray⟩), .eq (.string ⟨(roleEnc (o, x)).toArray⟩)]

set_option maxRecDepth 100000 in
theorem rbytes_ref (r : RoleB) (w : World) (h1 : r.1.length ≤ 1048576) (h2 : r.2.length ≤ 1048576) :
    Calls Try.prog 123 #[roleV r] w fun e w' => e = .returned (.string ⟨(roleEnc r).toArray⟩) ∧ Chg (fun _ => False) w w' := by
  obtain ⟨o, x⟩ := r
  dsimp only at h1 h2
  have hc : Chg (fun _ => False) w (w.alloc (.cells #[.string ⟨o.toArray⟩, .string ⟨x.toArray⟩] 23)) := (Chg.refl _ w).alloc _
  have hA := heap_alloc_new w (.cells #[.string ⟨o.toArray⟩, .string ⟨x.toArray⟩] 23)
  have a0 := cell_blk hA 0
  have a1 := cell_blk hA 1
  simp only [List.getElem?_toArray, List.getElem?_cons_zero, List.getElem?_cons_succ] at a0 a1
  have l1 := enc_length9 (n := o.length) (by omega)
  have l2 := enc_length9 (n := x.length) (by omega)
  show Calls Try.prog 123 #[.agg #[.string ⟨o.toArray⟩, .string ⟨x.toArray⟩]] w _
  go_enter Try.func123, Try.ntmps123
  go_wp2_with fail
  clear hA
  generalize w.alloc (.cells #[.string ⟨o.toArray⟩, .string ⟨x.toArray⟩] 23) = w1 at *
  generalize w.heap.size = A at *
  refine wp_region_specs (bytesSpecs A o x) [3, 4, 5, 6, 7, 8, 9, 2] [1] (by kernel_rfl) (by kernel_rfl) (by rfl) (by kernel_rfl) ?start ?obs ?fin
  case start =>
    simp only [List.forall_mem_cons]
    exact ⟨⟨_, rfl, rfl⟩, fun _ h => by cases h⟩
  case obs =>
    clear hc
    refine Obs.cons none (by kernel_rfl) ?_ ?_
    · refine Ob.plain fun a w hR hk K k => ?_
      obtain ⟨_, e1, rfl⟩ := hk 1 (by decide)
      clear hk
      go_simp
      exact k _ _ (Chg.refl _ _) rfl
    refine Obs.cons none (by kernel_rfl) ?_ ?_
    · refine Ob.plain fun a w hR hk K k => ?_
      obtain ⟨_, e3, rfl⟩ := hk 3 (by decide)
      clear hk
      have q0 := hR.cell a0 id
      go_simp
      exact k _ _ (Chg.refl _ _) rfl
    refine Obs.cons none (by kernel_rfl) ?_ ?_
    · refine Ob.plain fun a w hR hk K k => ?_
      obtain ⟨_, e4, rfl⟩ := hk 4 (by decide)
      clear hk
      go_simp
      refine (reftext_any o _ (by omega)).mono ?_
      rintro e w2 ⟨rfl, hc⟩
      exact k _ _ hc rfl
    refine Obs.cons none (by kernel_rfl) ?_ ?_
    · refine Ob.plain fun a w hR hk K k => ?_
      obtain ⟨_, e1, rfl⟩ := hk 1 (by decide)
      clear hk
      go_simp
      exact k _ _ (Chg.refl _ _) rfl
    refine Obs.cons none (by kernel_rfl) ?_ ?_
    · refine Ob.plain fun a w hR hk K k => ?_
      obtain ⟨_, e6, rfl⟩ := hk 6 (by decide)
      clear hk
      have q0 := hR.cell a1 id
      go_simp
      exact k _ _ (Chg.refl _ _) rfl
    refine Obs.cons none (by kernel_rfl) ?_ ?_
    · refine Ob.plain fun a w hR hk K k => ?_
      obtain ⟨_, e7, rfl⟩ := hk 7 (by decide)
      clear hk
      go_simp
      refine (reftext_any x _ (by omega)).mono ?_
      rintro e w2 ⟨rfl, hc⟩
      exact k _ _ hc rfl
    refine Obs.cons none (by kernel_rfl) ?_ ?_
    · refine Ob.plain fun a w hR hk K k => ?_
      obtain ⟨_, e5, rfl⟩ := hk 5 (by decide)
      obtain ⟨_, e8, rfl⟩ := hk 8 (by decide)
      clear hk
      obtain ⟨u, hu⟩ : ∃ u, u = enc o.length ++ o := ⟨_, rfl⟩
      obtain ⟨v, hv⟩ : ∃ v, v = enc x.length ++ x := ⟨_, rfl⟩
      have hul : ¬ 9223372036854775807 < u.length + v.length := by rw [hu, hv, List.length_append, List.length_append]; omega
      rw [← hu] at e5
      rw [← hv] at e8
      have HU := hid (And.intro hu hv)
      clear hu hv
      go_simp
      exact k _ _ (Chg.refl _ _) (congrArg Value.string ((ByteArray.mk_append_mk u v).trans (by rw [HU.out.1, HU.out.2]; rfl)))
    refine Obs.cons none (by kernel_rfl) ?_ ?_
    · refine Ob.plain fun a w hR hk K k => ?_
      obtain ⟨_, e9, f9⟩ := hk 9 (by decide)
      clear hk
      go_simp
      exact k _ _ (Chg.refl _ _) f9
    exact Obs.nil
  case fin =>
    intro vals w9 hc9 hv
    have h6 : vals 2 = .string ⟨(roleEnc (o, x)).toArray⟩ := hv 2 (by decide)
    simp only [putAll, List.setIfInBounds_toArray, List.set_cons_zero, List.set_cons_succ, h6]
    go_wp2
    go_ret
    exact ⟨rfl, hc.trans hc9 (fun _ _ h => h)⟩
end Go.Proofs.Ytcbfieodjbfjdaa

/- The document's tape behind an error: nothing more comes; its Get of a name, told by nameOk. -/
namespace Go.Proofs.Ytcbfieodjbfjdaa
open Go.RowKit

end Go.Proofs.Ytcbfieodjbfjdaa

/- The contract of the document's Get of layer 4. -/
namespace Go.Proofs.Ytcbfieodjbfjdaa
open Go.RowKit

end Go.Proofs.Ytcbfieodjbfjdaa

/- The contracts of the program's Right, Text, Put, Get of layer 4. -/
namespace Go.Proofs.Ytcbfieodjbfjdaa
open Go.RowKit

theorem role_len {r : RoleB} (h : isRole r = true) : r.1.length ≤ 16 ∧ r.2.length ≤ 16 := by
  simp only [isRole, Bool.and_eq_true] at h
  exact ⟨(isName_len h.1).2, (isName_len h.2).2⟩

theorem pright (r : RoleB) (w : World) (h1 : r.1.length ≤ 9223372036854775807) (h2 : r.2.length ≤ 9223372036854775807) :
    Calls Try.prog 83 #[roleV r] w fun e w' => e = .returned (.bool (isRole r)) ∧ Chg (fun _ => False) w w' := by
  obtain ⟨o, x⟩ := r
  have hc : Chg (fun _ => False) w (w.alloc (.cells #[.string ⟨o.toArray⟩, .string ⟨x.toArray⟩] 23)) := (Chg.refl _ w).alloc _
  have HC := hid hc
  clear hc
  show Calls Try.prog 83 #[.agg #[.string ⟨o.toArray⟩, .string ⟨x.toArray⟩]] w _
  cases ho : isName o with
  | false =>
    have hh : Hid (isRole (o, x) = false) := hid (by simp [isRole, ho])
    go_enter Try.func83, Try.ntmps83
    go_wp2_with fail
    refine (right_any o _ h1).mono ?_
    rintro e w' ⟨rfl, rfl⟩
    rw [ho]
    go_wp2
    go_ret
    exact ⟨by rw [hh.out]; rfl, HC.out⟩
  | true =>
    have hh : Hid (isRole (o, x) = isName x) := hid (by simp [isRole, ho])
    go_enter Try.func83, Try.ntmps83
    go_wp2_with fail
    refine (right_any o _ h1).mono ?_
    rintro e w' ⟨rfl, rfl⟩
    rw [ho]
    go_wp2_with fail
    refine (right_any x _ h2).mono ?_
    rintro e w' ⟨rfl, rfl⟩
    go_wp2
    go_ret
    exact ⟨by rw [hh.out]; rfl, HC.out⟩

set_option maxRecDepth 100000 in
theorem pput_yes (B P cap : Nat) (ao : Option Addr) (zs : List UInt8) (r : RoleB) (w : World) (hp : PenAt B w P ao cap zs) (hB : B ≤ w.heap.size) (hPB : P < B) (hx : zs.length ≤ 999000) (hn : isRole r = true) :
    Calls Try.prog 147 #[.pointer (some ⟨P, 0, none⟩), roleV r] w fun e w' => e = .returned (.bool true) ∧ PenPost B P ao (zs ++ roleEnc r) w w' := by
  obtain ⟨o, x⟩ := r
  have hl := role_len hn
  have hn2 : isName o = true ∧ isName x = true := by simpa [isRole] using hn
  dsimp only at hl
  have hc : Chg (fun _ => False) w (w.alloc (.cells #[.string ⟨o.toArray⟩, .string ⟨x.toArray⟩] 23)) := (Chg.refl _ w).alloc _
  have hA := heap_alloc_new w (.cells #[.string ⟨o.toArray⟩, .string ⟨x.toArray⟩] 23)
  have hPl := lt_blk hp.cell
  have hrow0 : ∀ k, rowOf ao = some k → B ≤ k ∧ k < w.heap.size := fun k hk => hp.row.lt k ((rowOf_block _ _ _).trans hk)
  have hp1 := hp.keep hc id (fun _ _ => id)
  show Calls Try.prog 147 #[.pointer (some ⟨P, 0, none⟩), .agg #[.string ⟨o.toArray⟩, .string ⟨x.toArray⟩]] w _
  go_enter Try.func147, Try.ntmps147
  go_wp2_with fail
  refine (pright (o, x) _ (by show o.length ≤ _; omega) (by show x.length ≤ _; omega)).mono ?_
  rintro e w1 ⟨rfl, hc1⟩
  rw [hn]
  have hA1 := blk_keep hA hc1 id
  have hp2 := hp1.keep hc1 id (fun _ _ => id)
  have hcw := hc.trans hc1 (fun _ _ h => h)
  have a0 := cell_blk hA1 0
  simp only [List.getElem?_toArray, List.getElem?_cons_zero] at a0
  clear hc hc1 hA hp1
  have hs1 := hcw.size
  go_wp2_with fail
  refine (put_yes B P cap ao zs o w1 hp2 (by omega) hPB (by omega) hn2.1).mono ?_
  rintro e w2 ⟨rfl, ao2, cap2, hp3, hch⟩
  have hA2 := blk_keep hA1 hch.chg (fun h => h.elim (fun h => by omega) (fun h => by have := (hrow0 _ h).2; omega))
  have hs2 := hch.chg.size
  have a1 := cell_blk hA2 1
  simp only [List.getElem?_toArray, List.getElem?_cons_zero, List.getElem?_cons_succ] at a1
  have hel : (enc o.length ++ o).length ≤ 32 := by rw [enc_small (by omega)]; simp; omega
  clear a0 hA1 hp2 hA2
  go_wp2_with fail
  refine (put_yes B P cap2 ao2 (zs ++ (enc o.length ++ o)) x w2 hp3 (by omega) hPB (by rw [List.length_append]; omega) hn2.2).mono ?_
  rintro e w3 ⟨rfl, ao3, cap3, hp4, hch2⟩
  have HH := hid (And.intro hp4 (And.intro hch2 (And.intro hch hcw)))
  clear hp3 hp4 hch hch2 hcw a1
  go_wp2
  go_ret
  obtain ⟨h4, h5, h6, h7⟩ := HH.out
  refine ⟨rfl, ao3, cap3, by rw [List.append_assoc] at h4; exact h4, ?_⟩
  have h8 := h6.trans h5
  refine ⟨(h7.mono (fun _ _ h => h.elim)).trans h8.chg (fun i _ h => h), ?_⟩
  rcases h8.row with h | ⟨g, k1, k2⟩
  · exact .inl h
  · have := h7.size
    exact .inr ⟨g, k1, by omega⟩
end Go.Proofs.Ytcbfieodjbfjdaa

/- Go's == at roles whose cells are told. -/
namespace Go.Proofs.Ytcbfieodjbfjdaa
open Go.RowKit

theorem run_eqg_role (x y : Operand) (a b : RoleB) (w : World) : Sem.run Try.prog (eqGuard BinOp.eql 23 x y (.agg #[.string ⟨a.1.toArray⟩, .string ⟨a.2.toArray⟩]) (.agg #[.string ⟨b.1.toArray⟩, .string ⟨b.2.toArray⟩])) w = .ok () w := by
  go_simp

theorem run_eql_role (a b : RoleB) (w : World) : Sem.run Try.prog (binOp BinOp.eql 23 (.agg #[.string ⟨a.1.toArray⟩, .string ⟨a.2.toArray⟩]) (.agg #[.string ⟨b.1.toArray⟩, .string ⟨b.2.toArray⟩])) w = .ok (.bool (decide (a = b))) w := by
  have : decide (a = b) = decide (a.1 = b.1 ∧ a.2 = b.2) := by simp only [Prod.ext_iff]
  rw [this]
  go_simp
  repeat' split
  all_goals simp_all
end Go.Proofs.Ytcbfieodjbfjdaa

/- Which formulas are right. -/
namespace Go.Proofs.Ytcbfieodjbfjdaa
open Go.RowKit

theorem run_neq_role (a b : RoleB) (w : World) : Sem.run Try.prog (binOp BinOp.neq 23 (.agg #[.string ⟨a.1.toArray⟩, .string ⟨a.2.toArray⟩]) (.agg #[.string ⟨b.1.toArray⟩, .string ⟨b.2.toArray⟩])) w = .ok (.bool (decide (a ≠ b))) w := by
  have : decide (a ≠ b) = decide (¬ (a.1 = b.1 ∧ a.2 = b.2)) := by simp only [ne_eq, Prod.ext_iff]
  rw [this]
  go_simp
  repeat' split
  all_goals simp_all

set_option maxRecDepth 100000 in
set_option maxHeartbeats 4000000 in
theorem fm_rightNode (op k : Int) (r : RoleB) (ao : Option Addr) (n cp : Nat) (w : World) (h1 : r.1.length ≤ 9223372036854775807) (h2 : r.2.length ≤ 9223372036854775807) (hn : n ≤ 9223372036854775807) :
    Calls Try.prog 74 #[.agg #[.int .i64 op, .int .i64 k, .string ⟨r.1.toArray⟩, .string ⟨r.2.toArray⟩, .slice ao n cp]] w fun e w' => e = .returned (.bool (rightN op k r n)) ∧ Chg (fun _ => False) w w' := by
  have hc : Chg (fun _ => False) w (w.alloc (.cells #[.int .i64 op, .int .i64 k, .string ⟨r.1.toArray⟩, .string ⟨r.2.toArray⟩, .slice ao n cp] 26)) := (Chg.refl _ w).alloc _
  have hb := heap_alloc_new w (.cells #[.int .i64 op, .int .i64 k, .string ⟨r.1.toArray⟩, .string ⟨r.2.toArray⟩, .slice ao n cp] 26)
  have s0 := cell_blk hb 0
  have s1 := cell_blk hb 1
  have s2 := cell_blk hb 2
  have s3 := cell_blk hb 3
  have s4 := cell_blk hb 4
  simp only [List.getElem?_toArray, List.getElem?_cons_zero, List.getElem?_cons_succ] at s0 s1 s2 s3 s4
  have HC := hid hc
  have HB := hid hb
  have HR := hid (fun w => pright r w h1 h2)
  clear hc hb h1 h2
  go_enter Try.func74, Try.ntmps74
  by_cases ho : op = 1
  · subst ho
    go_wp2_with fail
    refine (HR.out _).mono ?_
    rintro e w2 ⟨rfl, hc2⟩
    have hb2 := blk_keep HB.out hc2 id
    have HC2 := hid (HC.out.trans hc2 (fun _ _ h => h))
    clear s0 s1 s2 s3 s4 HC
    have HC := HC2
    have s1 := cell_blk hb2 1
    have s4 := cell_blk hb2 4
    simp only [List.getElem?_toArray, List.getElem?_cons_zero, List.getElem?_cons_succ] at s1 s4
    clear hb2 hc2 HR HB
    cases hr : isRole r with
    | false =>
      go_wp2
      go_ret
      exact ⟨by simp [rightN, hr], HC.out⟩
    | true =>
      by_cases hz : n = 0
      · subst hz
        by_cases hk : k = 0
        · subst hk
          go_wp2
          go_ret
          exact ⟨by simp [rightN, hr], HC.out⟩
        · have z1 : decide (k = 0) = false := decide_eq_false hk
          go_wp2
          go_ret
          exact ⟨by simp [rightN, hr, hk], HC.out⟩
      · have z1 : decide ((n : Int) = 0) = false := decide_eq_false (by omega)
        go_wp2
        go_ret
        exact ⟨by simp [rightN, hr, hz], HC.out⟩
  · have z0 : decide (op = 1) = false := decide_eq_false ho
    clear HR
    by_cases h8 : 8 < n
    · have z1 : decide ((8 : Int) < (n : Int)) = true := decide_eq_true (by omega)
      go_wp2
      go_ret
      exact ⟨by simp [rightN, ho, h8], HC.out⟩
    · have z1 : decide ((8 : Int) < (n : Int)) = false := decide_eq_false (by omega)
      by_cases hr : r = ([], [])
      · subst hr
        by_cases h2 : op = 2
        · subst h2
          by_cases hk : k = 0
          · subst hk
            go_wp2
            go_ret
            exact ⟨by simp [rightN, h8], HC.out⟩
          · have z2 : decide (k = 0) = false := decide_eq_false hk
            go_wp2
            go_ret
            exact ⟨by simp [rightN, h8, hk], HC.out⟩
        · have z2 : decide (op = 2) = false := decide_eq_false h2
          by_cases h3 : op = 3
          · subst h3
            by_cases hk : k = 0
            · subst hk
              go_wp2
              go_ret
              exact ⟨by simp [rightN, h8], HC.out⟩
            · have z2 : decide (k = 0) = false := decide_eq_false hk
              go_wp2
              go_ret
              exact ⟨by simp [rightN, h8, hk], HC.out⟩
          · have z3 : decide (op = 3) = false := decide_eq_false h3
            by_cases h4 : op = 4
            · subst h4
              by_cases hz : 0 < n
              · have z4 : decide ((0 : Int) < (n : Int)) = true := decide_eq_true (by omega)
                by_cases hk : 0 ≤ k
                · have z5 : decide ((0 : Int) ≤ k) = true := decide_eq_true hk
                  by_cases hm : k ≤ (n : Int)
                  · have z6 : decide (k ≤ (n : Int)) = true := decide_eq_true hm
                    go_wp2
                    go_ret
                    exact ⟨by simp [rightN, h8, hz, hk, hm], HC.out⟩
                  · have z6 : decide (k ≤ (n : Int)) = false := decide_eq_false hm
                    go_wp2
                    go_ret
                    exact ⟨by simp [rightN, h8, hz]; omega, HC.out⟩
                · have z5 : decide ((0 : Int) ≤ k) = false := decide_eq_false hk
                  go_wp2
                  go_ret
                  exact ⟨by simp [rightN, h8, hz]; omega, HC.out⟩
              · have z4 : decide ((0 : Int) < (n : Int)) = false := decide_eq_false (by omega)
                go_wp2
                go_ret
                exact ⟨by simp [rightN, h8, hz], HC.out⟩
            · have z4 : decide (op = 4) = false := decide_eq_false h4
              go_wp2
              go_ret
              exact ⟨by simp [rightN, ho, h8, h2, h3, h4], HC.out⟩
      · have hq := run_neq_role r ([], [])
        rw [decide_eq_true hr] at hq
        have hq1 := hq (w.alloc (.cells #[.int .i64 op, .int .i64 k, .string ⟨r.1.toArray⟩, .string ⟨r.2.toArray⟩, .slice ao n cp] 26))
        go_wp2
        go_ret
        exact ⟨by simp [rightN, ho, h8, hr], HC.out⟩
end Go.Proofs.Ytcbfieodjbfjdaa

/- Are all nodes right? Is a formula? -/
namespace Go.Proofs.Ytcbfieodjbfjdaa
open Go.RowKit

set_option maxRecDepth 100000 in
set_option maxHeartbeats 4000000 in
theorem fm_rightNodes {D : Nat → Prop} : ∀ (n : Nat) (f : FmB) (ao : Option Addr) (cp : Nat) (w : World), FmsAt D w n ao f.kids → FmOk f → nodesF f ≤ 1048576 →
    Calls Try.prog 44 #[.agg #[.int .i64 f.op, .int .i64 f.k, .string ⟨f.r.1.toArray⟩, .string ⟨f.r.2.toArray⟩, .slice ao f.kids.length cp]] w fun e w' => e = .returned (.bool (rightF f)) ∧ Chg (fun _ => False) w w' := by
  intro n
  induction n using Nat.strongRecOn with
  | _ n ih =>
  intro f ao cp w h hok hN
  have hnl := nodesL_len f.kids
  have hnf := nodesF_eq f
  have HX := hid h
  have HIN := hid ih
  have HOK := hid hok
  clear h ih hok
  have hcA : Chg (fun _ => False) w (w.alloc (.cells #[.int .i64 f.op, .int .i64 f.k, .string ⟨f.r.1.toArray⟩, .string ⟨f.r.2.toArray⟩, .slice ao f.kids.length cp] 26)) := (Chg.refl _ w).alloc _
  have hb := heap_alloc_new w (.cells #[.int .i64 f.op, .int .i64 f.k, .string ⟨f.r.1.toArray⟩, .string ⟨f.r.2.toArray⟩, .slice ao f.kids.length cp] 26)
  have s0 := cell_blk hb 0
  have s1 := cell_blk hb 1
  have s2 := cell_blk hb 2
  have s3 := cell_blk hb 3
  have s4 := cell_blk hb 4
  simp only [List.getElem?_toArray, List.getElem?_cons_zero, List.getElem?_cons_succ] at s0 s1 s2 s3 s4
  have HC0 := hid hcA
  have HB0 := hid hb
  clear hcA hb
  go_enter Try.func44, Try.ntmps44
  go_wp2
  go_loopw [8] (fun i wr => ∃ j : Nat, j ≤ f.kids.length ∧ i = .int .i64 j ∧ Hid (rightL (f.kids.take j) = true ∧ Chg (fun _ => False) (w.alloc (.cells #[.int .i64 f.op, .int .i64 f.k, .string ⟨f.r.1.toArray⟩, .string ⟨f.r.2.toArray⟩, .slice ao f.kids.length cp] 26)) wr)) (fun i _ => f.kids.length - (intOf i).toNat)
  case atStart => exact ⟨0, Nat.zero_le _, rfl, hid ⟨rfl, Chg.refl _ _⟩⟩
  case round =>
    obtain ⟨j, hj, rfl, hrel⟩ := hrel
    by_cases hlt : j < f.kids.length
    · have hcw := HC0.out.trans hrel.out.2 (fun _ _ h => h)
      obtain ⟨b, off, hao, hDb, hat⟩ := (HX.out.keep hcw (fun _ _ => id)) j hlt
      obtain ⟨d, ao2, cp2, hd2, ⟨a0, a1, a2, a3, a4⟩, hok2, hz2, hkids⟩ := hat.open_
      have hrs := rightL_snoc (f.kids.take j) f.kids[j]
      rw [← List.take_succ_eq_append_getElem hlt, hrel.out.1, Bool.true_and] at hrs
      have hno : rightF f.kids[j] = false → rightF f = false := fun h => by rw [rightF_eq, rightL_no hlt h, Bool.false_and]
      have hle1 := nodesL_mem (List.getElem_mem hlt)
      generalize f.kids[j] = g at *
      have HNO := hid hno
      have HRS := hid hrs
      have hcB : Chg (fun _ => False) wr (wr.alloc (.cells #[.int .i64 g.op, .int .i64 g.k, .string ⟨g.r.1.toArray⟩, .string ⟨g.r.2.toArray⟩, .slice ao2 g.kids.length cp2] 26)) := (Chg.refl _ wr).alloc _
      have hnb := heap_alloc_new wr (.cells #[.int .i64 g.op, .int .i64 g.k, .string ⟨g.r.1.toArray⟩, .string ⟨g.r.2.toArray⟩, .slice ao2 g.kids.length cp2] 26)
      have t0 := cell_blk hnb 0
      have t1 := cell_blk hnb 1
      have t2 := cell_blk hnb 2
      have t3 := cell_blk hnb 3
      have t4 := cell_blk hnb 4
      simp only [List.getElem?_toArray, List.getElem?_cons_zero, List.getElem?_cons_succ] at t0 t1 t2 t3 t4
      have HIH := hid (HIN.out d hd2 g ao2 cp2 (wr.alloc (.cells #[.int .i64 g.op, .int .i64 g.k, .string ⟨g.r.1.toArray⟩, .string ⟨g.r.2.toArray⟩, .slice ao2 g.kids.length cp2] 26)) (hkids.keep hcB (fun _ _ => id)) hok2 (by omega))
      have HC1 := hid (hcw.trans hcB (fun _ _ h => h))
      have HC2 := hid (hrel.out.2.trans hcB (fun _ _ h => h))
      have HLT := hid hlt
      clear hcB hnb hrel hkids hat hle1 hok2 hd2 hno hrs hcw s0 s1 s2 s3 s4
      subst hao
      go_wp2_with fail
      refine HIH.out.mono ?_
      rintro e w3 ⟨rfl, hc3⟩
      have HC3 := hid (HC2.out.trans hc3 (fun _ _ h => h))
      have HC4 := hid (HC1.out.trans hc3 (fun _ _ h => h))
      clear HIH HC2 HC1 hc3 a0 a1 a2 a3 a4 t0 t1 t2 t3 t4
      cases hg : rightF g with
      | false =>
        go_wp2_with fail
        go_ret
        rw [HNO.out hg]
        exact ⟨rfl, HC4.out⟩
      | true =>
        have HR2 : Hid (rightL (f.kids.take (j + 1)) = true) := hid (by rw [HRS.out, hg])
        clear hg
        go_wp2
        go_roundw
        case rel => exact ⟨j + 1, HLT.out, by go_num, hid ⟨HR2.out, HC3.out⟩⟩
        case measure => have := HLT.out; simp [intOf]; omega
    · have hje : j = f.kids.length := by omega
      have hr := hrel.out
      rw [hje, List.take_length] at hr
      have HR := hid hr
      have HNODE := hid (fm_rightNode f.op f.k f.r ao f.kids.length cp wr HOK.out.1 HOK.out.2 (by omega))
      have hb := blk_keep HB0.out hr.2 id
      clear hr hrel s0 s1 s2 s3 s4
      have s0 := cell_blk hb 0
      have s1 := cell_blk hb 1
      have s2 := cell_blk hb 2
      have s3 := cell_blk hb 3
      have s4 := cell_blk hb 4
      simp only [List.getElem?_toArray, List.getElem?_cons_zero, List.getElem?_cons_succ] at s0 s1 s2 s3 s4
      clear hb hje
      go_wp2_with fail
      refine HNODE.out.mono ?_
      rintro e w3 ⟨rfl, hc3⟩
      have HC3 := hid ((HC0.out.trans HR.out.2 (fun _ _ h => h)).trans hc3 (fun _ _ h => h))
      clear hc3 HNODE s0 s1 s2 s3 s4
      go_wp2
      go_ret
      rw [rightF_eq, HR.out.1, Bool.true_and]
      exact ⟨rfl, HC3.out⟩

set_option maxRecDepth 100000 in
set_option maxHeartbeats 4000000 in
theorem fm_right {D : Nat → Prop} (n : Nat) (f : FmB) (ao : Option Addr) (cp : Nat) (w : World) (h : FmsAt D w n ao f.kids) (hD : ∀ i, D i → i < w.heap.size) (hok : FmOk f) (hN : nodesF f ≤ 4096) :
    Calls Try.prog 22 #[.agg #[.int .i64 f.op, .int .i64 f.k, .string ⟨f.r.1.toArray⟩, .string ⟨f.r.2.toArray⟩, .slice ao f.kids.length cp]] w fun e w' => e = .returned (.bool (isF f)) ∧ Chg (fun _ => False) w w' := by
  have hcA : Chg (fun _ => False) w (w.alloc (.cells #[.int .i64 f.op, .int .i64 f.k, .string ⟨f.r.1.toArray⟩, .string ⟨f.r.2.toArray⟩, .slice ao f.kids.length cp] 26)) := (Chg.refl _ w).alloc _
  have hb := heap_alloc_new w (.cells #[.int .i64 f.op, .int .i64 f.k, .string ⟨f.r.1.toArray⟩, .string ⟨f.r.2.toArray⟩, .slice ao f.kids.length cp] 26)
  have s0 := cell_blk hb 0
  have s1 := cell_blk hb 1
  have s2 := cell_blk hb 2
  have s3 := cell_blk hb 3
  have s4 := cell_blk hb 4
  simp only [List.getElem?_toArray, List.getElem?_cons_zero, List.getElem?_cons_succ] at s0 s1 s2 s3 s4
  have HSZ := hid (fm_size n f ao cp (w.alloc (.cells #[.int .i64 f.op, .int .i64 f.k, .string ⟨f.r.1.toArray⟩, .string ⟨f.r.2.toArray⟩, .slice ao f.kids.length cp] 26)) (h.keep hcA (fun _ _ => id)) (fun i hi => Nat.lt_of_lt_of_le (hD i hi) hcA.size) hN)
  have HX := hid (fun w' (hc : Chg (fun _ => False) w w') => fm_rightNodes n f ao cp w' (h.keep hc (fun _ _ => id)) hok (by omega))
  have hp := nodesF_pos f
  have HC0 := hid hcA
  have HB0 := hid hb
  clear hcA hb h hD hok
  go_enter Try.func22, Try.ntmps22
  go_wp2_with fail
  refine HSZ.out.mono ?_
  rintro e w2 ⟨rfl, hc2⟩
  have hb2 := blk_keep HB0.out hc2 id
  have HC2 := hid (HC0.out.trans hc2 (fun _ _ h => h))
  clear s0 s1 s2 s3 s4 HSZ HC0 hc2
  have s0 := cell_blk hb2 0
  have s1 := cell_blk hb2 1
  have s2 := cell_blk hb2 2
  have s3 := cell_blk hb2 3
  have s4 := cell_blk hb2 4
  simp only [List.getElem?_toArray, List.getElem?_cons_zero, List.getElem?_cons_succ] at s0 s1 s2 s3 s4
  clear hb2
  have z1 : decide ((0 : Int) < (nodesF f : Int)) = true := decide_eq_true (by omega)
  by_cases h64 : nodesF f ≤ 64
  · have z2 : decide ((nodesF f : Int) ≤ 64) = true := decide_eq_true (by omega)
    by_cases h6 : deepF f ≤ 6
    · have z3 : decide ((deepF f : Int) ≤ 6) = true := decide_eq_true (by omega)
      have HRS := hid (HX.out w2 HC2.out)
      go_wp2_with fail
      refine HRS.out.mono ?_
      rintro e w3 ⟨rfl, hc3⟩
      have HC3 := hid (HC2.out.trans hc3 (fun _ _ h => h))
      clear HRS HX hc3 HC2 HB0 s0 s1 s2 s3 s4
      go_wp2
      go_ret
      exact ⟨by simp [isF, h64, h6], HC3.out⟩
    · have z3 : decide ((deepF f : Int) ≤ 6) = false := decide_eq_false (by omega)
      clear HX
      go_wp2
      go_ret
      exact ⟨by simp [isF, h6], HC2.out⟩
  · have z2 : decide ((nodesF f : Int) ≤ 64) = false := decide_eq_false (by omega)
    clear HX
    go_wp2
    go_ret
    exact ⟨by simp [isF, h64], HC2.out⟩
end Go.Proofs.Ytcbfieodjbfjdaa
