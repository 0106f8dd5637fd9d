/- The contract of the document's Set of layer 4. -/
import Derived.Test.YtdlpddpdobiebaaTm9
import Derived.Test.YtdlpddpdobiebaaTm13
namespace Go.Proofs.Ytdlpddpdobiebaa
open Go.RowKit

theorem cand_no {out : List RoleB} {s : RoleB} (h : isRole s = false) : candG ltR isRole out s = false := by simp [candG, h]
theorem cand_nil {s : RoleB} (h : isRole s = true) : candG ltR isRole [] s = true := by simp [candG, h]
theorem cand_last {out : List RoleB} {s l : RoleB} (hl : out.getLast? = some l) (h : isRole s = true) : candG ltR isRole out s = ltR l s := by simp [candG, h, hl]

def rsetSpecsA (ao3 : Option Addr) (m cap3 Bb Sb g mm : Nat) (okv : Bool) (s l b : RoleB) : List Spec := [.any, .any, .any, .eq (.slice ao3 m cap3), .eq (.pointer (some ⟨Bb, 0, none⟩)), .eq (.bool okv), .any, .eq (.pointer (some ⟨Sb, 0, none⟩)), .any, .any, .any, .any, .any, .any, .eq (roleV s), .eq (.bool false), .eq (.bool false), .any, .any, .any, .eq undef, .any, .any, .any, .any, .any, .any, .any, .any, .any, .eq (.bool false), .eq (.bool false), .any, .any, .eq undef, .any, .any, .any, .any, .eq (.bool false), .any, .any, .any, .any, .any, .any, .any, .any, .any]
def rsetSpecsB (ao3 : Option Addr) (m cap3 Bb Sb g mm : Nat) (okv : Bool) (s l b : RoleB) : List Spec := [.any, .any, .any, .eq (.slice ao3 m cap3), .eq (.pointer (some ⟨Bb, 0, none⟩)), .eq (.bool false), .any, .eq (.pointer (some ⟨Sb, 0, none⟩)), .any, .any, .any, .any, .any, .any, .eq (roleV s), .eq (.bool true), .eq (.bool true), .eq (.slice ao3 m cap3), .eq (.int .i64 m), .eq (.bool true), .eq (.bool true), .any, .any, .any, .any, .any, .any, .any, .any, .eq (.bool true), .eq (.bool true), .eq (.bool true), .eq (.bool false), .eq (.bool true), .eq (.bool true), .any, .any, .any, .eq (.bool true), .eq (.bool true), .any, .any, .any, .any, .any, .any, .any, .any, .any]
def rsetSpecsC1 (ao3 : Option Addr) (m cap3 Bb Sb g mm : Nat) (okv : Bool) (s l b : RoleB) : List Spec := [.any, .any, .any, .eq (.slice ao3 m cap3), .eq (.pointer (some ⟨Bb, 0, none⟩)), .eq (.bool true), .any, .eq (.pointer (some ⟨Sb, 0, none⟩)), .any, .any, .any, .any, .any, .any, .eq (roleV s), .eq (.bool true), .eq (.bool true), .eq (.slice ao3 m cap3), .eq (.int .i64 m), .eq (.bool true), .eq (.bool true), .any, .any, .any, .any, .any, .any, .any, .any, .eq (.bool true), .eq (.bool true), .eq (.bool true), .eq (.bool true), .eq (.bool false), .eq (.bool false), .eq (roleV s), .eq (roleV b), .eq (.bool true), .eq (.bool true), .eq (.bool true), .any, .any, .any, .any, .any, .any, .any, .any, .any]
def rsetSpecsC0 (ao3 : Option Addr) (m cap3 Bb Sb g mm : Nat) (okv : Bool) (s l b : RoleB) : List Spec := [.any, .any, .any, .eq (.slice ao3 m cap3), .eq (.pointer (some ⟨Bb, 0, none⟩)), .eq (.bool true), .any, .eq (.pointer (some ⟨Sb, 0, none⟩)), .any, .any, .any, .any, .any, .any, .eq (roleV s), .eq (.bool true), .eq (.bool true), .eq (.slice ao3 m cap3), .eq (.int .i64 m), .eq (.bool true), .eq (.bool true), .any, .any, .any, .any, .any, .any, .any, .any, .eq (.bool true), .eq (.bool true), .eq (.bool true), .eq (.bool true), .eq (.bool false), .eq (.bool false), .eq (roleV s), .eq (roleV b), .eq (.bool false), .eq (.bool false), .eq (.bool false), .any, .any, .any, .any, .any, .any, .any, .any, .any]
def rsetSpecsD (ao3 : Option Addr) (m cap3 Bb Sb g mm : Nat) (okv : Bool) (s l b : RoleB) : List Spec := [.any, .any, .any, .eq (.slice (some ⟨g, 0, none⟩) m cap3), .eq (.pointer (some ⟨Bb, 0, none⟩)), .eq (.bool okv), .any, .eq (.pointer (some ⟨Sb, 0, none⟩)), .any, .any, .any, .any, .any, .any, .eq (roleV s), .eq (.bool true), .eq (.bool true), .eq (.slice (some ⟨g, 0, none⟩) m cap3), .eq (.int .i64 m), .eq (.bool false), .eq (.bool false), .eq (.slice (some ⟨g, 0, none⟩) m cap3), .eq (.slice (some ⟨g, 0, none⟩) m cap3), .eq (.int .i64 m), .eq (.int .i64 ((m : Int) - 1)), .roleP l, .eq (roleV l), .eq (roleV s), .eq (.bool false), .eq (.bool false), .eq (.bool false), .eq (.bool false), .any, .any, .eq undef, .any, .any, .any, .any, .eq (.bool false), .any, .any, .any, .any, .any, .any, .any, .any, .any]
def rsetSpecsE (ao3 : Option Addr) (m cap3 Bb Sb g mm : Nat) (okv : Bool) (s l b : RoleB) : List Spec := [.any, .any, .any, .eq (.slice (some ⟨g, 0, none⟩) m cap3), .eq (.pointer (some ⟨Bb, 0, none⟩)), .eq (.bool false), .any, .eq (.pointer (some ⟨Sb, 0, none⟩)), .any, .any, .any, .any, .any, .any, .eq (roleV s), .eq (.bool true), .eq (.bool true), .eq (.slice (some ⟨g, 0, none⟩) m cap3), .eq (.int .i64 m), .eq (.bool false), .eq (.bool false), .eq (.slice (some ⟨g, 0, none⟩) m cap3), .eq (.slice (some ⟨g, 0, none⟩) m cap3), .eq (.int .i64 m), .eq (.int .i64 ((m : Int) - 1)), .roleP l, .eq (roleV l), .eq (roleV s), .eq (.bool true), .eq (.bool true), .eq (.bool true), .eq (.bool true), .eq (.bool false), .eq (.bool true), .eq (.bool true), .any, .any, .any, .eq (.bool true), .eq (.bool true), .any, .any, .any, .any, .any, .any, .any, .any, .any]
def rsetSpecsF1 (ao3 : Option Addr) (m cap3 Bb Sb g mm : Nat) (okv : Bool) (s l b : RoleB) : List Spec := [.any, .any, .any, .eq (.slice (some ⟨g, 0, none⟩) m cap3), .eq (.pointer (some ⟨Bb, 0, none⟩)), .eq (.bool true), .any, .eq (.pointer (some ⟨Sb, 0, none⟩)), .any, .any, .any, .any, .any, .any, .eq (roleV s), .eq (.bool true), .eq (.bool true), .eq (.slice (some ⟨g, 0, none⟩) m cap3), .eq (.int .i64 m), .eq (.bool false), .eq (.bool false), .eq (.slice (some ⟨g, 0, none⟩) m cap3), .eq (.slice (some ⟨g, 0, none⟩) m cap3), .eq (.int .i64 m), .eq (.int .i64 ((m : Int) - 1)), .roleP l, .eq (roleV l), .eq (roleV s), .eq (.bool true), .eq (.bool true), .eq (.bool true), .eq (.bool true), .eq (.bool true), .eq (.bool false), .eq (.bool false), .eq (roleV s), .eq (roleV b), .eq (.bool true), .eq (.bool true), .eq (.bool true), .any, .any, .any, .any, .any, .any, .any, .any, .any]
def rsetSpecsF0 (ao3 : Option Addr) (m cap3 Bb Sb g mm : Nat) (okv : Bool) (s l b : RoleB) : List Spec := [.any, .any, .any, .eq (.slice (some ⟨g, 0, none⟩) m cap3), .eq (.pointer (some ⟨Bb, 0, none⟩)), .eq (.bool true), .any, .eq (.pointer (some ⟨Sb, 0, none⟩)), .any, .any, .any, .any, .any, .any, .eq (roleV s), .eq (.bool true), .eq (.bool true), .eq (.slice (some ⟨g, 0, none⟩) m cap3), .eq (.int .i64 m), .eq (.bool false), .eq (.bool false), .eq (.slice (some ⟨g, 0, none⟩) m cap3), .eq (.slice (some ⟨g, 0, none⟩) m cap3), .eq (.int .i64 m), .eq (.int .i64 ((m : Int) - 1)), .roleP l, .eq (roleV l), .eq (roleV s), .eq (.bool true), .eq (.bool true), .eq (.bool true), .eq (.bool true), .eq (.bool true), .eq (.bool false), .eq (.bool false), .eq (roleV s), .eq (roleV b), .eq (.bool false), .eq (.bool false), .eq (.bool false), .any, .any, .any, .any, .any, .any, .any, .any, .any]

theorem SetR_len {ls out : List RoleB} (h : SetPartG ltR isRole ls out) : out.length ≤ ls.length := SetPartG.len ltR_ord h

set_option maxRecDepth 100000 in
set_option maxHeartbeats 8000000 in
theorem rset_ref {D : Nat → Prop} (ao : Option Addr) (cp : Nat) (ls : List RoleB) (w : World) (hn : ls.length ≤ 4194304) (h : RolesAt D w ao ls) (hD : ∀ i, D i → i < w.heap.size) :
    Calls Try.prog 17 #[.slice ao ls.length cp] w (SetPostR ls w) := by
  obtain ⟨i0, hi, hz0, hz1, hz2⟩ := info_parts Try.info24
  go_enter Try.func17, Try.ntmps17
  go_wp2
  go_loopw [3] (fun v wr => ∃ (out : List RoleB) (ao' : Option Addr) (cap : Nat), v = .slice ao' out.length cap ∧ SetPartG ltR isRole ls out ∧ OwnR w.heap.size wr (.slice ao' out.length cap) out ∧ Chg (fun _ => False) w wr) (fun v _ => ls.length + 1 - lenOfV v)
  case atStart => exact ⟨[], none, 0, rfl, SetPartG.nil ls, World.ownsRow_nil _ _ _ _, Chg.refl _ _⟩
  case round =>
    obtain ⟨out, ao3, cap3, rfl, hp, ho, hc⟩ := hrel
    have hol := SetR_len hp
    have hbd : ∀ x ∈ out, x.1.length ≤ 9223372036854775807 ∧ x.2.length ≤ 9223372036854775807 := fun x hx => by
      have hx2 := (hp.2.1 x hx).2
      simp only [isRole, Bool.and_eq_true] at hx2
      have := name_len' hx2.1
      have := name_len' hx2.2
      omega
    have hsz := hc.size
    have hB0 := heap_alloc_new wr (.cells #[.string ⟨#[]⟩, .string ⟨#[]⟩] 24)
    have hcB : Chg (fun _ => False) wr (wr.alloc (.cells #[.string ⟨#[]⟩, .string ⟨#[]⟩] 24)) := (Chg.refl _ wr).alloc _
    have hoB := ho.keep hcB (fun _ _ => id)
    have hrB : ∀ k, Value.ownBlock (.slice ao3 out.length cap3) = some k → k < wr.heap.size := fun k hk => (ownsRow_lt ho k hk).2
    have hc2 := hc.trans hcB (fun _ _ h => h)
    go_wp2
    clear ho hcB
    generalize wr.alloc (.cells #[.string ⟨#[]⟩, .string ⟨#[]⟩] 24) = w1 at *
    generalize wr.heap.size = Bb at *
    go_loopw [5, 10] (fun ok i wr => ∃ (k : Nat) (bo : Option RoleB), i = .int .i64 k ∧ k ≤ ls.length ∧ ok = .bool bo.isSome ∧ Hid (BestG ltR isRole out (ls.take k) bo) ∧ wr.heap[Bb]? = some (.cells #[.string ⟨(bo.getD ([], [])).1.toArray⟩, .string ⟨(bo.getD ([], [])).2.toArray⟩] 24 (0, 0)) ∧ OwnR w.heap.size wr (.slice ao3 out.length cap3) out ∧ Chg (fun _ => False) w wr) (fun _ i _ => ls.length - (intOf i).toNat)
    case atStart => exact ⟨0, none, rfl, Nat.zero_le _, rfl, hid (fun s hs => by simp at hs), hB0, hoB, hc2⟩
    case round =>
      obtain ⟨k, bo, rfl, hk, rfl, hb, hBb, hoq, hcq⟩ := hrel
      clear hB0 hoB hc2 hc
      by_cases hlt : k < ls.length
      · obtain ⟨cb, co, rfl, _, c0, c1, ls1, ls2⟩ := (h.keep hcq (fun _ _ => id)) k hlt
        have htk : Hid (ls.take (k + 1) = ls.take k ++ [ls[k]]) := hid (List.take_succ_eq_append_getElem hlt)
        generalize ls[k] = s at *
        have hS := heap_alloc_new wr (.cells #[.string ⟨s.1.toArray⟩, .string ⟨s.2.toArray⟩] 24)
        have hcS : Chg (fun _ => False) wr (wr.alloc (.cells #[.string ⟨s.1.toArray⟩, .string ⟨s.2.toArray⟩] 24)) := (Chg.refl _ wr).alloc _
        have hBb2 := blk_keep hBb hcS id
        have hoq2 := hoq.keep hcS (fun _ _ => id)
        have hcq2 := hcq.trans hcS (fun _ _ h => h)
        have hBS : Bb < wr.heap.size := lt_blk hBb
        clear hBb hoq hcq hcS h
        go_wp2_with fail
        clear c0 c1
        generalize wr.alloc (.cells #[.string ⟨s.1.toArray⟩, .string ⟨s.2.toArray⟩] 24) = w4 at *
        generalize wr.heap.size = Sb at *
        have s0 := cell_blk hS 0
        have s1 := cell_blk hS 1
        simp only [List.getElem?_toArray, List.getElem?_cons_zero, List.getElem?_cons_succ] at s0 s1
        have HP := hid hp
        have HBD := hid hbd
        clear hp hbd
        cases hrt : isRole s with
        | false =>
          have g : Nat := 0
          have l : RoleB := s
          have b : RoleB := s
          refine wp_region_specs (rsetSpecsA ao3 out.length cap3 Bb Sb g 0 bo.isSome s l b) [14, 15, 16, 17, 18, 19, 20, 21, 22, 23, 24, 25, 26, 27, 28, 29, 30, 31, 32, 33, 34, 35, 36, 37, 38, 39] [3, 4, 5, 7] (by kernel_rfl) (by kernel_rfl) (by rfl) (by kernel_rfl) ?start ?obs ?fin
          case start =>
            simp only [List.forall_mem_cons]
            exact ⟨⟨_, rfl, rfl⟩, ⟨_, rfl, rfl⟩, ⟨_, rfl, rfl⟩, ⟨_, rfl, rfl⟩, fun _ h => by cases h⟩
          case obs =>
            refine Obs.cons none (by kernel_rfl) ?_ ?_
            · refine Ob.plain fun a w hR hk K k => ?_
              obtain ⟨_, e7, rfl⟩ := hk 7 (by decide)
              clear hk
              have q0 := hR.cell s0 id
              have q1 := hR.cell s1 id
              go_simp
              exact k _ _ (Chg.refl _ _) rfl
            refine Obs.cons none (by kernel_rfl) ?_ ?_
            · refine Ob.plain fun a w hR hk K k => ?_
              obtain ⟨_, e14, rfl⟩ := hk 14 (by decide)
              clear hk
              go_simp
              refine (rright_ref s _ ls1 ls2).mono ?_
              rintro e w2 ⟨rfl, hc⟩
              exact k _ _ hc (congrArg Value.bool hrt)
            refine Obs.cons none (by kernel_rfl) ?_ ?_
            · refine Ob.plain fun a w hR hk K k => ?_
              obtain ⟨_, e15, f15⟩ := hk 15 (by decide)
              clear hk
              go_simp
              exact k _ _ (Chg.refl _ _) f15
            refine Obs.cons (some (16, true)) (by kernel_rfl) ?_ ?_
            · exact Ob.no (fun _ _ h => h) (Chg.refl _) (fun _ _ => trivial)
            refine Obs.cons (some (16, true)) (by kernel_rfl) ?_ ?_
            · exact Ob.no (fun _ _ h => h) (Chg.refl _) (fun _ _ => trivial)
            refine Obs.cons (some (16, true)) (by kernel_rfl) ?_ ?_
            · exact Ob.no (fun _ _ h => h) (Chg.refl _) (fun _ _ => trivial)
            refine Obs.cons (some (16, true)) (by kernel_rfl) ?_ ?_
            · exact Ob.no (fun _ _ h => h) (Chg.refl _) (fun _ _ => rfl)
            refine Obs.cons (some (20, false)) (by kernel_rfl) ?_ ?_
            · exact Ob.und (fun _ _ h => h) (Chg.refl _) (fun _ _ => trivial)
            refine Obs.cons (some (20, false)) (by kernel_rfl) ?_ ?_
            · exact Ob.und (fun _ _ h => h) (Chg.refl _) (fun _ _ => trivial)
            refine Obs.cons (some (20, false)) (by kernel_rfl) ?_ ?_
            · exact Ob.und (fun _ _ h => h) (Chg.refl _) (fun _ _ => trivial)
            refine Obs.cons (some (20, false)) (by kernel_rfl) ?_ ?_
            · exact Ob.und (fun _ _ h => h) (Chg.refl _) (fun _ _ => trivial)
            refine Obs.cons (some (20, false)) (by kernel_rfl) ?_ ?_
            · exact Ob.und (fun _ _ h => h) (Chg.refl _) (fun _ _ => trivial)
            refine Obs.cons (some (20, false)) (by kernel_rfl) ?_ ?_
            · exact Ob.und (fun _ _ h => h) (Chg.refl _) (fun _ _ => trivial)
            refine Obs.cons (some (20, false)) (by kernel_rfl) ?_ ?_
            · exact Ob.und (fun _ _ h => h) (Chg.refl _) (fun _ _ => trivial)
            refine Obs.cons (some (20, false)) (by kernel_rfl) ?_ ?_
            · exact Ob.und (fun _ _ h => h) (Chg.refl _) (fun _ _ => trivial)
            refine Obs.cons (some (16, true)) (by kernel_rfl) ?_ ?_
            · exact Ob.no (fun _ _ h => h) (Chg.refl _) (fun _ _ => trivial)
            refine Obs.cons none (by kernel_rfl) ?_ ?_
            · refine Ob.plain fun a w hR hk K k => ?_
              obtain ⟨_, e16, rfl⟩ := hk 16 (by decide)
              obtain ⟨_, e29, _⟩ := hk 29 (by decide)
              clear hk
              go_simp
              exact k _ _ (Chg.refl _ _) rfl
            refine Obs.cons none (by kernel_rfl) ?_ ?_
            · refine Ob.plain fun a w hR hk K k => ?_
              obtain ⟨_, e30, f30⟩ := hk 30 (by decide)
              clear hk
              go_simp
              exact k _ _ (Chg.refl _ _) f30
            refine Obs.cons (some (31, true)) (by kernel_rfl) ?_ ?_
            · exact Ob.no (fun _ _ h => h) (Chg.refl _) (fun _ _ => trivial)
            refine Obs.cons (some (31, true)) (by kernel_rfl) ?_ ?_
            · exact Ob.no (fun _ _ h => h) (Chg.refl _) (fun _ _ => trivial)
            refine Obs.cons (some (31, true)) (by kernel_rfl) ?_ ?_
            · exact Ob.no (fun _ _ h => h) (Chg.refl _) (fun _ _ => rfl)
            refine Obs.cons (some (34, false)) (by kernel_rfl) ?_ ?_
            · exact Ob.und (fun _ _ h => h) (Chg.refl _) (fun _ _ => trivial)
            refine Obs.cons (some (34, false)) (by kernel_rfl) ?_ ?_
            · exact Ob.und (fun _ _ h => h) (Chg.refl _) (fun _ _ => trivial)
            refine Obs.cons (some (34, false)) (by kernel_rfl) ?_ ?_
            · exact Ob.und (fun _ _ h => h) (Chg.refl _) (fun _ _ => trivial)
            refine Obs.cons (some (31, true)) (by kernel_rfl) ?_ ?_
            · exact Ob.no (fun _ _ h => h) (Chg.refl _) (fun _ _ => trivial)
            refine Obs.cons none (by kernel_rfl) ?_ ?_
            · refine Ob.plain fun a w hR hk K k => ?_
              obtain ⟨_, e31, rfl⟩ := hk 31 (by decide)
              obtain ⟨_, e38, _⟩ := hk 38 (by decide)
              clear hk
              go_simp
              exact k _ _ (Chg.refl _ _) rfl
            exact Obs.nil
          case fin =>
            intro vals w9 hc9 hv
            have h39 : vals 39 = .bool false := hv 39 (by decide)
            simp only [putAll, List.setIfInBounds_toArray, List.set_cons_zero, List.set_cons_succ, h39]
            clear hv h39
            have hn2 : Hid (BestG ltR isRole out (ls.take (k + 1)) bo) := hid (by rw [htk.out]; exact hb.out.skip (cand_no hrt))
            have HX := hid (And.intro (blk_keep hBb2 hc9 id) (And.intro (hoq2.keep hc9 (fun _ _ => id)) (hcq2.trans hc9 (fun _ _ h => h))))
            clear s0 s1 hS hBb2 hoq2 hcq2 hc9 htk hb
            go_wp2
            go_roundw
            case rel => exact ⟨k + 1, bo, by go_num, by omega, rfl, hn2, HX.out.1, HX.out.2.1, HX.out.2.2⟩
            case measure => simp [intOf]; omega
        | true =>
          by_cases h0 : out = []
          · have z1 : ((out.length : Int) == 0) = true := by subst h0; rfl
            have H0 := hid h0
            have hcand : Hid (candG ltR isRole out s = true) := hid (by rw [h0]; exact cand_nil hrt)
            clear h0
            have g : Nat := 0
            have l : RoleB := s
            cases bo with
            | none =>
              have b : RoleB := s
              refine wp_region_specs (rsetSpecsB ao3 out.length cap3 Bb Sb g 0 false s l b) [14, 15, 16, 17, 18, 19, 20, 21, 22, 23, 24, 25, 26, 27, 28, 29, 30, 31, 32, 33, 34, 35, 36, 37, 38, 39] [3, 4, 5, 7] (by kernel_rfl) (by kernel_rfl) (by rfl) (by kernel_rfl) ?start ?obs ?fin
              case start =>
                simp only [List.forall_mem_cons]
                exact ⟨⟨_, rfl, rfl⟩, ⟨_, rfl, rfl⟩, ⟨_, rfl, rfl⟩, ⟨_, rfl, rfl⟩, fun _ h => by cases h⟩
              case obs =>
                refine Obs.cons none (by kernel_rfl) ?_ ?_
                · refine Ob.plain fun a w hR hk K k => ?_
                  obtain ⟨_, e7, rfl⟩ := hk 7 (by decide)
                  clear hk
                  have q0 := hR.cell s0 id
                  have q1 := hR.cell s1 id
                  go_simp
                  exact k _ _ (Chg.refl _ _) rfl
                refine Obs.cons none (by kernel_rfl) ?_ ?_
                · refine Ob.plain fun a w hR hk K k => ?_
                  obtain ⟨_, e14, rfl⟩ := hk 14 (by decide)
                  clear hk
                  go_simp
                  refine (rright_ref s _ ls1 ls2).mono ?_
                  rintro e w2 ⟨rfl, hc⟩
                  exact k _ _ hc (congrArg Value.bool hrt)
                refine Obs.cons none (by kernel_rfl) ?_ ?_
                · refine Ob.plain fun a w hR hk K k => ?_
                  obtain ⟨_, e15, f15⟩ := hk 15 (by decide)
                  clear hk
                  go_simp
                  exact k _ _ (Chg.refl _ _) f15
                refine Obs.cons (some (16, true)) (by kernel_rfl) ?_ ?_
                · refine Ob.yes (fun _ _ h => h) fun a w hR hk K k => ?_
                  obtain ⟨_, e3, f3⟩ := hk 3 (by decide)
                  clear hk
                  go_simp
                  exact k _ _ (Chg.refl _ _) f3
                refine Obs.cons (some (16, true)) (by kernel_rfl) ?_ ?_
                · refine Ob.yes (fun _ _ h => h) fun a w hR hk K k => ?_
                  obtain ⟨_, e17, rfl⟩ := hk 17 (by decide)
                  clear hk
                  go_simp
                  exact k _ _ (Chg.refl _ _) rfl
                refine Obs.cons (some (16, true)) (by kernel_rfl) ?_ ?_
                · refine Ob.yes (fun _ _ h => h) fun a w hR hk K k => ?_
                  obtain ⟨_, e18, rfl⟩ := hk 18 (by decide)
                  clear hk
                  go_simp
                  exact k _ _ (Chg.refl _ _) rfl
                refine Obs.cons (some (16, true)) (by kernel_rfl) ?_ ?_
                · refine Ob.yes (fun _ _ h => h) fun a w hR hk K k => ?_
                  obtain ⟨_, e19, f19⟩ := hk 19 (by decide)
                  clear hk
                  go_simp
                  exact k _ _ (Chg.refl _ _) f19
                refine Obs.cons (some (20, false)) (by kernel_rfl) ?_ ?_
                · exact Ob.no (fun _ _ h => h) (Chg.refl _) (fun _ _ => trivial)
                refine Obs.cons (some (20, false)) (by kernel_rfl) ?_ ?_
                · exact Ob.no (fun _ _ h => h) (Chg.refl _) (fun _ _ => trivial)
                refine Obs.cons (some (20, false)) (by kernel_rfl) ?_ ?_
                · exact Ob.no (fun _ _ h => h) (Chg.refl _) (fun _ _ => trivial)
                refine Obs.cons (some (20, false)) (by kernel_rfl) ?_ ?_
                · exact Ob.no (fun _ _ h => h) (Chg.refl _) (fun _ _ => trivial)
                refine Obs.cons (some (20, false)) (by kernel_rfl) ?_ ?_
                · exact Ob.no (fun _ _ h => h) (Chg.refl _) (fun _ _ => trivial)
                refine Obs.cons (some (20, false)) (by kernel_rfl) ?_ ?_
                · exact Ob.no (fun _ _ h => h) (Chg.refl _) (fun _ _ => trivial)
                refine Obs.cons (some (20, false)) (by kernel_rfl) ?_ ?_
                · exact Ob.no (fun _ _ h => h) (Chg.refl _) (fun _ _ => trivial)
                refine Obs.cons (some (20, false)) (by kernel_rfl) ?_ ?_
                · exact Ob.no (fun _ _ h => h) (Chg.refl _) (fun _ _ => trivial)
                refine Obs.cons (some (16, true)) (by kernel_rfl) ?_ ?_
                · refine Ob.yes (fun _ _ h => h) fun a w hR hk K k => ?_
                  obtain ⟨_, e20, rfl⟩ := hk 20 (by decide)
                  obtain ⟨_, e28, _⟩ := hk 28 (by decide)
                  clear hk
                  go_simp
                  exact k _ _ (Chg.refl _ _) rfl
                refine Obs.cons none (by kernel_rfl) ?_ ?_
                · refine Ob.plain fun a w hR hk K k => ?_
                  obtain ⟨_, e16, rfl⟩ := hk 16 (by decide)
                  obtain ⟨_, e29, rfl⟩ := hk 29 (by decide)
                  clear hk
                  go_simp
                  exact k _ _ (Chg.refl _ _) rfl
                refine Obs.cons none (by kernel_rfl) ?_ ?_
                · refine Ob.plain fun a w hR hk K k => ?_
                  obtain ⟨_, e30, f30⟩ := hk 30 (by decide)
                  clear hk
                  go_simp
                  exact k _ _ (Chg.refl _ _) f30
                refine Obs.cons (some (31, true)) (by kernel_rfl) ?_ ?_
                · refine Ob.yes (fun _ _ h => h) fun a w hR hk K k => ?_
                  obtain ⟨_, e5, f5⟩ := hk 5 (by decide)
                  clear hk
                  go_simp
                  exact k _ _ (Chg.refl _ _) f5
                refine Obs.cons (some (31, true)) (by kernel_rfl) ?_ ?_
                · refine Ob.yes (fun _ _ h => h) fun a w hR hk K k => ?_
                  obtain ⟨_, e32, rfl⟩ := hk 32 (by decide)
                  clear hk
                  go_simp
                  exact k _ _ (Chg.refl _ _) rfl
                refine Obs.cons (some (31, true)) (by kernel_rfl) ?_ ?_
                · refine Ob.yes (fun _ _ h => h) fun a w hR hk K k => ?_
                  obtain ⟨_, e33, f33⟩ := hk 33 (by decide)
                  clear hk
                  go_simp
                  exact k _ _ (Chg.refl _ _) f33
                refine Obs.cons (some (34, false)) (by kernel_rfl) ?_ ?_
                · exact Ob.no (fun _ _ h => h) (Chg.refl _) (fun _ _ => trivial)
                refine Obs.cons (some (34, false)) (by kernel_rfl) ?_ ?_
                · exact Ob.no (fun _ _ h => h) (Chg.refl _) (fun _ _ => trivial)
                refine Obs.cons (some (34, false)) (by kernel_rfl) ?_ ?_
                · exact Ob.no (fun _ _ h => h) (Chg.refl _) (fun _ _ => trivial)
                refine Obs.cons (some (31, true)) (by kernel_rfl) ?_ ?_
                · refine Ob.yes (fun _ _ h => h) fun a w hR hk K k => ?_
                  obtain ⟨_, e34, rfl⟩ := hk 34 (by decide)
                  obtain ⟨_, e37, _⟩ := hk 37 (by decide)
                  clear hk
                  go_simp
                  exact k _ _ (Chg.refl _ _) rfl
                refine Obs.cons none (by kernel_rfl) ?_ ?_
                · refine Ob.plain fun a w hR hk K k => ?_
                  obtain ⟨_, e31, rfl⟩ := hk 31 (by decide)
                  obtain ⟨_, e38, rfl⟩ := hk 38 (by decide)
                  clear hk
                  go_simp
                  exact k _ _ (Chg.refl _ _) rfl
                exact Obs.nil
              case fin =>
                intro vals w9 hc9 hv
                have h39 : vals 39 = .bool true := hv 39 (by decide)
                simp only [putAll, List.setIfInBounds_toArray, List.set_cons_zero, List.set_cons_succ, h39]
                clear hv h39
                have hn2 : Hid (BestG ltR isRole out (ls.take (k + 1)) (some s)) := hid (by rw [htk.out]; exact hb.out.take ltR_ord hcand.out (fun c h => by cases h))
                have hB9 := blk_keep hBb2 hc9 id
                have hS9 := blk_keep hS hc9 id
                have q0 := cell_blk hB9 0
                have q1 := cell_blk hB9 1
                have f0 := froz_blk hB9 0
                have f1 := froz_blk hB9 1
                have t0 := cell_blk hS9 0
                have t1 := cell_blk hS9 1
                simp only [List.getElem?_toArray, List.getElem?_cons_zero, List.getElem?_cons_succ] at q0 q1 t0 t1
                have hD : ((w9.setCell ⟨Bb, 0, none⟩ (.string ⟨s.1.toArray⟩)).setCell ⟨Bb, 1, none⟩ (.string ⟨s.2.toArray⟩)).heap[Bb]? = some (.cells #[.string ⟨s.1.toArray⟩, .string ⟨s.2.toArray⟩] 24 (0, 0)) := set_blk (set_blk hB9 0 (.string ⟨s.1.toArray⟩)) 1 (.string ⟨s.2.toArray⟩)
                have hg1 := setCell_chg w9 Bb 0 (.string ⟨s.1.toArray⟩)
                have hg2 := setCell_chg (w9.setCell ⟨Bb, 0, none⟩ (.string ⟨s.1.toArray⟩)) Bb 1 (.string ⟨s.2.toArray⟩)
                have ho9 := ((hoq2.keep hc9 (fun _ _ => id)).keep hg1 (fun k hk e => by have := hrB k hk; omega)).keep hg2 (fun k hk e => by have := hrB k hk; omega)
                have hc10 : Chg (fun _ => False) w ((w9.setCell ⟨Bb, 0, none⟩ (.string ⟨s.1.toArray⟩)).setCell ⟨Bb, 1, none⟩ (.string ⟨s.2.toArray⟩)) := ((hcq2.trans hc9 (fun _ _ h => h)).trans hg1 (fun i hi e => by omega)).trans hg2 (fun i hi e => by omega)
                have HX := hid (And.intro hD (And.intro ho9 hc10))
                clear s0 s1 hS hBb2 hoq2 hcq2 hc9 htk hb hB9 hS9 hD hg1 hg2 ho9 hc10
                go_wp2
                go_roundw
                case rel => exact ⟨k + 1, some s, by go_num, by omega, rfl, hn2, HX.out.1, HX.out.2.1, HX.out.2.2⟩
                case measure => simp [intOf]; omega
            | some b =>
              have p0 := cell_blk hBb2 0
              have p1 := cell_blk hBb2 1
              simp only [List.getElem?_toArray, List.getElem?_cons_zero, List.getElem?_cons_succ, Option.getD_some] at p0 p1
              cases hlb : ltR s b with
              | true =>
                refine wp_region_specs (rsetSpecsC1 ao3 out.length cap3 Bb Sb g 0 true s l b) [14, 15, 16, 17, 18, 19, 20, 21, 22, 23, 24, 25, 26, 27, 28, 29, 30, 31, 32, 33, 34, 35, 36, 37, 38, 39] [3, 4, 5, 7] (by kernel_rfl) (by kernel_rfl) (by rfl) (by kernel_rfl) ?start ?obs ?fin
                case start =>
                  simp only [List.forall_mem_cons]
                  exact ⟨⟨_, rfl, rfl⟩, ⟨_, rfl, rfl⟩, ⟨_, rfl, rfl⟩, ⟨_, rfl, rfl⟩, fun _ h => by cases h⟩
                case obs =>
                  refine Obs.cons none (by kernel_rfl) ?_ ?_
                  · refine Ob.plain fun a w hR hk K k => ?_
                    obtain ⟨_, e7, rfl⟩ := hk 7 (by decide)
                    clear hk
                    have q0 := hR.cell s0 id
                    have q1 := hR.cell s1 id
                    go_simp
                    exact k _ _ (Chg.refl _ _) rfl
                  refine Obs.cons none (by kernel_rfl) ?_ ?_
                  · refine Ob.plain fun a w hR hk K k => ?_
                    obtain ⟨_, e14, rfl⟩ := hk 14 (by decide)
                    clear hk
                    go_simp
                    refine (rright_ref s _ ls1 ls2).mono ?_
                    rintro e w2 ⟨rfl, hc⟩
                    exact k _ _ hc (congrArg Value.bool hrt)
                  refine Obs.cons none (by kernel_rfl) ?_ ?_
                  · refine Ob.plain fun a w hR hk K k => ?_
                    obtain ⟨_, e15, f15⟩ := hk 15 (by decide)
                    clear hk
                    go_simp
                    exact k _ _ (Chg.refl _ _) f15
                  refine Obs.cons (some (16, true)) (by kernel_rfl) ?_ ?_
                  · refine Ob.yes (fun _ _ h => h) fun a w hR hk K k => ?_
                    obtain ⟨_, e3, f3⟩ := hk 3 (by decide)
                    clear hk
                    go_simp
                    exact k _ _ (Chg.refl _ _) f3
                  refine Obs.cons (some (16, true)) (by kernel_rfl) ?_ ?_
                  · refine Ob.yes (fun _ _ h => h) fun a w hR hk K k => ?_
                    obtain ⟨_, e17, rfl⟩ := hk 17 (by decide)
                    clear hk
                    go_simp
                    exact k _ _ (Chg.refl _ _) rfl
                  refine Obs.cons (some (16, true)) (by kernel_rfl) ?_ ?_
                  · refine Ob.yes (fun _ _ h => h) fun a w hR hk K k => ?_
                    obtain ⟨_, e18, rfl⟩ := hk 18 (by decide)
                    clear hk
                    go_simp
                    exact k _ _ (Chg.refl _ _) rfl
                  refine Obs.cons (some (16, true)) (by kernel_rfl) ?_ ?_
                  · refine Ob.yes (fun _ _ h => h) fun a w hR hk K k => ?_
                    obtain ⟨_, e19, f19⟩ := hk 19 (by decide)
                    clear hk
                    go_simp
                    exact k _ _ (Chg.refl _ _) f19
                  refine Obs.cons (some (20, false)) (by kernel_rfl) ?_ ?_
                  · exact Ob.no (fun _ _ h => h) (Chg.refl _) (fun _ _ => trivial)
                  refine Obs.cons (some (20, false)) (by kernel_rfl) ?_ ?_
                  · exact Ob.no (fun _ _ h => h) (Chg.refl _) (fun _ _ => trivial)
                  refine Obs.cons (some (20, false)) (by kernel_rfl) ?_ ?_
                  · exact Ob.no (fun _ _ h => h) (Chg.refl _) (fun _ _ => trivial)
                  refine Obs.cons (some (20, false)) (by kernel_rfl) ?_ ?_
                  · exact Ob.no (fun _ _ h => h) (Chg.refl _) (fun _ _ => trivial)
                  refine Obs.cons (some (20, false)) (by kernel_rfl) ?_ ?_
                  · exact Ob.no (fun _ _ h => h) (Chg.refl _) (fun _ _ => trivial)
                  refine Obs.cons (some (20, false)) (by kernel_rfl) ?_ ?_
                  · exact Ob.no (fun _ _ h => h) (Chg.refl _) (fun _ _ => trivial)
                  refine Obs.cons (some (20, false)) (by kernel_rfl) ?_ ?_
                  · exact Ob.no (fun _ _ h => h) (Chg.refl _) (fun _ _ => trivial)
                  refine Obs.cons (some (20, false)) (by kernel_rfl) ?_ ?_
                  · exact Ob.no (fun _ _ h => h) (Chg.refl _) (fun _ _ => trivial)
                  refine Obs.cons (some (16, true)) (by kernel_rfl) ?_ ?_
                  · refine Ob.yes (fun _ _ h => h) fun a w hR hk K k => ?_
                    obtain ⟨_, e20, rfl⟩ := hk 20 (by decide)
                    obtain ⟨_, e28, _⟩ := hk 28 (by decide)
                    clear hk
                    go_simp
                    exact k _ _ (Chg.refl _ _) rfl
                  refine Obs.cons none (by kernel_rfl) ?_ ?_
                  · refine Ob.plain fun a w hR hk K k => ?_
                    obtain ⟨_, e16, rfl⟩ := hk 16 (by decide)
                    obtain ⟨_, e29, rfl⟩ := hk 29 (by decide)
                    clear hk
                    go_simp
                    exact k _ _ (Chg.refl _ _) rfl
                  refine Obs.cons none (by kernel_rfl) ?_ ?_
                  · refine Ob.plain fun a w hR hk K k => ?_
                    obtain ⟨_, e30, f30⟩ := hk 30 (by decide)
                    clear hk
                    go_simp
                    exact k _ _ (Chg.refl _ _) f30
                  refine Obs.cons (some (31, true)) (by kernel_rfl) ?_ ?_
                  · refine Ob.yes (fun _ _ h => h) fun a w hR hk K k => ?_
                    obtain ⟨_, e5, f5⟩ := hk 5 (by decide)
                    clear hk
                    go_simp
                    exact k _ _ (Chg.refl _ _) f5
                  refine Obs.cons (some (31, true)) (by kernel_rfl) ?_ ?_
                  · refine Ob.yes (fun _ _ h => h) fun a w hR hk K k => ?_
                    obtain ⟨_, e32, rfl⟩ := hk 32 (by decide)
                    clear hk
                    go_simp
                    exact k _ _ (Chg.refl _ _) rfl
                  refine Obs.cons (some (31, true)) (by kernel_rfl) ?_ ?_
                  · refine Ob.yes (fun _ _ h => h) fun a w hR hk K k => ?_
                    obtain ⟨_, e33, f33⟩ := hk 33 (by decide)
                    clear hk
                    go_simp
                    exact k _ _ (Chg.refl _ _) f33
                  refine Obs.cons (some (34, false)) (by kernel_rfl) ?_ ?_
                  · refine Ob.yes (fun _ _ h => h) fun a w hR hk K k => ?_
                    obtain ⟨_, e7, rfl⟩ := hk 7 (by decide)
                    clear hk
                    have q0 := hR.cell s0 id
                    have q1 := hR.cell s1 id
                    go_simp
                    exact k _ _ (Chg.refl _ _) rfl
                  refine Obs.cons (some (34, false)) (by kernel_rfl) ?_ ?_
                  · refine Ob.yes (fun _ _ h => h) fun a w hR hk K k => ?_
                    obtain ⟨_, e4, rfl⟩ := hk 4 (by decide)
                    clear hk
                    have q0 := hR.cell p0 id
                    have q1 := hR.cell p1 id
                    go_simp
                    exact k _ _ (Chg.refl _ _) rfl
                  refine Obs.cons (some (34, false)) (by kernel_rfl) ?_ ?_
                  · refine Ob.yes (fun _ _ h => h) fun a w hR hk K k => ?_
                    obtain ⟨_, e35, rfl⟩ := hk 35 (by decide)
                    obtain ⟨_, e36, rfl⟩ := hk 36 (by decide)
                    clear hk
                    go_simp
                    refine (less_ref s b _).mono ?_
                    rintro e w2 ⟨rfl, hc⟩
                    exact k _ _ hc (congrArg Value.bool hlb)
                  refine Obs.cons (some (31, true)) (by kernel_rfl) ?_ ?_
                  · refine Ob.yes (fun _ _ h => h) fun a w hR hk K k => ?_
                    obtain ⟨_, e34, rfl⟩ := hk 34 (by decide)
                    obtain ⟨_, e37, rfl⟩ := hk 37 (by decide)
                    clear hk
                    go_simp
                    exact k _ _ (Chg.refl _ _) rfl
                  refine Obs.cons none (by kernel_rfl) ?_ ?_
                  · refine Ob.plain fun a w hR hk K k => ?_
                    obtain ⟨_, e31, rfl⟩ := hk 31 (by decide)
                    obtain ⟨_, e38, rfl⟩ := hk 38 (by decide)
                    clear hk
                    go_simp
                    exact k _ _ (Chg.refl _ _) rfl
                  exact Obs.nil
                case fin =>
                  intro vals w9 hc9 hv
                  have h39 : vals 39 = .bool true := hv 39 (by decide)
                  simp only [putAll, List.setIfInBounds_toArray, List.set_cons_zero, List.set_cons_succ, h39]
                  clear hv h39
                  have hn2 : Hid (BestG ltR isRole out (ls.take (k + 1)) (some s)) := hid (by rw [htk.out]; exact hb.out.take ltR_ord hcand.out (fun c h => by cases h; exact hlb))
                  have hB9 := blk_keep hBb2 hc9 id
                  have hS9 := blk_keep hS hc9 id
                  have q0 := cell_blk hB9 0
                  have q1 := cell_blk hB9 1
                  have f0 := froz_blk hB9 0
                  have f1 := froz_blk hB9 1
                  have t0 := cell_blk hS9 0
                  have t1 := cell_blk hS9 1
                  simp only [List.getElem?_toArray, List.getElem?_cons_zero, List.getElem?_cons_succ] at q0 q1 t0 t1
                  have hD : ((w9.setCell ⟨Bb, 0, none⟩ (.string ⟨s.1.toArray⟩)).setCell ⟨Bb, 1, none⟩ (.string ⟨s.2.toArray⟩)).heap[Bb]? = some (.cells #[.string ⟨s.1.toArray⟩, .string ⟨s.2.toArray⟩] 24 (0, 0)) := set_blk (set_blk hB9 0 (.string ⟨s.1.toArray⟩)) 1 (.string ⟨s.2.toArray⟩)
                  have hg1 := setCell_chg w9 Bb 0 (.string ⟨s.1.toArray⟩)
                  have hg2 := setCell_chg (w9.setCell ⟨Bb, 0, none⟩ (.string ⟨s.1.toArray⟩)) Bb 1 (.string ⟨s.2.toArray⟩)
                  have ho9 := ((hoq2.keep hc9 (fun _ _ => id)).keep hg1 (fun k hk e => by have := hrB k hk; omega)).keep hg2 (fun k hk e => by have := hrB k hk; omega)
                  have hc10 : Chg (fun _ => False) w ((w9.setCell ⟨Bb, 0, none⟩ (.string ⟨s.1.toArray⟩)).setCell ⟨Bb, 1, none⟩ (.string ⟨s.2.toArray⟩)) := ((hcq2.trans hc9 (fun _ _ h => h)).trans hg1 (fun i hi e => by omega)).trans hg2 (fun i hi e => by omega)
                  have HX := hid (And.intro hD (And.intro ho9 hc10))
                  clear s0 s1 hS hBb2 hoq2 hcq2 hc9 htk hb hB9 hS9 hD hg1 hg2 ho9 hc10
                  go_wp2
                  go_roundw
                  case rel => exact ⟨k + 1, some s, by go_num, by omega, rfl, hn2, HX.out.1, HX.out.2.1, HX.out.2.2⟩
                  case measure => simp [intOf]; omega
              | false =>
                refine wp_region_specs (rsetSpecsC0 ao3 out.length cap3 Bb Sb g 0 true s l b) [14, 15, 16, 17, 18, 19, 20, 21, 22, 23, 24, 25, 26, 27, 28, 29, 30, 31, 32, 33, 34, 35, 36, 37, 38, 39] [3, 4, 5, 7] (by kernel_rfl) (by kernel_rfl) (by rfl) (by kernel_rfl) ?start ?obs ?fin
                case start =>
                  simp only [List.forall_mem_cons]
                  exact ⟨⟨_, rfl, rfl⟩, ⟨_, rfl, rfl⟩, ⟨_, rfl, rfl⟩, ⟨_, rfl, rfl⟩, fun _ h => by cases h⟩
                case obs =>
                  refine Obs.cons none (by kernel_rfl) ?_ ?_
                  · refine Ob.plain fun a w hR hk K k => ?_
                    obtain ⟨_, e7, rfl⟩ := hk 7 (by decide)
                    clear hk
                    have q0 := hR.cell s0 id
                    have q1 := hR.cell s1 id
                    go_simp
                    exact k _ _ (Chg.refl _ _) rfl
                  refine Obs.cons none (by kernel_rfl) ?_ ?_
                  · refine Ob.plain fun a w hR hk K k => ?_
                    obtain ⟨_, e14, rfl⟩ := hk 14 (by decide)
                    clear hk
                    go_simp
                    refine (rright_ref s _ ls1 ls2).mono ?_
                    rintro e w2 ⟨rfl, hc⟩
                    exact k _ _ hc (congrArg Value.bool hrt)
                  refine Obs.cons none (by kernel_rfl) ?_ ?_
                  · refine Ob.plain fun a w hR hk K k => ?_
                    obtain ⟨_, e15, f15⟩ := hk 15 (by decide)
                    clear hk
                    go_simp
                    exact k _ _ (Chg.refl _ _) f15
                  refine Obs.cons (some (16, true)) (by kernel_rfl) ?_ ?_
                  · refine Ob.yes (fun _ _ h => h) fun a w hR hk K k => ?_
                    obtain ⟨_, e3, f3⟩ := hk 3 (by decide)
                    clear hk
                    go_simp
                    exact k _ _ (Chg.refl _ _) f3
                  refine Obs.cons (some (16, true)) (by kernel_rfl) ?_ ?_
                  · refine Ob.yes (fun _ _ h => h) fun a w hR hk K k => ?_
                    obtain ⟨_, e17, rfl⟩ := hk 17 (by decide)
                    clear hk
                    go_simp
                    exact k _ _ (Chg.refl _ _) rfl
                  refine Obs.cons (some (16, true)) (by kernel_rfl) ?_ ?_
                  · refine Ob.yes (fun _ _ h => h) fun a w hR hk K k => ?_
                    obtain ⟨_, e18, rfl⟩ := hk 18 (by decide)
                    clear hk
                    go_simp
                    exact k _ _ (Chg.refl _ _) rfl
                  refine Obs.cons (some (16, true)) (by kernel_rfl) ?_ ?_
                  · refine Ob.yes (fun _ _ h => h) fun a w hR hk K k => ?_
                    obtain ⟨_, e19, f19⟩ := hk 19 (by decide)
                    clear hk
                    go_simp
                    exact k _ _ (Chg.refl _ _) f19
                  refine Obs.cons (some (20, false)) (by kernel_rfl) ?_ ?_
                  · exact Ob.no (fun _ _ h => h) (Chg.refl _) (fun _ _ => trivial)
                  refine Obs.cons (some (20, false)) (by kernel_rfl) ?_ ?_
                  · exact Ob.no (fun _ _ h => h) (Chg.refl _) (fun _ _ => trivial)
                  refine Obs.cons (some (20, false)) (by kernel_rfl) ?_ ?_
                  · exact Ob.no (fun _ _ h => h) (Chg.refl _) (fun _ _ => trivial)
                  refine Obs.cons (some (20, false)) (by kernel_rfl) ?_ ?_
                  · exact Ob.no (fun _ _ h => h) (Chg.refl _) (fun _ _ => trivial)
                  refine Obs.cons (some (20, false)) (by kernel_rfl) ?_ ?_
                  · exact Ob.no (fun _ _ h => h) (Chg.refl _) (fun _ _ => trivial)
                  refine Obs.cons (some (20, false)) (by kernel_rfl) ?_ ?_
                  · exact Ob.no (fun _ _ h => h) (Chg.refl _) (fun _ _ => trivial)
                  refine Obs.cons (some (20, false)) (by kernel_rfl) ?_ ?_
                  · exact Ob.no (fun _ _ h => h) (Chg.refl _) (fun _ _ => trivial)
                  refine Obs.cons (some (20, false)) (by kernel_rfl) ?_ ?_
                  · exact Ob.no (fun _ _ h => h) (Chg.refl _) (fun _ _ => trivial)
                  refine Obs.cons (some (16, true)) (by kernel_rfl) ?_ ?_
                  · refine Ob.yes (fun _ _ h => h) fun a w hR hk K k => ?_
                    obtain ⟨_, e20, rfl⟩ := hk 20 (by decide)
                    obtain ⟨_, e28, _⟩ := hk 28 (by decide)
                    clear hk
                    go_simp
                    exact k _ _ (Chg.refl _ _) rfl
                  refine Obs.cons none (by kernel_rfl) ?_ ?_
                  · refine Ob.plain fun a w hR hk K k => ?_
                    obtain ⟨_, e16, rfl⟩ := hk 16 (by decide)
                    obtain ⟨_, e29, rfl⟩ := hk 29 (by decide)
                    clear hk
                    go_simp
                    exact k _ _ (Chg.refl _ _) rfl
                  refine Obs.cons none (by kernel_rfl) ?_ ?_
                  · refine Ob.plain fun a w hR hk K k => ?_
                    obtain ⟨_, e30, f30⟩ := hk 30 (by decide)
                    clear hk
                    go_simp
                    exact k _ _ (Chg.refl _ _) f30
                  refine Obs.cons (some (31, true)) (by kernel_rfl) ?_ ?_
                  · refine Ob.yes (fun _ _ h => h) fun a w hR hk K k => ?_
                    obtain ⟨_, e5, f5⟩ := hk 5 (by decide)
                    clear hk
                    go_simp
                    exact k _ _ (Chg.refl _ _) f5
                  refine Obs.cons (some (31, true)) (by kernel_rfl) ?_ ?_
                  · refine Ob.yes (fun _ _ h => h) fun a w hR hk K k => ?_
                    obtain ⟨_, e32, rfl⟩ := hk 32 (by decide)
                    clear hk
                    go_simp
                    exact k _ _ (Chg.refl _ _) rfl
                  refine Obs.cons (some (31, true)) (by kernel_rfl) ?_ ?_
                  · refine Ob.yes (fun _ _ h => h) fun a w hR hk K k => ?_
                    obtain ⟨_, e33, f33⟩ := hk 33 (by decide)
                    clear hk
                    go_simp
                    exact k _ _ (Chg.refl _ _) f33
                  refine Obs.cons (some (34, false)) (by kernel_rfl) ?_ ?_
                  · refine Ob.yes (fun _ _ h => h) fun a w hR hk K k => ?_
                    obtain ⟨_, e7, rfl⟩ := hk 7 (by decide)
                    clear hk
                    have q0 := hR.cell s0 id
                    have q1 := hR.cell s1 id
                    go_simp
                    exact k _ _ (Chg.refl _ _) rfl
                  refine Obs.cons (some (34, false)) (by kernel_rfl) ?_ ?_
                  · refine Ob.yes (fun _ _ h => h) fun a w hR hk K k => ?_
                    obtain ⟨_, e4, rfl⟩ := hk 4 (by decide)
                    clear hk
                    have q0 := hR.cell p0 id
                    have q1 := hR.cell p1 id
                    go_simp
                    exact k _ _ (Chg.refl _ _) rfl
                  refine Obs.cons (some (34, false)) (by kernel_rfl) ?_ ?_
                  · refine Ob.yes (fun _ _ h => h) fun a w hR hk K k => ?_
                    obtain ⟨_, e35, rfl⟩ := hk 35 (by decide)
                    obtain ⟨_, e36, rfl⟩ := hk 36 (by decide)
                    clear hk
                    go_simp
                    refine (less_ref s b _).mono ?_
                    rintro e w2 ⟨rfl, hc⟩
                    exact k _ _ hc (congrArg Value.bool hlb)
                  refine Obs.cons (some (31, true)) (by kernel_rfl) ?_ ?_
                  · refine Ob.yes (fun _ _ h => h) fun a w hR hk K k => ?_
                    obtain ⟨_, e34, rfl⟩ := hk 34 (by decide)
                    obtain ⟨_, e37, rfl⟩ := hk 37 (by decide)
                    clear hk
                    go_simp
                    exact k _ _ (Chg.refl _ _) rfl
                  refine Obs.cons none (by kernel_rfl) ?_ ?_
                  · refine Ob.plain fun a w hR hk K k => ?_
                    obtain ⟨_, e31, rfl⟩ := hk 31 (by decide)
                    obtain ⟨_, e38, rfl⟩ := hk 38 (by decide)
                    clear hk
                    go_simp
                    exact k _ _ (Chg.refl _ _) rfl
                  exact Obs.nil
                case fin =>
                  intro vals w9 hc9 hv
                  have h39 : vals 39 = .bool false := hv 39 (by decide)
                  simp only [putAll, List.setIfInBounds_toArray, List.set_cons_zero, List.set_cons_succ, h39]
                  clear hv h39
                  have hn2 : Hid (BestG ltR isRole out (ls.take (k + 1)) (some b)) := hid (by rw [htk.out]; exact hb.out.keep hlb)
                  have HX := hid (And.intro (blk_keep hBb2 hc9 id) (And.intro (hoq2.keep hc9 (fun _ _ => id)) (hcq2.trans hc9 (fun _ _ h => h))))
                  clear s0 s1 hS hBb2 hoq2 hcq2 hc9 htk hb
                  go_wp2
                  go_roundw
                  case rel => exact ⟨k + 1, some b, by go_num, by omega, rfl, hn2, HX.out.1, HX.out.2.1, HX.out.2.2⟩
                  case measure => simp [intOf]; omega
          · obtain ⟨l, hl⟩ : ∃ l, out.getLast? = some l := by cases hx : out.getLast? with | none => exact absurd (List.getLast?_eq_none_iff.1 hx) h0 | some l => exact ⟨l, rfl⟩
            have hpos : 0 < out.length := List.length_pos_iff.2 h0
            have z1 : ((out.length : Int) == 0) = false := by rw [beq_eq_false_iff_ne]; omega
            obtain ⟨ao6, cap6, hv6, hst6, _⟩ := hoq2.roles HBD.out
            cases hv6
            obtain ⟨g, goff, hg, hgB, hlr⟩ := hst6 (out.length - 1) (by omega)
            have hgo : goff = 0 := by
              rcases hoq2.2 with ⟨e, _⟩ | ⟨g', cap', cur, e, _⟩
              · rw [hg] at e; cases e
              · rw [hg] at e; cases e; rfl
            subst hgo
            subst hg
            rw [show out[out.length - 1]'(by omega) = l by
              have := List.getLast?_eq_getElem? (l := out)
              rw [hl, List.getElem?_eq_getElem (by omega)] at this
              exact (Option.some.inj this).symm, Nat.zero_add] at hlr
            have e0 : (0 : Int) ≤ (out.length : Int) - 1 := by omega
            have e1 : (out.length : Int) - 1 < (out.length : Int) := by omega
            have e4 : (1 : Int) ≤ (out.length : Int) := by omega
            have e2 : ((out.length : Int) - 1).toNat = out.length - 1 := by omega
            have e3 : IntKind.i64.wrap ((out.length : Int) - 1) = (out.length : Int) - 1 := by rw [IntKind.wrap_i64]; omega
            have hcl := cand_last (out := out) hl hrt
            have HCL := hid hcl
            have HL0 := hid (And.intro hl (And.intro hpos h0))
            clear hl hpos h0 hcl hst6 hgB
            cases hll : ltR l s with
            | false =>
              have b : RoleB := s
              refine wp_region_specs (rsetSpecsD none out.length cap3 Bb Sb g 0 bo.isSome s l b) [14, 15, 16, 17, 18, 19, 20, 21, 22, 23, 24, 25, 26, 27, 28, 29, 30, 31, 32, 33, 34, 35, 36, 37, 38, 39] [3, 4, 5, 7] (by kernel_rfl) (by kernel_rfl) (by rfl) (by kernel_rfl) ?start ?obs ?fin
              case start =>
                simp only [List.forall_mem_cons]
                exact ⟨⟨_, rfl, rfl⟩, ⟨_, rfl, rfl⟩, ⟨_, rfl, rfl⟩, ⟨_, rfl, rfl⟩, fun _ h => by cases h⟩
              case obs =>
                refine Obs.cons none (by kernel_rfl) ?_ ?_
                · refine Ob.plain fun a w hR hk K k => ?_
                  obtain ⟨_, e7, rfl⟩ := hk 7 (by decide)
                  clear hk
                  have q0 := hR.cell s0 id
                  have q1 := hR.cell s1 id
                  go_simp
                  exact k _ _ (Chg.refl _ _) rfl
                refine Obs.cons none (by kernel_rfl) ?_ ?_
                · refine Ob.plain fun a w hR hk K k => ?_
                  obtain ⟨_, e14, rfl⟩ := hk 14 (by decide)
                  clear hk
                  go_simp
                  refine (rright_ref s _ ls1 ls2).mono ?_
                  rintro e w2 ⟨rfl, hc⟩
                  exact k _ _ hc (congrArg Value.bool hrt)
                refine Obs.cons none (by kernel_rfl) ?_ ?_
                · refine Ob.plain fun a w hR hk K k => ?_
                  obtain ⟨_, e15, f15⟩ := hk 15 (by decide)
                  clear hk
                  go_simp
                  exact k _ _ (Chg.refl _ _) f15
                refine Obs.cons (some (16, true)) (by kernel_rfl) ?_ ?_
                · refine Ob.yes (fun _ _ h => h) fun a w hR hk K k => ?_
                  obtain ⟨_, e3, f3⟩ := hk 3 (by decide)
                  clear hk
                  go_simp
                  exact k _ _ (Chg.refl _ _) f3
                refine Obs.cons (some (16, true)) (by kernel_rfl) ?_ ?_
                · refine Ob.yes (fun _ _ h => h) fun a w hR hk K k => ?_
                  obtain ⟨_, e17, rfl⟩ := hk 17 (by decide)
                  clear hk
                  go_simp
                  exact k _ _ (Chg.refl _ _) rfl
                refine Obs.cons (some (16, true)) (by kernel_rfl) ?_ ?_
                · refine Ob.yes (fun _ _ h => h) fun a w hR hk K k => ?_
                  obtain ⟨_, e18, rfl⟩ := hk 18 (by decide)
                  clear hk
                  go_simp
                  exact k _ _ (Chg.refl _ _) rfl
                refine Obs.cons (some (16, true)) (by kernel_rfl) ?_ ?_
                · refine Ob.yes (fun _ _ h => h) fun a w hR hk K k => ?_
                  obtain ⟨_, e19, f19⟩ := hk 19 (by decide)
                  clear hk
                  go_simp
                  exact k _ _ (Chg.refl _ _) f19
                refine Obs.cons (some (20, false)) (by kernel_rfl) ?_ ?_
                · refine Ob.yes (fun _ _ h => h) fun a w hR hk K k => ?_
                  obtain ⟨_, e3, f3⟩ := hk 3 (by decide)
                  clear hk
                  go_simp
                  exact k _ _ (Chg.refl _ _) f3
                refine Obs.cons (some (20, false)) (by kernel_rfl) ?_ ?_
                · refine Ob.yes (fun _ _ h => h) fun a w hR hk K k => ?_
                  obtain ⟨_, e3, f3⟩ := hk 3 (by decide)
                  clear hk
                  go_simp
                  exact k _ _ (Chg.refl _ _) f3
                refine Obs.cons (some (20, false)) (by kernel_rfl) ?_ ?_
                · refine Ob.yes (fun _ _ h => h) fun a w hR hk K k => ?_
                  obtain ⟨_, e22, rfl⟩ := hk 22 (by decide)
                  clear hk
                  go_simp
                  exact k _ _ (Chg.refl _ _) rfl
                refine Obs.cons (some (20, false)) (by kernel_rfl) ?_ ?_
                · refine Ob.yes (fun _ _ h => h) fun a w hR hk K k => ?_
                  obtain ⟨_, e23, rfl⟩ := hk 23 (by decide)
                  clear hk
                  go_simp
                  exact k _ _ (Chg.refl _ _) rfl
                refine Obs.cons (some (20, false)) (by kernel_rfl) ?_ ?_
                · refine Ob.yes (fun _ _ h => h) fun a w hR hk K k => ?_
                  obtain ⟨_, e21, rfl⟩ := hk 21 (by decide)
                  obtain ⟨_, e24, rfl⟩ := hk 24 (by decide)
                  clear hk
                  obtain ⟨c0, c1, _⟩ := hlr.keep hR id
                  go_simp
                  exact k _ _ (Chg.refl _ _) ⟨_, _, rfl, hlr.keep hR id⟩
                refine Obs.cons (some (20, false)) (by kernel_rfl) ?_ ?_
                · refine Ob.yes (fun _ _ h => h) fun a w hR hk K k => ?_
                  obtain ⟨_, e25, f25⟩ := hk 25 (by decide)
                  clear hk
                  obtain ⟨b, off, rfl, c0, c1, _⟩ := f25
                  go_simp
                  exact k _ _ (Chg.refl _ _) rfl
                refine Obs.cons (some (20, false)) (by kernel_rfl) ?_ ?_
                · refine Ob.yes (fun _ _ h => h) fun a w hR hk K k => ?_
                  obtain ⟨_, e7, rfl⟩ := hk 7 (by decide)
                  clear hk
                  have q0 := hR.cell s0 id
                  have q1 := hR.cell s1 id
                  go_simp
                  exact k _ _ (Chg.refl _ _) rfl
                refine Obs.cons (some (20, false)) (by kernel_rfl) ?_ ?_
                · refine Ob.yes (fun _ _ h => h) fun a w hR hk K k => ?_
                  obtain ⟨_, e26, rfl⟩ := hk 26 (by decide)
                  obtain ⟨_, e27, rfl⟩ := hk 27 (by decide)
                  clear hk
                  go_simp
                  refine (less_ref l s _).mono ?_
                  rintro e w2 ⟨rfl, hc⟩
                  exact k _ _ hc (congrArg Value.bool hll)
                refine Obs.cons (some (16, true)) (by kernel_rfl) ?_ ?_
                · refine Ob.yes (fun _ _ h => h) fun a w hR hk K k => ?_
                  obtain ⟨_, e20, rfl⟩ := hk 20 (by decide)
                  obtain ⟨_, e28, rfl⟩ := hk 28 (by decide)
                  clear hk
                  go_simp
                  exact k _ _ (Chg.refl _ _) rfl
                refine Obs.cons none (by kernel_rfl) ?_ ?_
                · refine Ob.plain fun a w hR hk K k => ?_
                  obtain ⟨_, e16, rfl⟩ := hk 16 (by decide)
                  obtain ⟨_, e29, rfl⟩ := hk 29 (by decide)
                  clear hk
                  go_simp
                  exact k _ _ (Chg.refl _ _) rfl
                refine Obs.cons none (by kernel_rfl) ?_ ?_
                · refine Ob.plain fun a w hR hk K k => ?_
                  obtain ⟨_, e30, f30⟩ := hk 30 (by decide)
                  clear hk
                  go_simp
                  exact k _ _ (Chg.refl _ _) f30
                refine Obs.cons (some (31, true)) (by kernel_rfl) ?_ ?_
                · exact Ob.no (fun _ _ h => h) (Chg.refl _) (fun _ _ => trivial)
                refine Obs.cons (some (31, true)) (by kernel_rfl) ?_ ?_
                · exact Ob.no (fun _ _ h => h) (Chg.refl _) (fun _ _ => trivial)
                refine Obs.cons (some (31, true)) (by kernel_rfl) ?_ ?_
                · exact Ob.no (fun _ _ h => h) (Chg.refl _) (fun _ _ => rfl)
                refine Obs.cons (some (34, false)) (by kernel_rfl) ?_ ?_
                · exact Ob.und (fun _ _ h => h) (Chg.refl _) (fun _ _ => trivial)
                refine Obs.cons (some (34, false)) (by kernel_rfl) ?_ ?_
                · exact Ob.und (fun _ _ h => h) (Chg.refl _) (fun _ _ => trivial)
                refine Obs.cons (some (34, false)) (by kernel_rfl) ?_ ?_
                · exact Ob.und (fun _ _ h => h) (Chg.refl _) (fun _ _ => trivial)
                refine Obs.cons (some (31, true)) (by kernel_rfl) ?_ ?_
                · exact Ob.no (fun _ _ h => h) (Chg.refl _) (fun _ _ => trivial)
                refine Obs.cons none (by kernel_rfl) ?_ ?_
                · refine Ob.plain fun a w hR hk K k => ?_
                  obtain ⟨_, e31, rfl⟩ := hk 31 (by decide)
                  obtain ⟨_, e38, _⟩ := hk 38 (by decide)
                  clear hk
                  go_simp
                  exact k _ _ (Chg.refl _ _) rfl
                exact Obs.nil
              case fin =>
                intro vals w9 hc9 hv
                have h39 : vals 39 = .bool false := hv 39 (by decide)
                simp only [putAll, List.setIfInBounds_toArray, List.set_cons_zero, List.set_cons_succ, h39]
                clear hv h39
                have hn2 : Hid (BestG ltR isRole out (ls.take (k + 1)) bo) := hid (by rw [htk.out]; exact hb.out.skip (HCL.out.trans hll))
                have HX := hid (And.intro (blk_keep hBb2 hc9 id) (And.intro (hoq2.keep hc9 (fun _ _ => id)) (hcq2.trans hc9 (fun _ _ h => h))))
                clear s0 s1 hS hBb2 hoq2 hcq2 hc9 htk hb
                go_wp2
                go_roundw
                case rel => exact ⟨k + 1, bo, by go_num, by omega, rfl, hn2, HX.out.1, HX.out.2.1, HX.out.2.2⟩
                case measure => simp [intOf]; omega
            | true =>
              cases bo with
              | none =>
                have b : RoleB := s
                refine wp_region_specs (rsetSpecsE none out.length cap3 Bb Sb g 0 false s l b) [14, 15, 16, 17, 18, 19, 20, 21, 22, 23, 24, 25, 26, 27, 28, 29, 30, 31, 32, 33, 34, 35, 36, 37, 38, 39] [3, 4, 5, 7] (by kernel_rfl) (by kernel_rfl) (by rfl) (by kernel_rfl) ?start ?obs ?fin
                case start =>
                  simp only [List.forall_mem_cons]
                  exact ⟨⟨_, rfl, rfl⟩, ⟨_, rfl, rfl⟩, ⟨_, rfl, rfl⟩, ⟨_, rfl, rfl⟩, fun _ h => by cases h⟩
                case obs =>
                  refine Obs.cons none (by kernel_rfl) ?_ ?_
                  · refine Ob.plain fun a w hR hk K k => ?_
                    obtain ⟨_, e7, rfl⟩ := hk 7 (by decide)
                    clear hk
                    have q0 := hR.cell s0 id
                    have q1 := hR.cell s1 id
                    go_simp
                    exact k _ _ (Chg.refl _ _) rfl
                  refine Obs.cons none (by kernel_rfl) ?_ ?_
                  · refine Ob.plain fun a w hR hk K k => ?_
                    obtain ⟨_, e14, rfl⟩ := hk 14 (by decide)
                    clear hk
                    go_simp
                    refine (rright_ref s _ ls1 ls2).mono ?_
                    rintro e w2 ⟨rfl, hc⟩
                    exact k _ _ hc (congrArg Value.bool hrt)
                  refine Obs.cons none (by kernel_rfl) ?_ ?_
                  · refine Ob.plain fun a w hR hk K k => ?_
                    obtain ⟨_, e15, f15⟩ := hk 15 (by decide)
                    clear hk
                    go_simp
                    exact k _ _ (Chg.refl _ _) f15
                  refine Obs.cons (some (16, true)) (by kernel_rfl) ?_ ?_
                  · refine Ob.yes (fun _ _ h => h) fun a w hR hk K k => ?_
                    obtain ⟨_, e3, f3⟩ := hk 3 (by decide)
                    clear hk
                    go_simp
                    exact k _ _ (Chg.refl _ _) f3
                  refine Obs.cons (some (16, true)) (by kernel_rfl) ?_ ?_
                  · refine Ob.yes (fun _ _ h => h) fun a w hR hk K k => ?_
                    obtain ⟨_, e17, rfl⟩ := hk 17 (by decide)
                    clear hk
                    go_simp
                    exact k _ _ (Chg.refl _ _) rfl
                  refine Obs.cons (some (16, true)) (by kernel_rfl) ?_ ?_
                  · refine Ob.yes (fun _ _ h => h) fun a w hR hk K k => ?_
                    obtain ⟨_, e18, rfl⟩ := hk 18 (by decide)
                    clear hk
                    go_simp
                    exact k _ _ (Chg.refl _ _) rfl
                  refine Obs.cons (some (16, true)) (by kernel_rfl) ?_ ?_
                  · refine Ob.yes (fun _ _ h => h) fun a w hR hk K k => ?_
                    obtain ⟨_, e19, f19⟩ := hk 19 (by decide)
                    clear hk
                    go_simp
                    exact k _ _ (Chg.refl _ _) f19
                  refine Obs.cons (some (20, false)) (by kernel_rfl) ?_ ?_
                  · refine Ob.yes (fun _ _ h => h) fun a w hR hk K k => ?_
                    obtain ⟨_, e3, f3⟩ := hk 3 (by decide)
                    clear hk
                    go_simp
                    exact k _ _ (Chg.refl _ _) f3
                  refine Obs.cons (some (20, false)) (by kernel_rfl) ?_ ?_
                  · refine Ob.yes (fun _ _ h => h) fun a w hR hk K k => ?_
                    obtain ⟨_, e3, f3⟩ := hk 3 (by decide)
                    clear hk
                    go_simp
                    exact k _ _ (Chg.refl _ _) f3
                  refine Obs.cons (some (20, false)) (by kernel_rfl) ?_ ?_
                  · refine Ob.yes (fun _ _ h => h) fun a w hR hk K k => ?_
                    obtain ⟨_, e22, rfl⟩ := hk 22 (by decide)
                    clear hk
                    go_simp
                    exact k _ _ (Chg.refl _ _) rfl
                  refine Obs.cons (some (20, false)) (by kernel_rfl) ?_ ?_
                  · refine Ob.yes (fun _ _ h => h) fun a w hR hk K k => ?_
                    obtain ⟨_, e23, rfl⟩ := hk 23 (by decide)
                    clear hk
                    go_simp
                    exact k _ _ (Chg.refl _ _) rfl
                  refine Obs.cons (some (20, false)) (by kernel_rfl) ?_ ?_
                  · refine Ob.yes (fun _ _ h => h) fun a w hR hk K k => ?_
                    obtain ⟨_, e21, rfl⟩ := hk 21 (by decide)
                    obtain ⟨_, e24, rfl⟩ := hk 24 (by decide)
                    clear hk
                    obtain ⟨c0, c1, _⟩ := hlr.keep hR id
                    go_simp
                    exact k _ _ (Chg.refl _ _) ⟨_, _, rfl, hlr.keep hR id⟩
                  refine Obs.cons (some (20, false)) (by kernel_rfl) ?_ ?_
                  · refine Ob.yes (fun _ _ h => h) fun a w hR hk K k => ?_
                    obtain ⟨_, e25, f25⟩ := hk 25 (by decide)
                    clear hk
                    obtain ⟨b, off, rfl, c0, c1, _⟩ := f25
                    go_simp
                    exact k _ _ (Chg.refl _ _) rfl
                  refine Obs.cons (some (20, false)) (by kernel_rfl) ?_ ?_
                  · refine Ob.yes (fun _ _ h => h) fun a w hR hk K k => ?_
                    obtain ⟨_, e7, rfl⟩ := hk 7 (by decide)
                    clear hk
                    have q0 := hR.cell s0 id
                    have q1 := hR.cell s1 id
                    go_simp
                    exact k _ _ (Chg.refl _ _) rfl
                  refine Obs.cons (some (20, false)) (by kernel_rfl) ?_ ?_
                  · refine Ob.yes (fun _ _ h => h) fun a w hR hk K k => ?_
                    obtain ⟨_, e26, rfl⟩ := hk 26 (by decide)
                    obtain ⟨_, e27, rfl⟩ := hk 27 (by decide)
                    clear hk
                    go_simp
                    refine (less_ref l s _).mono ?_
                    rintro e w2 ⟨rfl, hc⟩
                    exact k _ _ hc (congrArg Value.bool hll)
                  refine Obs.cons (some (16, true)) (by kernel_rfl) ?_ ?_
                  · refine Ob.yes (fun _ _ h => h) fun a w hR hk K k => ?_
                    obtain ⟨_, e20, rfl⟩ := hk 20 (by decide)
                    obtain ⟨_, e28, rfl⟩ := hk 28 (by decide)
                    clear hk
                    go_simp
                    exact k _ _ (Chg.refl _ _) rfl
                  refine Obs.cons none (by kernel_rfl) ?_ ?_
                  · refine Ob.plain fun a w hR hk K k => ?_
                    obtain ⟨_, e16, rfl⟩ := hk 16 (by decide)
                    obtain ⟨_, e29, rfl⟩ := hk 29 (by decide)
                    clear hk
                    go_simp
                    exact k _ _ (Chg.refl _ _) rfl
                  refine Obs.cons none (by kernel_rfl) ?_ ?_
                  · refine Ob.plain fun a w hR hk K k => ?_
                    obtain ⟨_, e30, f30⟩ := hk 30 (by decide)
                    clear hk
                    go_simp
                    exact k _ _ (Chg.refl _ _) f30
                  refine Obs.cons (some (31, true)) (by kernel_rfl) ?_ ?_
                  · refine Ob.yes (fun _ _ h => h) fun a w hR hk K k => ?_
                    obtain ⟨_, e5, f5⟩ := hk 5 (by decide)
                    clear hk
                    go_simp
                    exact k _ _ (Chg.refl _ _) f5
                  refine Obs.cons (some (31, true)) (by kernel_rfl) ?_ ?_
                  · refine Ob.yes (fun _ _ h => h) fun a w hR hk K k => ?_
                    obtain ⟨_, e32, rfl⟩ := hk 32 (by decide)
                    clear hk
                    go_simp
                    exact k _ _ (Chg.refl _ _) rfl
                  refine Obs.cons (some (31, true)) (by kernel_rfl) ?_ ?_
                  · refine Ob.yes (fun _ _ h => h) fun a w hR hk K k => ?_
                    obtain ⟨_, e33, f33⟩ := hk 33 (by decide)
                    clear hk
                    go_simp
                    exact k _ _ (Chg.refl _ _) f33
                  refine Obs.cons (some (34, false)) (by kernel_rfl) ?_ ?_
                  · exact Ob.no (fun _ _ h => h) (Chg.refl _) (fun _ _ => trivial)
                  refine Obs.cons (some (34, false)) (by kernel_rfl) ?_ ?_
                  · exact Ob.no (fun _ _ h => h) (Chg.refl _) (fun _ _ => trivial)
                  refine Obs.cons (some (34, false)) (by kernel_rfl) ?_ ?_
                  · exact Ob.no (fun _ _ h => h) (Chg.refl _) (fun _ _ => trivial)
                  refine Obs.cons (some (31, true)) (by kernel_rfl) ?_ ?_
                  · refine Ob.yes (fun _ _ h => h) fun a w hR hk K k => ?_
                    obtain ⟨_, e34, rfl⟩ := hk 34 (by decide)
                    obtain ⟨_, e37, _⟩ := hk 37 (by decide)
                    clear hk
                    go_simp
                    exact k _ _ (Chg.refl _ _) rfl
                  refine Obs.cons none (by kernel_rfl) ?_ ?_
                  · refine Ob.plain fun a w hR hk K k => ?_
                    obtain ⟨_, e31, rfl⟩ := hk 31 (by decide)
                    obtain ⟨_, e38, rfl⟩ := hk 38 (by decide)
                    clear hk
                    go_simp
                    exact k _ _ (Chg.refl _ _) rfl
                  exact Obs.nil
                case fin =>
                  intro vals w9 hc9 hv
                  have h39 : vals 39 = .bool true := hv 39 (by decide)
                  simp only [putAll, List.setIfInBounds_toArray, List.set_cons_zero, List.set_cons_succ, h39]
                  clear hv h39
                  have hn2 : Hid (BestG ltR isRole out (ls.take (k + 1)) (some s)) := hid (by rw [htk.out]; exact hb.out.take ltR_ord (HCL.out.trans hll) (fun c h => by cases h))
                  have hB9 := blk_keep hBb2 hc9 id
                  have hS9 := blk_keep hS hc9 id
                  have q0 := cell_blk hB9 0
                  have q1 := cell_blk hB9 1
                  have f0 := froz_blk hB9 0
                  have f1 := froz_blk hB9 1
                  have t0 := cell_blk hS9 0
                  have t1 := cell_blk hS9 1
                  simp only [List.getElem?_toArray, List.getElem?_cons_zero, List.getElem?_cons_succ] at q0 q1 t0 t1
                  have hD : ((w9.setCell ⟨Bb, 0, none⟩ (.string ⟨s.1.toArray⟩)).setCell ⟨Bb, 1, none⟩ (.string ⟨s.2.toArray⟩)).heap[Bb]? = some (.cells #[.string ⟨s.1.toArray⟩, .string ⟨s.2.toArray⟩] 24 (0, 0)) := set_blk (set_blk hB9 0 (.string ⟨s.1.toArray⟩)) 1 (.string ⟨s.2.toArray⟩)
                  have hg1 := setCell_chg w9 Bb 0 (.string ⟨s.1.toArray⟩)
                  have hg2 := setCell_chg (w9.setCell ⟨Bb, 0, none⟩ (.string ⟨s.1.toArray⟩)) Bb 1 (.string ⟨s.2.toArray⟩)
                  have ho9 := ((hoq2.keep hc9 (fun _ _ => id)).keep hg1 (fun k hk e => by have := hrB k hk; omega)).keep hg2 (fun k hk e => by have := hrB k hk; omega)
                  have hc10 : Chg (fun _ => False) w ((w9.setCell ⟨Bb, 0, none⟩ (.string ⟨s.1.toArray⟩)).setCell ⟨Bb, 1, none⟩ (.string ⟨s.2.toArray⟩)) := ((hcq2.trans hc9 (fun _ _ h => h)).trans hg1 (fun i hi e => by omega)).trans hg2 (fun i hi e => by omega)
                  have HX := hid (And.intro hD (And.intro ho9 hc10))
                  clear s0 s1 hS hBb2 hoq2 hcq2 hc9 htk hb hB9 hS9 hD hg1 hg2 ho9 hc10
                  go_wp2
                  go_roundw
                  case rel => exact ⟨k + 1, some s, by go_num, by omega, rfl, hn2, HX.out.1, HX.out.2.1, HX.out.2.2⟩
                  case measure => simp [intOf]; omega
              | some b =>
                have p0 := cell_blk hBb2 0
                have p1 := cell_blk hBb2 1
                simp only [List.getElem?_toArray, List.getElem?_cons_zero, List.getElem?_cons_succ, Option.getD_some] at p0 p1
                cases hlb : ltR s b with
                | true =>
                  refine wp_region_specs (rsetSpecsF1 none out.length cap3 Bb Sb g 0 true s l b) [14, 15, 16, 17, 18, 19, 20, 21, 22, 23, 24, 25, 26, 27, 28, 29, 30, 31, 32, 33, 34, 35, 36, 37, 38, 39] [3, 4, 5, 7] (by kernel_rfl) (by kernel_rfl) (by rfl) (by kernel_rfl) ?start ?obs ?fin
                  case start =>
                    simp only [List.forall_mem_cons]
                    exact ⟨⟨_, rfl, rfl⟩, ⟨_, rfl, rfl⟩, ⟨_, rfl, rfl⟩, ⟨_, rfl, rfl⟩, fun _ h => by cases h⟩
                  case obs =>
                    refine Obs.cons none (by kernel_rfl) ?_ ?_
                    · refine Ob.plain fun a w hR hk K k => ?_
                      obtain ⟨_, e7, rfl⟩ := hk 7 (by decide)
                      clear hk
                      have q0 := hR.cell s0 id
                      have q1 := hR.cell s1 id
                      go_simp
                      exact k _ _ (Chg.refl _ _) rfl
                    refine Obs.cons none (by kernel_rfl) ?_ ?_
                    · refine Ob.plain fun a w hR hk K k => ?_
                      obtain ⟨_, e14, rfl⟩ := hk 14 (by decide)
                      clear hk
                      go_simp
                      refine (rright_ref s _ ls1 ls2).mono ?_
                      rintro e w2 ⟨rfl, hc⟩
                      exact k _ _ hc (congrArg Value.bool hrt)
                    refine Obs.cons none (by kernel_rfl) ?_ ?_
                    · refine Ob.plain fun a w hR hk K k => ?_
                      obtain ⟨_, e15, f15⟩ := hk 15 (by decide)
                      clear hk
                      go_simp
                      exact k _ _ (Chg.refl _ _) f15
                    refine Obs.cons (some (16, true)) (by kernel_rfl) ?_ ?_
                    · refine Ob.yes (fun _ _ h => h) fun a w hR hk K k => ?_
                      obtain ⟨_, e3, f3⟩ := hk 3 (by decide)
                      clear hk
                      go_simp
                      exact k _ _ (Chg.refl _ _) f3
                    refine Obs.cons (some (16, true)) (by kernel_rfl) ?_ ?_
                    · refine Ob.yes (fun _ _ h => h) fun a w hR hk K k => ?_
                      obtain ⟨_, e17, rfl⟩ := hk 17 (by decide)
                      clear hk
                      go_simp
                      exact k _ _ (Chg.refl _ _) rfl
                    refine Obs.cons (some (16, true)) (by kernel_rfl) ?_ ?_
                    · refine Ob.yes (fun _ _ h => h) fun a w hR hk K k => ?_
                      obtain ⟨_, e18, rfl⟩ := hk 18 (by decide)
                      clear hk
                      go_simp
                      exact k _ _ (Chg.refl _ _) rfl
                    refine Obs.cons (some (16, true)) (by kernel_rfl) ?_ ?_
                    · refine Ob.yes (fun _ _ h => h) fun a w hR hk K k => ?_
                      obtain ⟨_, e19, f19⟩ := hk 19 (by decide)
                      clear hk
                      go_simp
                      exact k _ _ (Chg.refl _ _) f19
                    refine Obs.cons (some (20, false)) (by kernel_rfl) ?_ ?_
                    · refine Ob.yes (fun _ _ h => h) fun a w hR hk K k => ?_
                      obtain ⟨_, e3, f3⟩ := hk 3 (by decide)
                      clear hk
                      go_simp
                      exact k _ _ (Chg.refl _ _) f3
                    refine Obs.cons (some (20, false)) (by kernel_rfl) ?_ ?_
                    · refine Ob.yes (fun _ _ h => h) fun a w hR hk K k => ?_
                      obtain ⟨_, e3, f3⟩ := hk 3 (by decide)
                      clear hk
                      go_simp
                      exact k _ _ (Chg.refl _ _) f3
                    refine Obs.cons (some (20, false)) (by kernel_rfl) ?_ ?_
                    · refine Ob.yes (fun _ _ h => h) fun a w hR hk K k => ?_
                      obtain ⟨_, e22, rfl⟩ := hk 22 (by decide)
                      clear hk
                      go_simp
                      exact k _ _ (Chg.refl _ _) rfl
                    refine Obs.cons (some (20, false)) (by kernel_rfl) ?_ ?_
                    · refine Ob.yes (fun _ _ h => h) fun a w hR hk K k => ?_
                      obtain ⟨_, e23, rfl⟩ := hk 23 (by decide)
                      clear hk
                      go_simp
                      exact k _ _ (Chg.refl _ _) rfl
                    refine Obs.cons (some (20, false)) (by kernel_rfl) ?_ ?_
                    · refine Ob.yes (fun _ _ h => h) fun a w hR hk K k => ?_
                      obtain ⟨_, e21, rfl⟩ := hk 21 (by decide)
                      obtain ⟨_, e24, rfl⟩ := hk 24 (by decide)
                      clear hk
                      obtain ⟨c0, c1, _⟩ := hlr.keep hR id
                      go_simp
                      exact k _ _ (Chg.refl _ _) ⟨_, _, rfl, hlr.keep hR id⟩
                    refine Obs.cons (some (20, false)) (by kernel_rfl) ?_ ?_
                    · refine Ob.yes (fun _ _ h => h) fun a w hR hk K k => ?_
                      obtain ⟨_, e25, f25⟩ := hk 25 (by decide)
                      clear hk
                      obtain ⟨b, off, rfl, c0, c1, _⟩ := f25
                      go_simp
                      exact k _ _ (Chg.refl _ _) rfl
                    refine Obs.cons (some (20, false)) (by kernel_rfl) ?_ ?_
                    · refine Ob.yes (fun _ _ h => h) fun a w hR hk K k => ?_
                      obtain ⟨_, e7, rfl⟩ := hk 7 (by decide)
                      clear hk
                      have q0 := hR.cell s0 id
                      have q1 := hR.cell s1 id
                      go_simp
                      exact k _ _ (Chg.refl _ _) rfl
                    refine Obs.cons (some (20, false)) (by kernel_rfl) ?_ ?_
                    · refine Ob.yes (fun _ _ h => h) fun a w hR hk K k => ?_
                      obtain ⟨_, e26, rfl⟩ := hk 26 (by decide)
                      obtain ⟨_, e27, rfl⟩ := hk 27 (by decide)
                      clear hk
                      go_simp
                      refine (less_ref l s _).mono ?_
                      rintro e w2 ⟨rfl, hc⟩
                      exact k _ _ hc (congrArg Value.bool hll)
                    refine Obs.cons (some (16, true)) (by kernel_rfl) ?_ ?_
                    · refine Ob.yes (fun _ _ h => h) fun a w hR hk K k => ?_
                      obtain ⟨_, e20, rfl⟩ := hk 20 (by decide)
                      obtain ⟨_, e28, rfl⟩ := hk 28 (by decide)
                      clear hk
                      go_simp
                      exact k _ _ (Chg.refl _ _) rfl
                    refine Obs.cons none (by kernel_rfl) ?_ ?_
                    · refine Ob.plain fun a w hR hk K k => ?_
                      obtain ⟨_, e16, rfl⟩ := hk 16 (by decide)
                      obtain ⟨_, e29, rfl⟩ := hk 29 (by decide)
                      clear hk
                      go_simp
                      exact k _ _ (Chg.refl _ _) rfl
                    refine Obs.cons none (by kernel_rfl) ?_ ?_
                    · refine Ob.plain fun a w hR hk K k => ?_
                      obtain ⟨_, e30, f30⟩ := hk 30 (by decide)
                      clear hk
                      go_simp
                      exact k _ _ (Chg.refl _ _) f30
                    refine Obs.cons (some (31, true)) (by kernel_rfl) ?_ ?_
                    · refine Ob.yes (fun _ _ h => h) fun a w hR hk K k => ?_
                      obtain ⟨_, e5, f5⟩ := hk 5 (by decide)
                      clear hk
                      go_simp
                      exact k _ _ (Chg.refl _ _) f5
                    refine Obs.cons (some (31, true)) (by kernel_rfl) ?_ ?_
                    · refine Ob.yes (fun _ _ h => h) fun a w hR hk K k => ?_
                      obtain ⟨_, e32, rfl⟩ := hk 32 (by decide)
                      clear hk
                      go_simp
                      exact k _ _ (Chg.refl _ _) rfl
                    refine Obs.cons (some (31, true)) (by kernel_rfl) ?_ ?_
                    · refine Ob.yes (fun _ _ h => h) fun a w hR hk K k => ?_
                      obtain ⟨_, e33, f33⟩ := hk 33 (by decide)
                      clear hk
                      go_simp
                      exact k _ _ (Chg.refl _ _) f33
                    refine Obs.cons (some (34, false)) (by kernel_rfl) ?_ ?_
                    · refine Ob.yes (fun _ _ h => h) fun a w hR hk K k => ?_
                      obtain ⟨_, e7, rfl⟩ := hk 7 (by decide)
                      clear hk
                      have q0 := hR.cell s0 id
                      have q1 := hR.cell s1 id
                      go_simp
                      exact k _ _ (Chg.refl _ _) rfl
                    refine Obs.cons (some (34, false)) (by kernel_rfl) ?_ ?_
                    · refine Ob.yes (fun _ _ h => h) fun a w hR hk K k => ?_
                      obtain ⟨_, e4, rfl⟩ := hk 4 (by decide)
                      clear hk
                      have q0 := hR.cell p0 id
                      have q1 := hR.cell p1 id
                      go_simp
                      exact k _ _ (Chg.refl _ _) rfl
                    refine Obs.cons (some (34, false)) (by kernel_rfl) ?_ ?_
                    · refine Ob.yes (fun _ _ h => h) fun a w hR hk K k => ?_
                      obtain ⟨_, e35, rfl⟩ := hk 35 (by decide)
                      obtain ⟨_, e36, rfl⟩ := hk 36 (by decide)
                      clear hk
                      go_simp
                      refine (less_ref s b _).mono ?_
                      rintro e w2 ⟨rfl, hc⟩
                      exact k _ _ hc (congrArg Value.bool hlb)
                    refine Obs.cons (some (31, true)) (by kernel_rfl) ?_ ?_
                    · refine Ob.yes (fun _ _ h => h) fun a w hR hk K k => ?_
                      obtain ⟨_, e34, rfl⟩ := hk 34 (by decide)
                      obtain ⟨_, e37, rfl⟩ := hk 37 (by decide)
                      clear hk
                      go_simp
                      exact k _ _ (Chg.refl _ _) rfl
                    refine Obs.cons none (by kernel_rfl) ?_ ?_
                    · refine Ob.plain fun a w hR hk K k => ?_
                      obtain ⟨_, e31, rfl⟩ := hk 31 (by decide)
                      obtain ⟨_, e38, rfl⟩ := hk 38 (by decide)
                      clear hk
                      go_simp
                      exact k _ _ (Chg.refl _ _) rfl
                    exact Obs.nil
                  case fin =>
                    intro vals w9 hc9 hv
                    have h39 : vals 39 = .bool true := hv 39 (by decide)
                    simp only [putAll, List.setIfInBounds_toArray, List.set_cons_zero, List.set_cons_succ, h39]
                    clear hv h39
                    have hn2 : Hid (BestG ltR isRole out (ls.take (k + 1)) (some s)) := hid (by rw [htk.out]; exact hb.out.take ltR_ord (HCL.out.trans hll) (fun c h => by cases h; exact hlb))
                    have hB9 := blk_keep hBb2 hc9 id
                    have hS9 := blk_keep hS hc9 id
                    have q0 := cell_blk hB9 0
                    have q1 := cell_blk hB9 1
                    have f0 := froz_blk hB9 0
                    have f1 := froz_blk hB9 1
                    have t0 := cell_blk hS9 0
                    have t1 := cell_blk hS9 1
                    simp only [List.getElem?_toArray, List.getElem?_cons_zero, List.getElem?_cons_succ] at q0 q1 t0 t1
                    have hD : ((w9.setCell ⟨Bb, 0, none⟩ (.string ⟨s.1.toArray⟩)).setCell ⟨Bb, 1, none⟩ (.string ⟨s.2.toArray⟩)).heap[Bb]? = some (.cells #[.string ⟨s.1.toArray⟩, .string ⟨s.2.toArray⟩] 24 (0, 0)) := set_blk (set_blk hB9 0 (.string ⟨s.1.toArray⟩)) 1 (.string ⟨s.2.toArray⟩)
                    have hg1 := setCell_chg w9 Bb 0 (.string ⟨s.1.toArray⟩)
                    have hg2 := setCell_chg (w9.setCell ⟨Bb, 0, none⟩ (.string ⟨s.1.toArray⟩)) Bb 1 (.string ⟨s.2.toArray⟩)
                    have ho9 := ((hoq2.keep hc9 (fun _ _ => id)).keep hg1 (fun k hk e => by have := hrB k hk; omega)).keep hg2 (fun k hk e => by have := hrB k hk; omega)
                    have hc10 : Chg (fun _ => False) w ((w9.setCell ⟨Bb, 0, none⟩ (.string ⟨s.1.toArray⟩)).setCell ⟨Bb, 1, none⟩ (.string ⟨s.2.toArray⟩)) := ((hcq2.trans hc9 (fun _ _ h => h)).trans hg1 (fun i hi e => by omega)).trans hg2 (fun i hi e => by omega)
                    have HX := hid (And.intro hD (And.intro ho9 hc10))
                    clear s0 s1 hS hBb2 hoq2 hcq2 hc9 htk hb hB9 hS9 hD hg1 hg2 ho9 hc10
                    go_wp2
                    go_roundw
                    case rel => exact ⟨k + 1, some s, by go_num, by omega, rfl, hn2, HX.out.1, HX.out.2.1, HX.out.2.2⟩
                    case measure => simp [intOf]; omega
                | false =>
                  refine wp_region_specs (rsetSpecsF0 none out.length cap3 Bb Sb g 0 true s l b) [14, 15, 16, 17, 18, 19, 20, 21, 22, 23, 24, 25, 26, 27, 28, 29, 30, 31, 32, 33, 34, 35, 36, 37, 38, 39] [3, 4, 5, 7] (by kernel_rfl) (by kernel_rfl) (by rfl) (by kernel_rfl) ?start ?obs ?fin
                  case start =>
                    simp only [List.forall_mem_cons]
                    exact ⟨⟨_, rfl, rfl⟩, ⟨_, rfl, rfl⟩, ⟨_, rfl, rfl⟩, ⟨_, rfl, rfl⟩, fun _ h => by cases h⟩
                  case obs =>
                    refine Obs.cons none (by kernel_rfl) ?_ ?_
                    · refine Ob.plain fun a w hR hk K k => ?_
                      obtain ⟨_, e7, rfl⟩ := hk 7 (by decide)
                      clear hk
                      have q0 := hR.cell s0 id
                      have q1 := hR.cell s1 id
                      go_simp
                      exact k _ _ (Chg.refl _ _) rfl
                    refine Obs.cons none (by kernel_rfl) ?_ ?_
                    · refine Ob.plain fun a w hR hk K k => ?_
                      obtain ⟨_, e14, rfl⟩ := hk 14 (by decide)
                      clear hk
                      go_simp
                      refine (rright_ref s _ ls1 ls2).mono ?_
                      rintro e w2 ⟨rfl, hc⟩
                      exact k _ _ hc (congrArg Value.bool hrt)
                    refine Obs.cons none (by kernel_rfl) ?_ ?_
                    · refine Ob.plain fun a w hR hk K k => ?_
                      obtain ⟨_, e15, f15⟩ := hk 15 (by decide)
                      clear hk
                      go_simp
                      exact k _ _ (Chg.refl _ _) f15
                    refine Obs.cons (some (16, true)) (by kernel_rfl) ?_ ?_
                    · refine Ob.yes (fun _ _ h => h) fun a w hR hk K k => ?_
                      obtain ⟨_, e3, f3⟩ := hk 3 (by decide)
                      clear hk
                      go_simp
                      exact k _ _ (Chg.refl _ _) f3
                    refine Obs.cons (some (16, true)) (by kernel_rfl) ?_ ?_
                    · refine Ob.yes (fun _ _ h => h) fun a w hR hk K k => ?_
                      obtain ⟨_, e17, rfl⟩ := hk 17 (by decide)
                      clear hk
                      go_simp
                      exact k _ _ (Chg.refl _ _) rfl
                    refine Obs.cons (some (16, true)) (by kernel_rfl) ?_ ?_
                    · refine Ob.yes (fun _ _ h => h) fun a w hR hk K k => ?_
                      obtain ⟨_, e18, rfl⟩ := hk 18 (by decide)
                      clear hk
                      go_simp
                      exact k _ _ (Chg.refl _ _) rfl
                    refine Obs.cons (some (16, true)) (by kernel_rfl) ?_ ?_
                    · refine Ob.yes (fun _ _ h => h) fun a w hR hk K k => ?_
                      obtain ⟨_, e19, f19⟩ := hk 19 (by decide)
                      clear hk
                      go_simp
                      exact k _ _ (Chg.refl _ _) f19
                    refine Obs.cons (some (20, false)) (by kernel_rfl) ?_ ?_
                    · refine Ob.yes (fun _ _ h => h) fun a w hR hk K k => ?_
                      obtain ⟨_, e3, f3⟩ := hk 3 (by decide)
                      clear hk
                      go_simp
                      exact k _ _ (Chg.refl _ _) f3
                    refine Obs.cons (some (20, false)) (by kernel_rfl) ?_ ?_
                    · refine Ob.yes (fun _ _ h => h) fun a w hR hk K k => ?_
                      obtain ⟨_, e3, f3⟩ := hk 3 (by decide)
                      clear hk
                      go_simp
                      exact k _ _ (Chg.refl _ _) f3
                    refine Obs.cons (some (20, false)) (by kernel_rfl) ?_ ?_
                    · refine Ob.yes (fun _ _ h => h) fun a w hR hk K k => ?_
                      obtain ⟨_, e22, rfl⟩ := hk 22 (by decide)
                      clear hk
                      go_simp
                      exact k _ _ (Chg.refl _ _) rfl
                    refine Obs.cons (some (20, false)) (by kernel_rfl) ?_ ?_
                    · refine Ob.yes (fun _ _ h => h) fun a w hR hk K k => ?_
                      obtain ⟨_, e23, rfl⟩ := hk 23 (by decide)
                      clear hk
                      go_simp
                      exact k _ _ (Chg.refl _ _) rfl
                    refine Obs.cons (some (20, false)) (by kernel_rfl) ?_ ?_
                    · refine Ob.yes (fun _ _ h => h) fun a w hR hk K k => ?_
                      obtain ⟨_, e21, rfl⟩ := hk 21 (by decide)
                      obtain ⟨_, e24, rfl⟩ := hk 24 (by decide)
                      clear hk
                      obtain ⟨c0, c1, _⟩ := hlr.keep hR id
                      go_simp
                      exact k _ _ (Chg.refl _ _) ⟨_, _, rfl, hlr.keep hR id⟩
                    refine Obs.cons (some (20, false)) (by kernel_rfl) ?_ ?_
                    · refine Ob.yes (fun _ _ h => h) fun a w hR hk K k => ?_
                      obtain ⟨_, e25, f25⟩ := hk 25 (by decide)
                      clear hk
                      obtain ⟨b, off, rfl, c0, c1, _⟩ := f25
                      go_simp
                      exact k _ _ (Chg.refl _ _) rfl
                    refine Obs.cons (some (20, false)) (by kernel_rfl) ?_ ?_
                    · refine Ob.yes (fun _ _ h => h) fun a w hR hk K k => ?_
                      obtain ⟨_, e7, rfl⟩ := hk 7 (by decide)
                      clear hk
                      have q0 := hR.cell s0 id
                      have q1 := hR.cell s1 id
                      go_simp
                      exact k _ _ (Chg.refl _ _) rfl
                    refine Obs.cons (some (20, false)) (by kernel_rfl) ?_ ?_
                    · refine Ob.yes (fun _ _ h => h) fun a w hR hk K k => ?_
                      obtain ⟨_, e26, rfl⟩ := hk 26 (by decide)
                      obtain ⟨_, e27, rfl⟩ := hk 27 (by decide)
                      clear hk
                      go_simp
                      refine (less_ref l s _).mono ?_
                      rintro e w2 ⟨rfl, hc⟩
                      exact k _ _ hc (congrArg Value.bool hll)
                    refine Obs.cons (some (16, true)) (by kernel_rfl) ?_ ?_
                    · refine Ob.yes (fun _ _ h => h) fun a w hR hk K k => ?_
                      obtain ⟨_, e20, rfl⟩ := hk 20 (by decide)
                      obtain ⟨_, e28, rfl⟩ := hk 28 (by decide)
                      clear hk
                      go_simp
                      exact k _ _ (Chg.refl _ _) rfl
                    refine Obs.cons none (by kernel_rfl) ?_ ?_
                    · refine Ob.plain fun a w hR hk K k => ?_
                      obtain ⟨_, e16, rfl⟩ := hk 16 (by decide)
                      obtain ⟨_, e29, rfl⟩ := hk 29 (by decide)
                      clear hk
                      go_simp
                      exact k _ _ (Chg.refl _ _) rfl
                    refine Obs.cons none (by kernel_rfl) ?_ ?_
                    · refine Ob.plain fun a w hR hk K k => ?_
                      obtain ⟨_, e30, f30⟩ := hk 30 (by decide)
                      clear hk
                      go_simp
                      exact k _ _ (Chg.refl _ _) f30
                    refine Obs.cons (some (31, true)) (by kernel_rfl) ?_ ?_
                    · refine Ob.yes (fun _ _ h => h) fun a w hR hk K k => ?_
                      obtain ⟨_, e5, f5⟩ := hk 5 (by decide)
                      clear hk
                      go_simp
                      exact k _ _ (Chg.refl _ _) f5
                    refine Obs.cons (some (31, true)) (by kernel_rfl) ?_ ?_
                    · refine Ob.yes (fun _ _ h => h) fun a w hR hk K k => ?_
                      obtain ⟨_, e32, rfl⟩ := hk 32 (by decide)
                      clear hk
                      go_simp
                      exact k _ _ (Chg.refl _ _) rfl
                    refine Obs.cons (some (31, true)) (by kernel_rfl) ?_ ?_
                    · refine Ob.yes (fun _ _ h => h) fun a w hR hk K k => ?_
                      obtain ⟨_, e33, f33⟩ := hk 33 (by decide)
                      clear hk
                      go_simp
                      exact k _ _ (Chg.refl _ _) f33
                    refine Obs.cons (some (34, false)) (by kernel_rfl) ?_ ?_
                    · refine Ob.yes (fun _ _ h => h) fun a w hR hk K k => ?_
                      obtain ⟨_, e7, rfl⟩ := hk 7 (by decide)
                      clear hk
                      have q0 := hR.cell s0 id
                      have q1 := hR.cell s1 id
                      go_simp
                      exact k _ _ (Chg.refl _ _) rfl
                    refine Obs.cons (some (34, false)) (by kernel_rfl) ?_ ?_
                    · refine Ob.yes (fun _ _ h => h) fun a w hR hk K k => ?_
                      obtain ⟨_, e4, rfl⟩ := hk 4 (by decide)
                      clear hk
                      have q0 := hR.cell p0 id
                      have q1 := hR.cell p1 id
                      go_simp
                      exact k _ _ (Chg.refl _ _) rfl
                    refine Obs.cons (some (34, false)) (by kernel_rfl) ?_ ?_
                    · refine Ob.yes (fun _ _ h => h) fun a w hR hk K k => ?_
                      obtain ⟨_, e35, rfl⟩ := hk 35 (by decide)
                      obtain ⟨_, e36, rfl⟩ := hk 36 (by decide)
                      clear hk
                      go_simp
                      refine (less_ref s b _).mono ?_
                      rintro e w2 ⟨rfl, hc⟩
                      exact k _ _ hc (congrArg Value.bool hlb)
                    refine Obs.cons (some (31, true)) (by kernel_rfl) ?_ ?_
                    · refine Ob.yes (fun _ _ h => h) fun a w hR hk K k => ?_
                      obtain ⟨_, e34, rfl⟩ := hk 34 (by decide)
                      obtain ⟨_, e37, rfl⟩ := hk 37 (by decide)
                      clear hk
                      go_simp
                      exact k _ _ (Chg.refl _ _) rfl
                    refine Obs.cons none (by kernel_rfl) ?_ ?_
                    · refine Ob.plain fun a w hR hk K k => ?_
                      obtain ⟨_, e31, rfl⟩ := hk 31 (by decide)
                      obtain ⟨_, e38, rfl⟩ := hk 38 (by decide)
                      clear hk
                      go_simp
                      exact k _ _ (Chg.refl _ _) rfl
                    exact Obs.nil
                  case fin =>
                    intro vals w9 hc9 hv
                    have h39 : vals 39 = .bool false := hv 39 (by decide)
                    simp only [putAll, List.setIfInBounds_toArray, List.set_cons_zero, List.set_cons_succ, h39]
                    clear hv h39
                    have hn2 : Hid (BestG ltR isRole out (ls.take (k + 1)) (some b)) := hid (by rw [htk.out]; exact hb.out.keep hlb)
                    have HX := hid (And.intro (blk_keep hBb2 hc9 id) (And.intro (hoq2.keep hc9 (fun _ _ => id)) (hcq2.trans hc9 (fun _ _ h => h))))
                    clear s0 s1 hS hBb2 hoq2 hcq2 hc9 htk hb
                    go_wp2
                    go_roundw
                    case rel => exact ⟨k + 1, some b, by go_num, by omega, rfl, hn2, HX.out.1, HX.out.2.1, HX.out.2.2⟩
                    case measure => simp [intOf]; omega
      · have hk2 : k = ls.length := by omega
        have hb2 : Hid (BestG ltR isRole out ls bo) := hid (by have := hb.out; rwa [List.take_of_length_le (by omega)] at this)
        clear hb
        cases bo with
        | none =>
          have hso : SetR ls out := hp.done hb2.out
          obtain ⟨ao4, cap4, hv4, hst4, hz4⟩ := hoq.roles hbd
          cases hv4
          clear hBb
          go_wp2
          go_ret
          exact ⟨out, _, _, rfl, hso, hst4, hcq, hz4⟩
        | some b =>
          have hps := hp.step ltR_ord hb2.out
          have hpl := SetR_len hps
          rw [List.length_append, List.length_singleton] at hpl
          have p0 := cell_blk hBb 0
          have p1 := cell_blk hBb 1
          simp only [List.getElem?_toArray, List.getElem?_cons_zero, List.getElem?_cons_succ, Option.getD_some] at p0 p1
          have hsq := hcq.size
          clear hb2 hBb
          go_wp2_with (at_builtin; refine wpList_append_own_at _ rfl (.tmp 45) (.tmp 47) 22 rfl w.heap.size 24 i0 (.agg #[.string ⟨#[]⟩, .string ⟨#[]⟩]) 2 32 Try.underlying22 hi hz0 hz1 hz2 rfl (by decide) _ _ _ rfl (World.ownsRow.alloc hoq _) ⟨wr.heap.size, 0, none⟩ 1 1 (roleCells b) rfl rfl ?c1 ?c2 ?c3 ?c4 ?c5 ?_)
          case c1 => exact fun j u hj => role_cells_new wr b j u hj
          case c2 => intro u hu; simp only [roleCells, List.mem_cons, List.not_mem_nil, or_false] at hu; rcases hu with rfl | rfl <;> rfl
          case c3 => unfold maxLen; omega
          case c4 => omega
          case c5 => simp; omega
          intro v' w2 hown hgrow _ hat
          have hl : (out ++ [b]).length = out.length + 1 := by simp
          have ho2 : OwnR w.heap.size w2 v' (out ++ [b]) := by
            unfold OwnR
            rw [hl, roleRow_snoc]
            exact hown
          have hrow : ∀ k, Value.ownBlock (.slice ao3 out.length cap3) = some k → w.heap.size ≤ k := fun k hk => (ownsRow_lt hoq k hk).1
          have hc2 : Chg (fun _ => False) w w2 := (hcq.alloc _).grown hgrow (fun k e hk => by have := hrow k e; omega)
          obtain ⟨ao5, cap5, hv5⟩ := ho2.shape
          subst hv5
          clear hown hgrow hat hrow hoq hcq
          rw [hl]
          go_wp2
          go_roundw
          case rel => exact ⟨out ++ [b], ao5, cap5, by rw [hl], hps, ho2, hc2⟩
          case measure => simp [lenOfV]; omega
end Go.Proofs.Ytdlpddpdobiebaa
