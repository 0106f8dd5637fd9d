/- Texts that the proof leans on, in one: RoleTells, OpenB, RoleCells. -/
import Derived.Test.YtdlpddpdobiebaaTm13
import Derived.Test.YtdlpddpdobiebaaTm14
import Derived.Test.YtdlpddpdobiebaaTm15
import Derived.Test.YtdlpddpdobiebaaRows
import Derived.Test.YtdlpddpdobiebaaTm1
import Derived.ProofKit
import Derived.OpenShut
import Derived.ShutString
import Derived.ChangeOld
import Derived.Deep.Slices
import Derived.Deep.Fields
import Derived.ChangeSame
import Derived.Test.YtdlpddpdobiebaaTm5
/- The walk of the law RoleTells, where what it reads is not too long. -/
namespace Go.Proofs.Ytdlpddpdobiebaa
open Go.RowKit

def Spec.cellS (u : Value) : Spec :=
  ⟨fun v w => ∃ p, v = .pointer (some p) ∧ w.cell? p = some u, fun _ _ _ hc ⟨p, h1, h2⟩ => ⟨p, h1, hc.cell h2 id⟩⟩
def Spec.setR (l : List RoleB) : Spec :=
  ⟨fun v w => ∃ (out : List RoleB) (ao : Option Addr) (cap : Nat), v = .slice ao out.length cap ∧ SetR l out ∧ RolesAt (fun _ => True) w ao out, fun _ _ _ hc ⟨out, ao, cap, h1, h2, h3⟩ => ⟨out, ao, cap, h1, h2, h3.keep hc (fun _ _ => id)⟩⟩

theorem text_eq (r : RoleB) : (⟨r.1.toArray⟩ : ByteArray) ++ ⟨#[46]⟩ ++ ⟨r.2.toArray⟩ = ⟨(roleText r).toArray⟩ := by
  show (⟨r.1.toArray⟩ : ByteArray) ++ ⟨([46] : List UInt8).toArray⟩ ++ ⟨r.2.toArray⟩ = _
  rw [ByteArray.mk_append_mk, ByteArray.mk_append_mk]
  simp [roleText]

theorem totalR_one' (r : RoleB) : totalR [r] = 1 + r.1.length + r.2.length := by simp [totalR]

def tellsLoop (o r : RoleB) : List Spec := [.any, .any, .any, .any, .roleP r, .any, .any, .any, .any, .any, .any, .any, .roleP o, .any, .any, .any, .any, .any, .any, .any, .any, .any, .any, .any, .any, .any, .any, .any, .any, .any, .any, .any, .any, .any, .any, .any, .any, .any, .any, .any, .any, .any, .any, .eq (roleV o), .eq (roleV r), .eq (.int .i64 (cmpR o r)), .eq (roleV o), .eq (roleV r), .eq (.int .i64 (cmpR o r)), .eq (.bool false)]
def tellsLast (a0 : Option Addr) (n c0 : Nat) (ok : Bool) (l : List RoleB) (r q : RoleB) : List Spec := [.eq (.slice a0 n c0), .any, .any, .any, .roleP r, .any, .eq (.bool true), .roleP q, .eq (.bool ok), .roleP q, .eq (.bool ok), .any, .any, .any, .any, .any, .any, .any, .any, .any, .any, .any, .any, .any, .any, .any, .any, .any, .any, .any, .any, .any, .any, .any, .any, .any, .any, .any, .any, .any, .any, .any, .any, .any, .any, .any, .any, .any, .any, .any, .any, .eq (roleV r), .eq (.bool (isRole r)), .eq (roleV r), .eq (.bool (isRole r)), .eq (.bool true), .eq (.bool true), .eq (roleV r), .eq (.string ⟨(roleText r).toArray⟩), .cellS (.string ⟨r.1.toArray⟩), .eq (.string ⟨r.1.toArray⟩), .eq (.string (⟨r.1.toArray⟩ ++ ⟨#[46]⟩)), .cellS (.string ⟨r.2.toArray⟩), .eq (.string ⟨r.2.toArray⟩), .eq (.string ⟨(roleText r).toArray⟩), .eq (.bool true), .eq (.bool true), .eq (.bool true), .eq (roleV q), .eq (roleV q), .eq (.bool true), .eq (.bool true), .eq (.bool true), .eq (.bool ok), .eq (.bool ok), .eq (.bool true), .eq (.bool true), .eq (.bool true), .eq (.slice a0 n c0), .setR l, .eq (.slice a0 n c0), .setR l, .eq (.bool true), .eq (.bool true), .eq (.bool true), .eq (.slice a0 n c0), .eq (roleV r), .eq (.bool (hasR l r)), .eq (.slice a0 n c0), .eq (roleV r), .eq (.bool (hasR l r)), .eq (.bool true), .eq (.bool true)]

/-- What is kept: the roles, three boxes. -/
structure StT (W0 : World) (a0 : Option Addr) (l : List RoleB) (Bx Y1 Y2 : Nat) (r q : RoleB) (w : World) : Prop where
  chg : Chg (fun _ => False) W0 w
  roles : RolesAt (fun _ => True) w a0 l
  bx : w.heap[Bx]? = some (.cells (roleBox r) 24 (0, 0))
  y1 : w.heap[Y1]? = some (.cells (roleBox q) 24 (0, 0))
  y2 : w.heap[Y2]? = some (.cells (roleBox q) 24 (0, 0))
theorem StT.go {W0 : World} {a0 : Option Addr} {l : List RoleB} {Bx Y1 Y2 : Nat} {r q : RoleB} {w w' : World} (h : StT W0 a0 l Bx Y1 Y2 r q w) (c : Chg (fun _ => False) w w') : StT W0 a0 l Bx Y1 Y2 r q w' :=
  ⟨h.chg.trans c (fun _ _ h => h), h.roles.keep c (fun _ _ => id), blk_keep h.bx c id, blk_keep h.y1 c id, blk_keep h.y2 c id⟩

theorem cut_len : ∀ (s : List UInt8) (p : List UInt8 × List UInt8), cutDot s = some p → p.1.length ≤ s.length ∧ p.2.length ≤ s.length
  | [], _, h => by cases h
  | c :: l, p, h => by
    rw [cutDot] at h
    split at h
    · cases h; simp
    · cases hc : cutDot l with
      | none => rw [hc] at h; cases h
      | some q =>
        rw [hc] at h
        cases h
        have := cut_len l q hc
        simp
        omega

theorem parse_len (s : List UInt8) (hs : s.length ≤ 9223372036854775807) : ((parseR s).getD noRole).1.length ≤ 9223372036854775807 ∧ ((parseR s).getD noRole).2.length ≤ 9223372036854775807 := by
  unfold parseR
  cases hc : cutDot s with
  | none => simp [noRole]
  | some p =>
    have := cut_len s p hc
    dsimp only
    split
    · simp; omega
    · simp [noRole]

set_option maxRecDepth 100000 in
set_option maxHeartbeats 8000000 in
theorem rtells_main {D : Nat → Prop} (a0 : Option Addr) (c0 : Nat) (l : List RoleB) (r : RoleB) (s : List UInt8) (w : World) (hl : totalR l ≤ 800) (hr : totalR [r] ≤ 800) (hs : s.length ≤ 200) (h0 : RolesAt D w a0 l) (z0 : a0 = none → c0 = 0) :
    Calls Try.prog 3 #[.slice a0 l.length c0, roleV r, .string ⟨s.toArray⟩] w fun e w' => e = .returned (.bool true) ∧ Chg (fun _ => False) w w' := by
  have hr2 := totalR_one' r
  have hln := totalR_len l
  have dL : decide (800 < totalR l) = false := decide_eq_false (by omega)
  have dR : decide (800 < totalR [r]) = false := decide_eq_false (by omega)
  have dS : decide (200 < (s.length : Int)) = false := by simp; omega
  show Calls Try.prog 3 #[.slice a0 l.length c0, .agg #[.string ⟨r.1.toArray⟩, .string ⟨r.2.toArray⟩], .string ⟨s.toArray⟩] w _
  have hx1 : (w.alloc (.cells (roleBox r) 24)).heap[w.heap.size]? = some (.cells (roleBox r) 24 (0, 0)) := heap_alloc_new w _
  have hc1 : Chg (fun _ => False) w (w.alloc (.cells #[.string ⟨r.1.toArray⟩, .string ⟨r.2.toArray⟩] 24)) := (Chg.refl _ w).alloc _
  go_enter Try.func3, Try.ntmps3
  go_wp2_with fail
  refine (first_any _).mono ?_
  rintro e w2 ⟨rfl, hc2⟩
  have hx2 := blk_keep hx1 hc2 id
  have hcw := hc1.trans hc2 (fun _ _ h => h)
  clear hx1 hc1 hc2
  generalize hBx : w.heap.size = Bx at *
  have h2 := h0.keep hcw (fun _ _ => id)
  go_wp2_with fail
  refine (rlong_any a0 c0 l w2 (by omega) h2).mono ?_
  rintro e w3 ⟨rfl, hc23⟩
  rw [dL]
  have hx3 := blk_keep hx2 hc23 id
  have hcw3 := hcw.trans hc23 (fun _ _ h => h)
  have s0 := cell_blk hx3 0
  have s1 := cell_blk hx3 1
  simp only [roleBox, List.getElem?_toArray, List.getElem?_cons_zero, List.getElem?_cons_succ] at s0 s1
  clear hx2 hcw hc23 h2
  have hl3 := roles_lit [r] w3 (0, 0) (by intro x hx; rw [List.mem_singleton.1 hx]; omega)
  have hc34 : Chg (fun _ => False) w3 (w3.alloc (.cells (roleRow [r]).toArray 24)) := (Chg.refl _ w3).alloc _
  have hlg := rlong_any (some ⟨w3.heap.size, 0, none⟩) 1 [r] (w3.alloc (.cells (roleRow [r]).toArray 24)) (by omega) hl3
  have HL := hid (And.intro hlg hc34)
  clear hlg hc34 hl3
  go_wp2_with fail
  obtain ⟨hlg, hc34⟩ := HL.out
  refine hlg.mono ?_
  rintro e w4 ⟨rfl, hc4⟩
  rw [dR]
  have hcc := hc34.trans hc4 (fun _ _ h => h)
  have hx4 := blk_keep hx3 hcc id
  have hcw4 := hcw3.trans hcc (fun _ _ h => h)
  clear HL hlg hc34 hc4 hcc hx3 hcw3 s0 s1
  go_wp2_with fail
  clear dL dR dS
  refine (pparse s w4 (by omega)).mono ?_
  rintro e w5 ⟨rfl, hc45⟩
  have hx5 := blk_keep hx4 hc45 id
  have hcw5 := hcw4.trans hc45 (fun _ _ h => h)
  clear hx4 hcw4 hc45
  have HPQ : Hid ((parseR s).getD noRole = (parseR s).getD noRole) := rfl
  generalize hqq : (parseR s).getD noRole = q at *
  generalize hoo : (parseR s).isSome = ok at *
  have HQ := hid (And.intro hqq hoo)
  clear hqq hoo HPQ
  rw [show roleV q = .agg #[.string ⟨q.1.toArray⟩, .string ⟨q.2.toArray⟩] from rfl]
  have hy6 : (w5.alloc (.cells (roleBox q) 24)).heap[w5.heap.size]? = some (.cells (roleBox q) 24 (0, 0)) := heap_alloc_new w5 _
  have hc56 : Chg (fun _ => False) w5 (w5.alloc (.cells #[.string ⟨q.1.toArray⟩, .string ⟨q.2.toArray⟩] 24)) := (Chg.refl _ w5).alloc _
  have hx6 := blk_keep hx5 hc56 id
  have hcw6 := hcw5.trans hc56 (fun _ _ h => h)
  have HH := hid (And.intro hy6 (And.intro hx6 hcw6))
  clear hy6 hc56 hx6 hcw6 hx5 hcw5
  go_wp2_with fail
  obtain ⟨hy6, hx6, hcw6⟩ := HH.out
  clear HH
  generalize hw6 : w5.alloc (.cells #[.string ⟨q.1.toArray⟩, .string ⟨q.2.toArray⟩] 24) = w6 at *
  have hy6' : w6.heap[w5.heap.size]? = some (.cells (roleBox q) 24 (0, 0)) := by rw [← hw6]; exact hy6
  clear hy6 hw6
  generalize w5.heap.size = Y1 at *
  refine (rparse_ref s w6 (by omega)).mono ?_
  rintro e w7 ⟨rfl, hc67⟩
  rw [HQ.out.1, HQ.out.2]
  rw [show roleV q = .agg #[.string ⟨q.1.toArray⟩, .string ⟨q.2.toArray⟩] from rfl]
  have hy7 := blk_keep hy6' hc67 id
  have hx7 := blk_keep hx6 hc67 id
  have hcw7 := hcw6.trans hc67 (fun _ _ h => h)
  have hz8 : (w7.alloc (.cells (roleBox q) 24)).heap[w7.heap.size]? = some (.cells (roleBox q) 24 (0, 0)) := heap_alloc_new w7 _
  have hc78 : Chg (fun _ => False) w7 (w7.alloc (.cells (roleBox q) 24)) := (Chg.refl _ w7).alloc _
  have hT8 : StT w a0 l Bx Y1 w7.heap.size r q (w7.alloc (.cells (roleBox q) 24)) := ⟨hcw7.trans hc78 (fun _ _ h => h), ((h0.keep hcw7 (fun _ _ => id)).keep hc78 (fun _ _ => id)).mono (fun _ _ => trivial), blk_keep hx7 hc78 id, blk_keep hy7 hc78 id, hz8⟩
  have HT := hid hT8
  clear hy6' hx6 hcw6 hc67 hy7 hx7 hcw7 hz8 hc78 hT8
  go_wp2
  have hT8 : StT w a0 l Bx Y1 w7.heap.size r q (w7.alloc (.cells #[.string ⟨q.1.toArray⟩, .string ⟨q.2.toArray⟩] 24)) := HT.out
  clear HT
  generalize w7.alloc (.cells #[.string ⟨q.1.toArray⟩, .string ⟨q.2.toArray⟩] 24) = w8 at *
  generalize w7.heap.size = Y2 at *
  go_loopw [39] (fun i wr => ∃ k : Nat, i = .int .i64 k ∧ k ≤ l.length ∧ StT w a0 l Bx Y1 Y2 r q wr) (fun i _ => l.length - (intOf i).toNat)
  case atStart => exact ⟨0, rfl, Nat.zero_le _, hT8⟩
  case round =>
    obtain ⟨k, rfl, hk, hT⟩ := hrel
    clear hT8
    by_cases hlt : k < l.length
    · obtain ⟨cb, co, rfl, _, q0, q1, ls1, ls2⟩ := hT.roles k hlt
      generalize l[k] = o at *
      have hS : (wr.alloc (.cells (roleBox o) 24)).heap[wr.heap.size]? = some (.cells (roleBox o) 24 (0, 0)) := heap_alloc_new wr _
      have hcS : Chg (fun _ => False) wr (wr.alloc (.cells (roleBox o) 24)) := (Chg.refl _ wr).alloc _
      have HS := hid (And.intro hS (hT.go hcS))
      clear hS hcS hT
      go_wp2_with fail
      obtain ⟨hS, hT⟩ := HS.out
      clear HS q0 q1
      refine wp_region_specs (tellsLoop o r) [43, 44, 45, 46, 47, 48, 49] [4, 12] (by kernel_rfl) (by kernel_rfl) (by rfl) (by kernel_rfl) ?start ?obs ?fin
      case start =>
        simp only [List.forall_mem_cons]
        exact ⟨⟨_, rfl, _, _, rfl, box_role hT.bx (by omega) (by omega)⟩, ⟨_, rfl, _, _, rfl, box_role hS ls1 ls2⟩, fun _ h => by cases h⟩
      case obs =>
        clear hS hT
        refine Obs.cons none (by kernel_rfl) ?_ ?_
        · refine Ob.plain fun a w hR hk K k => ?_
          obtain ⟨_, e12, f12⟩ := hk 12 (by decide)
          clear hk
          obtain ⟨b, off, rfl, c0, c1, _⟩ := f12
          go_simp
          exact k _ _ (Chg.refl _ _) rfl
        refine Obs.cons none (by kernel_rfl) ?_ ?_
        · refine Ob.plain fun a w hR hk K k => ?_
          obtain ⟨_, e4, f4⟩ := hk 4 (by decide)
          clear hk
          obtain ⟨b, off, rfl, c0, c1, _⟩ := f4
          go_simp
          exact k _ _ (Chg.refl _ _) rfl
        refine Obs.cons none (by kernel_rfl) ?_ ?_
        · refine Ob.plain fun a w hR hk K k => ?_
          obtain ⟨_, e43, rfl⟩ := hk 43 (by decide)
          obtain ⟨_, e44, rfl⟩ := hk 44 (by decide)
          clear hk
          go_simp
          refine (pcompare o r _).mono ?_
          rintro e w2 ⟨rfl, hc⟩
          exact k _ _ hc rfl
        refine Obs.cons none (by kernel_rfl) ?_ ?_
        · refine Ob.plain fun a w hR hk K k => ?_
          obtain ⟨_, e12, f12⟩ := hk 12 (by decide)
          clear hk
          obtain ⟨b, off, rfl, c0, c1, _⟩ := f12
          go_simp
          exact k _ _ (Chg.refl _ _) rfl
        refine Obs.cons none (by kernel_rfl) ?_ ?_
        · refine Ob.plain fun a w hR hk K k => ?_
          obtain ⟨_, e4, f4⟩ := hk 4 (by decide)
          clear hk
          obtain ⟨b, off, rfl, c0, c1, _⟩ := f4
          go_simp
          exact k _ _ (Chg.refl _ _) rfl
        refine Obs.cons none (by kernel_rfl) ?_ ?_
        · refine Ob.plain fun a w hR hk K k => ?_
          obtain ⟨_, e46, rfl⟩ := hk 46 (by decide)
          obtain ⟨_, e47, rfl⟩ := hk 47 (by decide)
          clear hk
          go_simp
          refine (compare_ref o r _).mono ?_
          rintro e w2 ⟨rfl, hc⟩
          exact k _ _ hc rfl
        refine Obs.cons none (by kernel_rfl) ?_ ?_
        · refine Ob.plain fun a w hR hk K k => ?_
          obtain ⟨_, e45, rfl⟩ := hk 45 (by decide)
          obtain ⟨_, e48, rfl⟩ := hk 48 (by decide)
          clear hk
          generalize cmpR o r = c at *
          have z : (c != c) = false := by simp
          go_simp
          exact k _ _ (Chg.refl _ _) rfl
        exact Obs.nil
      case fin =>
        intro vals w9 hc9 hv
        have h49 : vals 49 = .bool false := hv 49 (by decide)
        simp only [putAll, List.setIfInBounds_toArray, List.set_cons_zero, List.set_cons_succ, h49]
        have HX := hid (hT.go hc9)
        clear hS hT hc9 hv h49
        go_wp2
        go_roundw
        case rel => exact ⟨k + 1, by go_num, by omega, HX.out⟩
        case measure => simp [intOf]; omega
    · have hk2 : k = l.length := by omega
      go_wp2_with fail
      have h0 := hT.roles
      refine wp_region_specs (tellsLast a0 l.length c0 ok l r q) [51, 52, 53, 54, 55, 56, 57, 58, 59, 60, 61, 62, 63, 64, 65, 66, 67, 68, 69, 70, 71, 72, 73, 74, 75, 76, 77, 78, 79, 80, 81, 82, 83, 84, 85, 86, 87, 88, 89, 90, 91, 92, 6] [0, 4, 7, 8, 9, 10] (by kernel_rfl) (by kernel_rfl) (by rfl) (by kernel_rfl) ?start ?obs ?fin
      case start =>
        have hq1 : q.1.length ≤ 9223372036854775807 ∧ q.2.length ≤ 9223372036854775807 := by
          rw [← HQ.out.1]
          exact parse_len s (by omega)
        simp only [List.forall_mem_cons]
        exact ⟨⟨_, rfl, rfl⟩, ⟨_, rfl, _, _, rfl, box_role hT.bx (by omega) (by omega)⟩, ⟨_, rfl, _, _, rfl, box_role hT.y1 hq1.1 hq1.2⟩, ⟨_, rfl, rfl⟩, ⟨_, rfl, _, _, rfl, box_role hT.y2 hq1.1 hq1.2⟩, ⟨_, rfl, rfl⟩, fun _ h => by cases h⟩
      case obs =>
        clear hT
        refine Obs.cons none (by kernel_rfl) ?_ ?_
        · refine Ob.plain fun a w hR hk K k => ?_
          obtain ⟨_, e4, f4⟩ := hk 4 (by decide)
          clear hk
          obtain ⟨b, off, rfl, c0, c1, _⟩ := f4
          go_simp
          exact k _ _ (Chg.refl _ _) rfl
        refine Obs.cons none (by kernel_rfl) ?_ ?_
        · refine Ob.plain fun a w hR hk K k => ?_
          obtain ⟨_, e51, rfl⟩ := hk 51 (by decide)
          clear hk
          go_simp
          refine (pright r _ (by omega) (by omega)).mono ?_
          rintro e w2 ⟨rfl, hc⟩
          exact k _ _ hc rfl
        refine Obs.cons none (by kernel_rfl) ?_ ?_
        · refine Ob.plain fun a w hR hk K k => ?_
          obtain ⟨_, e4, f4⟩ := hk 4 (by decide)
          clear hk
          obtain ⟨b, off, rfl, c0, c1, _⟩ := f4
          go_simp
          exact k _ _ (Chg.refl _ _) rfl
        refine Obs.cons none (by kernel_rfl) ?_ ?_
        · refine Ob.plain fun a w hR hk K k => ?_
          obtain ⟨_, e53, rfl⟩ := hk 53 (by decide)
          clear hk
          go_simp
          refine (rright_ref r _ (by omega) (by omega)).mono ?_
          rintro e w2 ⟨rfl, hc⟩
          exact k _ _ hc rfl
        refine Obs.cons none (by kernel_rfl) ?_ ?_
        · refine Ob.plain fun a w hR hk K k => ?_
          obtain ⟨_, e52, rfl⟩ := hk 52 (by decide)
          obtain ⟨_, e54, rfl⟩ := hk 54 (by decide)
          clear hk
          generalize isRole r = v at *
          have z : (v == v) = true := by simp
          go_simp
          exact k _ _ (Chg.refl _ _) rfl
        refine Obs.cons none (by kernel_rfl) ?_ ?_
        · refine Ob.plain fun a w hR hk K k => ?_
          obtain ⟨_, e55, f55⟩ := hk 55 (by decide)
          clear hk
          go_simp
          exact k _ _ (Chg.refl _ _) f55
        refine Obs.cons (some (56, true)) (by kernel_rfl) ?_ ?_
        · refine Ob.yes (fun _ _ h => h) fun a w hR hk K k => ?_
          obtain ⟨_, e4, f4⟩ := hk 4 (by decide)
          clear hk
          obtain ⟨b, off, rfl, c0, c1, _⟩ := f4
          go_simp
          exact k _ _ (Chg.refl _ _) rfl
        refine Obs.cons (some (56, true)) (by kernel_rfl) ?_ ?_
        · refine Ob.yes (fun _ _ h => h) fun a w hR hk K k => ?_
          obtain ⟨_, e57, rfl⟩ := hk 57 (by decide)
          clear hk
          go_simp
          refine (ptext r _ (by omega) (by omega)).mono ?_
          rintro e w2 ⟨rfl, hc⟩
          exact k _ _ hc rfl
        refine Obs.cons (some (56, true)) (by kernel_rfl) ?_ ?_
        · refine Ob.yes (fun _ _ h => h) fun a w hR hk K k => ?_
          obtain ⟨_, e4, f4⟩ := hk 4 (by decide)
          clear hk
          obtain ⟨b, off, rfl, c0, c1, _⟩ := f4
          go_simp
          exact k _ _ (Chg.refl _ _) ⟨_, rfl, c0⟩
        refine Obs.cons (some (56, true)) (by kernel_rfl) ?_ ?_
        · refine Ob.yes (fun _ _ h => h) fun a w hR hk K k => ?_
          obtain ⟨_, e59, f59⟩ := hk 59 (by decide)
          clear hk
          obtain ⟨p, rfl, c0⟩ := f59
          go_simp
          exact k _ _ (Chg.refl _ _) rfl
        refine Obs.cons (some (56, true)) (by kernel_rfl) ?_ ?_
        · refine Ob.yes (fun _ _ h => h) fun a w hR hk K k => ?_
          obtain ⟨_, e60, rfl⟩ := hk 60 (by decide)
          clear hk
          have hb1 : ¬ 9223372036854775807 < r.1.length + 1 := by omega
          go_simp
          exact k _ _ (Chg.refl _ _) rfl
        refine Obs.cons (some (56, true)) (by kernel_rfl) ?_ ?_
        · refine Ob.yes (fun _ _ h => h) fun a w hR hk K k => ?_
          obtain ⟨_, e4, f4⟩ := hk 4 (by decide)
          clear hk
          obtain ⟨b, off, rfl, c0, c1, _⟩ := f4
          go_simp
          exact k _ _ (Chg.refl _ _) ⟨_, rfl, c1⟩
        refine Obs.cons (some (56, true)) (by kernel_rfl) ?_ ?_
        · refine Ob.yes (fun _ _ h => h) fun a w hR hk K k => ?_
          obtain ⟨_, e62, f62⟩ := hk 62 (by decide)
          clear hk
          obtain ⟨p, rfl, c0⟩ := f62
          go_simp
          exact k _ _ (Chg.refl _ _) rfl
        refine Obs.cons (some (56, true)) (by kernel_rfl) ?_ ?_
        · refine Ob.yes (fun _ _ h => h) fun a w hR hk K k => ?_
          obtain ⟨_, e61, rfl⟩ := hk 61 (by decide)
          obtain ⟨_, e63, rfl⟩ := hk 63 (by decide)
          clear hk
          have hb1 : ¬ 9223372036854775807 < r.1.length + 1 + r.2.length := by omega
          go_simp
          exact k _ _ (Chg.refl _ _) (congrArg Value.string (text_eq r))
        refine Obs.cons (some (56, true)) (by kernel_rfl) ?_ ?_
        · refine Ob.yes (fun _ _ h => h) fun a w hR hk K k => ?_
          obtain ⟨_, e58, rfl⟩ := hk 58 (by decide)
          obtain ⟨_, e64, rfl⟩ := hk 64 (by decide)
          clear hk
          generalize roleText r = tx at *
          have z : (tx == tx) = true := by simp
          go_simp
          exact k _ _ (Chg.refl _ _) rfl
        refine Obs.cons none (by kernel_rfl) ?_ ?_
        · refine Ob.plain fun a w hR hk K k => ?_
          obtain ⟨_, e56, rfl⟩ := hk 56 (by decide)
          obtain ⟨_, e65, rfl⟩ := hk 65 (by decide)
          clear hk
          go_simp
          exact k _ _ (Chg.refl _ _) rfl
        refine Obs.cons none (by kernel_rfl) ?_ ?_
        · refine Ob.plain fun a w hR hk K k => ?_
          obtain ⟨_, e66, f66⟩ := hk 66 (by decide)
          clear hk
          go_simp
          exact k _ _ (Chg.refl _ _) f66
        refine Obs.cons (some (67, true)) (by kernel_rfl) ?_ ?_
        · refine Ob.yes (fun _ _ h => h) fun a w hR hk K k => ?_
          obtain ⟨_, e7, f7⟩ := hk 7 (by decide)
          clear hk
          obtain ⟨b, off, rfl, c0, c1, _⟩ := f7
          go_simp
          exact k _ _ (Chg.refl _ _) rfl
        refine Obs.cons (some (67, true)) (by kernel_rfl) ?_ ?_
        · refine Ob.yes (fun _ _ h => h) fun a w hR hk K k => ?_
          obtain ⟨_, e9, f9⟩ := hk 9 (by decide)
          clear hk
          obtain ⟨b, off, rfl, c0, c1, _⟩ := f9
          go_simp
          exact k _ _ (Chg.refl _ _) rfl
        refine Obs.cons (some (67, true)) (by kernel_rfl) ?_ ?_
        · refine Ob.yes (fun _ _ h => h) fun a w hR hk K k => ?_
          obtain ⟨_, e68, rfl⟩ := hk 68 (by decide)
          obtain ⟨_, e69, rfl⟩ := hk 69 (by decide)
          clear hk
          have g0 : (q.1 == q.1) = true := by simp
          have g1 : (q.2 == q.2) = true := by simp
          simp only [roleV] at e68 e69
          go_simp
          exact k _ _ (Chg.refl _ _) rfl
        refine Obs.cons none (by kernel_rfl) ?_ ?_
        · refine Ob.plain fun a w hR hk K k => ?_
          obtain ⟨_, e67, rfl⟩ := hk 67 (by decide)
          obtain ⟨_, e70, rfl⟩ := hk 70 (by decide)
          clear hk
          go_simp
          exact k _ _ (Chg.refl _ _) rfl
        refine Obs.cons none (by kernel_rfl) ?_ ?_
        · refine Ob.plain fun a w hR hk K k => ?_
          obtain ⟨_, e71, f71⟩ := hk 71 (by decide)
          clear hk
          go_simp
          exact k _ _ (Chg.refl _ _) f71
        refine Obs.cons (some (72, true)) (by kernel_rfl) ?_ ?_
        · refine Ob.yes (fun _ _ h => h) fun a w hR hk K k => ?_
          obtain ⟨_, e8, f8⟩ := hk 8 (by decide)
          clear hk
          go_simp
          exact k _ _ (Chg.refl _ _) f8
        refine Obs.cons (some (72, true)) (by kernel_rfl) ?_ ?_
        · refine Ob.yes (fun _ _ h => h) fun a w hR hk K k => ?_
          obtain ⟨_, e10, f10⟩ := hk 10 (by decide)
          clear hk
          go_simp
          exact k _ _ (Chg.refl _ _) f10
        refine Obs.cons (some (72, true)) (by kernel_rfl) ?_ ?_
        · refine Ob.yes (fun _ _ h => h) fun a w hR hk K k => ?_
          obtain ⟨_, e73, rfl⟩ := hk 73 (by decide)
          obtain ⟨_, e74, rfl⟩ := hk 74 (by decide)
          clear hk
          have z : (ok == ok) = true := by simp
          go_simp
          exact k _ _ (Chg.refl _ _) rfl
        refine Obs.cons none (by kernel_rfl) ?_ ?_
        · refine Ob.plain fun a w hR hk K k => ?_
          obtain ⟨_, e72, rfl⟩ := hk 72 (by decide)
          obtain ⟨_, e75, rfl⟩ := hk 75 (by decide)
          clear hk
          go_simp
          exact k _ _ (Chg.refl _ _) rfl
        refine Obs.cons none (by kernel_rfl) ?_ ?_
        · refine Ob.plain fun a w hR hk K k => ?_
          obtain ⟨_, e76, f76⟩ := hk 76 (by decide)
          clear hk
          go_simp
          exact k _ _ (Chg.refl _ _) f76
        refine Obs.cons (some (77, true)) (by kernel_rfl) ?_ ?_
        · refine Ob.yes (fun _ _ h => h) fun a w hR hk K k => ?_
          obtain ⟨_, e0, f0⟩ := hk 0 (by decide)
          clear hk
          go_simp
          exact k _ _ (Chg.refl _ _) f0
        refine Obs.cons (some (77, true)) (by kernel_rfl) ?_ ?_
        · refine Ob.yes (fun _ _ h => h) fun a w hR hk K k => ?_
          obtain ⟨_, e78, rfl⟩ := hk 78 (by decide)
          clear hk
          go_simp
          refine (pset a0 c0 l _ (by omega) (h0.keep hR (fun _ _ => id)).low (fun _ h => h) z0).mono ?_
          rintro e w2 ⟨out, ao, cap, rfl, hso, hst, hc, _⟩
          exact k _ _ hc ⟨out, ao, cap, rfl, hso, hst.mono (fun _ _ => trivial)⟩
        refine Obs.cons (some (77, true)) (by kernel_rfl) ?_ ?_
        · refine Ob.yes (fun _ _ h => h) fun a w hR hk K k => ?_
          obtain ⟨_, e0, f0⟩ := hk 0 (by decide)
          clear hk
          go_simp
          exact k _ _ (Chg.refl _ _) f0
        refine Obs.cons (some (77, true)) (by kernel_rfl) ?_ ?_
        · refine Ob.yes (fun _ _ h => h) fun a w hR hk K k => ?_
          obtain ⟨_, e80, rfl⟩ := hk 80 (by decide)
          clear hk
          go_simp
          refine (rset_ref a0 c0 l _ (by omega) (h0.keep hR (fun _ _ => id)).low (fun _ h => h)).mono ?_
          rintro e w2 ⟨out, ao, cap, rfl, hso, hst, hc, _⟩
          exact k _ _ hc ⟨out, ao, cap, rfl, hso, hst.mono (fun _ _ => trivial)⟩
        refine Obs.cons (some (77, true)) (by kernel_rfl) ?_ ?_
        · refine Ob.yes (fun _ _ h => h) fun a w hR hk K k => ?_
          obtain ⟨_, e79, f79⟩ := hk 79 (by decide)
          obtain ⟨_, e81, f81⟩ := hk 81 (by decide)
          clear hk
          obtain ⟨o1, a1, p1, rfl, hs1, h1⟩ := f79
          obtain ⟨o2, a2, p2, rfl, hs2, h2⟩ := f81
          obtain rfl : o1 = o2 := hs1.one hs2
          have hol := SetG.len ltR_ord hs1
          go_simp
          refine (rsame_ref a1 a2 p1 p2 o1 o1 _ (by omega) (by omega) h1 h2).mono ?_
          rintro e w2 ⟨rfl, q2, rfl⟩
          exact k _ _ ⟨rfl, rfl, rfl, Nat.le_refl _, fun _ _ _ => rfl⟩ (congrArg Value.bool (by simp [sameR]))
        refine Obs.cons none (by kernel_rfl) ?_ ?_
        · refine Ob.plain fun a w hR hk K k => ?_
          obtain ⟨_, e77, rfl⟩ := hk 77 (by decide)
          obtain ⟨_, e82, rfl⟩ := hk 82 (by decide)
          clear hk
          go_simp
          exact k _ _ (Chg.refl _ _) rfl
        refine Obs.cons none (by kernel_rfl) ?_ ?_
        · refine Ob.plain fun a w hR hk K k => ?_
          obtain ⟨_, e83, f83⟩ := hk 83 (by decide)
          clear hk
          go_simp
          exact k _ _ (Chg.refl _ _) f83
        refine Obs.cons (some (84, true)) (by kernel_rfl) ?_ ?_
        · refine Ob.yes (fun _ _ h => h) fun a w hR hk K k => ?_
          obtain ⟨_, e0, f0⟩ := hk 0 (by decide)
          clear hk
          go_simp
          exact k _ _ (Chg.refl _ _) f0
        refine Obs.cons (some (84, true)) (by kernel_rfl) ?_ ?_
        · refine Ob.yes (fun _ _ h => h) fun a w hR hk K k => ?_
          obtain ⟨_, e4, f4⟩ := hk 4 (by decide)
          clear hk
          obtain ⟨b, off, rfl, c0, c1, _⟩ := f4
          go_simp
          exact k _ _ (Chg.refl _ _) rfl
        refine Obs.cons (some (84, true)) (by kernel_rfl) ?_ ?_
        · refine Ob.yes (fun _ _ h => h) fun a w hR hk K k => ?_
          obtain ⟨_, e85, rfl⟩ := hk 85 (by decide)
          obtain ⟨_, e86, rfl⟩ := hk 86 (by decide)
          clear hk
          go_simp
          refine (phas a0 c0 l r _ (by omega) (by omega) (by omega) (h0.keep hR (fun _ _ => id))).mono ?_
          rintro e w2 ⟨rfl, hc⟩
          exact k _ _ hc rfl
        refine Obs.cons (some (84, true)) (by kernel_rfl) ?_ ?_
        · refine Ob.yes (fun _ _ h => h) fun a w hR hk K k => ?_
          obtain ⟨_, e0, f0⟩ := hk 0 (by decide)
          clear hk
          go_simp
          exact k _ _ (Chg.refl _ _) f0
        refine Obs.cons (some (84, true)) (by kernel_rfl) ?_ ?_
        · refine Ob.yes (fun _ _ h => h) fun a w hR hk K k => ?_
          obtain ⟨_, e4, f4⟩ := hk 4 (by decide)
          clear hk
          obtain ⟨b, off, rfl, c0, c1, _⟩ := f4
          go_simp
          exact k _ _ (Chg.refl _ _) rfl
        refine Obs.cons (some (84, true)) (by kernel_rfl) ?_ ?_
        · refine Ob.yes (fun _ _ h => h) fun a w hR hk K k => ?_
          obtain ⟨_, e88, rfl⟩ := hk 88 (by decide)
          obtain ⟨_, e89, rfl⟩ := hk 89 (by decide)
          clear hk
          go_simp
          refine (rhas_ref a0 c0 l r _ (by omega) (h0.keep hR (fun _ _ => id))).mono ?_
          rintro e w2 ⟨rfl, hc⟩
          exact k _ _ hc rfl
        refine Obs.cons (some (84, true)) (by kernel_rfl) ?_ ?_
        · refine Ob.yes (fun _ _ h => h) fun a w hR hk K k => ?_
          obtain ⟨_, e87, rfl⟩ := hk 87 (by decide)
          obtain ⟨_, e90, rfl⟩ := hk 90 (by decide)
          clear hk
          generalize hasR l r = v at *
          have z : (v == v) = true := by simp
          go_simp
          exact k _ _ (Chg.refl _ _) rfl
        refine Obs.cons none (by kernel_rfl) ?_ ?_
        · refine Ob.plain fun a w hR hk K k => ?_
          obtain ⟨_, e84, rfl⟩ := hk 84 (by decide)
          obtain ⟨_, e91, rfl⟩ := hk 91 (by decide)
          clear hk
          go_simp
          exact k _ _ (Chg.refl _ _) rfl
        refine Obs.cons none (by kernel_rfl) ?_ ?_
        · refine Ob.plain fun a w hR hk K k => ?_
          obtain ⟨_, e92, f92⟩ := hk 92 (by decide)
          clear hk
          go_simp
          exact k _ _ (Chg.refl _ _) f92
        exact Obs.nil
      case fin =>
        intro vals w9 hc9 hv
        have h6 : vals 6 = .bool true := hv 6 (by decide)
        simp only [putAll, List.setIfInBounds_toArray, List.set_cons_zero, List.set_cons_succ, h6]
        have HX := hid (hT.go hc9).chg
        clear hT hc9 hv h0
        go_wp2
        go_ret
        exact ⟨rfl, HX.out⟩
end Go.Proofs.Ytdlpddpdobiebaa

/- The arguments of laws, opened to cells: bytes, a small array. -/
namespace Go.Proofs.Ytdlpddpdobiebaa
open Go.ChangeShapes Go.WideShapes Go.ChangeAt Go.RowKit Go.Deep

theorem Try.own : ownKnob Try.prog.godebug = none := by kernel_rfl
theorem Try.laidOut : laidOutB Try.prog = true := by kernel_rfl

theorem spot_none {w : World} {a : Addr} {v : Value} (h : w.cell? a = some v) : a = ⟨a.block, a.off, none⟩ := by
  obtain ⟨b, o, s⟩ := a
  cases s with
  | none => rfl
  | some x =>
    simp only [World.cell?] at h
    split at h
    · simp at h
    · cases h

theorem add_zero (a : Addr) : a.add 0 = a := by
  unfold Addr.add
  simp

theorem wf_u8 {n : Int} (h : (Lit.int .u8 n).wf = true) : 0 ≤ n ∧ n ≤ 255 := by
  have hmin : IntKind.u8.min = 0 := rfl
  have hmax : IntKind.u8.max = 255 := rfl
  simp only [Lit.wf, Bool.and_eq_true, decide_eq_true_eq] at h
  omega

theorem wf_i64 {n : Int} (h : (Lit.int .i64 n).wf = true) : -9223372036854775808 ≤ n ∧ n ≤ 9223372036854775807 := by
  have hmin : IntKind.i64.min = -9223372036854775808 := rfl
  have hmax : IntKind.i64.max = 9223372036854775807 := rfl
  simp only [Lit.wf, Bool.and_eq_true, decide_eq_true_eq] at h
  omega

section
variable {H : Type} {enc : TypeId × Value → H} {w : World} {base : Nat} {held : Bool} {fuel : Nat}

theorem open_bytes {cs : List Value} {x : DataW H × List MemPlace} (h : DataW.trod enc Try.prog w base (fun _ => true) held fuel 37 cs = some x) :
    ∃ (ao : Option Addr) (cap : Nat) (l : List UInt8), cs = [.slice ao l.length cap] ∧ l.length ≤ 9223372036854775807 ∧ BytesAt (fun k => k < w.heap.size) w (.slice ao l.length cap) l := by
  rcases open_ints Try.underlying37 Try.underlying5 (by kernel_rfl) h with ⟨rfl, _⟩ | ⟨a, len, cap, zs, rfl, _, hl, hm, hz, _, hcell, hwz⟩
  · exact ⟨none, 0, [], rfl, by simp, BytesAt.nil _ _⟩
  · simp only [if_true] at hz
    have hlen : ((zs.take len).map fun n => UInt8.ofNat n.toNat).length = len := by simp; omega
    refine ⟨some a, cap, (zs.take len).map fun n => UInt8.ofNat n.toNat, by rw [hlen], by rw [hlen]; unfold maxLen at hm; omega, ?_⟩
    rw [hlen]
    by_cases h0 : len = 0
    · subst h0
      exact .inl ⟨some a, cap, rfl, by simp, fun h => by cases h⟩
    · have h1 := hcell 0 (by omega)
      rw [add_zero] at h1
      have ha := spot_none h1
      have hlt := World.block_lt_of_cell? w _ h1
      refine .inr ⟨a.block, a.off, cap, by rw [hlen]; exact congrArg (fun z => Value.slice (some z) len cap) ha, by rw [hlen]; exact hl, hm, hlt, fun i hi => ?_⟩
      rw [hlen] at hi
      have h2 := hcell i (by omega)
      rw [ha, add_off] at h2
      rw [h2]
      have hget : zs.getD i 0 = zs[i]'(by omega) := by simp [List.getD, show i < zs.length by omega]
      have hb := wf_u8 (hwz _ (List.getElem_mem (show i < zs.length by omega)))
      rw [hget]
      congr 2
      simp only [List.getElem_map, List.getElem_take]
      rw [ofNat_u8 _ (by omega)]
      omega

theorem okWide_array {P : Program} {w : World} {r : Reach} {base : Nat} {t e : TypeId} {n : Nat} {v : Value} (ht : P.underlying t = some (.array n e)) (h : Value.okWide P w r base t v) : ∃ cs, v = .agg cs ∧ cs.size = P.cellsOf t := by
  simp only [Value.okWide, ht] at h
  obtain ⟨cs, h1, h2, _⟩ := h
  exact ⟨cs, h1, h2⟩

end

end Go.Proofs.Ytdlpddpdobiebaa

/- A role that came in, opened to its cells. -/
namespace Go.Proofs.Ytdlpddpdobiebaa
open Go.ChangeShapes Go.WideShapes Go.ChangeAt Go.RowKit Go.Deep

theorem choose_roles {α : Type} (n : Nat) (p : Nat → α → Prop) (h : ∀ i, i < n → ∃ x, p i x) : ∃ l : List α, l.length = n ∧ ∀ i (hi : i < l.length), p i l[i] := by
  induction n with
  | zero => exact ⟨[], rfl, fun i hi => by simp at hi⟩
  | succ n ih =>
    obtain ⟨l, hl, hp⟩ := ih (fun i hi => h i (by omega))
    obtain ⟨x, hx⟩ := h n (by omega)
    refine ⟨l ++ [x], by simp [hl], fun i hi => ?_⟩
    by_cases hin : i < l.length
    · rw [List.getElem_append_left hin]
      exact hp i hin
    · have : i = n := by simp [hl] at hi; omega
      subst this
      rw [List.getElem_append_right (by omega)]
      simpa [hl] using hx

section
variable {H : Type} {enc : TypeId × Value → H} {w : World} {base : Nat} {held : Bool} {fuel : Nat}

set_option maxRecDepth 100000 in
/-- Two cells that are read as a role. -/
theorem open_role_cells {spare : Nat → Bool} {cs : List Value} {x : DataW H × List MemPlace} (h : DataW.trod enc Try.prog w base spare held fuel 24 cs = some x) :
    ∃ r : RoleB, cs = roleCells r ∧ r.1.length ≤ 9223372036854775807 ∧ r.2.length ≤ 9223372036854775807 ∧ 1 + r.1.length + r.2.length ≤ Rows.uptoBulk x.1 := by
  obtain ⟨y0, y1, n, rfl, hl, h0, h1⟩ := trod_struct2 Try.underlying24 h
  have hc : Try.prog.cellsOf 24 = 2 := by kernel_rfl
  rw [hc] at hl
  match cs, hl with
  | [c0, c1], _ =>
    have e0 : DataW.trod enc Try.prog w base spare held n 9 [c0] = some y0 := h0
    have e1 : DataW.trod enc Try.prog w base spare held n 9 [c1] = some y1 := h1
    obtain ⟨s0, hs0, rfl, hm0⟩ := DataW.trod_string Try.underlying9 e0
    obtain ⟨s1, hs1, rfl, hm1⟩ := DataW.trod_string Try.underlying9 e1
    simp only [List.cons.injEq, and_true] at hs0 hs1
    subst hs0
    subst hs1
    unfold maxLen at hm0 hm1
    refine ⟨(s0.data.toList, s1.data.toList), rfl, hm0, hm1, ?_⟩
    simp [Rows.uptoBulk, Rows.uptoBulkAll]
    omega

set_option maxRecDepth 100000 in
/-- A role that came in. -/
theorem open_role {base0 : Nat} {r : Reach} {v : Value} {d : DataW H} {ps : List MemPlace} {spare : Nat → Bool} (hval : Value.okWide Try.prog w r base0 24 v) (hd : DataW.Trod enc Try.prog w base spare held 24 v d ps) :
    ∃ x : RoleB, v = roleV x ∧ x.1.length ≤ 9223372036854775807 ∧ x.2.length ≤ 9223372036854775807 ∧ 1 + x.1.length + x.2.length ≤ Rows.uptoBulk d := by
  obtain ⟨cs, rfl, _⟩ := okWide_struct Try.underlying24 hval
  obtain ⟨n, hn⟩ := hd
  obtain ⟨x, hx, h1, h2, h3⟩ := open_role_cells hn
  refine ⟨x, ?_, h1, h2, h3⟩
  have : cs.toList = roleCells x := hx
  have e : cs = (roleCells x).toArray := by rw [← this]
  rw [e]
  rfl
end
end Go.Proofs.Ytdlpddpdobiebaa
