/- Texts that the proof leans on, in one: RoleBackMath, RoleBack, OpenB. -/
import Derived.Test.YtdlpddpdobiebaaBm6
import Derived.Test.YtdlpddpdobiebaaBm8
import Derived.Test.YtdlpddpdobiebaaBm13
import Derived.Test.YtdlpddpdobiebaaRows
import Derived.Test.YtdlpddpdobiebaaBm1
import Derived.ProofKit
import Derived.OpenShut
import Derived.ShutString
import Derived.ChangeOld
import Derived.Deep.Slices
import Derived.Deep.Fields
import Derived.ChangeSame
/- Roles put and got, told and parsed, and their order: plain words. -/
namespace Go.Proofs.Ytdlpddpdobiebaa
open Go.RowKit

theorem cmpR_neg (a b : RoleB) : cmpR a b = -cmpR b a := by
  unfold cmpR
  rcases ltR_ord.tri a b with h | h | h
  · rw [h, ltR_ord.asymm h]; simp
  · subst h; rw [ltR_ord.irrefl]; simp
  · rw [h, ltR_ord.asymm h]; simp

theorem cmpR_bound (a b : RoleB) : -1 ≤ cmpR a b ∧ cmpR a b ≤ 1 := by
  unfold cmpR
  split
  · omega
  · split <;> omega

theorem cmpR_zero (a b : RoleB) : (cmpR a b == 0) = eqR a b := by
  unfold cmpR eqR
  rcases ltR_ord.tri a b with h | h | h
  · have hne : a ≠ b := fun e => by subst e; rw [ltR_ord.irrefl] at h; cases h
    rw [h]
    have : (a == b) = false := by simpa using hne
    rw [this]; rfl
  · subst h; rw [ltR_ord.irrefl]; simp
  · have hne : a ≠ b := fun e => by subst e; rw [ltR_ord.irrefl] at h; cases h
    rw [h, ltR_ord.asymm h]
    have : (a == b) = false := by simpa using hne
    rw [this]; rfl

theorem cmpR_le (a b : RoleB) : cmpR a b ≤ 0 ↔ ltR b a = false := by
  unfold cmpR
  cases h : ltR a b with
  | true => rw [ltR_ord.asymm h]; simp
  | false =>
    cases h2 : ltR b a with
    | true => simp
    | false => simp

theorem cmpR_trans (a b c : RoleB) (h1 : cmpR a b ≤ 0) (h2 : cmpR b c ≤ 0) : cmpR a c ≤ 0 := by
  rw [cmpR_le] at *
  cases h : ltR c a with
  | false => rfl
  | true =>
    rcases ltR_ord.tri a b with k | k | k
    · have := ltR_ord.trans _ _ _ h k; rw [h2] at this; cases this
    · subst k; rw [h] at h2; cases h2
    · rw [k] at h1; cases h1

theorem name_nodot {s : List UInt8} (h : isName s = true) : ∀ c ∈ s, c.toNat ≠ 46 := by
  cases s with
  | nil => intro c hc; cases hc
  | cons d l =>
    simp only [isName, Bool.and_eq_true] at h
    intro c hc he
    have := List.all_eq_true.1 h.2 c hc
    rcases okByte_yes this with k | k | k <;> omega

theorem cutDot_app : ∀ (o x : List UInt8), (∀ c ∈ o, c.toNat ≠ 46) → cutDot (o ++ (46 :: x)) = some (o, x)
  | [], x, _ => by rw [List.nil_append, cutDot, if_pos (by decide)]
  | c :: l, x, h => by
    rw [List.cons_append, cutDot, if_neg (h c (by simp)), cutDot_app l x (fun d hd => h d (List.mem_cons_of_mem _ hd))]
    rfl

theorem parse_text {r : RoleB} (h : isRole r = true) : parseR (roleText r) = some r := by
  have hn : isName r.1 = true := by simp only [isRole, Bool.and_eq_true] at h; exact h.1
  rw [parseR, roleText, cutDot_app r.1 r.2 (name_nodot hn)]
  exact if_pos h

theorem name_enc {o : List UInt8} (h : isName o = true) (x : List UInt8) : nameOk ((enc o.length ++ o) ++ x) = true ∧ nameOf ((enc o.length ++ o) ++ x) = o ∧ nameRest ((enc o.length ++ o) ++ x) = x := by
  have hl := isName_len h
  have hN := numN_enc9 (m := o.length) (by omega) (o ++ x)
  rw [← List.append_assoc] at hN
  have h1 : errText ((enc o.length ++ o) ++ x) 16 = 0 := by
    unfold errText
    rw [hN]
    simp only [if_true, List.length_append]
    rw [if_neg (by omega), if_neg (by omega)]
  have h2 : nameOf ((enc o.length ++ o) ++ x) = o := by
    unfold nameOf
    rw [hN]
    simp
  refine ⟨by rw [nameOk, decide_eq_true h1, h2, h]; rfl, h2, ?_⟩
  unfold nameRest
  rw [hN, List.append_assoc, ← List.drop_drop]
  simp

theorem role_put_got {r : RoleB} (h : isRole r = true) : roleErr (roleEnc r) = 0 ∧ roleGot (roleEnc r) noRole = r := by
  have hn : isName r.1 = true ∧ isName r.2 = true := by simpa [isRole] using h
  obtain ⟨a1, a2, a3⟩ := name_enc hn.1 (enc r.2.length ++ r.2)
  obtain ⟨b1, b2, b3⟩ := name_enc hn.2 []
  rw [List.append_nil] at b1 b2 b3
  have hok : roleOk (roleEnc r) = true := by rw [roleOk, roleEnc, a1, a3, b1]; rfl
  have hof : roleOf (roleEnc r) = r := by rw [roleOf, roleEnc, a2, a3, b2]
  have hrs : roleRest (roleEnc r) = [] := by rw [roleRest, roleEnc, a3, b3]
  exact ⟨by rw [roleErr, if_pos hok, hrs]; rfl, by rw [roleGot, if_pos hok, hof]⟩
end Go.Proofs.Ytdlpddpdobiebaa

/- The walk of the law RoleBack, where its roles are not too long. -/
namespace Go.Proofs.Ytdlpddpdobiebaa
open Go.RowKit

def backSpecs (x y : RoleB) : List Spec := [.any, .any, .any, .any, .any, .any, .any, .any, .any, .roleP x, .any, .roleP y, .any, .any, .any, .any, .any, .any, .any, .any, .any, .any, .any, .any, .any, .any, .any, .any, .any, .any, .any, .any, .any, .any, .any, .any, .any, .eq (roleV x), .eq (roleV y), .eq (.int .i64 (cmpR x y)), .eq (roleV y), .eq (roleV x), .eq (.int .i64 (cmpR y x)), .eq (.int .i64 (cmpR x y)), .eq (.bool false), .eq (.bool false), .eq (roleV x), .eq (roleV y), .eq (.int .i64 (cmpR x y)), .eq (.bool (eqR x y)), .eq (roleV x), .eq (roleV y), .eq (.bool (eqR x y)), .eq (.bool false), .eq (.bool false)]

/-- What is kept: the list, its roles' boxes. -/
structure StB (W0 : World) (Lb Ba Bb Bc : Nat) (a b c : RoleB) (w : World) : Prop where
  chg : Chg (fun _ => False) W0 w
  roles : RolesAt (fun _ => True) w (some ⟨Lb, 0, none⟩) [a, b, c]
  ba : w.heap[Ba]? = some (.cells (roleBox a) 24 (0, 0))
  bb : w.heap[Bb]? = some (.cells (roleBox b) 24 (0, 0))
  bc : w.heap[Bc]? = some (.cells (roleBox c) 24 (0, 0))
theorem StB.go {W0 : World} {Lb Ba Bb Bc : Nat} {a b c : RoleB} {w w' : World} (h : StB W0 Lb Ba Bb Bc a b c w) (k : Chg (fun _ => False) w w') : StB W0 Lb Ba Bb Bc a b c w' :=
  ⟨h.chg.trans k (fun _ _ h => h), h.roles.keep k (fun _ _ => id), blk_keep h.ba k id, blk_keep h.bb k id, blk_keep h.bc k id⟩

set_option maxRecDepth 100000 in
set_option maxHeartbeats 8000000 in
theorem rback_main (a b c : RoleB) (w : World) (hl : totalR [a, b, c] ≤ 800) :
    Calls Try.prog 5 #[roleV a, roleV b, roleV c] w fun e w' => e = .returned (.bool true) ∧ Chg (fun _ => False) w w' := by
  have dL : decide (800 < totalR [a, b, c]) = false := decide_eq_false (by omega)
  have hl2 : totalR [a, b, c] = (1 + a.1.length + a.2.length) + ((1 + b.1.length + b.2.length) + (1 + c.1.length + c.2.length)) := by simp [totalR]
  have hlen : ∀ z ∈ [a, b, c], z.1.length ≤ 800 ∧ z.2.length ≤ 800 := by
    intro z hz
    simp only [List.mem_cons, List.not_mem_nil, or_false] at hz
    rcases hz with rfl | rfl | rfl <;> omega
  show Calls Try.prog 5 #[.agg #[.string ⟨a.1.toArray⟩, .string ⟨a.2.toArray⟩], .agg #[.string ⟨b.1.toArray⟩, .string ⟨b.2.toArray⟩], .agg #[.string ⟨c.1.toArray⟩, .string ⟨c.2.toArray⟩]] w _
  have hA0 : (w.alloc (.cells (roleBox a) 24)).heap[w.heap.size]? = some (.cells (roleBox a) 24 (0, 0)) := heap_alloc_new w _
  have hB0 : ((w.alloc (.cells (roleBox a) 24)).alloc (.cells (roleBox b) 24)).heap[(w.alloc (.cells (roleBox a) 24)).heap.size]? = some (.cells (roleBox b) 24 (0, 0)) := heap_alloc_new _ _
  have hC0 : (((w.alloc (.cells (roleBox a) 24)).alloc (.cells (roleBox b) 24)).alloc (.cells (roleBox c) 24)).heap[((w.alloc (.cells (roleBox a) 24)).alloc (.cells (roleBox b) 24)).heap.size]? = some (.cells (roleBox c) 24 (0, 0)) := heap_alloc_new _ _
  have hs1 : (w.alloc (.cells (roleBox a) 24)).heap.size = w.heap.size + 1 := by simp
  have hs2 : ((w.alloc (.cells (roleBox a) 24)).alloc (.cells (roleBox b) 24)).heap.size = w.heap.size + 1 + 1 := by simp
  rw [hs1] at hB0
  rw [hs2] at hC0
  have k1 : Chg (fun _ => False) (w.alloc (.cells (roleBox a) 24)) (((w.alloc (.cells (roleBox a) 24)).alloc (.cells (roleBox b) 24)).alloc (.cells (roleBox c) 24)) := ((Chg.refl _ _).alloc _).alloc _
  have k2 : Chg (fun _ => False) ((w.alloc (.cells (roleBox a) 24)).alloc (.cells (roleBox b) 24)) (((w.alloc (.cells (roleBox a) 24)).alloc (.cells (roleBox b) 24)).alloc (.cells (roleBox c) 24)) := (Chg.refl _ _).alloc _
  have k3 : Chg (fun _ => False) w (((w.alloc (.cells (roleBox a) 24)).alloc (.cells (roleBox b) 24)).alloc (.cells (roleBox c) 24)) := (((Chg.refl _ _).alloc _).alloc _).alloc _
  have HH := hid (And.intro (blk_keep hA0 k1 id) (And.intro (blk_keep hB0 k2 id) (And.intro hC0 k3)))
  clear hA0 hB0 hC0 hs1 hs2 k1 k2 k3
  go_enter Try.func5, Try.ntmps5
  go_wp2_with fail
  refine (first_any _).mono ?_
  rintro e w2 ⟨rfl, hc2⟩
  obtain ⟨hA, hB, hC, hcw⟩ := HH.out
  have hA2 := blk_keep hA hc2 id
  have hB2 := blk_keep hB hc2 id
  have hC2 := blk_keep hC hc2 id
  have hcw2 := hcw.trans hc2 (fun _ _ h => h)
  clear HH hA hB hC hcw hc2
  generalize hBa : w.heap.size = Ba at *
  have p0 := cell_blk hA2 0
  have p1 := cell_blk hA2 1
  have p2 := cell_blk hB2 0
  have p3 := cell_blk hB2 1
  have p4 := cell_blk hC2 0
  have p5 := cell_blk hC2 1
  simp only [roleBox, List.getElem?_toArray, List.getElem?_cons_zero, List.getElem?_cons_succ] at p0 p1 p2 p3 p4 p5
  have hl3 := roles_lit [a, b, c] w2 (0, 0) (fun z hz => by have := hlen z hz; omega)
  have hc23 : Chg (fun _ => False) w2 (w2.alloc (.cells (roleRow [a, b, c]).toArray 24)) := (Chg.refl _ w2).alloc _
  have hlg := rlong_any (some ⟨w2.heap.size, 0, none⟩) 3 [a, b, c] (w2.alloc (.cells (roleRow [a, b, c]).toArray 24)) (by omega) hl3
  have hT3 : StB w w2.heap.size Ba (Ba + 1) (Ba + 1 + 1) a b c (w2.alloc (.cells (roleRow [a, b, c]).toArray 24)) := ⟨hcw2.trans hc23 (fun _ _ h => h), hl3.mono (fun _ _ => trivial), blk_keep hA2 hc23 id, blk_keep hB2 hc23 id, blk_keep hC2 hc23 id⟩
  have HL := hid (And.intro hlg hT3)
  clear hlg hc23 hl3 hT3 hA2 hB2 hC2 hcw2
  go_wp2_with fail
  obtain ⟨hlg, hT3⟩ := HL.out
  clear HL p0 p1 p2 p3 p4 p5
  generalize w2.heap.size = Lb at *
  refine hlg.mono ?_
  rintro e w4 ⟨rfl, hc4⟩
  rw [dL]
  have hT4 := hT3.go hc4
  clear hlg hT3 hc4 dL
  go_wp2
  go_loopw [27] (fun i wr => ∃ k : Nat, i = .int .i64 k ∧ k ≤ 3 ∧ StB w Lb Ba (Ba + 1) (Ba + 1 + 1) a b c wr) (fun i _ => 3 - (intOf i).toNat)
  case atStart => exact ⟨0, rfl, by omega, hT4⟩
  case round =>
    obtain ⟨k, rfl, hk, hT⟩ := hrel
    clear hT4
    by_cases hlt : k < 3
    · obtain ⟨cb, co, he, _, q0, q1, ls1, ls2⟩ := hT.roles k hlt
      cases he
      simp only [Nat.zero_add] at q0 q1
      have hx8 : ([a, b, c][k]'hlt).1.length ≤ 800 ∧ ([a, b, c][k]'hlt).2.length ≤ 800 := hlen _ (List.getElem_mem hlt)
      generalize [a, b, c][k]'hlt = x at *
      have hS : (wr.alloc (.cells (roleBox x) 24)).heap[wr.heap.size]? = some (.cells (roleBox x) 24 (0, 0)) := heap_alloc_new wr _
      have hcS : Chg (fun _ => False) wr (wr.alloc (.cells (roleBox x) 24)) := (Chg.refl _ wr).alloc _
      have HS := hid (And.intro hS (hT.go hcS))
      clear hS hcS hT
      go_wp2
      obtain ⟨hS, hT5⟩ := HS.out
      clear HS q0 q1
      have hS : (wr.alloc (.cells #[.string ⟨x.1.toArray⟩, .string ⟨x.2.toArray⟩] 24)).heap[wr.heap.size]? = some (.cells (roleBox x) 24 (0, 0)) := hS
      have hT5 : StB w Lb Ba (Ba + 1) (Ba + 1 + 1) a b c (wr.alloc (.cells #[.string ⟨x.1.toArray⟩, .string ⟨x.2.toArray⟩] 24)) := hT5
      generalize wr.alloc (.cells #[.string ⟨x.1.toArray⟩, .string ⟨x.2.toArray⟩] 24) = w5 at *
      generalize wr.heap.size = X9 at *
      go_loopw [33] (fun i wr => ∃ j : Nat, i = .int .i64 j ∧ j ≤ 3 ∧ StB w Lb Ba (Ba + 1) (Ba + 1 + 1) a b c wr ∧ wr.heap[X9]? = some (.cells (roleBox x) 24 (0, 0))) (fun i _ => 3 - (intOf i).toNat)
      case atStart => exact ⟨0, rfl, by omega, hT5, hS⟩
      case round =>
        obtain ⟨j, rfl, hj, hT, hX⟩ := hrel
        clear hT5 hS
        by_cases hlt2 : j < 3
        · obtain ⟨cb, co, he, _, q0, q1, ls3, ls4⟩ := hT.roles j hlt2
          cases he
          simp only [Nat.zero_add] at q0 q1
          generalize [a, b, c][j]'hlt2 = y at *
          have hS : (wr.alloc (.cells (roleBox y) 24)).heap[wr.heap.size]? = some (.cells (roleBox y) 24 (0, 0)) := heap_alloc_new wr _
          have hcS : Chg (fun _ => False) wr (wr.alloc (.cells (roleBox y) 24)) := (Chg.refl _ wr).alloc _
          have HS := hid (And.intro hS (And.intro (hT.go hcS) (blk_keep hX hcS id)))
          clear hS hcS hT hX
          go_wp2_with fail
          obtain ⟨hS, hT, hX⟩ := HS.out
          clear HS q0 q1
          refine wp_region_specs (backSpecs x y) [37, 38, 39, 40, 41, 42, 43, 44, 45, 46, 47, 48, 49, 50, 51, 52, 53, 54] [9, 11] (by kernel_rfl) (by kernel_rfl) (by rfl) (by kernel_rfl) ?start ?obs ?fin
          case start =>
            simp only [List.forall_mem_cons]
            exact ⟨⟨_, rfl, _, _, rfl, box_role hX ls1 ls2⟩, ⟨_, rfl, _, _, rfl, box_role hS ls3 ls4⟩, fun _ h => by cases h⟩
          case obs =>
            clear hS hT hX
            refine Obs.cons none (by kernel_rfl) ?_ ?_
            · refine Ob.plain fun a w hR hk K k => ?_
              obtain ⟨_, e9, f9⟩ := hk 9 (by decide)
              clear hk
              obtain ⟨b, off, rfl, c0, c1, _⟩ := f9
              go_simp
              exact k _ _ (Chg.refl _ _) rfl
            refine Obs.cons none (by kernel_rfl) ?_ ?_
            · refine Ob.plain fun a w hR hk K k => ?_
              obtain ⟨_, e11, f11⟩ := hk 11 (by decide)
              clear hk
              obtain ⟨b, off, rfl, c0, c1, _⟩ := f11
              go_simp
              exact k _ _ (Chg.refl _ _) rfl
            refine Obs.cons none (by kernel_rfl) ?_ ?_
            · refine Ob.plain fun a w hR hk K k => ?_
              obtain ⟨_, e37, rfl⟩ := hk 37 (by decide)
              obtain ⟨_, e38, rfl⟩ := hk 38 (by decide)
              clear hk
              go_simp
              refine (pcompare x y _).mono ?_
              rintro e w2 ⟨rfl, hc⟩
              exact k _ _ hc rfl
            refine Obs.cons none (by kernel_rfl) ?_ ?_
            · refine Ob.plain fun a w hR hk K k => ?_
              obtain ⟨_, e11, f11⟩ := hk 11 (by decide)
              clear hk
              obtain ⟨b, off, rfl, c0, c1, _⟩ := f11
              go_simp
              exact k _ _ (Chg.refl _ _) rfl
            refine Obs.cons none (by kernel_rfl) ?_ ?_
            · refine Ob.plain fun a w hR hk K k => ?_
              obtain ⟨_, e9, f9⟩ := hk 9 (by decide)
              clear hk
              obtain ⟨b, off, rfl, c0, c1, _⟩ := f9
              go_simp
              exact k _ _ (Chg.refl _ _) rfl
            refine Obs.cons none (by kernel_rfl) ?_ ?_
            · refine Ob.plain fun a w hR hk K k => ?_
              obtain ⟨_, e40, rfl⟩ := hk 40 (by decide)
              obtain ⟨_, e41, rfl⟩ := hk 41 (by decide)
              clear hk
              go_simp
              refine (pcompare y x _).mono ?_
              rintro e w2 ⟨rfl, hc⟩
              exact k _ _ hc rfl
            refine Obs.cons none (by kernel_rfl) ?_ ?_
            · refine Ob.plain fun a w hR hk K k => ?_
              obtain ⟨_, e42, rfl⟩ := hk 42 (by decide)
              clear hk
              have hcn := cmpR_neg x y
              have hcb := cmpR_bound y x
              have hwr : IntKind.i64.wrap (-cmpR y x) = cmpR x y := by rw [IntKind.wrap_i64]; omega
              go_simp
              exact k _ _ (Chg.refl _ _) (congrArg (Value.int .i64) (by omega))
            refine Obs.cons none (by kernel_rfl) ?_ ?_
            · refine Ob.plain fun a w hR hk K k => ?_
              obtain ⟨_, e39, rfl⟩ := hk 39 (by decide)
              obtain ⟨_, e43, rfl⟩ := hk 43 (by decide)
              clear hk
              generalize cmpR x y = c at *
              have z : (c != c) = false := by simp
              go_simp
              exact k _ _ (Chg.refl _ _) rfl
            refine Obs.cons none (by kernel_rfl) ?_ ?_
            · refine Ob.plain fun a w hR hk K k => ?_
              obtain ⟨_, e44, f44⟩ := hk 44 (by decide)
              clear hk
              go_simp
              exact k _ _ (Chg.refl _ _) f44
            refine Obs.cons (some (45, false)) (by kernel_rfl) ?_ ?_
            · refine Ob.yes (fun _ _ h => h) fun a w hR hk K k => ?_
              obtain ⟨_, e9, f9⟩ := hk 9 (by decide)
              clear hk
              obtain ⟨b, off, rfl, c0, c1, _⟩ := f9
              go_simp
              exact k _ _ (Chg.refl _ _) rfl
            refine Obs.cons (some (45, false)) (by kernel_rfl) ?_ ?_
            · refine Ob.yes (fun _ _ h => h) fun a w hR hk K k => ?_
              obtain ⟨_, e11, f11⟩ := hk 11 (by decide)
              clear hk
              obtain ⟨b, off, rfl, c0, c1, _⟩ := f11
              go_simp
              exact k _ _ (Chg.refl _ _) rfl
            refine Obs.cons (some (45, false)) (by kernel_rfl) ?_ ?_
            · refine Ob.yes (fun _ _ h => h) fun a w hR hk K k => ?_
              obtain ⟨_, e46, rfl⟩ := hk 46 (by decide)
              obtain ⟨_, e47, rfl⟩ := hk 47 (by decide)
              clear hk
              go_simp
              refine (pcompare x y _).mono ?_
              rintro e w2 ⟨rfl, hc⟩
              exact k _ _ hc rfl
            refine Obs.cons (some (45, false)) (by kernel_rfl) ?_ ?_
            · refine Ob.yes (fun _ _ h => h) fun a w hR hk K k => ?_
              obtain ⟨_, e48, rfl⟩ := hk 48 (by decide)
              clear hk
              have z := cmpR_zero x y
              generalize hvv : eqR x y = v at *
              have HV := hid hvv
              clear hvv
              go_simp
              exact k _ _ (Chg.refl _ _) (congrArg Value.bool HV.out.symm)
            refine Obs.cons (some (45, false)) (by kernel_rfl) ?_ ?_
            · refine Ob.yes (fun _ _ h => h) fun a w hR hk K k => ?_
              obtain ⟨_, e9, f9⟩ := hk 9 (by decide)
              clear hk
              obtain ⟨b, off, rfl, c0, c1, _⟩ := f9
              go_simp
              exact k _ _ (Chg.refl _ _) rfl
            refine Obs.cons (some (45, false)) (by kernel_rfl) ?_ ?_
            · refine Ob.yes (fun _ _ h => h) fun a w hR hk K k => ?_
              obtain ⟨_, e11, f11⟩ := hk 11 (by decide)
              clear hk
              obtain ⟨b, off, rfl, c0, c1, _⟩ := f11
              go_simp
              exact k _ _ (Chg.refl _ _) rfl
            refine Obs.cons (some (45, false)) (by kernel_rfl) ?_ ?_
            · refine Ob.yes (fun _ _ h => h) fun a w hR hk K k => ?_
              obtain ⟨_, e50, rfl⟩ := hk 50 (by decide)
              obtain ⟨_, e51, rfl⟩ := hk 51 (by decide)
              clear hk
              simp only [roleV] at e50 e51
              by_cases h1 : x.1 = y.1
              · have g0 : (x.1 == y.1) = true := by simpa using h1
                by_cases h2 : x.2 = y.2
                · have g1 : (x.2 == y.2) = true := by simpa using h2
                  have hE : eqR x y = true := by simp [eqR, Prod.ext h1 h2]
                  clear h1 h2
                  go_simp
                  exact k _ _ (Chg.refl _ _) (congrArg Value.bool hE.symm)
                · have g1 : (x.2 == y.2) = false := by simpa using h2
                  have hE : eqR x y = false := by simp only [eqR, beq_eq_false_iff_ne, ne_eq]; exact fun h => h2 (congrArg Prod.snd h)
                  clear h1 h2
                  go_simp
                  exact k _ _ (Chg.refl _ _) (congrArg Value.bool hE.symm)
              · have g0 : (x.1 == y.1) = false := by simpa using h1
                have hE : eqR x y = false := by simp only [eqR, beq_eq_false_iff_ne, ne_eq]; exact fun h => h1 (congrArg Prod.fst h)
                clear h1
                go_simp
                exact k _ _ (Chg.refl _ _) (congrArg Value.bool hE.symm)
            refine Obs.cons (some (45, false)) (by kernel_rfl) ?_ ?_
            · refine Ob.yes (fun _ _ h => h) fun a w hR hk K k => ?_
              obtain ⟨_, e49, rfl⟩ := hk 49 (by decide)
              obtain ⟨_, e52, rfl⟩ := hk 52 (by decide)
              clear hk
              generalize eqR x y = v at *
              have z : (v != v) = false := by simp
              go_simp
              exact k _ _ (Chg.refl _ _) rfl
            refine Obs.cons none (by kernel_rfl) ?_ ?_
            · refine Ob.plain fun a w hR hk K k => ?_
              obtain ⟨_, e45, rfl⟩ := hk 45 (by decide)
              obtain ⟨_, e53, rfl⟩ := hk 53 (by decide)
              clear hk
              go_simp
              exact k _ _ (Chg.refl _ _) rfl
            exact Obs.nil
          case fin =>
            intro vals w9 hc9 hv
            have h54 : vals 54 = .bool false := hv 54 (by decide)
            simp only [putAll, List.setIfInBounds_toArray, List.set_cons_zero, List.set_cons_succ, h54]
            have HX := hid (And.intro (hT.go hc9) (blk_keep hX hc9 id))
            clear hS hT hX hc9 hv h54
            go_wp2
            go_roundw
            case rel => exact ⟨j + 1, by go_num, by omega, HX.out.1, HX.out.2⟩
            case measure => simp [intOf]; omega
        · have hj2 : j = 3 := by omega
          subst hj2
          have x0 := cell_blk hX 0
          have x1 := cell_blk hX 1
          simp only [roleBox, List.getElem?_toArray, List.getElem?_cons_zero, List.getElem?_cons_succ] at x0 x1
          go_wp2_with fail
          refine (pright x wr ls1 ls2).mono ?_
          rintro e w6 ⟨rfl, hc6⟩
          have hX6 := blk_keep hX hc6 id
          have hT6 := hT.go hc6
          clear hX hT hc6 x0 x1
          cases hr : isRole x with
          | false =>
            go_wp2
            go_roundw
            case rel => exact ⟨k + 1, by go_num, by omega, hT6⟩
            case measure => simp [intOf]; omega
          | true =>
            have hc67 : Chg (fun _ => False) w6 (w6.alloc (.cells #[.slice none 0 0] 40)) := (Chg.refl _ w6).alloc _
            have hp7 := pen_new w6 (w6.heap.size + 1)
            have hX7 := blk_keep hX6 hc67 id
            have hT7 := hT6.go hc67
            have hs7 : (w6.alloc (.cells #[.slice none 0 0] 40)).heap.size = w6.heap.size + 1 := by simp
            have hXP : X9 < w6.heap.size := lt_blk hX6
            have x0 := cell_blk hX7 0
            have x1 := cell_blk hX7 1
            simp only [roleBox, List.getElem?_toArray, List.getElem?_cons_zero, List.getElem?_cons_succ] at x0 x1
            have HQ := hid (And.intro hp7 (And.intro hX6 hT6))
            clear hp7 hX7 hT7 hX6 hT6
            have HC67 := hid hc67
            clear hc67
            go_wp2_with fail
            obtain ⟨hp7, hX6, hT6⟩ := HQ.out
            clear HQ x0 x1
            refine (pput_yes (w6.heap.size + 1) w6.heap.size 0 none [] x _ hp7 (by omega) (by omega) (by simp) hr).mono ?_
            rintro e w8 ⟨rfl, ao8, cap8, hp8, hch8⟩
            have hc68 := pchg_new HC67.out hp7 (by omega) (Nat.le_refl _) hch8
            have hX8 := blk_keep hX6 hc68 id
            have hT8 := hT6.go hc68
            have hs8 := hch8.chg.size
            rw [List.nil_append] at hp8
            obtain ⟨hpe, hpg⟩ := role_put_got hr
            have hpt := parse_text hr
            have hzl : (roleEnc x).length ≤ 1000 := by
              have := role_len hr
              rw [roleEnc, enc_small (by omega), enc_small (by omega)]
              simp
              omega
            clear hX6 hT6 hp7 hch8 HC67
            have hc89 : Chg (fun _ => False) w8 (w8.alloc (.cells #[.string ⟨#[]⟩, .string ⟨#[]⟩] 24)) := (Chg.refl _ w8).alloc _
            have hZ9 : (w8.alloc (.cells #[.string ⟨#[]⟩, .string ⟨#[]⟩] 24)).heap[w8.heap.size]? = some (.cells (roleBox noRole) 24 (0, 0)) := heap_alloc_new w8 _
            have HB := hid (And.intro hZ9 (And.intro (hp8.keep hc89 id (fun _ _ => id)) hc89))
            have H8 := hid (And.intro hX8 hT8)
            have hs9 : (w8.alloc (.cells #[.string ⟨#[]⟩, .string ⟨#[]⟩] 24)).heap.size = w8.heap.size + 1 := by simp
            clear hZ9 hc89 hX8 hT8 hp8 hc68
            generalize hzs : roleEnc x = zs at *
            clear hzs
            go_wp2_with fail
            obtain ⟨hZ9, hp9, hc89⟩ := HB.out
            clear HB
            generalize w8.alloc (.cells #[.string ⟨#[]⟩, .string ⟨#[]⟩] 24) = w9 at *
            generalize hZZ : w8.heap.size = Z at *
            refine (bytes_any _ _ _ _ zs w9 hp9 (by omega)).mono ?_
            rintro e w10 ⟨ao10, cap10, rfl, hb10, hc910⟩
            have hZ10 := blk_keep hZ9 hc910 id
            have hc810 := hc89.trans hc910 (fun _ _ h => h)
            have hs10 := hc910.size
            clear hZ9 hp9 hc910 hc89
            have HB := hid hc810
            clear hc810
            go_wp2_with fail
            have hc810 := HB.out
            clear HB
            refine (readB_any (z := noRole) (l := zs) (w := w10) (by omega) hb10 (fun i hi => hi.2) (fun h => by have := h.1; omega) hZ10).mono ?_
            rintro e w11 ⟨rfl, hZ11, hc1011⟩
            rw [hpe]
            rw [hpg] at hZ11
            have hc811 : Chg (fun _ => False) w8 w11 := hc810.trans hc1011 (T := (· = Z)) (S := fun _ => False) (fun i hi h => by have : i = Z := h; omega)
            have hX11 := blk_keep H8.out.1 hc811 id
            have hT11 := H8.out.2.go hc811
            clear hb10 hZ10 hc810 hc1011 H8 hc811
            have x0 := cell_blk hX11 0
            have x1 := cell_blk hX11 1
            simp only [roleBox, List.getElem?_toArray, List.getElem?_cons_zero, List.getElem?_cons_succ] at x0 x1
            have HB := hid (And.intro hZ11 (And.intro hX11 hT11))
            clear hZ11 hX11 hT11
            go_wp2_with fail
            obtain ⟨hZ11, hX11, hT11⟩ := HB.out
            clear HB x0 x1
            refine (ptext x w11 (by omega) (by omega)).mono ?_
            rintro e w12 ⟨rfl, hc12⟩
            have HB := hid (And.intro (blk_keep hZ11 hc12 id) (And.intro (blk_keep hX11 hc12 id) (hT11.go hc12)))
            clear hZ11 hX11 hT11 hc12
            have htl : (roleText x).length ≤ 1048576 := by simp [roleText]; omega
            generalize roleText x = tx at *
            go_wp2_with fail
            refine (pparse tx w12 htl).mono ?_
            rintro e w13 ⟨rfl, hc13⟩
            rw [hpt, show (Value.tuple #[roleV ((some x).getD noRole), Value.bool (some x).isSome]) = .tuple #[.agg #[.string ⟨x.1.toArray⟩, .string ⟨x.2.toArray⟩], .bool true] from rfl]
            obtain ⟨hZ12, hX12, hT12⟩ := HB.out
            have hZ13 := blk_keep hZ12 hc13 id
            have hX13 := blk_keep hX12 hc13 id
            have hT13 := hT12.go hc13
            have hc14 : Chg (fun _ => False) w13 (w13.alloc (.cells #[.string ⟨x.1.toArray⟩, .string ⟨x.2.toArray⟩] 24)) := (Chg.refl _ w13).alloc _
            have hZ14 := blk_keep hZ13 hc14 id
            have hX14 := blk_keep hX13 hc14 id
            have HT := hid (hT13.go hc14)
            have x0 := cell_blk hX14 0
            have x1 := cell_blk hX14 1
            have y0 := cell_blk hZ14 0
            have y1 := cell_blk hZ14 1
            simp only [roleBox, List.getElem?_toArray, List.getElem?_cons_zero, List.getElem?_cons_succ] at x0 x1 y0 y1
            have g0 : (x.1 == x.1) = true := by simp
            have g1 : (x.2 == x.2) = true := by simp
            clear HB hZ12 hX12 hT12 hc13 hZ13 hX13 hT13 hc14 hZ14 hX14 hpt
            go_wp2
            go_roundw
            case rel => exact ⟨k + 1, by go_num, by omega, HT.out⟩
            case measure => simp [intOf]; omega
    · have hk2 : k = 3 := by omega
      subst hk2
      have p0 := cell_blk hT.ba 0
      have p1 := cell_blk hT.ba 1
      have p2 := cell_blk hT.bb 0
      have p3 := cell_blk hT.bb 1
      simp only [roleBox, List.getElem?_toArray, List.getElem?_cons_zero, List.getElem?_cons_succ] at p0 p1 p2 p3
      go_wp2_with fail
      refine (pcompare a b wr).mono ?_
      rintro e w9 ⟨rfl, hc9⟩
      have hT9 := hT.go hc9
      clear hT hc9 p0 p1 p2 p3
      have p0 := cell_blk hT9.ba 0
      have p1 := cell_blk hT9.ba 1
      have p2 := cell_blk hT9.bb 0
      have p3 := cell_blk hT9.bb 1
      have p4 := cell_blk hT9.bc 0
      have p5 := cell_blk hT9.bc 1
      simp only [roleBox, List.getElem?_toArray, List.getElem?_cons_zero, List.getElem?_cons_succ] at p0 p1 p2 p3 p4 p5
      by_cases h1 : cmpR a b ≤ 0
      · have z1 : decide (cmpR a b ≤ 0) = true := decide_eq_true h1
        have H1 := hid h1
        have HT := hid hT9
        clear h1 hT9
        go_wp2_with fail
        refine (pcompare b c w9).mono ?_
        rintro e w10 ⟨rfl, hc10⟩
        have hT10 := HT.out.go hc10
        clear hc10 p0 p1 p2 p3 p4 p5
        have p0 := cell_blk hT10.ba 0
        have p1 := cell_blk hT10.ba 1
        have p4 := cell_blk hT10.bc 0
        have p5 := cell_blk hT10.bc 1
        simp only [roleBox, List.getElem?_toArray, List.getElem?_cons_zero, List.getElem?_cons_succ] at p0 p1 p4 p5
        have HT2 := hid hT10
        clear hT10
        by_cases h2 : cmpR b c ≤ 0
        · have z2 : decide (cmpR b c ≤ 0) = true := decide_eq_true h2
          have h3 := cmpR_trans a b c H1.out h2
          have z3 : decide (cmpR a c ≤ 0) = true := decide_eq_true h3
          have H3 := hid h3
          clear h2 h3
          go_wp2_with fail
          refine (pcompare a c w10).mono ?_
          rintro e w11 ⟨rfl, hc11⟩
          have HX := hid (HT2.out.go hc11).chg
          clear hc11 p0 p1 p4 p5
          go_wp2
          go_ret
          exact ⟨rfl, HX.out⟩
        · have z2 : decide (cmpR b c ≤ 0) = false := decide_eq_false h2
          clear h2
          go_wp2
          go_ret
          exact ⟨rfl, HT2.out.chg⟩
      · have z1 : decide (cmpR a b ≤ 0) = false := decide_eq_false h1
        have HT := hid hT9
        clear h1 hT9
        go_wp2
        go_ret
        exact ⟨rfl, HT.out.chg⟩
end Go.Proofs.Ytdlpddpdobiebaa

/- The arguments of laws, opened to cells: bytes, a small array. -/
namespace Go.Proofs.Ytdlpddpdobiebaa
open Go.ChangeShapes Go.WideShapes Go.ChangeAt Go.RowKit Go.Deep

theorem Try.own : ownKnob Try.prog.godebug = none := by kernel_rfl
theorem Try.laidOut : laidOutB Try.prog = true := by kernel_rfl

theorem spot_none {w : World} {a : Addr} {v : Value} (h : w.cell? a = some v) : a = ⟨a.block, a.off, none⟩ := by
  obtain ⟨b, o, s⟩ := a
  cases s with
  | none => rfl
  | some x =>
    simp only [World.cell?] at h
    split at h
    · simp at h
    · cases h

theorem add_zero (a : Addr) : a.add 0 = a := by
  unfold Addr.add
  simp

theorem wf_u8 {n : Int} (h : (Lit.int .u8 n).wf = true) : 0 ≤ n ∧ n ≤ 255 := by
  have hmin : IntKind.u8.min = 0 := rfl
  have hmax : IntKind.u8.max = 255 := rfl
  simp only [Lit.wf, Bool.and_eq_true, decide_eq_true_eq] at h
  omega

theorem wf_i64 {n : Int} (h : (Lit.int .i64 n).wf = true) : -9223372036854775808 ≤ n ∧ n ≤ 9223372036854775807 := by
  have hmin : IntKind.i64.min = -9223372036854775808 := rfl
  have hmax : IntKind.i64.max = 9223372036854775807 := rfl
  simp only [Lit.wf, Bool.and_eq_true, decide_eq_true_eq] at h
  omega

section
variable {H : Type} {enc : TypeId × Value → H} {w : World} {base : Nat} {held : Bool} {fuel : Nat}

theorem open_bytes {cs : List Value} {x : DataW H × List MemPlace} (h : DataW.trod enc Try.prog w base (fun _ => true) held fuel 37 cs = some x) :
    ∃ (ao : Option Addr) (cap : Nat) (l : List UInt8), cs = [.slice ao l.length cap] ∧ l.length ≤ 9223372036854775807 ∧ BytesAt (fun k => k < w.heap.size) w (.slice ao l.length cap) l := by
  rcases open_ints Try.underlying37 Try.underlying5 (by kernel_rfl) h with ⟨rfl, _⟩ | ⟨a, len, cap, zs, rfl, _, hl, hm, hz, _, hcell, hwz⟩
  · exact ⟨none, 0, [], rfl, by simp, BytesAt.nil _ _⟩
  · simp only [if_true] at hz
    have hlen : ((zs.take len).map fun n => UInt8.ofNat n.toNat).length = len := by simp; omega
    refine ⟨some a, cap, (zs.take len).map fun n => UInt8.ofNat n.toNat, by rw [hlen], by rw [hlen]; unfold maxLen at hm; omega, ?_⟩
    rw [hlen]
    by_cases h0 : len = 0
    · subst h0
      exact .inl ⟨some a, cap, rfl, by simp, fun h => by cases h⟩
    · have h1 := hcell 0 (by omega)
      rw [add_zero] at h1
      have ha := spot_none h1
      have hlt := World.block_lt_of_cell? w _ h1
      refine .inr ⟨a.block, a.off, cap, by rw [hlen]; exact congrArg (fun z => Value.slice (some z) len cap) ha, by rw [hlen]; exact hl, hm, hlt, fun i hi => ?_⟩
      rw [hlen] at hi
      have h2 := hcell i (by omega)
      rw [ha, add_off] at h2
      rw [h2]
      have hget : zs.getD i 0 = zs[i]'(by omega) := by simp [List.getD, show i < zs.length by omega]
      have hb := wf_u8 (hwz _ (List.getElem_mem (show i < zs.length by omega)))
      rw [hget]
      congr 2
      simp only [List.getElem_map, List.getElem_take]
      rw [ofNat_u8 _ (by omega)]
      omega

theorem okWide_array {P : Program} {w : World} {r : Reach} {base : Nat} {t e : TypeId} {n : Nat} {v : Value} (ht : P.underlying t = some (.array n e)) (h : Value.okWide P w r base t v) : ∃ cs, v = .agg cs ∧ cs.size = P.cellsOf t := by
  simp only [Value.okWide, ht] at h
  obtain ⟨cs, h1, h2, _⟩ := h
  exact ⟨cs, h1, h2⟩

end

end Go.Proofs.Ytdlpddpdobiebaa
