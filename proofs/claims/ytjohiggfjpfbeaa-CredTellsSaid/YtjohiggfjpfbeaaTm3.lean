/- Texts that the proof leans on, in one: RoleSame, CredTells, RoleCells, CredOpen. -/
import Derived.Test.YtjohiggfjpfbeaaCm5
import Derived.Deep.QuietTactic
import Derived.BigQuiet
import Derived.Test.YtjohiggfjpfbeaaCm17
import Derived.Test.YtjohiggfjpfbeaaTm2
import Derived.Test.YtjohiggfjpfbeaaCm15
import Derived.Test.YtjohiggfjpfbeaaCm14
import Derived.Test.YtjohiggfjpfbeaaCm2
import Derived.Test.YtjohiggfjpfbeaaCm1
/- The contract of the document's Same of layer 4. -/
namespace Go.Proofs.Ytjohiggfjpfbeaa
open Go.RowKit

theorem drewN_add (w : World) (n m : Nat) : (w.drewN n).drewN m = w.drewN (n + m) := by
  simp only [World.drewN, Nat.add_assoc]

set_option maxRecDepth 100000 in
theorem rsame_ref {D1 D2 : Nat → Prop} (a1 a2 : Option Addr) (c1 c2 : Nat) (l1 l2 : List RoleB) (w : World) (hn : l1.length ≤ 4611686018427387904) (hm : l2.length ≤ 4611686018427387904) (h1 : RolesAt D1 w a1 l1) (h2 : RolesAt D2 w a2 l2) :
    Calls Try.prog 17 #[.slice a1 l1.length c1, .slice a2 l2.length c2] w fun e w' => e = .returned (.bool (sameR l1 l2)) ∧ ∃ n, w' = w.drewN n := by
  by_cases hl : l1.length = l2.length
  · have z1 : ((l1.length : Int) != (l2.length : Int)) = false := by simp; omega
    have HL := hid hl
    have hl1 : l1.length ≤ l2.length := by omega
    have hl2 : l2.length ≤ l1.length := by omega
    clear hl
    go_enter Try.func17, Try.ntmps17
    go_wp2
    go_loopw [13] (fun i wr => ∃ k n : Nat, k ≤ l1.length ∧ i = .int .i64 k ∧ wr = w.drewN n ∧ Hid (l1.take k = l2.take k)) (fun i _ => l1.length - (intOf i).toNat)
    case atStart => exact ⟨0, 0, Nat.zero_le _, rfl, rfl, by rw [List.take_zero, List.take_zero]; rfl⟩
    case round =>
      obtain ⟨k, n, hk, rfl, rfl, hc⟩ := hrel
      by_cases hlt : k < l1.length
      · obtain ⟨b, off, rfl, _, q0, q1, _⟩ := h1 k hlt
        obtain ⟨b2, off2, rfl, _, q2, q3, _⟩ := h2 k (by omega)
        clear h1 h2
        have e0 : (0 : Int) ≤ (k : Int) := by omega
        have e1 : (k : Int) < (l1.length : Int) := by omega
        have e2 : (k : Int) < (l2.length : Int) := by omega
        have hx1 : Hid (l1[k] = l2[k]'(by omega) → l1.take (k + 1) = l2.take (k + 1)) := hid (fun he => by rw [List.take_succ_eq_append_getElem hlt, List.take_succ_eq_append_getElem (HL.out ▸ hlt), hc.out, he])
        have hx2 : Hid (l1[k] ≠ l2[k]'(by omega) → sameR l1 l2 = false) := hid (fun he => by
          simp only [sameR, beq_eq_false_iff_ne, ne_eq]
          intro h
          subst h
          exact he rfl)
        generalize l1[k] = s1 at *
        generalize l2[k]'(by omega) = s2 at *
        obtain ⟨o, x⟩ := s1
        obtain ⟨p, y⟩ := s2
        by_cases f1 : o = p
        · subst f1
          have g1 : (o == o) = true := by simp
          by_cases f2 : x = y
          · subst f2
            have g2 : (x == x) = true := by simp
            have hx := hid (hx1.out rfl)
            go_wp2
            go_quiet (fail)
            go_wp2
            go_roundw
            case rel => exact ⟨k + 1, n + nq, by omega, by go_num, rfl, hx⟩
            case measure => simp [intOf]; omega
          · have g2 : (x == y) = false := by simpa using f2
            have hx := hid (hx2.out (fun h => f2 (congrArg Prod.snd h)))
            clear f2
            go_wp2
            go_quiet (fail)
            go_wp2
            go_ret
            exact ⟨by rw [hx.out]; rfl, _, drewN_add w n nq⟩
        · have g1 : (o == p) = false := by simpa using f1
          have hx := hid (hx2.out (fun h => f1 (congrArg Prod.fst h)))
          clear f1
          go_wp2
          go_quiet (fail)
          go_wp2
          go_ret
          exact ⟨by rw [hx.out]; rfl, _, drewN_add w n nq⟩
      · have hk2 : k = l1.length := by omega
        subst hk2
        have hx : Hid (sameR l1 l2 = true) := by
          have := hc.out
          rw [List.take_of_length_le (Nat.le_refl _), List.take_of_length_le (by rw [HL.out]; omega)] at this
          exact hid (by simp [sameR, this])
        clear h1 h2
        go_wp2
        go_ret
        exact ⟨by rw [hx.out]; rfl, n, rfl⟩
  · have z1 : ((l1.length : Int) != (l2.length : Int)) = true := by simp; omega
    have hx : Hid (sameR l1 l2 = false) := by
      refine hid ?_
      simp only [sameR, beq_eq_false_iff_ne, ne_eq]
      intro h
      exact hl (congrArg List.length h)
    go_enter Try.func17, Try.ntmps17
    go_wp2
    go_ret
    exact ⟨by rw [hx.out]; rfl, 0, rfl⟩
end Go.Proofs.Ytjohiggfjpfbeaa

/- The walk of CredTells. -/
namespace Go.Proofs.Ytjohiggfjpfbeaa
open Go.RowKit

theorem credRoles_len (c : CredB) : (credRoles c).length ≤ 3 := by
  unfold credRoles
  split
  · split
    · simp
    · split <;> simp
  · simp

/-- A list of roles in a slot. -/
def Spec.rolesL (ls : List RoleB) : Spec :=
  ⟨fun v w => ∃ ao cap, v = .slice ao ls.length cap ∧ RolesAt (fun _ => True) w ao ls, fun _ _ _ hc ⟨ao, cap, h1, h2⟩ => ⟨ao, cap, h1, h2.keep hc (fun _ _ => id)⟩⟩

def ctSpecs7 (A : Nat) (c : CredB) : List Spec := [.any, .any, .eq (.pointer (some ⟨A, 0, none⟩)), .any, .any, .eq (.string ⟨(credText c).toArray⟩), .eq (.string ⟨(credEnc c).toArray⟩), .any, .any, .any, .any, .any, .any, .any, .any, .any, .any, .any, .any, .any, .any, .any, .any, .any, .eq (credV c), .eq (.string ⟨(credText c).toArray⟩), .eq (credV c), .eq (.string ⟨(credEnc c).toArray⟩)]
def ctSpecs10 (A X Y : Nat) (c : CredB) (ok : Bool) (q : CredB) : List Spec := [.any, .any, .eq (.pointer (some ⟨A, 0, none⟩)), .any, .eq (.bool true), .eq (.string ⟨(credTextOr c).toArray⟩), .eq (.string ⟨(credBytes c).toArray⟩), .eq (.pointer (some ⟨X, 0, none⟩)), .eq (.bool ok), .eq (.pointer (some ⟨Y, 0, none⟩)), .eq (.bool ok), .any, .any, .any, .any, .any, .any, .any, .any, .any, .any, .any, .any, .any, .any, .any, .any, .any, .any, .any, .any, .any, .any, .any, .any, .any, .any, .any, .eq (credV c), .eq (.bool (isCred c)), .eq (credV c), .eq (.bool (isCred c)), .eq (.bool true), .eq (.bool true), .eq (credV c), .eq (.string ⟨(credTextOr c).toArray⟩), .eq (.string ⟨(credTextOr c).toArray⟩), .eq (.bool true), .eq (.bool true), .eq (.bool true), .eq (credV c), .bytes (credBytes c).length (credBytes c), .eq (.string ⟨(credBytes c).toArray⟩), .eq (.string ⟨(credBytes c).toArray⟩), .eq (.bool true), .eq (.bool true), .eq (.bool true), .eq (credV q), .eq (credV q), .eq (.bool true), .eq (.bool true), .eq (.bool true), .eq (.bool ok), .eq (.bool ok), .eq (.bool true), .eq (.bool true), .eq (.bool true), .eq (credV c), .rolesL (credRoles c), .eq (credV c), .rolesL (credRoles c), .eq (.bool true), .eq (.bool true)]

set_option maxRecDepth 100000 in
set_option maxHeartbeats 8000000 in
theorem ctells_main (c : CredB) (s : List UInt8) (w : World) (hz : sizeC c ≤ 500) (hs : s.length ≤ 300) (hm : MaxAt w) :
    Calls Try.prog 3 #[credV c, .string ⟨s.toArray⟩] w fun e w' => e = .returned (.bool true) ∧ Chg (fun _ => False) w w' := by
  have hsh : credShort c 1048576 := (sizeC_short hz).mono (by omega)
  have hA1 : (w.alloc (.cells #[.int .i64 c.kind, .string ⟨c.head.1.toArray⟩, .string ⟨c.head.2.toArray⟩, .string ⟨c.who.toArray⟩, .string ⟨c.b.1.toArray⟩, .string ⟨c.b.2.toArray⟩, .string ⟨c.c.1.toArray⟩, .string ⟨c.c.2.toArray⟩, .string ⟨c.w2.toArray⟩] 25)).heap[w.heap.size]? = some (.cells (credBox c) 25 (0, 0)) := heap_alloc_new w _
  have hc1 : Chg (fun _ => False) w (w.alloc (.cells #[.int .i64 c.kind, .string ⟨c.head.1.toArray⟩, .string ⟨c.head.2.toArray⟩, .string ⟨c.who.toArray⟩, .string ⟨c.b.1.toArray⟩, .string ⟨c.b.2.toArray⟩, .string ⟨c.c.1.toArray⟩, .string ⟨c.c.2.toArray⟩, .string ⟨c.w2.toArray⟩] 25)) := (Chg.refl _ w).alloc _
  have hft := cfirst_any (w.alloc (.cells #[.int .i64 c.kind, .string ⟨c.head.1.toArray⟩, .string ⟨c.head.2.toArray⟩, .string ⟨c.who.toArray⟩, .string ⟨c.b.1.toArray⟩, .string ⟨c.b.2.toArray⟩, .string ⟨c.c.1.toArray⟩, .string ⟨c.c.2.toArray⟩, .string ⟨c.w2.toArray⟩] 25)) (hm.keep hc1 id)
  have HH := hid (And.intro hft (And.intro hA1 hc1))
  clear hft hA1 hc1
  show Calls Try.prog 3 #[.agg #[.int .i64 c.kind, .string ⟨c.head.1.toArray⟩, .string ⟨c.head.2.toArray⟩, .string ⟨c.who.toArray⟩, .string ⟨c.b.1.toArray⟩, .string ⟨c.b.2.toArray⟩, .string ⟨c.c.1.toArray⟩, .string ⟨c.c.2.toArray⟩, .string ⟨c.w2.toArray⟩], .string ⟨s.toArray⟩] w _
  go_enter Try.func3, Try.ntmps3
  go_wp2_with fail
  obtain ⟨hft, hA1, hc1⟩ := HH.out
  clear HH
  refine hft.mono ?_
  rintro e w2 ⟨rfl, hc12⟩
  have hA2 := blk_keep hA1 hc12 id
  have hc2 := hc1.trans hc12 (fun _ _ h => h)
  clear hft hA1 hc1 hc12
  generalize w.heap.size = A at *
  obtain ⟨a0, a1, a2, a3, a4, a5, a6, a7, a8⟩ := cred_at_blk hA2
  simp only [Nat.zero_add] at a0 a1 a2 a3 a4 a5 a6 a7 a8
  have hl3 := creds_lit [c] w2 (0, 0) (by intro x hx; rw [List.mem_singleton.1 hx]; exact hsh.mono (by omega))
  have ha3 : Chg (fun _ => False) w2 (w2.alloc (.cells (credRow [c]).toArray 25)) := (Chg.refl _ w2).alloc _
  have htot : totalC [c] = sizeC c := by simp [totalC]
  have hgr := great_any (some ⟨w2.heap.size, 0, none⟩) 1 [c] (w2.alloc (.cells (credRow [c]).toArray 25)) (by rw [htot]; omega) hl3
  have HH := hid (And.intro hgr (And.intro ha3 (And.intro hA2 hc2)))
  clear hgr hl3 ha3 hA2 hc2
  go_wp2_with fail
  clear a0 a1 a2 a3 a4 a5 a6 a7 a8
  obtain ⟨hgr, ha3, hA2, hc2⟩ := HH.out
  clear HH
  refine hgr.mono ?_
  rintro e w4 ⟨rfl, hc4⟩
  rw [htot]
  have hcc := ha3.trans hc4 (fun _ _ h => h)
  have hA4 := blk_keep hA2 hcc id
  have hc4 := hc2.trans hcc (fun _ _ h => h)
  have zz1 : ¬ ((500 : Int) < (sizeC c : Int)) := by omega
  have zz2 : ¬ ((300 : Int) < (s.length : Int)) := by omega
  clear hgr ha3 hA2 hc2 hcc htot
  obtain ⟨a0, a1, a2, a3, a4, a5, a6, a7, a8⟩ := cred_at_blk hA4
  simp only [Nat.zero_add] at a0 a1 a2 a3 a4 a5 a6 a7 a8
  have hrt := cright_ref c w4 (hsh.mono (by omega))
  have HH := hid (And.intro hrt (And.intro hA4 hc4))
  clear hrt hA4 hc4
  generalize sizeC c = sz at *
  go_wp2_with fail
  clear a0 a1 a2 a3 a4 a5 a6 a7 a8 zz1 zz2
  obtain ⟨hrt, hA4, hc4⟩ := HH.out
  clear HH
  refine hrt.mono ?_
  rintro e w5 ⟨rfl, hc45⟩
  have hA5 := blk_keep hA4 hc45 id
  have hc5 := hc4.trans hc45 (fun _ _ h => h)
  clear hrt hA4 hc4 hc45
  have hpars : ∀ v, Chg (fun _ => False) w v → Calls Try.prog 12 #[.string ⟨s.toArray⟩] v fun e w' => e = .returned (.tuple #[credV ((parseC s).getD noCred), .bool (parseC s).isSome]) ∧ Chg (fun _ => False) v w' := fun v hv => pcparse s v (by omega) (hm.keep hv id)
  have hparr : ∀ w, Calls Try.prog 13 #[.string ⟨s.toArray⟩] w fun e w' => e = .returned (.tuple #[credV ((parseC s).getD noCred), .bool (parseC s).isSome]) ∧ Chg (fun _ => False) w w' := fun w => cparse_ref s w (by omega)
  obtain ⟨q, hq⟩ : ∃ q, q = (parseC s).getD noCred := ⟨_, rfl⟩
  obtain ⟨ok, hok⟩ : ∃ ok, ok = (parseC s).isSome := ⟨_, rfl⟩
  rw [← hq, ← hok] at hpars hparr
  replace hpars := hid hpars
  replace hparr := hid hparr
  clear hq hok
  cases hi : isCred c with
  | true =>
    obtain ⟨n, hn1, hn2⟩ := isCred_nat hi
    replace hn1 := hid hn1
    have hTT : Hid (credText c = credTextOr c) := hid (by simp [credTextOr, hi])
    have hBB : Hid (credEnc c = credBytes c) := hid (by simp [credBytes, hi])
    go_wp2_with fail
    refine wp_region_specs (ctSpecs7 A c) [24, 25, 26, 27, 5, 6] [2] (by kernel_rfl) (by kernel_rfl) (by rfl) (by kernel_rfl) ?start ?obs ?fin
    case start =>
      simp only [List.forall_mem_cons]
      exact ⟨⟨_, rfl, rfl⟩, fun _ h => by cases h⟩
    case obs =>
      have hA := hA5
      clear hc5 hA5
      refine Obs.cons none (by kernel_rfl) ?_ ?_
      · refine Ob.plain fun a w hR hk K k => ?_
        obtain ⟨_, e2, rfl⟩ := hk 2 (by decide)
        clear hk
        obtain ⟨z0, z1, z2, z3, z4, z5, z6, z7, z8⟩ := (cred_at_blk hA).keep hR id
        simp only [Nat.zero_add, credBox] at z0 z1 z2 z3 z4 z5 z6 z7 z8
        go_simp
        exact k _ _ (Chg.refl _ _) rfl
      refine Obs.cons none (by kernel_rfl) ?_ ?_
      · refine Ob.plain fun a w hR hk K k => ?_
        obtain ⟨_, e24, rfl⟩ := hk 24 (by decide)
        clear hk
        go_simp
        refine (ctext_ref c _ hsh).mono ?_
        rintro e w2 ⟨rfl, hc⟩
        exact k _ _ hc rfl
      refine Obs.cons none (by kernel_rfl) ?_ ?_
      · refine Ob.plain fun a w hR hk K k => ?_
        obtain ⟨_, e2, rfl⟩ := hk 2 (by decide)
        clear hk
        obtain ⟨z0, z1, z2, z3, z4, z5, z6, z7, z8⟩ := (cred_at_blk hA).keep hR id
        simp only [Nat.zero_add, credBox] at z0 z1 z2 z3 z4 z5 z6 z7 z8
        go_simp
        exact k _ _ (Chg.refl _ _) rfl
      refine Obs.cons none (by kernel_rfl) ?_ ?_
      · refine Ob.plain fun a w hR hk K k => ?_
        obtain ⟨_, e26, rfl⟩ := hk 26 (by decide)
        clear hk
        go_simp
        refine (cbytes_ref c _ n hn1.out hn2 hsh).mono ?_
        rintro e w2 ⟨rfl, hc⟩
        exact k _ _ hc rfl
      refine Obs.cons none (by kernel_rfl) ?_ ?_
      · refine Ob.plain fun a w hR hk K k => ?_
        obtain ⟨_, e25, f25⟩ := hk 25 (by decide)
        clear hk
        go_simp
        exact k _ _ (Chg.refl _ _) f25
      refine Obs.cons none (by kernel_rfl) ?_ ?_
      · refine Ob.plain fun a w hR hk K k => ?_
        obtain ⟨_, e27, f27⟩ := hk 27 (by decide)
        clear hk
        go_simp
        exact k _ _ (Chg.refl _ _) f27
      exact Obs.nil
    case fin =>
      intro vals w7 hc57 hv
      have h5 : vals 5 = .string ⟨(credText c).toArray⟩ := hv 5 (by decide)
      have h6 : vals 6 = .string ⟨(credEnc c).toArray⟩ := hv 6 (by decide)
      rw [hTT.out] at h5
      rw [hBB.out] at h6
      simp only [putAll, List.setIfInBounds_toArray, List.set_cons_zero, List.set_cons_succ, h5, h6]
      have hA7 := blk_keep hA5 hc57 id
      have hc7 := hc5.trans hc57 (fun _ _ h => h)
      clear hv h5 h6 hA5 hc5 hc57 hTT hBB hn1 hn2 hi
      go_wp2_with fail
      refine (hpars.out w7 hc7).mono ?_
      rintro e w8 ⟨rfl, hc78⟩
      rw [show credV q = .agg #[.int .i64 q.kind, .string ⟨q.head.1.toArray⟩, .string ⟨q.head.2.toArray⟩, .string ⟨q.who.toArray⟩, .string ⟨q.b.1.toArray⟩, .string ⟨q.b.2.toArray⟩, .string ⟨q.c.1.toArray⟩, .string ⟨q.c.2.toArray⟩, .string ⟨q.w2.toArray⟩] from rfl]
      have hX9 : (w8.alloc (.cells #[.int .i64 q.kind, .string ⟨q.head.1.toArray⟩, .string ⟨q.head.2.toArray⟩, .string ⟨q.who.toArray⟩, .string ⟨q.b.1.toArray⟩, .string ⟨q.b.2.toArray⟩, .string ⟨q.c.1.toArray⟩, .string ⟨q.c.2.toArray⟩, .string ⟨q.w2.toArray⟩] 25)).heap[w8.heap.size]? = some (.cells (credBox q) 25 (0, 0)) := heap_alloc_new w8 _
      have hc79 := hc78.alloc (.cells #[.int .i64 q.kind, .string ⟨q.head.1.toArray⟩, .string ⟨q.head.2.toArray⟩, .string ⟨q.who.toArray⟩, .string ⟨q.b.1.toArray⟩, .string ⟨q.b.2.toArray⟩, .string ⟨q.c.1.toArray⟩, .string ⟨q.c.2.toArray⟩, .string ⟨q.w2.toArray⟩] 25)
      have hA9 := blk_keep hA7 hc79 id
      have hc9 := hc7.trans hc79 (fun _ _ h => h)
      have HH := hid (And.intro hX9 (And.intro hA9 hc9))
      clear hX9 hc78 hc79 hA7 hc7 hA9 hc9
      go_wp2_with fail
      obtain ⟨hX9, hA9, hc9⟩ := HH.out
      clear HH
      generalize w8.alloc (.cells #[.int .i64 q.kind, .string ⟨q.head.1.toArray⟩, .string ⟨q.head.2.toArray⟩, .string ⟨q.who.toArray⟩, .string ⟨q.b.1.toArray⟩, .string ⟨q.b.2.toArray⟩, .string ⟨q.c.1.toArray⟩, .string ⟨q.c.2.toArray⟩, .string ⟨q.w2.toArray⟩] 25) = w9 at *
      generalize w8.heap.size = X at *
      refine (hparr.out w9).mono ?_
      rintro e w10 ⟨rfl, hc910⟩
      rw [show credV q = .agg #[.int .i64 q.kind, .string ⟨q.head.1.toArray⟩, .string ⟨q.head.2.toArray⟩, .string ⟨q.who.toArray⟩, .string ⟨q.b.1.toArray⟩, .string ⟨q.b.2.toArray⟩, .string ⟨q.c.1.toArray⟩, .string ⟨q.c.2.toArray⟩, .string ⟨q.w2.toArray⟩] from rfl]
      have hY11 : (w10.alloc (.cells #[.int .i64 q.kind, .string ⟨q.head.1.toArray⟩, .string ⟨q.head.2.toArray⟩, .string ⟨q.who.toArray⟩, .string ⟨q.b.1.toArray⟩, .string ⟨q.b.2.toArray⟩, .string ⟨q.c.1.toArray⟩, .string ⟨q.c.2.toArray⟩, .string ⟨q.w2.toArray⟩] 25)).heap[w10.heap.size]? = some (.cells (credBox q) 25 (0, 0)) := heap_alloc_new w10 _
      have hc911 := hc910.alloc (.cells #[.int .i64 q.kind, .string ⟨q.head.1.toArray⟩, .string ⟨q.head.2.toArray⟩, .string ⟨q.who.toArray⟩, .string ⟨q.b.1.toArray⟩, .string ⟨q.b.2.toArray⟩, .string ⟨q.c.1.toArray⟩, .string ⟨q.c.2.toArray⟩, .string ⟨q.w2.toArray⟩] 25)
      have hA11 := blk_keep hA9 hc911 id
      have hX11 := blk_keep hX9 hc911 id
      have hc11 := hc9.trans hc911 (fun _ _ h => h)
      have HH := hid (And.intro hX11 (And.intro hA11 (And.intro hc11 hY11)))
      clear hX9 hc910 hc911 hA9 hc9 hX11 hA11 hc11 hY11
      go_wp2_with fail
      obtain ⟨hX, hA, hcw, hY⟩ := HH.out
      clear HH
      generalize w10.alloc (.cells #[.int .i64 q.kind, .string ⟨q.head.1.toArray⟩, .string ⟨q.head.2.toArray⟩, .string ⟨q.who.toArray⟩, .string ⟨q.b.1.toArray⟩, .string ⟨q.b.2.toArray⟩, .string ⟨q.c.1.toArray⟩, .string ⟨q.c.2.toArray⟩, .string ⟨q.w2.toArray⟩] 25) = w11 at *
      generalize w10.heap.size = Y at *
      refine wp_region_specs (ctSpecs10 A X Y c ok q) [38, 39, 40, 41, 42, 43, 44, 45, 46, 47, 48, 49, 50, 51, 52, 53, 54, 55, 56, 57, 58, 59, 60, 61, 62, 63, 64, 65, 66, 67, 68, 69, 70, 71, 72, 4] [2, 5, 6, 7, 8, 9, 10] (by kernel_rfl) (by kernel_rfl) (by rfl) (by kernel_rfl) ?start ?obs ?fin
      case start =>
        simp only [List.forall_mem_cons]
        exact ⟨⟨_, rfl, rfl⟩, ⟨_, rfl, rfl⟩, ⟨_, rfl, rfl⟩, ⟨_, rfl, rfl⟩, ⟨_, rfl, rfl⟩, ⟨_, rfl, rfl⟩, ⟨_, rfl, rfl⟩, fun _ h => by cases h⟩
      case obs =>
        clear hcw
        refine Obs.cons none (by kernel_rfl) ?_ ?_
        · refine Ob.plain fun a w hR hk K k => ?_
          obtain ⟨_, e2, rfl⟩ := hk 2 (by decide)
          clear hk
          obtain ⟨z0, z1, z2, z3, z4, z5, z6, z7, z8⟩ := (cred_at_blk hA).keep hR id
          simp only [Nat.zero_add, credBox] at z0 z1 z2 z3 z4 z5 z6 z7 z8
          go_simp
          exact k _ _ (Chg.refl _ _) rfl
        refine Obs.cons none (by kernel_rfl) ?_ ?_
        · refine Ob.plain fun a w hR hk K k => ?_
          obtain ⟨_, e38, rfl⟩ := hk 38 (by decide)
          clear hk
          go_simp
          refine (pcright c _ (hsh.mono (by omega))).mono ?_
          rintro e w2 ⟨rfl, hc⟩
          exact k _ _ hc rfl
        refine Obs.cons none (by kernel_rfl) ?_ ?_
        · refine Ob.plain fun a w hR hk K k => ?_
          obtain ⟨_, e2, rfl⟩ := hk 2 (by decide)
          clear hk
          obtain ⟨z0, z1, z2, z3, z4, z5, z6, z7, z8⟩ := (cred_at_blk hA).keep hR id
          simp only [Nat.zero_add, credBox] at z0 z1 z2 z3 z4 z5 z6 z7 z8
          go_simp
          exact k _ _ (Chg.refl _ _) rfl
        refine Obs.cons none (by kernel_rfl) ?_ ?_
        · refine Ob.plain fun a w hR hk K k => ?_
          obtain ⟨_, e40, rfl⟩ := hk 40 (by decide)
          clear hk
          go_simp
          refine (cright_ref c _ (hsh.mono (by omega))).mono ?_
          rintro e w2 ⟨rfl, hc⟩
          exact k _ _ hc rfl
        refine Obs.cons none (by kernel_rfl) ?_ ?_
        · refine Ob.plain fun a w hR hk K k => ?_
          obtain ⟨_, e39, rfl⟩ := hk 39 (by decide)
          obtain ⟨_, e41, rfl⟩ := hk 41 (by decide)
          clear hk
          generalize isCred c = v at *
          have z : (v == v) = true := by simp
          go_simp
          exact k _ _ (Chg.refl _ _) rfl
        refine Obs.cons none (by kernel_rfl) ?_ ?_
        · refine Ob.plain fun a w hR hk K k => ?_
          obtain ⟨_, e42, f42⟩ := hk 42 (by decide)
          clear hk
          go_simp
          exact k _ _ (Chg.refl _ _) f42
        refine Obs.cons (some (43, true)) (by kernel_rfl) ?_ ?_
        · refine Ob.yes (fun _ _ h => h) fun a w hR hk K k => ?_
          obtain ⟨_, e2, rfl⟩ := hk 2 (by decide)
          clear hk
          obtain ⟨z0, z1, z2, z3, z4, z5, z6, z7, z8⟩ := (cred_at_blk hA).keep hR id
          simp only [Nat.zero_add, credBox] at z0 z1 z2 z3 z4 z5 z6 z7 z8
          go_simp
          exact k _ _ (Chg.refl _ _) rfl
        refine Obs.cons (some (43, true)) (by kernel_rfl) ?_ ?_
        · refine Ob.yes (fun _ _ h => h) fun a w hR hk K k => ?_
          obtain ⟨_, e44, rfl⟩ := hk 44 (by decide)
          clear hk
          go_simp
          refine (pctext c _ hsh).mono ?_
          rintro e w2 ⟨rfl, hc⟩
          exact k _ _ hc rfl
        refine Obs.cons (some (43, true)) (by kernel_rfl) ?_ ?_
        · refine Ob.yes (fun _ _ h => h) fun a w hR hk K k => ?_
          obtain ⟨_, e5, f5⟩ := hk 5 (by decide)
          clear hk
          go_simp
          exact k _ _ (Chg.refl _ _) f5
        refine Obs.cons (some (43, true)) (by kernel_rfl) ?_ ?_
        · refine Ob.yes (fun _ _ h => h) fun a w hR hk K k => ?_
          obtain ⟨_, e45, rfl⟩ := hk 45 (by decide)
          obtain ⟨_, e46, rfl⟩ := hk 46 (by decide)
          clear hk
          generalize credTextOr c = v at *
          have z : (v == v) = true := by simp
          go_simp
          exact k _ _ (Chg.refl _ _) rfl
        refine Obs.cons none (by kernel_rfl) ?_ ?_
        · refine Ob.plain fun a w hR hk K k => ?_
          obtain ⟨_, e43, rfl⟩ := hk 43 (by decide)
          obtain ⟨_, e47, rfl⟩ := hk 47 (by decide)
          clear hk
          go_simp
          exact k _ _ (Chg.refl _ _) rfl
        refine Obs.cons none (by kernel_rfl) ?_ ?_
        · refine Ob.plain fun a w hR hk K k => ?_
          obtain ⟨_, e48, f48⟩ := hk 48 (by decide)
          clear hk
          go_simp
          exact k _ _ (Chg.refl _ _) f48
        refine Obs.cons (some (49, true)) (by kernel_rfl) ?_ ?_
        · refine Ob.yes (fun _ _ h => h) fun a w hR hk K k => ?_
          obtain ⟨_, e2, rfl⟩ := hk 2 (by decide)
          clear hk
          obtain ⟨z0, z1, z2, z3, z4, z5, z6, z7, z8⟩ := (cred_at_blk hA).keep hR id
          simp only [Nat.zero_add, credBox] at z0 z1 z2 z3 z4 z5 z6 z7 z8
          go_simp
          exact k _ _ (Chg.refl _ _) rfl
        refine Obs.cons (some (49, true)) (by kernel_rfl) ?_ ?_
        · refine Ob.yes (fun _ _ h => h) fun a w hR hk K k => ?_
          obtain ⟨_, e50, rfl⟩ := hk 50 (by decide)
          clear hk
          go_simp
          refine (pcbytes c _ (hsh.mono (by omega))).mono ?_
          rintro e w2 ⟨a0, p0, rfl, hb, hc⟩
          exact k _ _ hc ⟨a0, p0, rfl, rfl, hb.mono (fun _ _ => trivial)⟩
        refine Obs.cons (some (49, true)) (by kernel_rfl) ?_ ?_
        · refine Ob.yes (fun _ _ h => h) fun a w hR hk K k => ?_
          obtain ⟨_, e51, f51⟩ := hk 51 (by decide)
          clear hk
          obtain ⟨a0, p0, rfl, hbl, hby⟩ := f51
          have hcv := conv_bytes hby
          go_simp
          exact k _ _ (Chg.refl _ _) rfl
        refine Obs.cons (some (49, true)) (by kernel_rfl) ?_ ?_
        · refine Ob.yes (fun _ _ h => h) fun a w hR hk K k => ?_
          obtain ⟨_, e6, f6⟩ := hk 6 (by decide)
          clear hk
          go_simp
          exact k _ _ (Chg.refl _ _) f6
        refine Obs.cons (some (49, true)) (by kernel_rfl) ?_ ?_
        · refine Ob.yes (fun _ _ h => h) fun a w hR hk K k => ?_
          obtain ⟨_, e52, rfl⟩ := hk 52 (by decide)
          obtain ⟨_, e53, rfl⟩ := hk 53 (by decide)
          clear hk
          generalize credBytes c = v at *
          have z : (v == v) = true := by simp
          go_simp
          exact k _ _ (Chg.refl _ _) rfl
        refine Obs.cons none (by kernel_rfl) ?_ ?_
        · refine Ob.plain fun a w hR hk K k => ?_
          obtain ⟨_, e49, rfl⟩ := hk 49 (by decide)
          obtain ⟨_, e54, rfl⟩ := hk 54 (by decide)
          clear hk
          go_simp
          exact k _ _ (Chg.refl _ _) rfl
        refine Obs.cons none (by kernel_rfl) ?_ ?_
        · refine Ob.plain fun a w hR hk K k => ?_
          obtain ⟨_, e55, f55⟩ := hk 55 (by decide)
          clear hk
          go_simp
          exact k _ _ (Chg.refl _ _) f55
        refine Obs.cons (some (56, true)) (by kernel_rfl) ?_ ?_
        · refine Ob.yes (fun _ _ h => h) fun a w hR hk K k => ?_
          obtain ⟨_, e7, rfl⟩ := hk 7 (by decide)
          clear hk
          obtain ⟨z0, z1, z2, z3, z4, z5, z6, z7, z8⟩ := (cred_at_blk hX).keep hR id
          simp only [Nat.zero_add, credBox] at z0 z1 z2 z3 z4 z5 z6 z7 z8
          go_simp
          exact k _ _ (Chg.refl _ _) rfl
        refine Obs.cons (some (56, true)) (by kernel_rfl) ?_ ?_
        · refine Ob.yes (fun _ _ h => h) fun a w hR hk K k => ?_
          obtain ⟨_, e9, rfl⟩ := hk 9 (by decide)
          clear hk
          obtain ⟨z0, z1, z2, z3, z4, z5, z6, z7, z8⟩ := (cred_at_blk hY).keep hR id
          simp only [Nat.zero_add, credBox] at z0 z1 z2 z3 z4 z5 z6 z7 z8
          go_simp
          exact k _ _ (Chg.refl _ _) rfl
        refine Obs.cons (some (56, true)) (by kernel_rfl) ?_ ?_
        · refine Ob.yes (fun _ _ h => h) fun a w hR hk K k => ?_
          obtain ⟨_, e57, rfl⟩ := hk 57 (by decide)
          obtain ⟨_, e58, rfl⟩ := hk 58 (by decide)
          clear hk
          simp only [credV, credBox] at e57 e58
          go_simp
          exact k _ _ (Chg.refl _ _) rfl
        refine Obs.cons none (by kernel_rfl) ?_ ?_
        · refine Ob.plain fun a w hR hk K k => ?_
          obtain ⟨_, e56, rfl⟩ := hk 56 (by decide)
          obtain ⟨_, e59, rfl⟩ := hk 59 (by decide)
          clear hk
          go_simp
          exact k _ _ (Chg.refl _ _) rfl
        refine Obs.cons none (by kernel_rfl) ?_ ?_
        · refine Ob.plain fun a w hR hk K k => ?_
          obtain ⟨_, e60, f60⟩ := hk 60 (by decide)
          clear hk
          go_simp
          exact k _ _ (Chg.refl _ _) f60
        refine Obs.cons (some (61, true)) (by kernel_rfl) ?_ ?_
        · refine Ob.yes (fun _ _ h => h) fun a w hR hk K k => ?_
          obtain ⟨_, e8, f8⟩ := hk 8 (by decide)
          clear hk
          go_simp
          exact k _ _ (Chg.refl _ _) f8
        refine Obs.cons (some (61, true)) (by kernel_rfl) ?_ ?_
        · refine Ob.yes (fun _ _ h => h) fun a w hR hk K k => ?_
          obtain ⟨_, e10, f10⟩ := hk 10 (by decide)
          clear hk
          go_simp
          exact k _ _ (Chg.refl _ _) f10
        refine Obs.cons (some (61, true)) (by kernel_rfl) ?_ ?_
        · refine Ob.yes (fun _ _ h => h) fun a w hR hk K k => ?_
          obtain ⟨_, e62, rfl⟩ := hk 62 (by decide)
          obtain ⟨_, e63, rfl⟩ := hk 63 (by decide)
          clear hk
          have z : (ok == ok) = true := by simp
          go_simp
          exact k _ _ (Chg.refl _ _) rfl
        refine Obs.cons none (by kernel_rfl) ?_ ?_
        · refine Ob.plain fun a w hR hk K k => ?_
          obtain ⟨_, e61, rfl⟩ := hk 61 (by decide)
          obtain ⟨_, e64, rfl⟩ := hk 64 (by decide)
          clear hk
          go_simp
          exact k _ _ (Chg.refl _ _) rfl
        refine Obs.cons none (by kernel_rfl) ?_ ?_
        · refine Ob.plain fun a w hR hk K k => ?_
          obtain ⟨_, e65, f65⟩ := hk 65 (by decide)
          clear hk
          go_simp
          exact k _ _ (Chg.refl _ _) f65
        refine Obs.cons (some (66, true)) (by kernel_rfl) ?_ ?_
        · refine Ob.yes (fun _ _ h => h) fun a w hR hk K k => ?_
          obtain ⟨_, e2, rfl⟩ := hk 2 (by decide)
          clear hk
          obtain ⟨z0, z1, z2, z3, z4, z5, z6, z7, z8⟩ := (cred_at_blk hA).keep hR id
          simp only [Nat.zero_add, credBox] at z0 z1 z2 z3 z4 z5 z6 z7 z8
          go_simp
          exact k _ _ (Chg.refl _ _) rfl
        refine Obs.cons (some (66, true)) (by kernel_rfl) ?_ ?_
        · refine Ob.yes (fun _ _ h => h) fun a w hR hk K k => ?_
          obtain ⟨_, e67, rfl⟩ := hk 67 (by decide)
          clear hk
          go_simp
          refine (pcroles c _ (hsh.mono (by omega))).mono ?_
          rintro e w2 ⟨a0, p0, rfl, hr, hc⟩
          exact k _ _ hc ⟨a0, p0, rfl, hr.mono (fun _ _ => trivial)⟩
        refine Obs.cons (some (66, true)) (by kernel_rfl) ?_ ?_
        · refine Ob.yes (fun _ _ h => h) fun a w hR hk K k => ?_
          obtain ⟨_, e2, rfl⟩ := hk 2 (by decide)
          clear hk
          obtain ⟨z0, z1, z2, z3, z4, z5, z6, z7, z8⟩ := (cred_at_blk hA).keep hR id
          simp only [Nat.zero_add, credBox] at z0 z1 z2 z3 z4 z5 z6 z7 z8
          go_simp
          exact k _ _ (Chg.refl _ _) rfl
        refine Obs.cons (some (66, true)) (by kernel_rfl) ?_ ?_
        · refine Ob.yes (fun _ _ h => h) fun a w hR hk K k => ?_
          obtain ⟨_, e69, rfl⟩ := hk 69 (by decide)
          clear hk
          go_simp
          refine (croles_ref c _ (hsh.mono (by omega))).mono ?_
          rintro e w2 ⟨a0, p0, rfl, hr, hc⟩
          exact k _ _ hc ⟨a0, p0, rfl, hr.mono (fun _ _ => trivial)⟩
        refine Obs.cons (some (66, true)) (by kernel_rfl) ?_ ?_
        · refine Ob.yes (fun _ _ h => h) fun a w hR hk K k => ?_
          obtain ⟨_, e68, f68⟩ := hk 68 (by decide)
          obtain ⟨_, e70, f70⟩ := hk 70 (by decide)
          clear hk
          obtain ⟨a1, p1, rfl, h1⟩ := f68
          obtain ⟨a2, p2, rfl, h2⟩ := f70
          have hrl := credRoles_len c
          go_simp
          refine (rsame_ref a1 a2 p1 p2 (credRoles c) (credRoles c) _ (by omega) (by omega) h1 h2).mono ?_
          rintro e w2 ⟨rfl, q2, rfl⟩
          exact k _ _ ⟨rfl, rfl, rfl, Nat.le_refl _, fun _ _ _ => rfl⟩ (congrArg Value.bool (by simp [sameR]))
        refine Obs.cons none (by kernel_rfl) ?_ ?_
        · refine Ob.plain fun a w hR hk K k => ?_
          obtain ⟨_, e66, rfl⟩ := hk 66 (by decide)
          obtain ⟨_, e71, rfl⟩ := hk 71 (by decide)
          clear hk
          go_simp
          exact k _ _ (Chg.refl _ _) rfl
        refine Obs.cons none (by kernel_rfl) ?_ ?_
        · refine Ob.plain fun a w hR hk K k => ?_
          obtain ⟨_, e72, f72⟩ := hk 72 (by decide)
          clear hk
          go_simp
          exact k _ _ (Chg.refl _ _) f72
        exact Obs.nil
      case fin =>
        intro vals2 w12 hc12 hv
        have h4 : vals2 4 = .bool true := hv 4 (by decide)
        simp only [putAll, List.setIfInBounds_toArray, List.set_cons_zero, List.set_cons_succ, h4]
        go_wp2
        go_ret
        exact ⟨rfl, hcw.trans hc12 (fun _ _ h => h)⟩
  | false =>
    have hTT : Hid (credTextOr c = []) := hid (by simp [credTextOr, hi])
    have hBB : Hid (credBytes c = []) := hid (by simp [credBytes, hi])
    have vals : Tmp → Value := fun _ => undef
    have hA7 := hA5
    have hc7 := hc5
    have w7e : w5 = w5 := rfl
    clear hA5 hc5 hi
    go_wp2_with fail
    refine (hpars.out w5 hc7).mono ?_
    rintro e w8 ⟨rfl, hc78⟩
    rw [show credV q = .agg #[.int .i64 q.kind, .string ⟨q.head.1.toArray⟩, .string ⟨q.head.2.toArray⟩, .string ⟨q.who.toArray⟩, .string ⟨q.b.1.toArray⟩, .string ⟨q.b.2.toArray⟩, .string ⟨q.c.1.toArray⟩, .string ⟨q.c.2.toArray⟩, .string ⟨q.w2.toArray⟩] from rfl]
    have hX9 : (w8.alloc (.cells #[.int .i64 q.kind, .string ⟨q.head.1.toArray⟩, .string ⟨q.head.2.toArray⟩, .string ⟨q.who.toArray⟩, .string ⟨q.b.1.toArray⟩, .string ⟨q.b.2.toArray⟩, .string ⟨q.c.1.toArray⟩, .string ⟨q.c.2.toArray⟩, .string ⟨q.w2.toArray⟩] 25)).heap[w8.heap.size]? = some (.cells (credBox q) 25 (0, 0)) := heap_alloc_new w8 _
    have hc79 := hc78.alloc (.cells #[.int .i64 q.kind, .string ⟨q.head.1.toArray⟩, .string ⟨q.head.2.toArray⟩, .string ⟨q.who.toArray⟩, .string ⟨q.b.1.toArray⟩, .string ⟨q.b.2.toArray⟩, .string ⟨q.c.1.toArray⟩, .string ⟨q.c.2.toArray⟩, .string ⟨q.w2.toArray⟩] 25)
    have hA9 := blk_keep hA7 hc79 id
    have hc9 := hc7.trans hc79 (fun _ _ h => h)
    have HH := hid (And.intro hX9 (And.intro hA9 hc9))
    clear hX9 hc78 hc79 hA7 hc7 hA9 hc9
    go_wp2_with fail
    obtain ⟨hX9, hA9, hc9⟩ := HH.out
    clear HH
    generalize w8.alloc (.cells #[.int .i64 q.kind, .string ⟨q.head.1.toArray⟩, .string ⟨q.head.2.toArray⟩, .string ⟨q.who.toArray⟩, .string ⟨q.b.1.toArray⟩, .string ⟨q.b.2.toArray⟩, .string ⟨q.c.1.toArray⟩, .string ⟨q.c.2.toArray⟩, .string ⟨q.w2.toArray⟩] 25) = w9 at *
    generalize w8.heap.size = X at *
    refine (hparr.out w9).mono ?_
    rintro e w10 ⟨rfl, hc910⟩
    rw [show credV q = .agg #[.int .i64 q.kind, .string ⟨q.head.1.toArray⟩, .string ⟨q.head.2.toArray⟩, .string ⟨q.who.toArray⟩, .string ⟨q.b.1.toArray⟩, .string ⟨q.b.2.toArray⟩, .string ⟨q.c.1.toArray⟩, .string ⟨q.c.2.toArray⟩, .string ⟨q.w2.toArray⟩] from rfl]
    have hY11 : (w10.alloc (.cells #[.int .i64 q.kind, .string ⟨q.head.1.toArray⟩, .string ⟨q.head.2.toArray⟩, .string ⟨q.who.toArray⟩, .string ⟨q.b.1.toArray⟩, .string ⟨q.b.2.toArray⟩, .string ⟨q.c.1.toArray⟩, .string ⟨q.c.2.toArray⟩, .string ⟨q.w2.toArray⟩] 25)).heap[w10.heap.size]? = some (.cells (credBox q) 25 (0, 0)) := heap_alloc_new w10 _
    have hc911 := hc910.alloc (.cells #[.int .i64 q.kind, .string ⟨q.head.1.toArray⟩, .string ⟨q.head.2.toArray⟩, .string ⟨q.who.toArray⟩, .string ⟨q.b.1.toArray⟩, .string ⟨q.b.2.toArray⟩, .string ⟨q.c.1.toArray⟩, .string ⟨q.c.2.toArray⟩, .string ⟨q.w2.toArray⟩] 25)
    have hA11 := blk_keep hA9 hc911 id
    have hX11 := blk_keep hX9 hc911 id
    have hc11 := hc9.trans hc911 (fun _ _ h => h)
    have HH := hid (And.intro hX11 (And.intro hA11 (And.intro hc11 hY11)))
    clear hX9 hc910 hc911 hA9 hc9 hX11 hA11 hc11 hY11
    go_wp2_with fail
    obtain ⟨hX, hA, hcw, hY⟩ := HH.out
    clear HH
    generalize w10.alloc (.cells #[.int .i64 q.kind, .string ⟨q.head.1.toArray⟩, .string ⟨q.head.2.toArray⟩, .string ⟨q.who.toArray⟩, .string ⟨q.b.1.toArray⟩, .string ⟨q.b.2.toArray⟩, .string ⟨q.c.1.toArray⟩, .string ⟨q.c.2.toArray⟩, .string ⟨q.w2.toArray⟩] 25) = w11 at *
    generalize w10.heap.size = Y at *
    refine wp_region_specs (ctSpecs10 A X Y c ok q) [38, 39, 40, 41, 42, 43, 44, 45, 46, 47, 48, 49, 50, 51, 52, 53, 54, 55, 56, 57, 58, 59, 60, 61, 62, 63, 64, 65, 66, 67, 68, 69, 70, 71, 72, 4] [2, 5, 6, 7, 8, 9, 10] (by kernel_rfl) (by kernel_rfl) (by rfl) (by kernel_rfl) ?start ?obs ?fin
    case start =>
      simp only [List.forall_mem_cons]
      exact ⟨⟨_, rfl, rfl⟩, ⟨_, rfl, congrArg (fun l : List UInt8 => Value.string ⟨l.toArray⟩) hTT.out.symm⟩, ⟨_, rfl, congrArg (fun l : List UInt8 => Value.string ⟨l.toArray⟩) hBB.out.symm⟩, ⟨_, rfl, rfl⟩, ⟨_, rfl, rfl⟩, ⟨_, rfl, rfl⟩, ⟨_, rfl, rfl⟩, fun _ h => by cases h⟩
    case obs =>
      clear hcw
      refine Obs.cons none (by kernel_rfl) ?_ ?_
      · refine Ob.plain fun a w hR hk K k => ?_
        obtain ⟨_, e2, rfl⟩ := hk 2 (by decide)
        clear hk
        obtain ⟨z0, z1, z2, z3, z4, z5, z6, z7, z8⟩ := (cred_at_blk hA).keep hR id
        simp only [Nat.zero_add, credBox] at z0 z1 z2 z3 z4 z5 z6 z7 z8
        go_simp
        exact k _ _ (Chg.refl _ _) rfl
      refine Obs.cons none (by kernel_rfl) ?_ ?_
      · refine Ob.plain fun a w hR hk K k => ?_
        obtain ⟨_, e38, rfl⟩ := hk 38 (by decide)
        clear hk
        go_simp
        refine (pcright c _ (hsh.mono (by omega))).mono ?_
        rintro e w2 ⟨rfl, hc⟩
        exact k _ _ hc rfl
      refine Obs.cons none (by kernel_rfl) ?_ ?_
      · refine Ob.plain fun a w hR hk K k => ?_
        obtain ⟨_, e2, rfl⟩ := hk 2 (by decide)
        clear hk
        obtain ⟨z0, z1, z2, z3, z4, z5, z6, z7, z8⟩ := (cred_at_blk hA).keep hR id
        simp only [Nat.zero_add, credBox] at z0 z1 z2 z3 z4 z5 z6 z7 z8
        go_simp
        exact k _ _ (Chg.refl _ _) rfl
      refine Obs.cons none (by kernel_rfl) ?_ ?_
      · refine Ob.plain fun a w hR hk K k => ?_
        obtain ⟨_, e40, rfl⟩ := hk 40 (by decide)
        clear hk
        go_simp
        refine (cright_ref c _ (hsh.mono (by omega))).mono ?_
        rintro e w2 ⟨rfl, hc⟩
        exact k _ _ hc rfl
      refine Obs.cons none (by kernel_rfl) ?_ ?_
      · refine Ob.plain fun a w hR hk K k => ?_
        obtain ⟨_, e39, rfl⟩ := hk 39 (by decide)
        obtain ⟨_, e41, rfl⟩ := hk 41 (by decide)
        clear hk
        generalize isCred c = v at *
        have z : (v == v) = true := by simp
        go_simp
        exact k _ _ (Chg.refl _ _) rfl
      refine Obs.cons none (by kernel_rfl) ?_ ?_
      · refine Ob.plain fun a w hR hk K k => ?_
        obtain ⟨_, e42, f42⟩ := hk 42 (by decide)
        clear hk
        go_simp
        exact k _ _ (Chg.refl _ _) f42
      refine Obs.cons (some (43, true)) (by kernel_rfl) ?_ ?_
      · refine Ob.yes (fun _ _ h => h) fun a w hR hk K k => ?_
        obtain ⟨_, e2, rfl⟩ := hk 2 (by decide)
        clear hk
        obtain ⟨z0, z1, z2, z3, z4, z5, z6, z7, z8⟩ := (cred_at_blk hA).keep hR id
        simp only [Nat.zero_add, credBox] at z0 z1 z2 z3 z4 z5 z6 z7 z8
        go_simp
        exact k _ _ (Chg.refl _ _) rfl
      refine Obs.cons (some (43, true)) (by kernel_rfl) ?_ ?_
      · refine Ob.yes (fun _ _ h => h) fun a w hR hk K k => ?_
        obtain ⟨_, e44, rfl⟩ := hk 44 (by decide)
        clear hk
        go_simp
        refine (pctext c _ hsh).mono ?_
        rintro e w2 ⟨rfl, hc⟩
        exact k _ _ hc rfl
      refine Obs.cons (some (43, true)) (by kernel_rfl) ?_ ?_
      · refine Ob.yes (fun _ _ h => h) fun a w hR hk K k => ?_
        obtain ⟨_, e5, f5⟩ := hk 5 (by decide)
        clear hk
        go_simp
        exact k _ _ (Chg.refl _ _) f5
      refine Obs.cons (some (43, true)) (by kernel_rfl) ?_ ?_
      · refine Ob.yes (fun _ _ h => h) fun a w hR hk K k => ?_
        obtain ⟨_, e45, rfl⟩ := hk 45 (by decide)
        obtain ⟨_, e46, rfl⟩ := hk 46 (by decide)
        clear hk
        generalize credTextOr c = v at *
        have z : (v == v) = true := by simp
        go_simp
        exact k _ _ (Chg.refl _ _) rfl
      refine Obs.cons none (by kernel_rfl) ?_ ?_
      · refine Ob.plain fun a w hR hk K k => ?_
        obtain ⟨_, e43, rfl⟩ := hk 43 (by decide)
        obtain ⟨_, e47, rfl⟩ := hk 47 (by decide)
        clear hk
        go_simp
        exact k _ _ (Chg.refl _ _) rfl
      refine Obs.cons none (by kernel_rfl) ?_ ?_
      · refine Ob.plain fun a w hR hk K k => ?_
        obtain ⟨_, e48, f48⟩ := hk 48 (by decide)
        clear hk
        go_simp
        exact k _ _ (Chg.refl _ _) f48
      refine Obs.cons (some (49, true)) (by kernel_rfl) ?_ ?_
      · refine Ob.yes (fun _ _ h => h) fun a w hR hk K k => ?_
        obtain ⟨_, e2, rfl⟩ := hk 2 (by decide)
        clear hk
        obtain ⟨z0, z1, z2, z3, z4, z5, z6, z7, z8⟩ := (cred_at_blk hA).keep hR id
        simp only [Nat.zero_add, credBox] at z0 z1 z2 z3 z4 z5 z6 z7 z8
        go_simp
        exact k _ _ (Chg.refl _ _) rfl
      refine Obs.cons (some (49, true)) (by kernel_rfl) ?_ ?_
      · refine Ob.yes (fun _ _ h => h) fun a w hR hk K k => ?_
        obtain ⟨_, e50, rfl⟩ := hk 50 (by decide)
        clear hk
        go_simp
        refine (pcbytes c _ (hsh.mono (by omega))).mono ?_
        rintro e w2 ⟨a0, p0, rfl, hb, hc⟩
        exact k _ _ hc ⟨a0, p0, rfl, rfl, hb.mono (fun _ _ => trivial)⟩
      refine Obs.cons (some (49, true)) (by kernel_rfl) ?_ ?_
      · refine Ob.yes (fun _ _ h => h) fun a w hR hk K k => ?_
        obtain ⟨_, e51, f51⟩ := hk 51 (by decide)
        clear hk
        obtain ⟨a0, p0, rfl, hbl, hby⟩ := f51
        have hcv := conv_bytes hby
        go_simp
        exact k _ _ (Chg.refl _ _) rfl
      refine Obs.cons (some (49, true)) (by kernel_rfl) ?_ ?_
      · refine Ob.yes (fun _ _ h => h) fun a w hR hk K k => ?_
        obtain ⟨_, e6, f6⟩ := hk 6 (by decide)
        clear hk
        go_simp
        exact k _ _ (Chg.refl _ _) f6
      refine Obs.cons (some (49, true)) (by kernel_rfl) ?_ ?_
      · refine Ob.yes (fun _ _ h => h) fun a w hR hk K k => ?_
        obtain ⟨_, e52, rfl⟩ := hk 52 (by decide)
        obtain ⟨_, e53, rfl⟩ := hk 53 (by decide)
        clear hk
        generalize credBytes c = v at *
        have z : (v == v) = true := by simp
        go_simp
        exact k _ _ (Chg.refl _ _) rfl
      refine Obs.cons none (by kernel_rfl) ?_ ?_
      · refine Ob.plain fun a w hR hk K k => ?_
        obtain ⟨_, e49, rfl⟩ := hk 49 (by decide)
        obtain ⟨_, e54, rfl⟩ := hk 54 (by decide)
        clear hk
        go_simp
        exact k _ _ (Chg.refl _ _) rfl
      refine Obs.cons none (by kernel_rfl) ?_ ?_
      · refine Ob.plain fun a w hR hk K k => ?_
        obtain ⟨_, e55, f55⟩ := hk 55 (by decide)
        clear hk
        go_simp
        exact k _ _ (Chg.refl _ _) f55
      refine Obs.cons (some (56, true)) (by kernel_rfl) ?_ ?_
      · refine Ob.yes (fun _ _ h => h) fun a w hR hk K k => ?_
        obtain ⟨_, e7, rfl⟩ := hk 7 (by decide)
        clear hk
        obtain ⟨z0, z1, z2, z3, z4, z5, z6, z7, z8⟩ := (cred_at_blk hX).keep hR id
        simp only [Nat.zero_add, credBox] at z0 z1 z2 z3 z4 z5 z6 z7 z8
        go_simp
        exact k _ _ (Chg.refl _ _) rfl
      refine Obs.cons (some (56, true)) (by kernel_rfl) ?_ ?_
      · refine Ob.yes (fun _ _ h => h) fun a w hR hk K k => ?_
        obtain ⟨_, e9, rfl⟩ := hk 9 (by decide)
        clear hk
        obtain ⟨z0, z1, z2, z3, z4, z5, z6, z7, z8⟩ := (cred_at_blk hY).keep hR id
        simp only [Nat.zero_add, credBox] at z0 z1 z2 z3 z4 z5 z6 z7 z8
        go_simp
        exact k _ _ (Chg.refl _ _) rfl
      refine Obs.cons (some (56, true)) (by kernel_rfl) ?_ ?_
      · refine Ob.yes (fun _ _ h => h) fun a w hR hk K k => ?_
        obtain ⟨_, e57, rfl⟩ := hk 57 (by decide)
        obtain ⟨_, e58, rfl⟩ := hk 58 (by decide)
        clear hk
        simp only [credV, credBox] at e57 e58
        go_simp
        exact k _ _ (Chg.refl _ _) rfl
      refine Obs.cons none (by kernel_rfl) ?_ ?_
      · refine Ob.plain fun a w hR hk K k => ?_
        obtain ⟨_, e56, rfl⟩ := hk 56 (by decide)
        obtain ⟨_, e59, rfl⟩ := hk 59 (by decide)
        clear hk
        go_simp
        exact k _ _ (Chg.refl _ _) rfl
      refine Obs.cons none (by kernel_rfl) ?_ ?_
      · refine Ob.plain fun a w hR hk K k => ?_
        obtain ⟨_, e60, f60⟩ := hk 60 (by decide)
        clear hk
        go_simp
        exact k _ _ (Chg.refl _ _) f60
      refine Obs.cons (some (61, true)) (by kernel_rfl) ?_ ?_
      · refine Ob.yes (fun _ _ h => h) fun a w hR hk K k => ?_
        obtain ⟨_, e8, f8⟩ := hk 8 (by decide)
        clear hk
        go_simp
        exact k _ _ (Chg.refl _ _) f8
      refine Obs.cons (some (61, true)) (by kernel_rfl) ?_ ?_
      · refine Ob.yes (fun _ _ h => h) fun a w hR hk K k => ?_
        obtain ⟨_, e10, f10⟩ := hk 10 (by decide)
        clear hk
        go_simp
        exact k _ _ (Chg.refl _ _) f10
      refine Obs.cons (some (61, true)) (by kernel_rfl) ?_ ?_
      · refine Ob.yes (fun _ _ h => h) fun a w hR hk K k => ?_
        obtain ⟨_, e62, rfl⟩ := hk 62 (by decide)
        obtain ⟨_, e63, rfl⟩ := hk 63 (by decide)
        clear hk
        have z : (ok == ok) = true := by simp
        go_simp
        exact k _ _ (Chg.refl _ _) rfl
      refine Obs.cons none (by kernel_rfl) ?_ ?_
      · refine Ob.plain fun a w hR hk K k => ?_
        obtain ⟨_, e61, rfl⟩ := hk 61 (by decide)
        obtain ⟨_, e64, rfl⟩ := hk 64 (by decide)
        clear hk
        go_simp
        exact k _ _ (Chg.refl _ _) rfl
      refine Obs.cons none (by kernel_rfl) ?_ ?_
      · refine Ob.plain fun a w hR hk K k => ?_
        obtain ⟨_, e65, f65⟩ := hk 65 (by decide)
        clear hk
        go_simp
        exact k _ _ (Chg.refl _ _) f65
      refine Obs.cons (some (66, true)) (by kernel_rfl) ?_ ?_
      · refine Ob.yes (fun _ _ h => h) fun a w hR hk K k => ?_
        obtain ⟨_, e2, rfl⟩ := hk 2 (by decide)
        clear hk
        obtain ⟨z0, z1, z2, z3, z4, z5, z6, z7, z8⟩ := (cred_at_blk hA).keep hR id
        simp only [Nat.zero_add, credBox] at z0 z1 z2 z3 z4 z5 z6 z7 z8
        go_simp
        exact k _ _ (Chg.refl _ _) rfl
      refine Obs.cons (some (66, true)) (by kernel_rfl) ?_ ?_
      · refine Ob.yes (fun _ _ h => h) fun a w hR hk K k => ?_
        obtain ⟨_, e67, rfl⟩ := hk 67 (by decide)
        clear hk
        go_simp
        refine (pcroles c _ (hsh.mono (by omega))).mono ?_
        rintro e w2 ⟨a0, p0, rfl, hr, hc⟩
        exact k _ _ hc ⟨a0, p0, rfl, hr.mono (fun _ _ => trivial)⟩
      refine Obs.cons (some (66, true)) (by kernel_rfl) ?_ ?_
      · refine Ob.yes (fun _ _ h => h) fun a w hR hk K k => ?_
        obtain ⟨_, e2, rfl⟩ := hk 2 (by decide)
        clear hk
        obtain ⟨z0, z1, z2, z3, z4, z5, z6, z7, z8⟩ := (cred_at_blk hA).keep hR id
        simp only [Nat.zero_add, credBox] at z0 z1 z2 z3 z4 z5 z6 z7 z8
        go_simp
        exact k _ _ (Chg.refl _ _) rfl
      refine Obs.cons (some (66, true)) (by kernel_rfl) ?_ ?_
      · refine Ob.yes (fun _ _ h => h) fun a w hR hk K k => ?_
        obtain ⟨_, e69, rfl⟩ := hk 69 (by decide)
        clear hk
        go_simp
        refine (croles_ref c _ (hsh.mono (by omega))).mono ?_
        rintro e w2 ⟨a0, p0, rfl, hr, hc⟩
        exact k _ _ hc ⟨a0, p0, rfl, hr.mono (fun _ _ => trivial)⟩
      refine Obs.cons (some (66, true)) (by kernel_rfl) ?_ ?_
      · refine Ob.yes (fun _ _ h => h) fun a w hR hk K k => ?_
        obtain ⟨_, e68, f68⟩ := hk 68 (by decide)
        obtain ⟨_, e70, f70⟩ := hk 70 (by decide)
        clear hk
        obtain ⟨a1, p1, rfl, h1⟩ := f68
        obtain ⟨a2, p2, rfl, h2⟩ := f70
        have hrl := credRoles_len c
        go_simp
        refine (rsame_ref a1 a2 p1 p2 (credRoles c) (credRoles c) _ (by omega) (by omega) h1 h2).mono ?_
        rintro e w2 ⟨rfl, q2, rfl⟩
        exact k _ _ ⟨rfl, rfl, rfl, Nat.le_refl _, fun _ _ _ => rfl⟩ (congrArg Value.bool (by simp [sameR]))
      refine Obs.cons none (by kernel_rfl) ?_ ?_
      · refine Ob.plain fun a w hR hk K k => ?_
        obtain ⟨_, e66, rfl⟩ := hk 66 (by decide)
        obtain ⟨_, e71, rfl⟩ := hk 71 (by decide)
        clear hk
        go_simp
        exact k _ _ (Chg.refl _ _) rfl
      refine Obs.cons none (by kernel_rfl) ?_ ?_
      · refine Ob.plain fun a w hR hk K k => ?_
        obtain ⟨_, e72, f72⟩ := hk 72 (by decide)
        clear hk
        go_simp
        exact k _ _ (Chg.refl _ _) f72
      exact Obs.nil
    case fin =>
      intro vals2 w12 hc12 hv
      have h4 : vals2 4 = .bool true := hv 4 (by decide)
      simp only [putAll, List.setIfInBounds_toArray, List.set_cons_zero, List.set_cons_succ, h4]
      go_wp2
      go_ret
      exact ⟨rfl, hcw.trans hc12 (fun _ _ h => h)⟩
end Go.Proofs.Ytjohiggfjpfbeaa

/- A role that came in, opened to its cells. -/
namespace Go.Proofs.Ytjohiggfjpfbeaa
open Go.ChangeShapes Go.WideShapes Go.ChangeAt Go.RowKit Go.Deep

theorem choose_roles {α : Type} (n : Nat) (p : Nat → α → Prop) (h : ∀ i, i < n → ∃ x, p i x) : ∃ l : List α, l.length = n ∧ ∀ i (hi : i < l.length), p i l[i] := by
  induction n with
  | zero => exact ⟨[], rfl, fun i hi => by simp at hi⟩
  | succ n ih =>
    obtain ⟨l, hl, hp⟩ := ih (fun i hi => h i (by omega))
    obtain ⟨x, hx⟩ := h n (by omega)
    refine ⟨l ++ [x], by simp [hl], fun i hi => ?_⟩
    by_cases hin : i < l.length
    · rw [List.getElem_append_left hin]
      exact hp i hin
    · have : i = n := by simp [hl] at hi; omega
      subst this
      rw [List.getElem_append_right (by omega)]
      simpa [hl] using hx

section
variable {H : Type} {enc : TypeId × Value → H} {w : World} {base : Nat} {held : Bool} {fuel : Nat}

set_option maxRecDepth 100000 in
/-- Two cells that are read as a role. -/
theorem open_role_cells {spare : Nat → Bool} {cs : List Value} {x : DataW H × List MemPlace} (h : DataW.trod enc Try.prog w base spare held fuel 23 cs = some x) :
    ∃ r : RoleB, cs = roleCells r ∧ r.1.length ≤ 9223372036854775807 ∧ r.2.length ≤ 9223372036854775807 ∧ 1 + r.1.length + r.2.length ≤ Rows.uptoBulk x.1 := by
  obtain ⟨y0, y1, n, rfl, hl, h0, h1⟩ := trod_struct2 Try.underlying23 h
  have hc : Try.prog.cellsOf 23 = 2 := by kernel_rfl
  rw [hc] at hl
  match cs, hl with
  | [c0, c1], _ =>
    have e0 : DataW.trod enc Try.prog w base spare held n 9 [c0] = some y0 := h0
    have e1 : DataW.trod enc Try.prog w base spare held n 9 [c1] = some y1 := h1
    obtain ⟨s0, hs0, rfl, hm0⟩ := DataW.trod_string Try.underlying9 e0
    obtain ⟨s1, hs1, rfl, hm1⟩ := DataW.trod_string Try.underlying9 e1
    simp only [List.cons.injEq, and_true] at hs0 hs1
    subst hs0
    subst hs1
    unfold maxLen at hm0 hm1
    refine ⟨(s0.data.toList, s1.data.toList), rfl, hm0, hm1, ?_⟩
    simp [Rows.uptoBulk, Rows.uptoBulkAll]
    omega

set_option maxRecDepth 100000 in
/-- A role that came in. -/
theorem open_role {base0 : Nat} {r : Reach} {v : Value} {d : DataW H} {ps : List MemPlace} {spare : Nat → Bool} (hval : Value.okWide Try.prog w r base0 23 v) (hd : DataW.Trod enc Try.prog w base spare held 23 v d ps) :
    ∃ x : RoleB, v = roleV x ∧ x.1.length ≤ 9223372036854775807 ∧ x.2.length ≤ 9223372036854775807 ∧ 1 + x.1.length + x.2.length ≤ Rows.uptoBulk d := by
  obtain ⟨cs, rfl, _⟩ := okWide_struct Try.underlying23 hval
  obtain ⟨n, hn⟩ := hd
  obtain ⟨x, hx, h1, h2, h3⟩ := open_role_cells hn
  refine ⟨x, ?_, h1, h2, h3⟩
  have : cs.toList = roleCells x := hx
  have e : cs = (roleCells x).toArray := by rw [← this]
  rw [e]
  rfl
end
end Go.Proofs.Ytjohiggfjpfbeaa

/- Credentials that came in, one or a list, opened to cells; how much they hold. -/
namespace Go.Proofs.Ytjohiggfjpfbeaa
open Go.ChangeShapes Go.WideShapes Go.ChangeAt Go.RowKit Go.Deep

theorem cred_at_cells' {w : World} {g o : Nat} {c : CredB} (h : ∀ j, j < 9 → w.cell? ⟨g, o + j, none⟩ = (credCells c)[j]?) : CredAt w g o c :=
  ⟨h 0 (by omega), h 1 (by omega), h 2 (by omega), h 3 (by omega), h 4 (by omega), h 5 (by omega), h 6 (by omega), h 7 (by omega), h 8 (by omega)⟩

section
variable {H : Type} {enc : TypeId × Value → H} {w : World} {base : Nat} {held : Bool} {fuel : Nat}

set_option maxRecDepth 100000 in
/-- Nine cells that are read as a credential. -/
theorem open_cred_cells {spare : Nat → Bool} {cs : List Value} {x : DataW H × List MemPlace} (h : DataW.trod enc Try.prog w base spare held fuel 25 cs = some x) :
    ∃ c : CredB, cs = credCells c ∧ credShort c 9223372036854775807 ∧ sizeC c ≤ 3 * Rows.uptoBulk x.1 := by
  obtain ⟨xs, n, _, rfl, hl, hlen, hf⟩ := DataW.trod_struct Try.underlying25 h
  have hc : Try.prog.cellsOf 25 = 9 := by kernel_rfl
  have hr : Try.prog.cellsOf 23 = 2 := by kernel_rfl
  rw [hc] at hl
  match cs, hl, xs, hlen with
  | [c0, c1, c2, c3, c4, c5, c6, c7, c8], _, [y0, y1, y2, y3, y4, y5], _ =>
    have e0 : DataW.trod enc Try.prog w base spare held n 3 [c0] = some y0 := hf 0 _ rfl
    have e1 : DataW.trod enc Try.prog w base spare held n 23 [c1, c2] = some y1 := hf 1 _ rfl
    have e2 : DataW.trod enc Try.prog w base spare held n 9 [c3] = some y2 := hf 2 _ rfl
    have e3 : DataW.trod enc Try.prog w base spare held n 23 [c4, c5] = some y3 := hf 3 _ rfl
    have e4 : DataW.trod enc Try.prog w base spare held n 23 [c6, c7] = some y4 := hf 4 _ rfl
    have e5 : DataW.trod enc Try.prog w base spare held n 9 [c8] = some y5 := hf 5 _ rfl
    obtain ⟨k, hk, rfl, _⟩ := DataW.trod_int Try.underlying3 e0
    obtain ⟨hd, h1, a1, a2, a3⟩ := open_role_cells e1
    obtain ⟨s2, hs2, rfl, hm2⟩ := DataW.trod_string Try.underlying9 e2
    obtain ⟨b, h3, b1, b2, b3⟩ := open_role_cells e3
    obtain ⟨c, h4, d1, d2, d3⟩ := open_role_cells e4
    obtain ⟨s5, hs5, rfl, hm5⟩ := DataW.trod_string Try.underlying9 e5
    simp only [roleCells, List.cons.injEq, and_true] at hk h1 hs2 h3 h4 hs5
    obtain ⟨h1a, h1b⟩ := h1
    obtain ⟨h3a, h3b⟩ := h3
    obtain ⟨h4a, h4b⟩ := h4
    subst hk h1a h1b hs2 h3a h3b h4a h4b hs5
    unfold maxLen at hm2 hm5
    refine ⟨⟨k, hd, s2.data.toList, b, c, s5.data.toList⟩, rfl, ⟨a1, a2, hm2, b1, b2, d1, d2, hm5⟩, ?_⟩
    simp only [sizeC, Rows.uptoBulk, Rows.uptoBulkAll, List.map_cons, List.map_nil]
    omega

set_option maxRecDepth 100000 in
/-- A credential that came in. -/
theorem open_cred {base0 : Nat} {r : Reach} {v : Value} {d : DataW H} {ps : List MemPlace} {spare : Nat → Bool} (hval : Value.okWide Try.prog w r base0 25 v) (hd : DataW.Trod enc Try.prog w base spare held 25 v d ps) :
    ∃ x : CredB, v = credV x ∧ credShort x 9223372036854775807 ∧ sizeC x ≤ 3 * Rows.uptoBulk d := by
  obtain ⟨cs, rfl, _⟩ := okWide_struct Try.underlying25 hval
  obtain ⟨n, hn⟩ := hd
  obtain ⟨x, hx, h1, h2⟩ := open_cred_cells hn
  refine ⟨x, ?_, h1, h2⟩
  have : cs.toList = credCells x := hx
  have e : cs = (credCells x).toArray := by rw [← this]
  rw [e]
  rfl

theorem bulk_creds (D : Nat → DataW H) : ∀ (l : List CredB), (∀ i (h : i < l.length), sizeC l[i] ≤ 3 * Rows.uptoBulk (D i)) → totalC l ≤ 3 * Rows.uptoBulkAll ((List.range l.length).map D)
  | [], _ => Nat.zero_le _
  | x :: l, h => by
    have ih := bulk_creds (fun i => D (i + 1)) l (fun i hi => h (i + 1) (by simp only [List.length_cons]; omega))
    rw [List.length_cons, List.range_succ_eq_map, List.map_cons, List.map_map]
    simp only [totalC, Rows.uptoBulkAll]
    have h0 := h 0 (by simp)
    simp only [List.getElem_cons_zero] at h0
    have e : (List.range l.length).map (D ∘ Nat.succ) = (List.range l.length).map (fun i => D (i + 1)) := rfl
    rw [e]
    omega

set_option maxRecDepth 100000 in
/-- A list of credentials that came in. -/
theorem open_creds {cs : List Value} {x : DataW H × List MemPlace} (h : DataW.trod enc Try.prog w base (fun _ => true) held fuel 49 cs = some x) :
    ∃ (ao : Option Addr) (cap : Nat) (ls : List CredB), cs = [.slice ao ls.length cap] ∧ CredsAt (fun k => k < w.heap.size) w ao ls ∧ totalC ls ≤ 3 * Rows.uptoBulk x.1 ∧ (ao = none → cap = 0) := by
  rcases open_slice Try.underlying49 h with ⟨rfl, rfl⟩ | ⟨a, len, cap, m, n, D, Pl, rfl, _, hl, hm, hmm, rfl, hi⟩
  · exact ⟨none, 0, [], rfl, CredsAt.nil _ _ _, Nat.zero_le _, fun _ => rfl⟩
  · simp only [if_true] at hmm
    have hc9 : Try.prog.cellsOf 25 = 9 := by kernel_rfl
    have each : ∀ i, i < len → ∃ y : CredB, (∃ b off, some a = some ⟨b, off, none⟩ ∧ b < w.heap.size ∧ CredAt w b (off + i * 9) y ∧ credShort y 9223372036854775807) ∧ sizeC y ≤ 3 * Rows.uptoBulk (D i) := by
      intro i hil
      obtain ⟨cs', hcs, ht⟩ := hi i (by omega)
      rw [hc9] at hcs
      obtain ⟨r, hr, h1, h2⟩ := open_cred_cells ht
      subst hr
      obtain ⟨_, _, hat⟩ := World.cells?_some hcs
      have hs : a = ⟨a.block, a.off, none⟩ := by
        obtain ⟨cs'', hcs'', ht''⟩ := hi 0 (by omega)
        rw [hc9] at hcs''
        obtain ⟨r'', hr'', _⟩ := open_cred_cells ht''
        subst hr''
        obtain ⟨_, _, hat''⟩ := World.cells?_some hcs''
        have q := hat'' 0 (by decide)
        rw [Nat.zero_mul, add_zero, add_zero] at q
        exact spot_none q
      have hall : ∀ j, j < 9 → w.cell? ⟨a.block, a.off + i * 9 + j, none⟩ = (credCells r)[j]? := fun j hj => by
        have q := hat j (by simpa [credCells] using hj)
        rw [hs, add_off, add_off] at q
        exact q
      have hat9 := cred_at_cells' hall
      exact ⟨r, ⟨a.block, a.off, congrArg some hs, World.block_lt_of_cell? w ⟨a.block, a.off + i * 9, none⟩ hat9.k0, hat9, h1⟩, h2⟩
    obtain ⟨xs, hlen, hp⟩ := choose_roles len _ each
    subst hlen
    refine ⟨some a, cap, xs, rfl, fun i hi => (hp i hi).1, ?_, fun e => by cases e⟩
    have := bulk_creds D xs (fun i hi => (hp i hi).2)
    simp only [Rows.uptoBulk]
    omega
end
end Go.Proofs.Ytjohiggfjpfbeaa
