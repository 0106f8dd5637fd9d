/- Texts that the proof leans on, in one: PcHas, RefRoleLess, RefCredRight, RefCredRoles, PcRoles, CredHole, End, Defer. -/
import Derived.Test.YtjohiggfjpfbeaaCm13
import Derived.Test.YtjohiggfjpfbeaaCm4
import Derived.Test.YtjohiggfjpfbeaaCm5
import Derived.Test.YtjohiggfjpfbeaaCm1
import Derived.Test.YtjohiggfjpfbeaaCm12
import Derived.Test.YtjohiggfjpfbeaaCm8
import Derived.Test.YtjohiggfjpfbeaaCm11
import Derived.Test.YtjohiggfjpfbeaaCm10
import Derived.Test.YtjohiggfjpfbeaaCm2
import Derived.Test.YtjohiggfjpfbeaaCm3
import Derived.Defers
import Derived.Recover
import Derived.LaidEqlPtr
/- Is a credential in a list: slices.Index and slices.Contains at credentials; cred.Has. -/
namespace Go.Proofs.Ytjohiggfjpfbeaa
open Go.RowKit

def indexSpecs (A b o k n cp : Nat) (ao : Option Addr) (q c : CredB) : List Spec := [.eq (.slice ao n cp), .any, .any, .eq (.pointer (some ⟨A, 0, none⟩)), .any, .eq (.int .i64 k), .any, .any, .any, .any, .any, .eq (credV c), .eq (.slice ao n cp), .eq (.int .i64 k), .eq (.pointer (some ⟨b, o, none⟩)), .eq (credV q), .eq (.bool (eqC c q))]

set_option maxRecDepth 100000 in
set_option maxHeartbeats 1000000 in
theorem pcindex {D : Nat → Prop} (ao : Option Addr) (cp : Nat) (ls : List CredB) (c : CredB) (w : World) (hn : ls.length ≤ 4194304) (h : CredsAt D w ao ls) :
    Calls Try.prog 86 #[.slice ao ls.length cp, credV c] w fun e w' => (∃ i : Int, e = .returned (.int .i64 i) ∧ decide (0 ≤ i) = hasC ls c) ∧ Chg (fun _ => False) w w' := by
  have hc : Chg (fun _ => False) w (w.alloc (.cells (credBox c) 25)) := (Chg.refl _ w).alloc _
  have hA := heap_alloc_new w (.cells (credBox c) 25)
  have h' := h.keep hc (fun _ _ => id)
  show Calls Try.prog 86 #[.slice ao ls.length cp, .agg #[.int .i64 c.kind, .string ⟨c.head.1.toArray⟩, .string ⟨c.head.2.toArray⟩, .string ⟨c.who.toArray⟩, .string ⟨c.b.1.toArray⟩, .string ⟨c.b.2.toArray⟩, .string ⟨c.c.1.toArray⟩, .string ⟨c.c.2.toArray⟩, .string ⟨c.w2.toArray⟩]] w _
  simp only [credBox] at hc hA h'
  go_enter Try.func86, Try.ntmps86
  go_wp2
  generalize hw1 : w.alloc (.cells #[.int .i64 c.kind, .string ⟨c.head.1.toArray⟩, .string ⟨c.head.2.toArray⟩, .string ⟨c.who.toArray⟩, .string ⟨c.b.1.toArray⟩, .string ⟨c.b.2.toArray⟩, .string ⟨c.c.1.toArray⟩, .string ⟨c.c.2.toArray⟩, .string ⟨c.w2.toArray⟩] 25) = w1 at *
  generalize w.heap.size = A at *
  clear h hw1
  go_loopw [8] (fun i wr => ∃ k : Nat, k ≤ ls.length ∧ i = .int .i64 k ∧ Hid (hasC (ls.take k) c = false) ∧ Chg (fun _ => False) w1 wr) (fun i _ => ls.length - (intOf i).toNat)
  case atStart => exact ⟨0, Nat.zero_le _, rfl, by rw [List.take_zero]; rfl, Chg.refl _ _⟩
  case round =>
    obtain ⟨k, hk, rfl, hf, hc1⟩ := hrel
    have hA1 := cred_at_blk (c := c) (blk_keep hA hc1 id)
    by_cases hlt : k < ls.length
    · obtain ⟨b, off, rfl, _, hat, _⟩ := (h'.keep hc1 (fun _ _ => id)) k hlt
      have HFT := hid (hasC_take ls c k hlt hf.out)
      have hmem : Hid (ls[k] ∈ ls) := hid (List.getElem_mem hlt)
      have HX := hid (And.intro hA1 hat)
      have HC := hid (And.intro hc hc1)
      clear h' hA1 hat hc hc1 hA hf
      generalize ls[k] = q at *
      go_wp2
      refine wp_region_specs (indexSpecs A b (off + k * 9) k ls.length cp (some ⟨b, off, none⟩) q c) [11, 12, 13, 14, 15, 16] [0, 3, 5] (by kernel_rfl) (by kernel_rfl) (by rfl) (by kernel_rfl) ?start ?obs ?fin
      case start =>
        simp only [List.forall_mem_cons]
        exact ⟨⟨_, rfl, rfl⟩, ⟨_, rfl, rfl⟩, ⟨_, rfl, rfl⟩, fun _ h => by cases h⟩
      case obs =>
        clear HC HFT hmem
        refine Obs.cons none (by kernel_rfl) ?_ ?_
        · refine Ob.plain fun a w hR hk K k9 => ?_
          obtain ⟨_, e3, rfl⟩ := hk 3 (by decide)
          clear hk
          obtain ⟨HA, HB⟩ := HX.out
          obtain ⟨a0, a1, a2, a3, a4, a5, a6, a7, a8⟩ := HA.keep hR id
          simp only [Nat.zero_add] at a0 a1 a2 a3 a4 a5 a6 a7 a8
          clear HA HB
          go_simp
          exact k9 _ _ (Chg.refl _ _) rfl
        refine Obs.cons none (by kernel_rfl) ?_ ?_
        · refine Ob.plain fun a w hR hk K k9 => ?_
          obtain ⟨_, e0, f0⟩ := hk 0 (by decide)
          clear hk
          go_simp
          exact k9 _ _ (Chg.refl _ _) f0
        refine Obs.cons none (by kernel_rfl) ?_ ?_
        · refine Ob.plain fun a w hR hk K k9 => ?_
          obtain ⟨_, e5, f5⟩ := hk 5 (by decide)
          clear hk
          go_simp
          exact k9 _ _ (Chg.refl _ _) f5
        refine Obs.cons none (by kernel_rfl) ?_ ?_
        · refine Ob.plain fun a w hR hk K k9 => ?_
          obtain ⟨_, e12, rfl⟩ := hk 12 (by decide)
          obtain ⟨_, e13, rfl⟩ := hk 13 (by decide)
          clear hk
          go_simp
          exact k9 _ _ (Chg.refl _ _) rfl
        refine Obs.cons none (by kernel_rfl) ?_ ?_
        · refine Ob.plain fun a w hR hk K k9 => ?_
          obtain ⟨_, e14, rfl⟩ := hk 14 (by decide)
          clear hk
          obtain ⟨HA, HB⟩ := HX.out
          obtain ⟨a0, a1, a2, a3, a4, a5, a6, a7, a8⟩ := HB.keep hR id
          clear HA HB
          go_simp
          exact k9 _ _ (Chg.refl _ _) rfl
        refine Obs.cons none (by kernel_rfl) ?_ ?_
        · refine Ob.plain fun a w hR hk K k9 => ?_
          obtain ⟨_, e11, rfl⟩ := hk 11 (by decide)
          obtain ⟨_, e15, rfl⟩ := hk 15 (by decide)
          clear hk
          clear HX
          go_simp
          simp only [run_eqgC, run_eqlC, Result.andThen]
          go_simp
          exact k9 _ _ (Chg.refl _ _) rfl
        exact Obs.nil
      case fin =>
        intro vals w9 hc9 hv
        have h6 : vals 16 = .bool (eqC c q) := hv 16 (by decide)
        have h5 : vals 13 = .int .i64 k := hv 13 (by decide)
        simp only [putAll, List.setIfInBounds_toArray, List.set_cons_zero, List.set_cons_succ, h6]
        have HC9 := hid (HC.out.2.trans hc9 (fun _ _ h => h))
        have HW := hid HC.out.1
        clear hc9 hv h6 h5 HC HX
        cases hq : eqC c q with
        | true =>
          have hh : Hid (hasC ls c = true) := hid (by rw [eqC_true.1 hq]; simpa [hasC] using hmem.out)
          clear hq hmem HFT
          go_wp2
          go_ret
          exact ⟨⟨_, rfl, by rw [hh.out]; simp⟩, HW.out.trans HC9.out (fun _ _ h => h)⟩
        | false =>
          have hx : Hid (hasC (ls.take (k + 1)) c = false) := hid (HFT.out (fun e => by rw [e] at hq; rw [eqC_true.2 rfl] at hq; cases hq))
          clear hq hmem HFT
          go_wp2
          go_roundw
          case rel => exact ⟨k + 1, by omega, by go_num, hx, HC9.out⟩
          case measure => simp [intOf]; omega
    · have hk2 : k = ls.length := by omega
      have hh : Hid (hasC ls c = false) := by have := hf.out; rwa [List.take_of_length_le (by omega)] at this
      have HC := hid (hc.trans hc1 (fun _ _ h => h))
      clear h' hc hc1 hA hA1
      go_wp2
      go_ret
      exact ⟨⟨-1, rfl, by rw [hh.out]; rfl⟩, HC.out⟩

set_option maxRecDepth 100000 in
theorem pccontains {D : Nat → Prop} (ao : Option Addr) (cp : Nat) (ls : List CredB) (c : CredB) (w : World) (hn : ls.length ≤ 4194304) (h : CredsAt D w ao ls) :
    Calls Try.prog 68 #[.slice ao ls.length cp, credV c] w fun e w' => e = .returned (.bool (hasC ls c)) ∧ Chg (fun _ => False) w w' := by
  have hc : Chg (fun _ => False) w (w.alloc (.cells (credBox c) 25)) := (Chg.refl _ w).alloc _
  have hi := pcindex ao cp ls c (w.alloc (.cells (credBox c) 25)) hn (h.keep hc (fun _ _ => id))
  have HH := hid (And.intro hi hc)
  clear hi hc h
  show Calls Try.prog 68 #[.slice ao ls.length cp, .agg #[.int .i64 c.kind, .string ⟨c.head.1.toArray⟩, .string ⟨c.head.2.toArray⟩, .string ⟨c.who.toArray⟩, .string ⟨c.b.1.toArray⟩, .string ⟨c.b.2.toArray⟩, .string ⟨c.c.1.toArray⟩, .string ⟨c.c.2.toArray⟩, .string ⟨c.w2.toArray⟩]] w _
  go_enter Try.func68, Try.ntmps68
  go_wp2_with fail
  obtain ⟨hi, hc⟩ := HH.out
  refine hi.mono ?_
  rintro e w' ⟨⟨i, rfl, hi2⟩, hc2⟩
  have HC := hid (hc.trans hc2 (fun _ _ h => h))
  have H2 := hid hi2
  clear HH hi hc hc2 hi2
  go_wp2
  go_ret
  exact ⟨congrArg (fun b => Ending.returned (.bool b)) H2.out, HC.out⟩

set_option maxRecDepth 100000 in
theorem pchas {D : Nat → Prop} (ao : Option Addr) (cp : Nat) (ls : List CredB) (c : CredB) (w : World) (hn : ls.length ≤ 4194304) (_ : credShort c 1048576) (h : CredsAt D w ao ls) :
    Calls Try.prog 30 #[.slice ao ls.length cp, credV c] w fun e w' => e = .returned (.bool (hasC ls c)) ∧ Chg (fun _ => False) w w' := by
  have hc : Chg (fun _ => False) w (w.alloc (.cells (credBox c) 25)) := (Chg.refl _ w).alloc _
  have hi := pccontains ao cp ls c (w.alloc (.cells (credBox c) 25)) hn (h.keep hc (fun _ _ => id))
  have HH := hid (And.intro hi hc)
  clear hi hc h
  show Calls Try.prog 30 #[.slice ao ls.length cp, .agg #[.int .i64 c.kind, .string ⟨c.head.1.toArray⟩, .string ⟨c.head.2.toArray⟩, .string ⟨c.who.toArray⟩, .string ⟨c.b.1.toArray⟩, .string ⟨c.b.2.toArray⟩, .string ⟨c.c.1.toArray⟩, .string ⟨c.c.2.toArray⟩, .string ⟨c.w2.toArray⟩]] w _
  go_enter Try.func30, Try.ntmps30
  go_wp2_with fail
  obtain ⟨hi, hc⟩ := HH.out
  refine hi.mono ?_
  rintro e w' ⟨rfl, hc2⟩
  have HC := hid (hc.trans hc2 (fun _ _ h => h))
  clear HH hi hc hc2
  go_wp2
  go_ret
  exact ⟨rfl, HC.out⟩
end Go.Proofs.Ytjohiggfjpfbeaa

/- The contract of the document's Less of layer 4. -/
namespace Go.Proofs.Ytjohiggfjpfbeaa
open Go.RowKit

theorem less_ref (a b : RoleB) (w : World) :
    Calls Try.prog 36 #[roleV a, roleV b] w fun e w' => e = .returned (.bool (ltR a b)) ∧ Chg (fun _ => False) w w' := by
  obtain ⟨o, x⟩ := a
  obtain ⟨p, y⟩ := b
  have hc : Chg (fun _ => False) w ((w.alloc (.cells #[.string ⟨o.toArray⟩, .string ⟨x.toArray⟩] 23)).alloc (.cells #[.string ⟨p.toArray⟩, .string ⟨y.toArray⟩] 23)) := ((Chg.refl _ w).alloc _).alloc _
  have HC := hid hc
  clear hc
  show Calls Try.prog 36 #[.agg #[.string ⟨o.toArray⟩, .string ⟨x.toArray⟩], .agg #[.string ⟨p.toArray⟩, .string ⟨y.toArray⟩]] w _
  cases h1 : Op.bytesLess o p with
  | true =>
    have hh : Hid (ltR (o, x) (p, y) = true) := hid (by rw [ltR_def]; simp [ltS, h1])
    go_enter Try.func36, Try.ntmps36
    go_wp2
    go_ret
    exact ⟨by rw [hh.out]; rfl, HC.out⟩
  | false =>
    by_cases h2 : o = p
    · subst h2
      have e1 : (o == o) = true := by simp
      have hh : Hid (ltR (o, x) (o, y) = Op.bytesLess x y) := hid (by rw [ltR_def]; simp [ltS, h1])
      go_enter Try.func36, Try.ntmps36
      go_wp2
      go_ret
      exact ⟨by rw [hh.out]; rfl, HC.out⟩
    · have e1 : (o == p) = false := by simpa using h2
      have hh : Hid (ltR (o, x) (p, y) = false) := hid (by rw [ltR_def]; simp [ltS, h1, h2])
      clear h2
      go_enter Try.func36, Try.ntmps36
      go_wp2
      go_ret
      exact ⟨by rw [hh.out]; rfl, HC.out⟩
end Go.Proofs.Ytjohiggfjpfbeaa

/- The contract of the document's Right of layer 5. -/
namespace Go.Proofs.Ytjohiggfjpfbeaa
open Go.RowKit

theorem isCred_not1 {c : CredB} (k : c.kind ≠ 1) (h : (c.who == [] && isRole c.b) = false) : isCred c = false := by
  unfold isCred
  rw [if_neg k, h]
  simp

set_option maxRecDepth 100000 in
set_option maxHeartbeats 2000000 in
theorem cright_ref (c : CredB) (w : World) (hs : credShort c 9223372036854775807) :
    Calls Try.prog 9 #[credV c] w fun e w' => e = .returned (.bool (isCred c)) ∧ Chg (fun _ => False) w w' := by
  have hc0 : Chg (fun _ => False) w ((w.alloc (.cells (credBox c) 25)).alloc (.cells #[.string ⟨#[]⟩, .string ⟨#[]⟩] 23)) := ((Chg.refl _ w).alloc _).alloc _
  have hA := blk_keep (heap_alloc_new w (.cells (credBox c) 25)) ((Chg.refl (fun _ => False) _).alloc (.cells #[.string ⟨#[]⟩, .string ⟨#[]⟩] 23)) id
  have hN := heap_alloc_new (w.alloc (.cells (credBox c) 25)) (.cells #[.string ⟨#[]⟩, .string ⟨#[]⟩] 23)
  rw [show (w.alloc (.cells (credBox c) 25)).heap.size = w.heap.size + 1 by simp] at hN
  obtain ⟨k, ⟨ho, hw⟩, who, ⟨bo, bw⟩, ⟨co, cw⟩, w2⟩ := c
  obtain ⟨s1, s2, s3, s4, s5, s6, s7, s8⟩ := hs
  dsimp only at s1 s2 s3 s4 s5 s6 s7 s8
  have hd := cred_at_blk hA
  have n0 := cell_blk hN 0
  have n1 := cell_blk hN 1
  simp only [List.getElem?_toArray, List.getElem?_cons_zero, List.getElem?_cons_succ] at n0 n1
  obtain ⟨a0, a1, a2, a3, a4, a5, a6, a7, a8⟩ := hd
  simp only [Nat.zero_add] at a0 a1 a2 a3 a4 a5 a6 a7 a8
  show Calls Try.prog 9 #[.agg #[.int .i64 k, .string ⟨ho.toArray⟩, .string ⟨hw.toArray⟩, .string ⟨who.toArray⟩, .string ⟨bo.toArray⟩, .string ⟨bw.toArray⟩, .string ⟨co.toArray⟩, .string ⟨cw.toArray⟩, .string ⟨w2.toArray⟩]] w _
  clear hA hN
  cases hr : isRole (ho, hw) with
  | false =>
    have hh : Hid (isCred ⟨k, (ho, hw), who, (bo, bw), (co, cw), w2⟩ = false) := hid (by simp [isCred, hr])
    go_enter Try.func9, Try.ntmps9
    go_wp2_with fail
    refine (rright_ref (ho, hw) _ s1 s2).mono ?_
    rintro e w1 ⟨rfl, hc1⟩
    rw [hr]
    have HC := hid (hc0.trans hc1 (fun _ _ h => h))
    clear hc0 hc1
    go_wp2
    go_ret
    exact ⟨by rw [hh.out]; rfl, HC.out⟩
  | true =>
    go_enter Try.func9, Try.ntmps9
    go_wp2_with fail
    refine (rright_ref (ho, hw) _ s1 s2).mono ?_
    rintro e w1 ⟨rfl, hc1⟩
    rw [hr]
    have hcw := hc0.trans hc1 (fun _ _ h => h)
    replace a0 := hc1.cell a0 id
    replace a1 := hc1.cell a1 id
    replace a2 := hc1.cell a2 id
    replace a3 := hc1.cell a3 id
    replace a4 := hc1.cell a4 id
    replace a5 := hc1.cell a5 id
    replace a6 := hc1.cell a6 id
    replace a7 := hc1.cell a7 id
    replace a8 := hc1.cell a8 id
    replace n0 := hc1.cell n0 id
    replace n1 := hc1.cell n1 id
    have HC := hid hcw
    clear hc0 hc1 hcw
    by_cases k1 : k = 1
    · subst k1
      have hh : Hid (isCred ⟨1, (ho, hw), who, (bo, bw), (co, cw), w2⟩ = (isName who && ((bo == [] && bw == []) && ((co == [] && cw == []) && w2 == [])))) := hid (by
        simp only [isCred, hr, if_true, Bool.true_and]
        rfl)
      go_wp2_with fail
      refine (refright_any who _ s3).mono ?_
      rintro e w2 ⟨rfl, rfl⟩
      cases hx : isName who <;> clear s1 s2 s3 s4 s5 s6 s7 s8 <;> go_wp2 <;> (go_ret; refine ⟨congrArg (fun b => Ending.returned (.bool b)) ?_, HC.out⟩; rw [hh.out, hx]; simp [*])
    · by_cases hw0 : who = []
      · subst hw0
        have z1 : (k == 1) = false := beq_eq_false_iff_ne.2 k1
        go_wp2_with fail
        refine (rright_ref (bo, bw) _ s4 s5).mono ?_
        rintro e w3 ⟨rfl, hc3⟩
        replace a0 := hc3.cell a0 id
        replace a1 := hc3.cell a1 id
        replace a4 := hc3.cell a4 id
        replace a5 := hc3.cell a5 id
        replace a6 := hc3.cell a6 id
        replace a7 := hc3.cell a7 id
        replace a8 := hc3.cell a8 id
        replace n0 := hc3.cell n0 id
        replace n1 := hc3.cell n1 id
        have HC2 := hid (HC.out.trans hc3 (fun _ _ h => h))
        clear HC hc3 a2 a3
        cases hb : isRole (bo, bw) with
        | false =>
          have hh : Hid (isCred ⟨k, (ho, hw), [], (bo, bw), (co, cw), w2⟩ = false) := hid (isCred_not1 k1 (by simp [hb]))
          go_wp2
          go_ret
          exact ⟨by rw [hh.out]; rfl, HC2.out⟩
        | true =>
          have hh : Hid (isCred ⟨k, (ho, hw), [], (bo, bw), (co, cw), w2⟩ = (if k = 2 then (co == [] && cw == []) && w2 == [] else if k = 3 then (co == [] && cw == []) && (bo == ho && isName w2) else k == 4 && (w2 == [] && (isRole (co, cw) && ltR (bo, bw) (co, cw))))) := hid (by
            simp only [isCred, hr, hb, if_neg k1, Bool.true_and, Bool.and_true]
            rfl)
          by_cases k2 : k = 2
          · subst k2
            clear s1 s2 s3 s4 s5 s6 s7 s8
            go_wp2 <;> (go_ret; refine ⟨congrArg (fun b => Ending.returned (.bool b)) ?_, HC2.out⟩; rw [hh.out]; simp [*])
          · have z2 : (k == 2) = false := beq_eq_false_iff_ne.2 k2
            by_cases k3 : k = 3
            · subst k3
              clear s1 s2 s3 s4 s5 s6 s7
              go_wp2_with fail
              · refine (refright_any w2 _ s8).mono ?_
                rintro e w4 ⟨rfl, rfl⟩
                generalize isName w2 = nw at *
                go_wp2
                go_ret
                exact ⟨congrArg (fun b => Ending.returned (.bool b)) (by rw [hh.out]; simp [*]), HC2.out⟩
              all_goals (go_ret; exact ⟨congrArg (fun b => Ending.returned (.bool b)) (by rw [hh.out]; simp [*]), HC2.out⟩)
            · have z3 : (k == 3) = false := beq_eq_false_iff_ne.2 k3
              by_cases k4 : k = 4
              · subst k4
                by_cases hz : w2 = []
                · subst hz
                  go_wp2_with fail
                  refine (rright_ref (co, cw) _ s6 s7).mono ?_
                  rintro e w4 ⟨rfl, hc4⟩
                  replace a4 := hc4.cell a4 id
                  replace a5 := hc4.cell a5 id
                  replace a6 := hc4.cell a6 id
                  replace a7 := hc4.cell a7 id
                  have HC3 := hid (HC2.out.trans hc4 (fun _ _ h => h))
                  clear HC2 hc4 a0 a1 a8 n0 n1
                  cases hcr : isRole (co, cw) with
                  | false =>
                    rw [hcr] at hh
                    go_wp2
                    go_ret
                    exact ⟨by rw [hh.out]; rfl, HC3.out⟩
                  | true =>
                    rw [hcr] at hh
                    go_wp2_with fail
                    refine (less_ref (bo, bw) (co, cw) _).mono ?_
                    rintro e w5 ⟨rfl, hc5⟩
                    have HC4 := hid (HC3.out.trans hc5 (fun _ _ h => h))
                    clear HC3 hc5
                    generalize ltR (bo, bw) (co, cw) = lt at *
                    go_wp2
                    go_ret
                    exact ⟨by rw [hh.out]; rfl, HC4.out⟩
                · clear s1 s2 s3 s4 s5 s6 s7 s8
                  go_wp2
                  go_ret
                  exact ⟨congrArg (fun b => Ending.returned (.bool b)) (by rw [hh.out]; simp [*]), HC2.out⟩
              · have z4 : (k == 4) = false := beq_eq_false_iff_ne.2 k4
                clear s1 s2 s3 s4 s5 s6 s7 s8
                go_wp2
                go_ret
                exact ⟨congrArg (fun b => Ending.returned (.bool b)) (by rw [hh.out]; simp [*]), HC2.out⟩
      · have hh : Hid (isCred ⟨k, (ho, hw), who, (bo, bw), (co, cw), w2⟩ = false) := hid (isCred_not1 k1 (by simp [hw0]))
        have z1 : (k == 1) = false := beq_eq_false_iff_ne.2 k1
        have z0 : (who != []) = true := by simp [hw0]
        clear s1 s2 s3 s4 s5 s6 s7 s8
        go_wp2
        go_ret
        exact ⟨by rw [hh.out]; rfl, HC.out⟩
end Go.Proofs.Ytjohiggfjpfbeaa

/- The contract of the document's Roles of layer 5. -/
namespace Go.Proofs.Ytjohiggfjpfbeaa
open Go.RowKit

/-- The roles that a credential speaks of. -/
def credRoles (c : CredB) : List RoleB := if isCred c then (if c.kind = 1 then [c.head] else if c.kind = 4 then [c.head, c.b, c.c] else [c.head, c.b]) else []

def RolesPost (ls : List RoleB) (w : World) (e : Ending) (w' : World) : Prop :=
  ∃ ao cap, e = .returned (.slice ao ls.length cap) ∧ RolesAt (fun k => w.heap.size ≤ k) w' ao ls ∧ Chg (fun _ => False) w w'

theorem RolesPost.mk {ls : List RoleB} {w w0 w' : World} {cs : Array Value} (hcs : cs = (roleRow ls).toArray) (hc : Chg (fun _ => False) w w0) (hb : ∀ x ∈ ls, x.1.length ≤ 9223372036854775807 ∧ x.2.length ≤ 9223372036854775807)
    (hw : w' = w0.alloc (.cells cs 23)) (n : Nat) (hn : n = ls.length) (cap : Nat) : RolesPost ls w (.returned (.slice (some ⟨w0.heap.size, 0, none⟩) n cap)) w' := by
  subst hcs hw hn
  refine ⟨_, _, rfl, (roles_lit ls w0 (0, 0) hb).mono fun k hk => ?_, hc.alloc _⟩
  subst hk
  exact hc.size

set_option maxRecDepth 100000 in
set_option maxHeartbeats 1000000 in
theorem croles_ref (c : CredB) (w : World) (hs : credShort c 9223372036854775807) :
    Calls Try.prog 19 #[credV c] w (RolesPost (credRoles c) w) := by
  have hc0 : Chg (fun _ => False) w (w.alloc (.cells (credBox c) 25)) := (Chg.refl _ w).alloc _
  have hA := heap_alloc_new w (.cells (credBox c) 25)
  have hr := fun w1 => cright_ref c w1 hs
  cases hi : isCred c with
  | false =>
    have hB : Hid (credRoles c = []) := hid (by simp [credRoles, hi])
    rw [hi] at hr
    obtain ⟨k, ⟨ho, hw⟩, who, ⟨bo, bw⟩, ⟨co, cw⟩, w2⟩ := c
    show Calls Try.prog 19 #[.agg #[.int .i64 k, .string ⟨ho.toArray⟩, .string ⟨hw.toArray⟩, .string ⟨who.toArray⟩, .string ⟨bo.toArray⟩, .string ⟨bw.toArray⟩, .string ⟨co.toArray⟩, .string ⟨cw.toArray⟩, .string ⟨w2.toArray⟩]] w _
    clear hA
    have HH := hid (And.intro hr hc0)
    clear hr hc0
    go_enter Try.func19, Try.ntmps19
    go_wp2_with fail
    refine (HH.out.1 _).mono ?_
    rintro e w1 ⟨rfl, hc1⟩
    have HC := hid (HH.out.2.trans hc1 (fun _ _ h => h))
    clear HH hc1
    go_wp2
    go_ret
    exact ⟨none, 0, by rw [hB.out]; rfl, by rw [hB.out]; exact RolesAt.nil _ _ _, HC.out⟩
  | true =>
    rw [hi] at hr
    have hB : Hid (credRoles c = if c.kind = 1 then [c.head] else if c.kind = 4 then [c.head, c.b, c.c] else [c.head, c.b]) := hid (by simp [credRoles, hi])
    clear hi
    obtain ⟨k, ⟨ho, hw⟩, who, ⟨bo, bw⟩, ⟨co, cw⟩, w2⟩ := c
    obtain ⟨s1, s2, s3, s4, s5, s6, s7, s8⟩ := hs
    dsimp only at s1 s2 s3 s4 s5 s6 s7 s8 hB
    show Calls Try.prog 19 #[.agg #[.int .i64 k, .string ⟨ho.toArray⟩, .string ⟨hw.toArray⟩, .string ⟨who.toArray⟩, .string ⟨bo.toArray⟩, .string ⟨bw.toArray⟩, .string ⟨co.toArray⟩, .string ⟨cw.toArray⟩, .string ⟨w2.toArray⟩]] w _
    have HH := hid (And.intro hr (And.intro hc0 hA))
    clear hr hc0 hA
    go_enter Try.func19, Try.ntmps19
    go_wp2_with fail
    obtain ⟨hr, hc0, hA⟩ := HH.out
    refine (hr _).mono ?_
    rintro e w1 ⟨rfl, hc1⟩
    obtain ⟨a0, a1, a2, a3, a4, a5, a6, a7, a8⟩ := cred_at_blk (blk_keep hA hc1 id)
    simp only [Nat.zero_add] at a0 a1 a2 a3 a4 a5 a6 a7 a8
    have HC := hid (hc0.trans hc1 (fun _ _ h => h))
    clear HH hr hc0 hA hc1 a3 a8
    by_cases k1 : k = 1
    · subst k1
      rw [if_pos rfl] at hB
      go_wp2
      go_ret
      rw [hB.out]
      exact RolesPost.mk rfl HC.out (by simp; exact ⟨s1, s2⟩) rfl _ rfl _
    · have z1 : (k == 1) = false := beq_eq_false_iff_ne.2 k1
      rw [if_neg k1] at hB
      by_cases k4 : k = 4
      · subst k4
        rw [if_pos rfl] at hB
        go_wp2
        go_ret
        rw [hB.out]
        exact RolesPost.mk rfl HC.out (by simp; exact ⟨⟨s1, s2⟩, ⟨s4, s5⟩, s6, s7⟩) rfl _ rfl _
      · have z4 : (k == 4) = false := beq_eq_false_iff_ne.2 k4
        rw [if_neg k4] at hB
        go_wp2
        go_ret
        rw [hB.out]
        exact RolesPost.mk rfl HC.out (by simp; exact ⟨⟨s1, s2⟩, s4, s5⟩) rfl _ rfl _
end Go.Proofs.Ytjohiggfjpfbeaa

/- cred.Roles: the program's contract. -/
namespace Go.Proofs.Ytjohiggfjpfbeaa
open Go.RowKit

theorem ownR_new (w : World) (B : Nat) (hB : B ≤ w.heap.size) (r : RoleB) : OwnR B (w.alloc (.cells #[.string ⟨r.1.toArray⟩, .string ⟨r.2.toArray⟩] 23)) (.slice (some ⟨w.heap.size, 0, none⟩) 1 1) [r] :=
  ⟨rfl, .inr ⟨w.heap.size, 1, _, rfl, hB, heap_alloc_new w _, Nat.le_refl _, by unfold maxLen; omega, rfl, rfl⟩⟩

theorem role_cells_two (w : World) (x y : RoleB) (j : Nat) (u : Value) (h : (roleCells x ++ roleCells y)[j]? = some u) : (w.alloc (.cells #[.string ⟨x.1.toArray⟩, .string ⟨x.2.toArray⟩, .string ⟨y.1.toArray⟩, .string ⟨y.2.toArray⟩] 23)).cell? ((⟨w.heap.size, 0, none⟩ : Addr).add j) = some u := by
  rw [add_off, cell_blk (heap_alloc_new w _), Nat.zero_add]
  match j, h with
  | 0, h => exact h
  | 1, h => exact h
  | 2, h => exact h
  | 3, h => exact h

theorem OwnR.post {B : Nat} {w w' : World} {v : Value} {ls : List RoleB} (h : OwnR B w' v ls) (hB : B = w.heap.size) (hc : Chg (fun _ => False) w w') (hb : ∀ x ∈ ls, x.1.length ≤ 9223372036854775807 ∧ x.2.length ≤ 9223372036854775807) : RolesPost ls w (.returned v) w' := by
  subst hB
  obtain ⟨ao, cap, rfl, hr, _⟩ := h.roles hb
  exact ⟨ao, cap, rfl, hr.mono (fun _ h => h.1), hc⟩

set_option maxRecDepth 100000 in
set_option maxHeartbeats 2000000 in
theorem pcroles1 (h1 h2 who b1 b2 c1 c2 w2 : List UInt8) (w : World) (hr : isCred ⟨1, (h1, h2), who, (b1, b2), (c1, c2), w2⟩ = true) :
    Calls Try.prog 18 #[credV ⟨1, (h1, h2), who, (b1, b2), (c1, c2), w2⟩] w (RolesPost [(h1, h2)] w) := by
  obtain ⟨i0, hi, hz0, hz1, hz2⟩ := info_parts Try.info23
  have hshort := isCred_short hr
  obtain ⟨s1, s2, s3, s4, s5, s6, s7, s8⟩ := hshort
  dsimp only at s1 s2 s3 s4 s5 s6 s7 s8
  have hA1 := heap_alloc_new w (.cells (credBox ⟨1, (h1, h2), who, (b1, b2), (c1, c2), w2⟩) 25)
  have hc01 : Chg (fun _ => False) w (w.alloc (.cells (credBox ⟨1, (h1, h2), who, (b1, b2), (c1, c2), w2⟩) 25)) := (Chg.refl _ w).alloc _
  have hrt := pcright ⟨1, (h1, h2), who, (b1, b2), (c1, c2), w2⟩ (w.alloc (.cells (credBox ⟨1, (h1, h2), who, (b1, b2), (c1, c2), w2⟩) 25)) ((isCred_short hr).mono' (by decide))
  rw [hr] at hrt
  have HH := hid (And.intro hrt (And.intro hA1 hc01))
  clear hrt hA1 hc01 hr
  show Calls Try.prog 18 #[.agg #[.int .i64 1, .string ⟨h1.toArray⟩, .string ⟨h2.toArray⟩, .string ⟨who.toArray⟩, .string ⟨b1.toArray⟩, .string ⟨b2.toArray⟩, .string ⟨c1.toArray⟩, .string ⟨c2.toArray⟩, .string ⟨w2.toArray⟩]] w _
  go_enter Try.func18, Try.ntmps18
  go_wp2_with fail
  obtain ⟨hrt, hA1, hc01⟩ := HH.out
  clear HH
  refine hrt.mono ?_
  rintro e v2 ⟨rfl, hc2⟩
  have hA2 := blk_keep hA1 hc2 id
  have hcw := hc01.trans hc2 (fun _ _ h => h)
  clear hrt hA1 hc01 hc2
  generalize hAz : w.heap.size = A at *
  have HAz := hid hAz
  clear hAz
  obtain ⟨a0, a1, a2, a3, a4, a5, a6, a7, a8⟩ := cred_at_blk hA2
  simp only [Nat.zero_add] at a0 a1 a2 a3 a4 a5 a6 a7 a8
  have hle : A ≤ v2.heap.size := by have := hcw.size; rw [HAz.out] at this; exact this
  have hltA : A < v2.heap.size := lt_blk hA2
  have hown := ownR_new v2 A hle (h1, h2)
  have hcn : Chg (fun _ => False) w (v2.alloc (.cells #[.string ⟨h1.toArray⟩, .string ⟨h2.toArray⟩] 23)) := hcw.alloc _
  have hsz : (v2.alloc (.cells #[.string ⟨h1.toArray⟩, .string ⟨h2.toArray⟩] 23)).heap.size = v2.heap.size + 1 := by simp
  have HK := hid (And.intro hown (And.intro hcn (And.intro hsz hle)))
  clear hA2 hcw hown hcn hsz hle
  go_wp2
  go_ret
  obtain ⟨hown, hcn, hsz, hle⟩ := HK.out
  exact hown.post HAz.out.symm hcn (by simp; omega)

set_option maxRecDepth 100000 in
set_option maxHeartbeats 2000000 in
theorem pcroles2 (h1 h2 who b1 b2 c1 c2 w2 : List UInt8) (w : World) (hr : isCred ⟨2, (h1, h2), who, (b1, b2), (c1, c2), w2⟩ = true) :
    Calls Try.prog 18 #[credV ⟨2, (h1, h2), who, (b1, b2), (c1, c2), w2⟩] w (RolesPost [(h1, h2), (b1, b2)] w) := by
  obtain ⟨i0, hi, hz0, hz1, hz2⟩ := info_parts Try.info23
  have hshort := isCred_short hr
  obtain ⟨s1, s2, s3, s4, s5, s6, s7, s8⟩ := hshort
  dsimp only at s1 s2 s3 s4 s5 s6 s7 s8
  have hA1 := heap_alloc_new w (.cells (credBox ⟨2, (h1, h2), who, (b1, b2), (c1, c2), w2⟩) 25)
  have hc01 : Chg (fun _ => False) w (w.alloc (.cells (credBox ⟨2, (h1, h2), who, (b1, b2), (c1, c2), w2⟩) 25)) := (Chg.refl _ w).alloc _
  have hrt := pcright ⟨2, (h1, h2), who, (b1, b2), (c1, c2), w2⟩ (w.alloc (.cells (credBox ⟨2, (h1, h2), who, (b1, b2), (c1, c2), w2⟩) 25)) ((isCred_short hr).mono' (by decide))
  rw [hr] at hrt
  have HH := hid (And.intro hrt (And.intro hA1 hc01))
  clear hrt hA1 hc01 hr
  show Calls Try.prog 18 #[.agg #[.int .i64 2, .string ⟨h1.toArray⟩, .string ⟨h2.toArray⟩, .string ⟨who.toArray⟩, .string ⟨b1.toArray⟩, .string ⟨b2.toArray⟩, .string ⟨c1.toArray⟩, .string ⟨c2.toArray⟩, .string ⟨w2.toArray⟩]] w _
  go_enter Try.func18, Try.ntmps18
  go_wp2_with fail
  obtain ⟨hrt, hA1, hc01⟩ := HH.out
  clear HH
  refine hrt.mono ?_
  rintro e v2 ⟨rfl, hc2⟩
  have hA2 := blk_keep hA1 hc2 id
  have hcw := hc01.trans hc2 (fun _ _ h => h)
  clear hrt hA1 hc01 hc2
  generalize hAz : w.heap.size = A at *
  have HAz := hid hAz
  clear hAz
  obtain ⟨a0, a1, a2, a3, a4, a5, a6, a7, a8⟩ := cred_at_blk hA2
  simp only [Nat.zero_add] at a0 a1 a2 a3 a4 a5 a6 a7 a8
  have hle : A ≤ v2.heap.size := by have := hcw.size; rw [HAz.out] at this; exact this
  have hltA : A < v2.heap.size := lt_blk hA2
  have hown := ownR_new v2 A hle (h1, h2)
  have hcn : Chg (fun _ => False) w (v2.alloc (.cells #[.string ⟨h1.toArray⟩, .string ⟨h2.toArray⟩] 23)) := hcw.alloc _
  have hsz : (v2.alloc (.cells #[.string ⟨h1.toArray⟩, .string ⟨h2.toArray⟩] 23)).heap.size = v2.heap.size + 1 := by simp
  have HK := hid (And.intro hown (And.intro hcn (And.intro hsz hle)))
  clear hA2 hcw hown hcn hsz hle
  go_wp2_with (at_builtin; refine wpList_append_own_at _ rfl (.tmp 15) (.tmp 18) 35 rfl A 23 i0 (.agg #[.string ⟨#[]⟩, .string ⟨#[]⟩]) 2 32 Try.underlying35 hi hz0 hz1 hz2 rfl (by decide) _ _ _ rfl (World.ownsRow.alloc HK.out.1 _) ⟨v2.heap.size + 1, 0, none⟩ 1 1 (roleCells (b1, b2)) rfl rfl ?c1 ?c2 ?c3 ?c4 ?c5 ?_)
  case c1 => exact fun j u hj => by have := role_cells_new (v2.alloc (.cells #[.string ⟨h1.toArray⟩, .string ⟨h2.toArray⟩] 23)) (b1, b2) j u hj; rw [HK.out.2.2.1] at this; exact this
  case c2 => intro u hu; simp only [roleCells, List.mem_cons, List.not_mem_nil, or_false] at hu; rcases hu with rfl | rfl <;> rfl
  case c3 => unfold maxLen; simp
  case c4 => simp
  case c5 => simp; omega
  intro v' w3 hown hgrow _ hat
  have ho2 : OwnR A w3 v' ([(h1, h2)] ++ [(b1, b2)]) := by
    unfold OwnR
    exact hown
  obtain ⟨hown0, hcn, hsz, hle⟩ := HK.out
  have hc2 : Chg (fun _ => False) w w3 := (hcn.alloc _).grown hgrow (fun k e hk => by cases e; rw [HAz.out] at hk; exact absurd hk (by show ¬ v2.heap.size < A; omega))
  have HF := hid (And.intro ho2 hc2)
  clear hown hgrow hat ho2 hc2 hown0 hcn hsz hle HK a0 a1 a2 a3 a4 a5 a6 a7 a8
  go_wp2
  go_ret
  exact HF.out.1.post HAz.out.symm HF.out.2 (by simp; omega)

set_option maxRecDepth 100000 in
set_option maxHeartbeats 2000000 in
theorem pcroles3 (h1 h2 who b1 b2 c1 c2 w2 : List UInt8) (w : World) (hr : isCred ⟨3, (h1, h2), who, (b1, b2), (c1, c2), w2⟩ = true) :
    Calls Try.prog 18 #[credV ⟨3, (h1, h2), who, (b1, b2), (c1, c2), w2⟩] w (RolesPost [(h1, h2), (b1, b2)] w) := by
  obtain ⟨i0, hi, hz0, hz1, hz2⟩ := info_parts Try.info23
  have hshort := isCred_short hr
  obtain ⟨s1, s2, s3, s4, s5, s6, s7, s8⟩ := hshort
  dsimp only at s1 s2 s3 s4 s5 s6 s7 s8
  have hA1 := heap_alloc_new w (.cells (credBox ⟨3, (h1, h2), who, (b1, b2), (c1, c2), w2⟩) 25)
  have hc01 : Chg (fun _ => False) w (w.alloc (.cells (credBox ⟨3, (h1, h2), who, (b1, b2), (c1, c2), w2⟩) 25)) := (Chg.refl _ w).alloc _
  have hrt := pcright ⟨3, (h1, h2), who, (b1, b2), (c1, c2), w2⟩ (w.alloc (.cells (credBox ⟨3, (h1, h2), who, (b1, b2), (c1, c2), w2⟩) 25)) ((isCred_short hr).mono' (by decide))
  rw [hr] at hrt
  have HH := hid (And.intro hrt (And.intro hA1 hc01))
  clear hrt hA1 hc01 hr
  show Calls Try.prog 18 #[.agg #[.int .i64 3, .string ⟨h1.toArray⟩, .string ⟨h2.toArray⟩, .string ⟨who.toArray⟩, .string ⟨b1.toArray⟩, .string ⟨b2.toArray⟩, .string ⟨c1.toArray⟩, .string ⟨c2.toArray⟩, .string ⟨w2.toArray⟩]] w _
  go_enter Try.func18, Try.ntmps18
  go_wp2_with fail
  obtain ⟨hrt, hA1, hc01⟩ := HH.out
  clear HH
  refine hrt.mono ?_
  rintro e v2 ⟨rfl, hc2⟩
  have hA2 := blk_keep hA1 hc2 id
  have hcw := hc01.trans hc2 (fun _ _ h => h)
  clear hrt hA1 hc01 hc2
  generalize hAz : w.heap.size = A at *
  have HAz := hid hAz
  clear hAz
  obtain ⟨a0, a1, a2, a3, a4, a5, a6, a7, a8⟩ := cred_at_blk hA2
  simp only [Nat.zero_add] at a0 a1 a2 a3 a4 a5 a6 a7 a8
  have hle : A ≤ v2.heap.size := by have := hcw.size; rw [HAz.out] at this; exact this
  have hltA : A < v2.heap.size := lt_blk hA2
  have hown := ownR_new v2 A hle (h1, h2)
  have hcn : Chg (fun _ => False) w (v2.alloc (.cells #[.string ⟨h1.toArray⟩, .string ⟨h2.toArray⟩] 23)) := hcw.alloc _
  have hsz : (v2.alloc (.cells #[.string ⟨h1.toArray⟩, .string ⟨h2.toArray⟩] 23)).heap.size = v2.heap.size + 1 := by simp
  have HK := hid (And.intro hown (And.intro hcn (And.intro hsz hle)))
  clear hA2 hcw hown hcn hsz hle
  go_wp2_with (at_builtin; refine wpList_append_own_at _ rfl (.tmp 15) (.tmp 18) 35 rfl A 23 i0 (.agg #[.string ⟨#[]⟩, .string ⟨#[]⟩]) 2 32 Try.underlying35 hi hz0 hz1 hz2 rfl (by decide) _ _ _ rfl (World.ownsRow.alloc HK.out.1 _) ⟨v2.heap.size + 1, 0, none⟩ 1 1 (roleCells (b1, b2)) rfl rfl ?c1 ?c2 ?c3 ?c4 ?c5 ?_)
  case c1 => exact fun j u hj => by have := role_cells_new (v2.alloc (.cells #[.string ⟨h1.toArray⟩, .string ⟨h2.toArray⟩] 23)) (b1, b2) j u hj; rw [HK.out.2.2.1] at this; exact this
  case c2 => intro u hu; simp only [roleCells, List.mem_cons, List.not_mem_nil, or_false] at hu; rcases hu with rfl | rfl <;> rfl
  case c3 => unfold maxLen; simp
  case c4 => simp
  case c5 => simp; omega
  intro v' w3 hown hgrow _ hat
  have ho2 : OwnR A w3 v' ([(h1, h2)] ++ [(b1, b2)]) := by
    unfold OwnR
    exact hown
  obtain ⟨hown0, hcn, hsz, hle⟩ := HK.out
  have hc2 : Chg (fun _ => False) w w3 := (hcn.alloc _).grown hgrow (fun k e hk => by cases e; rw [HAz.out] at hk; exact absurd hk (by show ¬ v2.heap.size < A; omega))
  have HF := hid (And.intro ho2 hc2)
  clear hown hgrow hat ho2 hc2 hown0 hcn hsz hle HK a0 a1 a2 a3 a4 a5 a6 a7 a8
  go_wp2
  go_ret
  exact HF.out.1.post HAz.out.symm HF.out.2 (by simp; omega)

set_option maxRecDepth 100000 in
set_option maxHeartbeats 2000000 in
theorem pcroles4 (h1 h2 who b1 b2 c1 c2 w2 : List UInt8) (w : World) (hr : isCred ⟨4, (h1, h2), who, (b1, b2), (c1, c2), w2⟩ = true) :
    Calls Try.prog 18 #[credV ⟨4, (h1, h2), who, (b1, b2), (c1, c2), w2⟩] w (RolesPost [(h1, h2), (b1, b2), (c1, c2)] w) := by
  obtain ⟨i0, hi, hz0, hz1, hz2⟩ := info_parts Try.info23
  have hshort := isCred_short hr
  obtain ⟨s1, s2, s3, s4, s5, s6, s7, s8⟩ := hshort
  dsimp only at s1 s2 s3 s4 s5 s6 s7 s8
  have hA1 := heap_alloc_new w (.cells (credBox ⟨4, (h1, h2), who, (b1, b2), (c1, c2), w2⟩) 25)
  have hc01 : Chg (fun _ => False) w (w.alloc (.cells (credBox ⟨4, (h1, h2), who, (b1, b2), (c1, c2), w2⟩) 25)) := (Chg.refl _ w).alloc _
  have hrt := pcright ⟨4, (h1, h2), who, (b1, b2), (c1, c2), w2⟩ (w.alloc (.cells (credBox ⟨4, (h1, h2), who, (b1, b2), (c1, c2), w2⟩) 25)) ((isCred_short hr).mono' (by decide))
  rw [hr] at hrt
  have HH := hid (And.intro hrt (And.intro hA1 hc01))
  clear hrt hA1 hc01 hr
  show Calls Try.prog 18 #[.agg #[.int .i64 4, .string ⟨h1.toArray⟩, .string ⟨h2.toArray⟩, .string ⟨who.toArray⟩, .string ⟨b1.toArray⟩, .string ⟨b2.toArray⟩, .string ⟨c1.toArray⟩, .string ⟨c2.toArray⟩, .string ⟨w2.toArray⟩]] w _
  go_enter Try.func18, Try.ntmps18
  go_wp2_with fail
  obtain ⟨hrt, hA1, hc01⟩ := HH.out
  clear HH
  refine hrt.mono ?_
  rintro e v2 ⟨rfl, hc2⟩
  have hA2 := blk_keep hA1 hc2 id
  have hcw := hc01.trans hc2 (fun _ _ h => h)
  clear hrt hA1 hc01 hc2
  generalize hAz : w.heap.size = A at *
  have HAz := hid hAz
  clear hAz
  obtain ⟨a0, a1, a2, a3, a4, a5, a6, a7, a8⟩ := cred_at_blk hA2
  simp only [Nat.zero_add] at a0 a1 a2 a3 a4 a5 a6 a7 a8
  have hle : A ≤ v2.heap.size := by have := hcw.size; rw [HAz.out] at this; exact this
  have hltA : A < v2.heap.size := lt_blk hA2
  have hown := ownR_new v2 A hle (h1, h2)
  have hcn : Chg (fun _ => False) w (v2.alloc (.cells #[.string ⟨h1.toArray⟩, .string ⟨h2.toArray⟩] 23)) := hcw.alloc _
  have hsz : (v2.alloc (.cells #[.string ⟨h1.toArray⟩, .string ⟨h2.toArray⟩] 23)).heap.size = v2.heap.size + 1 := by simp
  have HK := hid (And.intro hown (And.intro hcn (And.intro hsz hle)))
  clear hA2 hcw hown hcn hsz hle
  go_wp2_with (at_builtin; refine wpList_append_own_at _ rfl (.tmp 22) (.tmp 27) 35 rfl A 23 i0 (.agg #[.string ⟨#[]⟩, .string ⟨#[]⟩]) 2 32 Try.underlying35 hi hz0 hz1 hz2 rfl (by decide) _ _ _ rfl (World.ownsRow.alloc HK.out.1 _) ⟨v2.heap.size + 1, 0, none⟩ 2 2 (roleCells (b1, b2) ++ roleCells (c1, c2)) rfl rfl ?c1 ?c2 ?c3 ?c4 ?c5 ?_)
  case c1 => exact fun j u hj => by have := role_cells_two (v2.alloc (.cells #[.string ⟨h1.toArray⟩, .string ⟨h2.toArray⟩] 23)) (b1, b2) (c1, c2) j u hj; rw [HK.out.2.2.1] at this; exact this
  case c2 => intro u hu; simp only [roleCells, List.mem_append, List.mem_cons, List.not_mem_nil, or_false] at hu; rcases hu with (rfl | rfl) | (rfl | rfl) <;> rfl
  case c3 => unfold maxLen; simp
  case c4 => simp
  case c5 => simp; omega
  intro v' w3 hown hgrow _ hat
  have ho2 : OwnR A w3 v' ([(h1, h2)] ++ [(b1, b2), (c1, c2)]) := by
    unfold OwnR
    exact hown
  obtain ⟨hown0, hcn, hsz, hle⟩ := HK.out
  have hc2 : Chg (fun _ => False) w w3 := (hcn.alloc _).grown hgrow (fun k e hk => by cases e; rw [HAz.out] at hk; exact absurd hk (by show ¬ v2.heap.size < A; omega))
  have HF := hid (And.intro ho2 hc2)
  clear hown hgrow hat ho2 hc2 hown0 hcn hsz hle HK a0 a1 a2 a3 a4 a5 a6 a7 a8
  go_wp2
  go_ret
  exact HF.out.1.post HAz.out.symm HF.out.2 (by simp; omega)

set_option maxRecDepth 100000 in
theorem pcroles_no (c : CredB) (w : World) (hs : credShort c 9223372036854775807) (hr : isCred c = false) :
    Calls Try.prog 18 #[credV c] w fun e w' => e = .returned (.slice none 0 0) ∧ Chg (fun _ => False) w w' := by
  obtain ⟨k, ⟨h1, h2⟩, who, ⟨b1, b2⟩, ⟨c1, c2⟩, w2⟩ := c
  have hcw1 : Chg (fun _ => False) w (w.alloc (.cells (credBox ⟨k, (h1, h2), who, (b1, b2), (c1, c2), w2⟩) 25)) := (Chg.refl _ w).alloc _
  have hrt := pcright ⟨k, (h1, h2), who, (b1, b2), (c1, c2), w2⟩ (w.alloc (.cells (credBox ⟨k, (h1, h2), who, (b1, b2), (c1, c2), w2⟩) 25)) hs
  rw [hr] at hrt
  have HH := hid (And.intro hrt hcw1)
  clear hrt hcw1 hr hs
  show Calls Try.prog 18 #[.agg #[.int .i64 k, .string ⟨h1.toArray⟩, .string ⟨h2.toArray⟩, .string ⟨who.toArray⟩, .string ⟨b1.toArray⟩, .string ⟨b2.toArray⟩, .string ⟨c1.toArray⟩, .string ⟨c2.toArray⟩, .string ⟨w2.toArray⟩]] w _
  go_enter Try.func18, Try.ntmps18
  go_wp2_with fail
  obtain ⟨hrt, hcw1⟩ := HH.out
  clear HH
  refine hrt.mono ?_
  rintro e w2' ⟨rfl, hc2⟩
  have HC := hid (hcw1.trans hc2 (fun _ _ h => h))
  clear hrt hcw1 hc2
  go_wp2
  go_ret
  exact ⟨rfl, HC.out⟩

theorem pcroles (c : CredB) (w : World) (hs : credShort c 9223372036854775807) :
    Calls Try.prog 18 #[credV c] w (RolesPost (credRoles c) w) := by
  cases hr : isCred c with
  | false =>
    have e : credRoles c = [] := by rw [credRoles, hr]; rfl
    rw [e]
    refine (pcroles_no c w hs hr).mono ?_
    rintro e2 w' ⟨rfl, hc⟩
    exact ⟨none, 0, rfl, RolesAt.nil _ _ _, hc⟩
  | true =>
    have hk := isCred_kind hr
    obtain ⟨k, ⟨h1, h2⟩, who, ⟨b1, b2⟩, ⟨c1, c2⟩, w2⟩ := c
    dsimp only at hk
    rcases hk with rfl | rfl | rfl | rfl
    · rw [show credRoles ⟨1, (h1, h2), who, (b1, b2), (c1, c2), w2⟩ = [(h1, h2)] from (if_pos hr).trans rfl]; exact pcroles1 h1 h2 who b1 b2 c1 c2 w2 w hr
    · rw [show credRoles ⟨2, (h1, h2), who, (b1, b2), (c1, c2), w2⟩ = [(h1, h2), (b1, b2)] from (if_pos hr).trans rfl]; exact pcroles2 h1 h2 who b1 b2 c1 c2 w2 w hr
    · rw [show credRoles ⟨3, (h1, h2), who, (b1, b2), (c1, c2), w2⟩ = [(h1, h2), (b1, b2)] from (if_pos hr).trans rfl]; exact pcroles3 h1 h2 who b1 b2 c1 c2 w2 w hr
    · rw [show credRoles ⟨4, (h1, h2), who, (b1, b2), (c1, c2), w2⟩ = [(h1, h2), (b1, b2), (c1, c2)] from (if_pos hr).trans rfl]; exact pcroles4 h1 h2 who b1 b2 c1 c2 w2 w hr

end Go.Proofs.Ytjohiggfjpfbeaa

/- The contracts of the package cred, all together. -/


/- The contract of a reader's end. -/
namespace Go.Proofs.Ytjohiggfjpfbeaa
open Go.RowKit

def Ended (R : Nat) (r : Int) (w : World) (e : Ending) (w' : World) : Prop :=
  e = .returned (.int .i64 r) ∧ ReaderAt w' R false (.slice none 0 0) 0 ∧ Chg (· = R) w w'

theorem ended_mk {R : Nat} {r : Int} {w : World} {op : Bool} {v : Value} {flt : Int} (hR : ReaderAt w R op v flt) :
    Ended R r w (.returned (.int .i64 r)) (((w.setCell ⟨R, 0, none⟩ (.bool false)).setCell ⟨R, 1, none⟩ (.slice none 0 0)).setCell ⟨R, 2, none⟩ (.int .i64 0)) := by
  refine ⟨rfl, ?_, ?_⟩
  · exact set_blk (set_blk (set_blk hR 0 (.bool false)) 1 (.slice none 0 0)) 2 (.int .i64 0)
  · exact (((Chg.refl (· = R) w).setCell (p := ⟨R, _, none⟩) (fun _ => rfl) _).setCell (p := ⟨R, _, none⟩) (fun _ => rfl) _).setCell (p := ⟨R, _, none⟩) (fun _ => rfl) _

set_option maxRecDepth 100000 in
theorem end_fault (R n cap : Nat) (flt : Int) (ao : Option Addr) (op : Bool) (w : World) (hR : ReaderAt w R op (.slice ao n cap) flt) (hf : (flt == 0) = false) :
    Calls Try.prog 55 #[.pointer (some ⟨R, 0, none⟩)] w (Ended R flt w) := by
  have h0 := cell_blk hR 0
  have h1 := cell_blk hR 1
  have h2 := cell_blk hR 2
  have f0 := froz_blk hR 0
  have f1 := froz_blk hR 1
  have f2 := froz_blk hR 2
  simp only [List.getElem?_toArray, List.getElem?_cons_zero, List.getElem?_cons_succ] at h0 h1 h2
  go_enter Try.func55, Try.ntmps55
  go_wp2
  go_ret
  exact ended_mk hR

set_option maxRecDepth 100000 in
theorem end_trail (R n cap : Nat) (ao : Option Addr) (op : Bool) (w : World) (hR : ReaderAt w R op (.slice ao n cap) 0) (hn : 0 < (n : Int)) :
    Calls Try.prog 55 #[.pointer (some ⟨R, 0, none⟩)] w (Ended R 13 w) := by
  have h0 := cell_blk hR 0
  have h1 := cell_blk hR 1
  have h2 := cell_blk hR 2
  have f0 := froz_blk hR 0
  have f1 := froz_blk hR 1
  have f2 := froz_blk hR 2
  simp only [List.getElem?_toArray, List.getElem?_cons_zero, List.getElem?_cons_succ] at h0 h1 h2
  go_enter Try.func55, Try.ntmps55
  go_wp2
  go_ret
  exact ended_mk hR

set_option maxRecDepth 100000 in
theorem end_ok (R cap : Nat) (ao : Option Addr) (op : Bool) (w : World) (hR : ReaderAt w R op (.slice ao 0 cap) 0) :
    Calls Try.prog 55 #[.pointer (some ⟨R, 0, none⟩)] w (Ended R 0 w) := by
  have h0 := cell_blk hR 0
  have h1 := cell_blk hR 1
  have h2 := cell_blk hR 2
  have f0 := froz_blk hR 0
  have f1 := froz_blk hR 1
  have f2 := froz_blk hR 2
  simp only [List.getElem?_toArray, List.getElem?_cons_zero, List.getElem?_cons_succ] at h0 h1 h2
  go_enter Try.func55, Try.ntmps55
  go_wp2
  go_ret
  exact ended_mk hR

theorem end_any (R n cap : Nat) (flt : Int) (ao : Option Addr) (op : Bool) (w : World) (hR : ReaderAt w R op (.slice ao n cap) flt) :
    Calls Try.prog 55 #[.pointer (some ⟨R, 0, none⟩)] w (Ended R (endOf flt n) w) := by
  unfold endOf
  by_cases hf : flt = 0
  · subst hf
    rw [if_pos rfl]
    by_cases hn : 0 < n
    · rw [if_pos hn]
      exact end_trail R n cap ao op w hR (by omega)
    · rw [if_neg hn]
      obtain rfl : n = 0 := by omega
      exact end_ok R cap ao op w hR
  · rw [if_neg hf]
    exact end_fault R n cap flt ao op w hR (by simpa using hf)

end Go.Proofs.Ytjohiggfjpfbeaa

/- The three contracts of the function that Read defers. -/
namespace Go.Proofs.Ytjohiggfjpfbeaa
open Go.RowKit

theorem assert_nil (w : World) : (Instr.typeAssert .nilIface 20 82 true).run Try.prog w = .ok (.tuple #[.agg #[.pointer none], .bool false]) w := by kernel_rfl
theorem assert_stop (a : Option Addr) (w : World) : (Instr.typeAssert (.iface 82 (.agg #[.pointer a])) 20 82 true).run Try.prog w = .ok (.tuple #[.agg #[.pointer a], .bool true]) w := by kernel_rfl
theorem assert_string (s : ByteArray) (w : World) : (Instr.typeAssert (.iface 9 (.string s)) 20 82 true).run Try.prog w = .ok (.tuple #[.agg #[.pointer none], .bool false]) w := by kernel_rfl

theorem neq_ptr_same {P : Program} (w : World) {tp te : TypeId} {j : TypeInfo} (a : Addr) (hp : P.underlying tp = some (.pointer te)) (hte : P.info? te = some j) :
    (binOp .neq tp (.pointer (some a)) (.pointer (some a))).run P w = .ok (.bool false) w := by
  have h : ∀ d : Nat, (Op.equalIn (d + 1) tp (.pointer (some a)) (.pointer (some a))).run P w = .ok true w := fun d => by
    simp [Op.equalIn, run_underlying hp, sizeOf, typeInfo, hte, run_sameAddr_same]
  simp only [binOp]
  simp [Op.equal, Op.maxDepth, h 9999]

theorem neq_ptr_other {P : Program} (w : World) {tp te : TypeId} {j : TypeInfo} {a b : Addr} {ca cb : Array Value} {ta tb : TypeId} (hp : P.underlying tp = some (.pointer te)) (hte : P.info? te = some j) (hsz : j.size ≠ 0)
    (hne : a ≠ b) (ha : w.heap[a.block]? = some (.cells ca ta (0, 0))) (hb : w.heap[b.block]? = some (.cells cb tb (0, 0))) :
    (binOp .neq tp (.pointer (some a)) (.pointer (some b))).run P w = .ok (.bool true) w := by
  have h : ∀ d : Nat, (Op.equalIn (d + 1) tp (.pointer (some a)) (.pointer (some b))).run P w = .ok false w := fun d => by
    simp [Op.equalIn, run_underlying hp, sizeOf, typeInfo, hte, hsz, run_sameAddr_other w hne ha hb]
  simp only [binOp]
  simp [Op.equal, Op.maxDepth, h 9999]

theorem Try.info79 : (Try.prog.info? 79).map (fun i => i.size) = some 3 := by kernel_rfl

theorem info54_of : ∃ j, Try.prog.info? 79 = some j ∧ j.size ≠ 0 := by
  have h := Try.info79
  cases e : Try.prog.info? 79 with
  | none => rw [e] at h; simp at h
  | some j =>
    rw [e] at h
    simp at h
    exact ⟨j, rfl, by omega⟩

theorem neq39_same (a : Addr) (w : World) : (binOp .neq 43 (.pointer (some a)) (.pointer (some a))).run Try.prog w = .ok (.bool false) w := by
  obtain ⟨j, hj, _⟩ := info54_of
  exact neq_ptr_same w a Try.underlying43 hj

/-- What the function that Read defers leaves of memory. -/
def ReadLeft (R E : Nat) (r : Int) (w w' : World) : Prop :=
  ReaderAt w' R false (.slice none 0 0) 0 ∧ w'.heap[E]? = some (.cells #[.int .i64 r] 41 (0, 0)) ∧ Chg (fun k => k = R ∨ k = E) w w'

theorem readLeft_mk {R E : Nat} {r : Int} {ev : Int} {w w1 : World} {o : Obj} (hER : E ≠ R) (hR : ReaderAt w1 R false (.slice none 0 0) 0) (hE : w1.heap[E]? = some (.cells #[.int .i64 ev] 41 (0, 0))) (hch : Chg (· = R) w w1) :
    ReadLeft R E r w ((w1.setCell ⟨E, 0, none⟩ (.int .i64 r)).alloc o) := by
  have h1 := set_blk hE 0 (.int .i64 r)
  have h2 : (w1.setCell ⟨E, 0, none⟩ (.int .i64 r)).heap[R]? = w1.heap[R]? := set_blk_ne (by show R ≠ E; omega)
  refine ⟨?_, ?_, ?_⟩
  · exact (Below.heap_alloc _ _ _ (lt_blk (h2.trans hR))).trans (h2.trans hR)
  · exact (Below.heap_alloc _ _ _ (lt_blk h1)).trans h1
  · exact (((hch.mono (fun _ _ h => .inl h)).setCell (p := ⟨E, 0, none⟩) (fun _ => .inr rfl) _).alloc o)

theorem postS_end {fn : Func} {c₀ : Frame} {cs : List Frame} {R : Ending → FrameMode → World → Prop} {u : FrameMode} {t : Array Value} {w : World} (hr : fn.results = #[]) (h : R (.returned (.tuple #[])) u w) :
    bodyPostS Try.prog fn c₀ cs R .normal { tmps := t, defers := [] } ({ c₀ with mode := u } :: cs) w :=
  ⟨rfl, u, rfl, .tuple #[], results_none hr _ _ _, h⟩

theorem postS_panic {fn : Func} {c₀ : Frame} {cs : List Frame} {R : Ending → FrameMode → World → Prop} {u : FrameMode} {t : Array Value} {w : World} {chain : List PanicEntry} (h : R (.panicked chain) u w) :
    bodyPostS Try.prog fn c₀ cs R (.panic chain) { tmps := t, defers := [] } ({ c₀ with mode := u } :: cs) w :=
  ⟨rfl, u, rfl, h⟩

theorem neq39_other {a b : Addr} {ca cb : Array Value} {ta tb : TypeId} {w : World} (hne : a ≠ b) (ha : w.heap[a.block]? = some (.cells ca ta (0, 0))) (hb : w.heap[b.block]? = some (.cells cb tb (0, 0))) :
    (binOp .neq 43 (.pointer (some a)) (.pointer (some b))).run Try.prog w = .ok (.bool true) w := by
  obtain ⟨j, hj, h0⟩ := info54_of
  exact neq_ptr_other w Try.underlying43 hj h0 hne ha hb

/-- A block that is neither written nor new. -/
theorem blk_far {w w1 : World} {S : Nat → Prop} {b : Nat} {x o : Obj} {a : Addr} {u : Value} (h : w.heap[b]? = some x) (hc : Chg S w w1) (hs : ¬ S b) (hne : b ≠ a.block) : ((w1.setCell a u).alloc o).heap[b]? = some x := by
  have h1 : w1.heap[b]? = some x := (hc.block b (lt_blk h) hs).trans h
  have h2 : (w1.setCell a u).heap[b]? = some x := (set_blk_ne hne).trans h1
  exact (Below.heap_alloc _ _ _ (lt_blk h2)).trans h2

theorem mode_self {c : Frame} {u : FrameMode} (h : c.mode = u) : ({ c with mode := u } : Frame) = c := by
  subst h
  rfl

set_option maxRecDepth 100000 in
/-- f has ended by itself. -/
theorem deferred_idle (V R E n cap : Nat) (flt : Int) (ao : Option Addr) (op : Bool) (ev : Int) (w : World) (hR : ReaderAt w R op (.slice ao n cap) flt)
    (hV : w.heap[V]? = some (.cells #[.pointer (some ⟨R, 0, none⟩)] 43 (0, 0))) (hE : w.heap[E]? = some (.cells #[.int .i64 ev] 41 (0, 0))) (hER : E ≠ R) :
    CallsD Try.prog 54 #[.pointer (some ⟨V, 0, none⟩), .pointer (some ⟨E, 0, none⟩)] .returning w fun e u' w' =>
      e = .returned (.tuple #[]) ∧ u' = .returning ∧ ReadLeft R E (endOf flt n) w w' := by
  have v0 := cell_blk hV 0
  simp only [List.getElem?_toArray, List.getElem?_cons_zero] at v0
  refine callsD_of_wpS Try.func54 rfl fun c₀ cs hu => ?_
  simp only [Try.ntmps54, List.size_toArray, List.length_cons, List.length_nil, Nat.reduceAdd, Nat.reduceSub, Array.replicate_succ, Array.replicate_zero, List.push_toArray, List.append_toArray, List.nil_append, List.cons_append]
  apply wpS_seq
  refine wpS_of_wp ?_
  go_wp2_with (go_at_call 55; refine (end_any R n cap flt ao op _ hR).mono ?_; rintro e w1 ⟨rfl, hR1, hch⟩; have hE1 := (hch.block E (lt_blk hE) hER).trans hE; have e0 := cell_blk hE1 0; have fe0 := froz_blk hE1 0; simp only [List.getElem?_toArray, List.getElem?_cons_zero] at e0)
  apply wpS_seq
  apply wpS_region
  simp [wpOpsS, go_sem, recoverD, hu, Exit.thenS]
  refine wpS_of_wp ?_
  have ha := assert_nil
  have HL := fun o => hid (readLeft_mk (r := endOf flt n) (o := o) hER hR1 hE1 hch)
  have HU := hid (mode_self hu)
  clear hch hR1 hE1 e0 fe0 v0 hV hE hR hu
  go_wp2
  rw [← HU.out]
  exact postS_end rfl ⟨rfl, rfl, (HL _).out⟩

set_option maxRecDepth 100000 in
/-- f was ended by this reader's error. -/
theorem deferred_stops (V R E n cap : Nat) (flt : Int) (ao : Option Addr) (op : Bool) (ev : Int) (w : World) (hR : ReaderAt w R op (.slice ao n cap) flt)
    (hV : w.heap[V]? = some (.cells #[.pointer (some ⟨R, 0, none⟩)] 43 (0, 0))) (hE : w.heap[E]? = some (.cells #[.int .i64 ev] 41 (0, 0))) (hER : E ≠ R) (hVR : V ≠ R) (hVE : V ≠ E) (older : List PanicEntry) :
    CallsD Try.prog 54 #[.pointer (some ⟨V, 0, none⟩), .pointer (some ⟨E, 0, none⟩)] (.panicking ({ v := stopOf R, recovered := false } :: older)) w fun e u' w' =>
      e = .returned (.tuple #[]) ∧ u' = .panicking ({ v := stopOf R, recovered := true } :: older) ∧ ReadLeft R E (endOf flt n) w w' := by
  unfold stopOf
  have v0 := cell_blk hV 0
  simp only [List.getElem?_toArray, List.getElem?_cons_zero] at v0
  refine callsD_of_wpS Try.func54 rfl fun c₀ cs hu => ?_
  simp only [Try.ntmps54, List.size_toArray, List.length_cons, List.length_nil, Nat.reduceAdd, Nat.reduceSub, Array.replicate_succ, Array.replicate_zero, List.push_toArray, List.append_toArray, List.nil_append, List.cons_append]
  apply wpS_seq
  refine wpS_of_wp ?_
  go_wp2_with (go_at_call 55; refine (end_any R n cap flt ao op _ hR).mono ?_; rintro e w1 ⟨rfl, hR1, hch⟩; have hE1 := (hch.block E (lt_blk hE) hER).trans hE; have e0 := cell_blk hE1 0; have fe0 := froz_blk hE1 0; simp only [List.getElem?_toArray, List.getElem?_cons_zero] at e0)
  apply wpS_seq
  apply wpS_region
  simp [wpOpsS, go_sem, recoverD, hu, Exit.thenS]
  refine wpS_of_wp ?_
  have ha := assert_stop (some ⟨R, 0, none⟩)
  have hq := neq39_same ⟨R, 0, none⟩
  have HL := fun o => hid (readLeft_mk (r := endOf flt n) (o := o) hER hR1 hE1 hch)
  have v1 := hch.cell v0 hVR
  have hb := World.block_lt_of_cell? w1 _ v1
  simp only [] at hb
  clear hch hR1 hE1 e0 fe0 v0 hV hE hR hu
  go_wp2
  exact postS_end rfl ⟨rfl, rfl, (HL _).out⟩

set_option maxRecDepth 100000 in
/-- f panics by itself, or another reader's error goes through: on it goes. -/
theorem deferred_throws (V R E n cap : Nat) (flt : Int) (ao : Option Addr) (op : Bool) (ev : Int) (w : World) (hR : ReaderAt w R op (.slice ao n cap) flt)
    (hV : w.heap[V]? = some (.cells #[.pointer (some ⟨R, 0, none⟩)] 43 (0, 0))) (hE : w.heap[E]? = some (.cells #[.int .i64 ev] 41 (0, 0))) (hER : E ≠ R) (hVR : V ≠ R) (hVE : V ≠ E) (older : List PanicEntry)
    (T : TypeId) (pv : Value) (ok : Bool) (q : Nat) (ha : ∀ w, (Instr.typeAssert (.iface T pv) 20 82 true).run Try.prog w = .ok (.tuple #[.agg #[.pointer (if ok then some ⟨q, 0, none⟩ else none)], .bool ok]) w) (hq : ok = true → q ≠ R ∧ q ≠ E ∧ ∃ cq tq, w.heap[q]? = some (.cells cq tq (0, 0))) :
    CallsD Try.prog 54 #[.pointer (some ⟨V, 0, none⟩), .pointer (some ⟨E, 0, none⟩)] (.panicking ({ v := .iface T pv, recovered := false } :: older)) w fun e u' w' =>
      e = .panicked [{ v := .iface T pv, recovered := false }] ∧ u' = .panicking ({ v := .iface T pv, recovered := true } :: older) ∧ ReadLeft R E (endOf flt n) w w' := by
  have v0 := cell_blk hV 0
  simp only [List.getElem?_toArray, List.getElem?_cons_zero] at v0
  cases ok with
  | false =>
    simp only [Bool.false_eq_true, if_false] at ha
    refine callsD_of_wpS Try.func54 rfl fun c₀ cs hu => ?_
    simp only [Try.ntmps54, List.size_toArray, List.length_cons, List.length_nil, Nat.reduceAdd, Nat.reduceSub, Array.replicate_succ, Array.replicate_zero, List.push_toArray, List.append_toArray, List.nil_append, List.cons_append]
    apply wpS_seq
    refine wpS_of_wp ?_
    go_wp2_with (go_at_call 55; refine (end_any R n cap flt ao op _ hR).mono ?_; rintro e w1 ⟨rfl, hR1, hch⟩; have hE1 := (hch.block E (lt_blk hE) hER).trans hE; have e0 := cell_blk hE1 0; have fe0 := froz_blk hE1 0; simp only [List.getElem?_toArray, List.getElem?_cons_zero] at e0)
    apply wpS_seq
    apply wpS_region
    simp [wpOpsS, go_sem, recoverD, hu, Exit.thenS]
    refine wpS_of_wp ?_
    have HL := fun o => hid (readLeft_mk (r := endOf flt n) (o := o) hER hR1 hE1 hch)
    clear hch hR1 hE1 e0 fe0 v0 hV hE hR hu
    go_wp2
    exact postS_panic ⟨rfl, rfl, (HL _).out⟩
  | true =>
    simp only [if_true] at ha
    obtain ⟨q1, q2, cq, tq, q3⟩ := hq rfl
    refine callsD_of_wpS Try.func54 rfl fun c₀ cs hu => ?_
    simp only [Try.ntmps54, List.size_toArray, List.length_cons, List.length_nil, Nat.reduceAdd, Nat.reduceSub, Array.replicate_succ, Array.replicate_zero, List.push_toArray, List.append_toArray, List.nil_append, List.cons_append]
    apply wpS_seq
    refine wpS_of_wp ?_
    go_wp2_with (go_at_call 55; refine (end_any R n cap flt ao op _ hR).mono ?_; rintro e w1 ⟨rfl, hR1, hch⟩; have hE1 := (hch.block E (lt_blk hE) hER).trans hE; have e0 := cell_blk hE1 0; have fe0 := froz_blk hE1 0; simp only [List.getElem?_toArray, List.getElem?_cons_zero] at e0)
    apply wpS_seq
    apply wpS_region
    simp [wpOpsS, go_sem, recoverD, hu, Exit.thenS]
    refine wpS_of_wp ?_
    have HL := fun o => hid (readLeft_mk (r := endOf flt n) (o := o) hER hR1 hE1 hch)
    have v1 := hch.cell v0 hVR
    have hb := World.block_lt_of_cell? w1 _ v1
    simp only [] at hb
    have hne := neq39_other (a := ⟨q, 0, none⟩) (b := ⟨R, 0, none⟩) (w := (w1.setCell ⟨E, 0, none⟩ (.int .i64 (endOf flt n))).alloc (.cells #[.pointer (some ⟨q, 0, none⟩)] 82)) (fun h => q1 (congrArg Addr.block h)) (blk_far q3 hch q1 q2) (blk_far hR1 (Chg.refl (fun _ => False) _) id (fun h => hER h.symm))
    clear hch hR1 hE1 e0 fe0 v0 hV hE hR hu q3
    go_wp2
    exact postS_panic ⟨rfl, rfl, (HL _).out⟩

end Go.Proofs.Ytjohiggfjpfbeaa
