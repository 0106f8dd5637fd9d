/- Texts that the proof leans on, in one: RefCredHas, RoleSame, RefCredSame, CredSets, RoleCells, CredOpen, CondShaped. -/
import Derived.Test.YtjohiggfjpfbeaaCm1
import Derived.Test.YtjohiggfjpfbeaaProg
import Derived.Test.YtjohiggfjpfbeaaChecked
import Derived.Deep.QuietTactic
import Derived.BigQuiet
import Derived.Test.YtjohiggfjpfbeaaCm5
import Derived.Test.YtjohiggfjpfbeaaCm17
import Derived.Test.YtjohiggfjpfbeaaCm15
import Derived.Test.YtjohiggfjpfbeaaCm16
import Derived.ChangeMaps5
import Derived.ProofKit
import Derived.OpenShut
import Derived.JoinedCond
/- The contracts of the document's Has of layer 5, and of how great credentials are. -/
namespace Go.Proofs.Ytjohiggfjpfbeaa
open Go.RowKit

/-- How great credentials are. -/
def sizeC (c : CredB) : Nat := 20 + c.head.1.length + c.head.2.length + c.who.length + c.b.1.length + c.b.2.length + c.c.1.length + c.c.2.length + c.w2.length
def totalC : List CredB → Nat
  | [] => 0
  | c :: l => sizeC c + totalC l

theorem totalC_append (a b : List CredB) : totalC (a ++ b) = totalC a + totalC b := by
  induction a with
  | nil => simp [totalC]
  | cons x l ih => rw [List.cons_append, totalC, totalC, ih]; omega

theorem totalC_len (a : List CredB) : a.length ≤ totalC a := by
  induction a with
  | nil => simp [totalC]
  | cons x l ih => rw [totalC, List.length_cons, sizeC]; omega

theorem totalC_mem {a : List CredB} {x : CredB} (h : x ∈ a) : sizeC x ≤ totalC a := by
  induction a with
  | nil => simp at h
  | cons y l ih =>
    rw [totalC]
    rcases List.mem_cons.1 h with rfl | h
    · omega
    · have := ih h; omega

theorem totalC_take (ls : List CredB) (k : Nat) (h : k < ls.length) : totalC (ls.take (k + 1)) = totalC (ls.take k) + sizeC ls[k] := by
  rw [List.take_succ_eq_append_getElem h, totalC_append]; simp [totalC]

theorem totalC_take_le (ls : List CredB) (k : Nat) : totalC (ls.take k) ≤ totalC ls := by
  conv => rhs; rw [← List.take_append_drop k ls]
  rw [totalC_append]; omega

theorem sizeC_short {c : CredB} {n : Nat} (h : sizeC c ≤ n) : credShort c n := by
  unfold sizeC at h
  exact ⟨by omega, by omega, by omega, by omega, by omega, by omega, by omega, by omega⟩

set_option maxRecDepth 100000 in
set_option maxHeartbeats 2000000 in
theorem great_any {D : Nat → Prop} (ao : Option Addr) (cp : Nat) (ls : List CredB) (w : World) (hn : totalC ls ≤ 4503599627370496) (h : CredsAt D w ao ls) :
    Calls Try.prog 8 #[.slice ao ls.length cp] w fun e w' => e = .returned (.int .i64 (totalC ls)) ∧ Chg (fun _ => False) w w' := by
  have hl := totalC_len ls
  go_enter Try.func8, Try.ntmps8
  go_wp2
  go_loopw [3, 8] (fun n i wr => ∃ k m : Nat, k ≤ ls.length ∧ i = .int .i64 k ∧ n = .int .i64 m ∧ Hid (m = totalC (ls.take k)) ∧ m ≤ 4503599627370496 ∧ Chg (fun _ => False) w wr) (fun _ i _ => ls.length - (intOf i).toNat)
  case atStart => exact ⟨0, 0, Nat.zero_le _, rfl, rfl, rfl, by omega, Chg.refl _ _⟩
  case round =>
    obtain ⟨k, m, hk, rfl, rfl, hm, hml, hc⟩ := hrel
    by_cases hlt : k < ls.length
    · obtain ⟨b, off, rfl, _, hat, hs⟩ := (h.keep hc (fun _ _ => id)) k hlt
      have ht := totalC_take ls k hlt
      have hle := totalC_take_le ls (k + 1)
      rw [ht, ← hm.out] at hle
      have hx : Hid (m + sizeC ls[k] = totalC (ls.take (k + 1))) := hid (by rw [ht, hm.out])
      clear h ht
      have hsl2 : m + sizeC ls[k] ≤ 4503599627370496 := by omega
      clear hle
      generalize ls[k] = s at *
      obtain ⟨kk, ⟨ho, hw⟩, who, ⟨bo, bw⟩, ⟨co, cw⟩, w2⟩ := s
      obtain ⟨a0, a1, a2, a3, a4, a5, a6, a7, a8⟩ := hat
      obtain ⟨s1, s2, s3, s4, s5, s6, s7, s8⟩ := hs
      simp only [sizeC] at a0 a1 a2 a3 a4 a5 a6 a7 a8 s1 s2 s3 s4 s5 s6 s7 s8 hx hsl2
      have HC := hid hc
      clear hc
      go_wp2
      go_roundw
      case rel => exact ⟨k + 1, m + (20 + ho.length + hw.length + who.length + bo.length + bw.length + co.length + cw.length + w2.length), by omega, by go_num, by go_num, hx, hsl2, HC.out.alloc _⟩
      case measure => simp [intOf]; omega
    · have hk2 : k = ls.length := by omega
      have hx : m = totalC ls := by have := hm.out; rwa [List.take_of_length_le (by omega)] at this
      subst hx
      have HC := hid hc
      clear h hc
      go_wp2
      go_ret
      exact ⟨rfl, HC.out⟩

set_option maxRecDepth 100000 in
set_option maxHeartbeats 2000000 in
theorem chas_ref {D : Nat → Prop} (ao : Option Addr) (cp : Nat) (ls : List CredB) (c : CredB) (w : World) (hn : ls.length ≤ 9223372036854775807) (h : CredsAt D w ao ls) :
    Calls Try.prog 31 #[.slice ao ls.length cp, credV c] w fun e w' => e = .returned (.bool (hasC ls c)) ∧ Chg (fun _ => False) w w' := by
  have hc : Chg (fun _ => False) w (w.alloc (.cells (credBox c) 25)) := (Chg.refl _ w).alloc _
  have hA := heap_alloc_new w (.cells (credBox c) 25)
  have h' := h.keep hc (fun _ _ => id)
  obtain ⟨k', ⟨ho', hw'⟩, who', ⟨bo', bw'⟩, ⟨co', cw'⟩, w2'⟩ := c
  show Calls Try.prog 31 #[.slice ao ls.length cp, .agg #[.int .i64 k', .string ⟨ho'.toArray⟩, .string ⟨hw'.toArray⟩, .string ⟨who'.toArray⟩, .string ⟨bo'.toArray⟩, .string ⟨bw'.toArray⟩, .string ⟨co'.toArray⟩, .string ⟨cw'.toArray⟩, .string ⟨w2'.toArray⟩]] w _
  simp only [credBox] at hc hA h'
  go_enter Try.func31, Try.ntmps31
  go_wp2
  generalize hw1 : w.alloc (.cells #[.int .i64 k', .string ⟨ho'.toArray⟩, .string ⟨hw'.toArray⟩, .string ⟨who'.toArray⟩, .string ⟨bo'.toArray⟩, .string ⟨bw'.toArray⟩, .string ⟨co'.toArray⟩, .string ⟨cw'.toArray⟩, .string ⟨w2'.toArray⟩] 25) = w1 at *
  generalize w.heap.size = A at *
  clear h hw1
  go_loopw [9] (fun i wr => ∃ k : Nat, k ≤ ls.length ∧ i = .int .i64 k ∧ Hid (hasC (ls.take k) ⟨k', (ho', hw'), who', (bo', bw'), (co', cw'), w2'⟩ = false) ∧ Chg (fun _ => False) w1 wr) (fun i _ => ls.length - (intOf i).toNat)
  case atStart => exact ⟨0, Nat.zero_le _, rfl, by rw [List.take_zero]; rfl, Chg.refl _ _⟩
  case round =>
    obtain ⟨k, hk, rfl, hf, hc1⟩ := hrel
    have hA1 := cred_at_blk (c := ⟨k', (ho', hw'), who', (bo', bw'), (co', cw'), w2'⟩) (blk_keep hA hc1 id)
    by_cases hlt : k < ls.length
    · obtain ⟨b, off, rfl, _, hat, _⟩ := (h'.keep hc1 (fun _ _ => id)) k hlt
      have HFT := hid (hasC_take ls _ k hlt hf.out)
      clear h'
      have hmem : Hid (ls[k] ∈ ls) := hid (List.getElem_mem hlt)
      generalize ls[k] = q at *
      by_cases e : q = ⟨k', (ho', hw'), who', (bo', bw'), (co', cw'), w2'⟩
      · subst e
        have hh : Hid (hasC ls ⟨k', (ho', hw'), who', (bo', bw'), (co', cw'), w2'⟩ = true) := hid (by simpa [hasC] using hmem.out)
        have hal : Chg (fun _ => False) wr (wr.alloc (.cells (credBox ⟨k', (ho', hw'), who', (bo', bw'), (co', cw'), w2'⟩) 25)) := (Chg.refl _ wr).alloc _
        have hA2 := hA1.keep hal id
        obtain ⟨a0, a1, a2, a3, a4, a5, a6, a7, a8⟩ := hat
        obtain ⟨b0, b1, b2, b3, b4, b5, b6, b7, b8⟩ := hA2
        simp only [Nat.zero_add, credBox] at b0 b1 b2 b3 b4 b5 b6 b7 b8 a0 a1 a2 a3 a4 a5 a6 a7 a8
        have HC := hid (hc.trans (hc1.trans hal (fun _ _ h => h)) (fun _ _ h => h))
        clear hc hc1 hA hA1 hal HFT hf
        go_wp2
        go_ret
        exact ⟨by rw [hh.out]; rfl, HC.out⟩
      · have hx := hid (HFT.out e)
        obtain ⟨k0, ⟨ho, hw⟩, who, ⟨bo, bw⟩, ⟨co, cw⟩, w2⟩ := q
        have hal : Chg (fun _ => False) wr (wr.alloc (.cells (credBox ⟨k0, (ho, hw), who, (bo, bw), (co, cw), w2⟩) 25)) := (Chg.refl _ wr).alloc _
        have hA2 := hA1.keep hal id
        obtain ⟨a0, a1, a2, a3, a4, a5, a6, a7, a8⟩ := hat
        obtain ⟨b0, b1, b2, b3, b4, b5, b6, b7, b8⟩ := hA2
        simp only [Nat.zero_add, credBox] at b0 b1 b2 b3 b4 b5 b6 b7 b8 a0 a1 a2 a3 a4 a5 a6 a7 a8
        have HC := hid hc1
        have HE := hid e
        clear hc hc1 hA hA1 hal HFT hf e hmem
        go_wp2
        all_goals first
          | (refine (HE.out ?_).elim; simp only [CredB.mk.injEq, Prod.mk.injEq]; refine ⟨?_, ⟨?_, ?_⟩, ?_, ⟨?_, ?_⟩, ⟨?_, ?_⟩, ?_⟩ <;> assumption)
          | (go_roundw <;> first | exact ⟨k + 1, by omega, by go_num, hx, HC.out.alloc _⟩ | (simp [intOf]; omega))
    · have hk2 : k = ls.length := by omega
      have hh : Hid (hasC ls ⟨k', (ho', hw'), who', (bo', bw'), (co', cw'), w2'⟩ = false) := by have := hf.out; rwa [List.take_of_length_le (by omega)] at this
      have HC := hid (hc.trans hc1 (fun _ _ h => h))
      clear h' hc hc1 hA hA1
      go_wp2
      go_ret
      exact ⟨by rw [hh.out]; rfl, HC.out⟩
end Go.Proofs.Ytjohiggfjpfbeaa

/- The contract of the document's Same of layer 4. -/
namespace Go.Proofs.Ytjohiggfjpfbeaa
open Go.RowKit

theorem drewN_add (w : World) (n m : Nat) : (w.drewN n).drewN m = w.drewN (n + m) := by
  simp only [World.drewN, Nat.add_assoc]

set_option maxRecDepth 100000 in
theorem rsame_ref {D1 D2 : Nat → Prop} (a1 a2 : Option Addr) (c1 c2 : Nat) (l1 l2 : List RoleB) (w : World) (hn : l1.length ≤ 4611686018427387904) (hm : l2.length ≤ 4611686018427387904) (h1 : RolesAt D1 w a1 l1) (h2 : RolesAt D2 w a2 l2) :
    Calls Try.prog 17 #[.slice a1 l1.length c1, .slice a2 l2.length c2] w fun e w' => e = .returned (.bool (sameR l1 l2)) ∧ ∃ n, w' = w.drewN n := by
  by_cases hl : l1.length = l2.length
  · have z1 : ((l1.length : Int) != (l2.length : Int)) = false := by simp; omega
    have HL := hid hl
    have hl1 : l1.length ≤ l2.length := by omega
    have hl2 : l2.length ≤ l1.length := by omega
    clear hl
    go_enter Try.func17, Try.ntmps17
    go_wp2
    go_loopw [13] (fun i wr => ∃ k n : Nat, k ≤ l1.length ∧ i = .int .i64 k ∧ wr = w.drewN n ∧ Hid (l1.take k = l2.take k)) (fun i _ => l1.length - (intOf i).toNat)
    case atStart => exact ⟨0, 0, Nat.zero_le _, rfl, rfl, by rw [List.take_zero, List.take_zero]; rfl⟩
    case round =>
      obtain ⟨k, n, hk, rfl, rfl, hc⟩ := hrel
      by_cases hlt : k < l1.length
      · obtain ⟨b, off, rfl, _, q0, q1, _⟩ := h1 k hlt
        obtain ⟨b2, off2, rfl, _, q2, q3, _⟩ := h2 k (by omega)
        clear h1 h2
        have e0 : (0 : Int) ≤ (k : Int) := by omega
        have e1 : (k : Int) < (l1.length : Int) := by omega
        have e2 : (k : Int) < (l2.length : Int) := by omega
        have hx1 : Hid (l1[k] = l2[k]'(by omega) → l1.take (k + 1) = l2.take (k + 1)) := hid (fun he => by rw [List.take_succ_eq_append_getElem hlt, List.take_succ_eq_append_getElem (HL.out ▸ hlt), hc.out, he])
        have hx2 : Hid (l1[k] ≠ l2[k]'(by omega) → sameR l1 l2 = false) := hid (fun he => by
          simp only [sameR, beq_eq_false_iff_ne, ne_eq]
          intro h
          subst h
          exact he rfl)
        generalize l1[k] = s1 at *
        generalize l2[k]'(by omega) = s2 at *
        obtain ⟨o, x⟩ := s1
        obtain ⟨p, y⟩ := s2
        by_cases f1 : o = p
        · subst f1
          have g1 : (o == o) = true := by simp
          by_cases f2 : x = y
          · subst f2
            have g2 : (x == x) = true := by simp
            have hx := hid (hx1.out rfl)
            go_wp2
            go_quiet (fail)
            go_wp2
            go_roundw
            case rel => exact ⟨k + 1, n + nq, by omega, by go_num, rfl, hx⟩
            case measure => simp [intOf]; omega
          · have g2 : (x == y) = false := by simpa using f2
            have hx := hid (hx2.out (fun h => f2 (congrArg Prod.snd h)))
            clear f2
            go_wp2
            go_quiet (fail)
            go_wp2
            go_ret
            exact ⟨by rw [hx.out]; rfl, _, drewN_add w n nq⟩
        · have g1 : (o == p) = false := by simpa using f1
          have hx := hid (hx2.out (fun h => f1 (congrArg Prod.fst h)))
          clear f1
          go_wp2
          go_quiet (fail)
          go_wp2
          go_ret
          exact ⟨by rw [hx.out]; rfl, _, drewN_add w n nq⟩
      · have hk2 : k = l1.length := by omega
        subst hk2
        have hx : Hid (sameR l1 l2 = true) := by
          have := hc.out
          rw [List.take_of_length_le (Nat.le_refl _), List.take_of_length_le (by rw [HL.out]; omega)] at this
          exact hid (by simp [sameR, this])
        clear h1 h2
        go_wp2
        go_ret
        exact ⟨by rw [hx.out]; rfl, n, rfl⟩
  · have z1 : ((l1.length : Int) != (l2.length : Int)) = true := by simp; omega
    have hx : Hid (sameR l1 l2 = false) := by
      refine hid ?_
      simp only [sameR, beq_eq_false_iff_ne, ne_eq]
      intro h
      exact hl (congrArg List.length h)
    go_enter Try.func17, Try.ntmps17
    go_wp2
    go_ret
    exact ⟨by rw [hx.out]; rfl, 0, rfl⟩
end Go.Proofs.Ytjohiggfjpfbeaa

/- The contract of the document's Same of layer 5. -/
namespace Go.Proofs.Ytjohiggfjpfbeaa
open Go.RowKit

set_option maxRecDepth 100000 in
set_option maxHeartbeats 2000000 in
theorem csame_ref {D1 D2 : Nat → Prop} (a1 a2 : Option Addr) (c1 c2 : Nat) (l1 l2 : List CredB) (w : World) (hn : l1.length ≤ 4611686018427387904) (hm : l2.length ≤ 4611686018427387904) (h1 : CredsAt D1 w a1 l1) (h2 : CredsAt D2 w a2 l2) :
    Calls Try.prog 27 #[.slice a1 l1.length c1, .slice a2 l2.length c2] w fun e w' => e = .returned (.bool (sameC l1 l2)) ∧ ∃ n, w' = w.drewN n := by
  by_cases hl : l1.length = l2.length
  · have z1 : ((l1.length : Int) != (l2.length : Int)) = false := by simp; omega
    have HL := hid hl
    have hl1 : l1.length ≤ l2.length := by omega
    have hl2 : l2.length ≤ l1.length := by omega
    clear hl
    go_enter Try.func27, Try.ntmps27
    go_wp2
    go_loopw [13] (fun i wr => ∃ k n : Nat, k ≤ l1.length ∧ i = .int .i64 k ∧ wr = w.drewN n ∧ Hid (l1.take k = l2.take k)) (fun i _ => l1.length - (intOf i).toNat)
    case atStart => exact ⟨0, 0, Nat.zero_le _, rfl, rfl, by rw [List.take_zero, List.take_zero]; rfl⟩
    case round =>
      obtain ⟨k, n, hk, rfl, rfl, hc⟩ := hrel
      by_cases hlt : k < l1.length
      · obtain ⟨b, off, rfl, _, hat, _⟩ := h1 k hlt
        obtain ⟨b2, off2, rfl, _, hat2, _⟩ := h2 k (by omega)
        clear h1 h2
        have e0 : (0 : Int) ≤ (k : Int) := by omega
        have e1 : (k : Int) < (l1.length : Int) := by omega
        have e2 : (k : Int) < (l2.length : Int) := by omega
        have hx1 : Hid (l1[k] = l2[k]'(by omega) → l1.take (k + 1) = l2.take (k + 1)) := hid (fun he => by rw [List.take_succ_eq_append_getElem hlt, List.take_succ_eq_append_getElem (HL.out ▸ hlt), hc.out, he])
        have hx2 : Hid (l1[k] ≠ l2[k]'(by omega) → sameC l1 l2 = false) := hid (fun he => by
          simp only [sameC, beq_eq_false_iff_ne, ne_eq]
          intro h
          subst h
          exact he rfl)
        generalize l1[k] = s1 at *
        generalize l2[k]'(by omega) = s2 at *
        by_cases e : s1 = s2
        · subst e
          have hx := hid (hx1.out rfl)
          clear hx1 hx2
          obtain ⟨k0, ⟨ho, hw⟩, who, ⟨bo, bw⟩, ⟨co, cw⟩, w2⟩ := s1
          obtain ⟨a0, a1, a2, a3, a4, a5, a6, a7, a8⟩ := hat
          obtain ⟨b0, b1, b2, b3, b4, b5, b6, b7, b8⟩ := hat2
          dsimp only at a0 a1 a2 a3 a4 a5 a6 a7 a8 b0 b1 b2 b3 b4 b5 b6 b7 b8
          go_wp2
          go_quiet (fail)
          go_wp2
          go_roundw
          case rel => exact ⟨k + 1, n + nq, by omega, by go_num, rfl, hx⟩
          case measure => simp [intOf]; omega
        · have hx := hid (hx2.out e)
          have HE := hid e
          clear hx1 hx2 e
          obtain ⟨k0, ⟨ho, hw⟩, who, ⟨bo, bw⟩, ⟨co, cw⟩, w2⟩ := s1
          obtain ⟨k0', ⟨ho', hw'⟩, who', ⟨bo', bw'⟩, ⟨co', cw'⟩, w2'⟩ := s2
          obtain ⟨a0, a1, a2, a3, a4, a5, a6, a7, a8⟩ := hat
          obtain ⟨b0, b1, b2, b3, b4, b5, b6, b7, b8⟩ := hat2
          dsimp only at a0 a1 a2 a3 a4 a5 a6 a7 a8 b0 b1 b2 b3 b4 b5 b6 b7 b8
          by_cases f0 : k0 = k0'
          · subst f0
            have g0 : (k0 == k0) = true := by simp
            by_cases f1 : ho = ho'
            · subst f1
              have g1 : (ho == ho) = true := by simp
              by_cases f2 : hw = hw'
              · subst f2
                have g2 : (hw == hw) = true := by simp
                by_cases f3 : who = who'
                · subst f3
                  have g3 : (who == who) = true := by simp
                  by_cases f4 : bo = bo'
                  · subst f4
                    have g4 : (bo == bo) = true := by simp
                    by_cases f5 : bw = bw'
                    · subst f5
                      have g5 : (bw == bw) = true := by simp
                      by_cases f6 : co = co'
                      · subst f6
                        have g6 : (co == co) = true := by simp
                        by_cases f7 : cw = cw'
                        · subst f7
                          have g7 : (cw == cw) = true := by simp
                          by_cases f8 : w2 = w2'
                          · subst f8
                            have g8 : (w2 == w2) = true := by simp
                            exact (HE.out rfl).elim
                          · have g8 : (w2 == w2') = false := beq_eq_false_iff_ne.2 f8
                            clear f8
                            go_wp2
                            go_quiet (fail)
                            go_wp2
                            go_ret
                            exact ⟨by rw [hx.out]; rfl, _, drewN_add w n nq⟩
                        · have g7 : (cw == cw') = false := beq_eq_false_iff_ne.2 f7
                          clear f7
                          go_wp2
                          go_quiet (fail)
                          go_wp2
                          go_ret
                          exact ⟨by rw [hx.out]; rfl, _, drewN_add w n nq⟩
                      · have g6 : (co == co') = false := beq_eq_false_iff_ne.2 f6
                        clear f6
                        go_wp2
                        go_quiet (fail)
                        go_wp2
                        go_ret
                        exact ⟨by rw [hx.out]; rfl, _, drewN_add w n nq⟩
                    · have g5 : (bw == bw') = false := beq_eq_false_iff_ne.2 f5
                      clear f5
                      go_wp2
                      go_quiet (fail)
                      go_wp2
                      go_ret
                      exact ⟨by rw [hx.out]; rfl, _, drewN_add w n nq⟩
                  · have g4 : (bo == bo') = false := beq_eq_false_iff_ne.2 f4
                    clear f4
                    go_wp2
                    go_quiet (fail)
                    go_wp2
                    go_ret
                    exact ⟨by rw [hx.out]; rfl, _, drewN_add w n nq⟩
                · have g3 : (who == who') = false := beq_eq_false_iff_ne.2 f3
                  clear f3
                  go_wp2
                  go_quiet (fail)
                  go_wp2
                  go_ret
                  exact ⟨by rw [hx.out]; rfl, _, drewN_add w n nq⟩
              · have g2 : (hw == hw') = false := beq_eq_false_iff_ne.2 f2
                clear f2
                go_wp2
                go_quiet (fail)
                go_wp2
                go_ret
                exact ⟨by rw [hx.out]; rfl, _, drewN_add w n nq⟩
            · have g1 : (ho == ho') = false := beq_eq_false_iff_ne.2 f1
              clear f1
              go_wp2
              go_quiet (fail)
              go_wp2
              go_ret
              exact ⟨by rw [hx.out]; rfl, _, drewN_add w n nq⟩
          · have g0 : (k0 == k0') = false := beq_eq_false_iff_ne.2 f0
            clear f0
            go_wp2
            go_quiet (fail)
            go_wp2
            go_ret
            exact ⟨by rw [hx.out]; rfl, _, drewN_add w n nq⟩
      · have hk2 : k = l1.length := by omega
        subst hk2
        have hx : Hid (sameC l1 l2 = true) := by
          have := hc.out
          rw [List.take_of_length_le (Nat.le_refl _), List.take_of_length_le (by rw [HL.out]; omega)] at this
          exact hid (by simp [sameC, this])
        clear h1 h2
        go_wp2
        go_ret
        exact ⟨by rw [hx.out]; rfl, n, rfl⟩
  · have z1 : ((l1.length : Int) != (l2.length : Int)) = true := by simp; omega
    have hx : Hid (sameC l1 l2 = false) := hid (by
      simp only [sameC, beq_eq_false_iff_ne, ne_eq]
      intro h
      exact hl (by rw [h]))
    clear hl h1 h2
    go_enter Try.func27, Try.ntmps27
    go_wp2
    go_ret
    exact ⟨by rw [hx.out]; rfl, 0, rfl⟩
end Go.Proofs.Ytjohiggfjpfbeaa

/- The walk of CredSets. -/
namespace Go.Proofs.Ytjohiggfjpfbeaa
open Go.RowKit

/-- The set of the right ones, in a slot. -/
def Spec.setC (l : List CredB) : Spec :=
  ⟨fun v w => ∃ out ao cap, v = .slice ao out.length cap ∧ SetC l out ∧ CredsAt (fun _ => True) w ao out, fun _ _ _ hc h => by
    obtain ⟨out, ao, cap, h1, h2, h3⟩ := h
    exact ⟨out, ao, cap, h1, h2, h3.keep hc (fun _ _ => id)⟩⟩

def csSpecs3 (a0 : Option Addr) (n c0 A m1 m2 : Nat) (bg : Bool) (c : CredB) : List Spec := [.eq (.slice a0 n c0), .any, .any, .eq (.pointer (some ⟨A, 0, none⟩)), .any, .any, .any, .any, .any, .eq (.slice a0 n c0), .eq (.int .i64 (m1 : Nat)), .eq (credV c), .creds 1 [c], .eq (.int .i64 (m2 : Nat)), .eq (.int .i64 ((m1 : Int) + (m2 : Int))), .eq (.bool bg)]
def csSpecs8 (A Sb : Nat) (c s : CredB) : List Spec := [.any, .any, .any, .eq (.pointer (some ⟨A, 0, none⟩)), .any, .any, .eq (.pointer (some ⟨Sb, 0, none⟩)), .any, .any, .any, .any, .any, .any, .any, .any, .any, .any, .any, .any, .any, .any, .any, .eq (credV c), .eq (credV s), .eq (.int .i64 (cmpC c s)), .eq (credV c), .eq (credV s), .eq (.int .i64 (cmpC c s)), .eq (.bool false)]
def csSpecs11 (a0 : Option Addr) (n c0 A : Nat) (l : List CredB) (c : CredB) : List Spec := [.eq (.slice a0 n c0), .any, .any, .eq (.pointer (some ⟨A, 0, none⟩)), .eq (.bool true), .any, .any, .any, .any, .any, .any, .any, .any, .any, .any, .any, .any, .any, .any, .any, .any, .any, .any, .any, .any, .any, .any, .any, .any, .any, .eq (.slice a0 n c0), .setC l, .eq (.slice a0 n c0), .setC l, .eq (.bool true), .eq (.bool true), .eq (.slice a0 n c0), .eq (credV c), .eq (.bool (hasC l c)), .eq (.slice a0 n c0), .eq (credV c), .eq (.bool (hasC l c)), .eq (.bool true), .eq (.bool true)]

set_option maxRecDepth 100000 in
set_option maxHeartbeats 8000000 in
theorem csets_main {D : Nat → Prop} (a0 : Option Addr) (c0 : Nat) (l : List CredB) (c : CredB) (w : World) (hl : totalC l ≤ 4194304) (hcz : sizeC c ≤ 4194304) (bg : Bool) (hbg : decide ((2500 : Int) < (totalC l : Int) + (sizeC c : Int)) = bg) (hsm : bg = false → totalC l ≤ 2500 ∧ sizeC c ≤ 2500)
    (hsh : credShort c 9223372036854775807) (h0 : CredsAt D w a0 l) (z0 : a0 = none → c0 = 0) (hm : MaxAt w) :
    Calls Try.prog 5 #[.slice a0 l.length c0, credV c] w fun e w' => e = .returned (.bool true) ∧ Chg (fun _ => False) w w' := by
  have hln := totalC_len l
  have hA1 : (w.alloc (.cells #[.int .i64 c.kind, .string ⟨c.head.1.toArray⟩, .string ⟨c.head.2.toArray⟩, .string ⟨c.who.toArray⟩, .string ⟨c.b.1.toArray⟩, .string ⟨c.b.2.toArray⟩, .string ⟨c.c.1.toArray⟩, .string ⟨c.c.2.toArray⟩, .string ⟨c.w2.toArray⟩] 25)).heap[w.heap.size]? = some (.cells (credBox c) 25 (0, 0)) := heap_alloc_new w _
  have hc1 : Chg (fun _ => False) w (w.alloc (.cells #[.int .i64 c.kind, .string ⟨c.head.1.toArray⟩, .string ⟨c.head.2.toArray⟩, .string ⟨c.who.toArray⟩, .string ⟨c.b.1.toArray⟩, .string ⟨c.b.2.toArray⟩, .string ⟨c.c.1.toArray⟩, .string ⟨c.c.2.toArray⟩, .string ⟨c.w2.toArray⟩] 25)) := (Chg.refl _ w).alloc _
  have hft := cfirst_any (w.alloc (.cells #[.int .i64 c.kind, .string ⟨c.head.1.toArray⟩, .string ⟨c.head.2.toArray⟩, .string ⟨c.who.toArray⟩, .string ⟨c.b.1.toArray⟩, .string ⟨c.b.2.toArray⟩, .string ⟨c.c.1.toArray⟩, .string ⟨c.c.2.toArray⟩, .string ⟨c.w2.toArray⟩] 25)) (hm.keep hc1 id)
  have HH := hid (And.intro hft (And.intro hA1 hc1))
  clear hft hA1 hc1
  show Calls Try.prog 5 #[.slice a0 l.length c0, .agg #[.int .i64 c.kind, .string ⟨c.head.1.toArray⟩, .string ⟨c.head.2.toArray⟩, .string ⟨c.who.toArray⟩, .string ⟨c.b.1.toArray⟩, .string ⟨c.b.2.toArray⟩, .string ⟨c.c.1.toArray⟩, .string ⟨c.c.2.toArray⟩, .string ⟨c.w2.toArray⟩]] w _
  go_enter Try.func5, Try.ntmps5
  go_wp2_with fail
  obtain ⟨hft, hA1, hc1⟩ := HH.out
  clear HH
  refine hft.mono ?_
  rintro e w2 ⟨rfl, hc12⟩
  have hA := blk_keep hA1 hc12 id
  have hc2 := hc1.trans hc12 (fun _ _ h => h)
  have h2 := h0.keep hc2 (fun _ _ => id)
  clear hft hA1 hc1 hc12 h0
  generalize w.heap.size = A at *
  have htot : totalC [c] = sizeC c := by simp [totalC]
  have hg1 : Hid (∀ w', Chg (fun _ => False) w2 w' → Calls Try.prog 8 #[.slice a0 l.length c0] w' fun e w'' => e = .returned (.int .i64 (totalC l : Nat)) ∧ Chg (fun _ => False) w' w'') := hid (fun w' hw => great_any a0 c0 l w' (by omega) (h2.keep hw (fun _ _ => id)))
  have hg2 : Hid (∀ a1 p1 w', CredsAt (fun _ => True) w' a1 [c] → Calls Try.prog 8 #[.slice a1 1 p1] w' fun e w'' => e = .returned (.int .i64 (sizeC c : Nat)) ∧ Chg (fun _ => False) w' w'') := hid (fun a1 p1 w' h => by
    have hx := great_any a1 p1 [c] w' (by rw [htot]; omega) h
    rw [htot] at hx
    exact hx)
  clear htot
  obtain ⟨m1, hm1⟩ : ∃ m1, m1 = totalC l := ⟨_, rfl⟩
  obtain ⟨m2, hm2⟩ : ∃ m2, m2 = sizeC c := ⟨_, rfl⟩
  rw [← hm1] at hg1 hbg hl hln hsm
  rw [← hm2] at hg2 hbg hcz hsm
  replace hm1 := hid hm1
  replace hm2 := hid hm2
  go_wp2_with fail
  refine wp_region_specs (csSpecs3 a0 l.length c0 A m1 m2 bg c) [9, 10, 11, 12, 13, 14, 15] [0, 3] (by kernel_rfl) (by kernel_rfl) (by rfl) (by kernel_rfl) ?start ?obs ?fin
  case start =>
    simp only [List.forall_mem_cons]
    exact ⟨⟨_, rfl, rfl⟩, ⟨_, rfl, rfl⟩, fun _ h => by cases h⟩
  case obs =>
    clear hc2 h2
    refine Obs.cons none (by kernel_rfl) ?_ ?_
    · refine Ob.plain fun a w hR hk K k => ?_
      obtain ⟨_, e0, f0⟩ := hk 0 (by decide)
      clear hk
      go_simp
      exact k _ _ (Chg.refl _ _) f0
    refine Obs.cons none (by kernel_rfl) ?_ ?_
    · refine Ob.plain fun a w hR hk K k => ?_
      obtain ⟨_, e9, rfl⟩ := hk 9 (by decide)
      clear hk
      go_simp
      refine (hg1.out _ hR).mono ?_
      rintro e w2 ⟨rfl, hc⟩
      exact k _ _ hc rfl
    refine Obs.cons none (by kernel_rfl) ?_ ?_
    · refine Ob.plain fun a w hR hk K k => ?_
      obtain ⟨_, e3, rfl⟩ := hk 3 (by decide)
      clear hk
      obtain ⟨z0, z1, z2, z3, z4, z5, z6, z7, z8⟩ := (cred_at_blk hA).keep hR id
      simp only [Nat.zero_add, credBox] at z0 z1 z2 z3 z4 z5 z6 z7 z8
      go_simp
      exact k _ _ (Chg.refl _ _) rfl
    refine Obs.cons none (by kernel_rfl) ?_ ?_
    · refine Ob.plain fun a w hR hk K k => ?_
      obtain ⟨_, e11, rfl⟩ := hk 11 (by decide)
      clear hk
      simp only [credV, credBox] at e11
      go_simp
      exact k _ _ ((Chg.refl _ _).alloc _) ⟨_, _, rfl, (creds_lit [c] _ (0, 0) (by intro x hx; rw [List.mem_singleton.1 hx]; exact hsh)).mono (fun _ _ => trivial)⟩
    refine Obs.cons none (by kernel_rfl) ?_ ?_
    · refine Ob.plain fun a w hR hk K k => ?_
      obtain ⟨_, e12, f12⟩ := hk 12 (by decide)
      clear hk
      obtain ⟨a1, p1, rfl, h1⟩ := f12
      go_simp
      refine (hg2.out a1 p1 _ h1).mono ?_
      rintro e w2 ⟨rfl, hc⟩
      exact k _ _ hc rfl
    refine Obs.cons none (by kernel_rfl) ?_ ?_
    · refine Ob.plain fun a w hR hk K k => ?_
      obtain ⟨_, e10, rfl⟩ := hk 10 (by decide)
      obtain ⟨_, e13, rfl⟩ := hk 13 (by decide)
      clear hk
      have hwr : IntKind.i64.wrap ((m1 : Int) + (m2 : Int)) = (m1 : Int) + (m2 : Int) := by rw [IntKind.wrap_i64]; omega
      go_simp
      exact k _ _ (Chg.refl _ _) (by first | rfl | (simp only [hwr]; rfl))
    refine Obs.cons none (by kernel_rfl) ?_ ?_
    · refine Ob.plain fun a w hR hk K k => ?_
      obtain ⟨_, e14, rfl⟩ := hk 14 (by decide)
      clear hk
      have hz : decide ((2500 : Int) < (m1 : Int) + (m2 : Int)) = bg := hbg
      go_simp
      exact k _ _ (Chg.refl _ _) (by first | rfl | exact congrArg Value.bool hz)
    exact Obs.nil
  case fin =>
    intro vals w3 hc3 hv
    have h15 : vals 15 = .bool bg := hv 15 (by decide)
    simp only [putAll, List.setIfInBounds_toArray, List.set_cons_zero, List.set_cons_succ, h15]
    have hA3 := blk_keep hA hc3 id
    have hcw3 := hc2.trans hc3 (fun _ _ h => h)
    have h3 := h2.keep hc3 (fun _ _ => id)
    clear hv h15 hA hc2 h2 hc3 hg1 hg2
    cases bg with
    | true =>
      have HC := hid hcw3
      clear hcw3 h3 hA3 hbg hsm
      go_wp2
      go_ret
      exact ⟨rfl, HC.out⟩
    | false =>
      have hs2 := hsm rfl
      clear hsm hbg
      have hcs : credShort c 1048576 := (sizeC_short (Nat.le_of_eq hm2.out.symm)).mono (by omega)
      have hmem : Hid (∀ x ∈ l, credShort x 1048576) := hid (fun x hx => (sizeC_short (totalC_mem hx)).mono (by rw [← hm1.out]; omega))
      go_wp2
      go_loopw [18] (fun i wr => ∃ k : Nat, k ≤ l.length ∧ i = .int .i64 k ∧ wr.heap[A]? = some (.cells (credBox c) 25 (0, 0)) ∧ Chg (fun _ => False) w3 wr) (fun i _ => l.length - (intOf i).toNat)
      case atStart => exact ⟨0, Nat.zero_le _, rfl, hA3, Chg.refl _ _⟩
      case round =>
        obtain ⟨k, hk, rfl, hAr, hcr⟩ := hrel
        by_cases hlt : k < l.length
        · obtain ⟨cb, co, rfl, _, hcat, _⟩ := (h3.keep hcr (fun _ _ => id)) k hlt
          have hss := hmem.out l[k] (List.getElem_mem hlt)
          clear h3
          generalize l[k] = s at *
          obtain ⟨e0, e1, e2, e3, e4, e5, e6, e7, e8⟩ := hcat
          have hS : (wr.alloc (.cells #[.int .i64 s.kind, .string ⟨s.head.1.toArray⟩, .string ⟨s.head.2.toArray⟩, .string ⟨s.who.toArray⟩, .string ⟨s.b.1.toArray⟩, .string ⟨s.b.2.toArray⟩, .string ⟨s.c.1.toArray⟩, .string ⟨s.c.2.toArray⟩, .string ⟨s.w2.toArray⟩] 25)).heap[wr.heap.size]? = some (.cells (credBox s) 25 (0, 0)) := heap_alloc_new wr _
          have hcS : Chg (fun _ => False) wr (wr.alloc (.cells #[.int .i64 s.kind, .string ⟨s.head.1.toArray⟩, .string ⟨s.head.2.toArray⟩, .string ⟨s.who.toArray⟩, .string ⟨s.b.1.toArray⟩, .string ⟨s.b.2.toArray⟩, .string ⟨s.c.1.toArray⟩, .string ⟨s.c.2.toArray⟩, .string ⟨s.w2.toArray⟩] 25)) := (Chg.refl _ wr).alloc _
          have hA := blk_keep hAr hcS id
          have hcr2 := hcr.trans hcS (fun _ _ h => h)
          have HH := hid (And.intro hS (And.intro hA hcr2))
          clear hS hcS hA hcr2 hAr hcr hA3 hcw3
          go_wp2_with fail
          clear e0 e1 e2 e3 e4 e5 e6 e7 e8
          obtain ⟨hS, hA, hcr2⟩ := HH.out
          clear HH
          generalize wr.alloc (.cells #[.int .i64 s.kind, .string ⟨s.head.1.toArray⟩, .string ⟨s.head.2.toArray⟩, .string ⟨s.who.toArray⟩, .string ⟨s.b.1.toArray⟩, .string ⟨s.b.2.toArray⟩, .string ⟨s.c.1.toArray⟩, .string ⟨s.c.2.toArray⟩, .string ⟨s.w2.toArray⟩] 25) = w5 at *
          generalize wr.heap.size = Sb at *
          refine wp_region_specs (csSpecs8 A Sb c s) [22, 23, 24, 25, 26, 27, 28] [3, 6] (by kernel_rfl) (by kernel_rfl) (by rfl) (by kernel_rfl) ?start ?obs ?fin
          case start =>
            simp only [List.forall_mem_cons]
            exact ⟨⟨_, rfl, rfl⟩, ⟨_, rfl, rfl⟩, fun _ h => by cases h⟩
          case obs =>
            clear hcr2
            refine Obs.cons none (by kernel_rfl) ?_ ?_
            · refine Ob.plain fun a w hR hk K k => ?_
              obtain ⟨_, e3, rfl⟩ := hk 3 (by decide)
              clear hk
              obtain ⟨z0, z1, z2, z3, z4, z5, z6, z7, z8⟩ := (cred_at_blk hA).keep hR id
              simp only [Nat.zero_add, credBox] at z0 z1 z2 z3 z4 z5 z6 z7 z8
              go_simp
              exact k _ _ (Chg.refl _ _) rfl
            refine Obs.cons none (by kernel_rfl) ?_ ?_
            · refine Ob.plain fun a w hR hk K k => ?_
              obtain ⟨_, e6, rfl⟩ := hk 6 (by decide)
              clear hk
              obtain ⟨z0, z1, z2, z3, z4, z5, z6, z7, z8⟩ := (cred_at_blk hS).keep hR id
              simp only [Nat.zero_add, credBox] at z0 z1 z2 z3 z4 z5 z6 z7 z8
              go_simp
              exact k _ _ (Chg.refl _ _) rfl
            refine Obs.cons none (by kernel_rfl) ?_ ?_
            · refine Ob.plain fun a w hR hk K k => ?_
              obtain ⟨_, e22, rfl⟩ := hk 22 (by decide)
              obtain ⟨_, e23, rfl⟩ := hk 23 (by decide)
              clear hk
              go_simp
              refine (pccompare c s _ (hcs.mono (by omega)) (hss.mono (by omega))).mono ?_
              rintro e w2 ⟨rfl, hc⟩
              exact k _ _ hc rfl
            refine Obs.cons none (by kernel_rfl) ?_ ?_
            · refine Ob.plain fun a w hR hk K k => ?_
              obtain ⟨_, e3, rfl⟩ := hk 3 (by decide)
              clear hk
              obtain ⟨z0, z1, z2, z3, z4, z5, z6, z7, z8⟩ := (cred_at_blk hA).keep hR id
              simp only [Nat.zero_add, credBox] at z0 z1 z2 z3 z4 z5 z6 z7 z8
              go_simp
              exact k _ _ (Chg.refl _ _) rfl
            refine Obs.cons none (by kernel_rfl) ?_ ?_
            · refine Ob.plain fun a w hR hk K k => ?_
              obtain ⟨_, e6, rfl⟩ := hk 6 (by decide)
              clear hk
              obtain ⟨z0, z1, z2, z3, z4, z5, z6, z7, z8⟩ := (cred_at_blk hS).keep hR id
              simp only [Nat.zero_add, credBox] at z0 z1 z2 z3 z4 z5 z6 z7 z8
              go_simp
              exact k _ _ (Chg.refl _ _) rfl
            refine Obs.cons none (by kernel_rfl) ?_ ?_
            · refine Ob.plain fun a w hR hk K k => ?_
              obtain ⟨_, e25, rfl⟩ := hk 25 (by decide)
              obtain ⟨_, e26, rfl⟩ := hk 26 (by decide)
              clear hk
              go_simp
              refine (ccompare_ref c s _ hcs hss).mono ?_
              rintro e w2 ⟨rfl, hc⟩
              exact k _ _ hc rfl
            refine Obs.cons none (by kernel_rfl) ?_ ?_
            · refine Ob.plain fun a w hR hk K k => ?_
              obtain ⟨_, e24, rfl⟩ := hk 24 (by decide)
              obtain ⟨_, e27, rfl⟩ := hk 27 (by decide)
              clear hk
              generalize cmpC c s = v at *
              have z : (v != v) = false := by simp
              go_simp
              exact k _ _ (Chg.refl _ _) rfl
            exact Obs.nil
          case fin =>
            intro vals w6 hc6 hv
            have h28 : vals 28 = .bool false := hv 28 (by decide)
            simp only [putAll, List.setIfInBounds_toArray, List.set_cons_zero, List.set_cons_succ, h28]
            have HX := hid (And.intro (blk_keep hA hc6 id) (hcr2.trans hc6 (fun _ _ h => h)))
            clear hv h28 hA hS hcr2 hc6
            go_wp2
            go_roundw
            case rel => exact ⟨k + 1, by omega, by go_num, HX.out.1, HX.out.2⟩
            case measure => simp [intOf]; omega
        · have hk2 : k = l.length := by omega
          have h0 := h3.keep hcr (fun _ _ => id)
          have hA := hAr
          have hcw := hcw3.trans hcr (fun _ _ h => h)
          clear h3 hAr hcw3 hcr hA3 hmem
          go_wp2_with fail
          refine wp_region_specs (csSpecs11 a0 l.length c0 A l c) [30, 31, 32, 33, 34, 35, 36, 37, 38, 39, 40, 41, 42, 43, 4] [0, 3] (by kernel_rfl) (by kernel_rfl) (by rfl) (by kernel_rfl) ?start ?obs ?fin
          case start =>
            simp only [List.forall_mem_cons]
            exact ⟨⟨_, rfl, rfl⟩, ⟨_, rfl, rfl⟩, fun _ h => by cases h⟩
          case obs =>
            clear hcw
            refine Obs.cons none (by kernel_rfl) ?_ ?_
            · refine Ob.plain fun a w hR hk K k => ?_
              obtain ⟨_, e0, f0⟩ := hk 0 (by decide)
              clear hk
              go_simp
              exact k _ _ (Chg.refl _ _) f0
            refine Obs.cons none (by kernel_rfl) ?_ ?_
            · refine Ob.plain fun a w hR hk K k => ?_
              obtain ⟨_, e30, rfl⟩ := hk 30 (by decide)
              clear hk
              go_simp
              refine (pcset a0 c0 l _ (by omega) (h0.keep hR (fun _ _ => id)).low (fun _ h => h) z0).mono ?_
              rintro e w2 ⟨out, ao, cap, rfl, hso, hst, hc, _⟩
              exact k _ _ hc ⟨out, ao, cap, rfl, hso, hst.mono (fun _ _ => trivial)⟩
            refine Obs.cons none (by kernel_rfl) ?_ ?_
            · refine Ob.plain fun a w hR hk K k => ?_
              obtain ⟨_, e0, f0⟩ := hk 0 (by decide)
              clear hk
              go_simp
              exact k _ _ (Chg.refl _ _) f0
            refine Obs.cons none (by kernel_rfl) ?_ ?_
            · refine Ob.plain fun a w hR hk K k => ?_
              obtain ⟨_, e32, rfl⟩ := hk 32 (by decide)
              clear hk
              go_simp
              refine (cset_ref a0 c0 l _ (by omega) (h0.keep hR (fun _ _ => id)).low (fun _ h => h)).mono ?_
              rintro e w2 ⟨out, ao, cap, rfl, hso, hst, hc, _⟩
              exact k _ _ hc ⟨out, ao, cap, rfl, hso, hst.mono (fun _ _ => trivial)⟩
            refine Obs.cons none (by kernel_rfl) ?_ ?_
            · refine Ob.plain fun a w hR hk K k => ?_
              obtain ⟨_, e31, f31⟩ := hk 31 (by decide)
              obtain ⟨_, e33, f33⟩ := hk 33 (by decide)
              clear hk
              obtain ⟨o1, a1, p1, rfl, hs1, h1⟩ := f31
              obtain ⟨o2, a2, p2, rfl, hs2, h2⟩ := f33
              obtain rfl : o1 = o2 := hs1.one hs2
              have hol := SetG.len ltC_ord hs1
              go_simp
              refine (csame_ref a1 a2 p1 p2 o1 o1 _ (by omega) (by omega) h1 h2).mono ?_
              rintro e w2 ⟨rfl, q2, rfl⟩
              exact k _ _ ⟨rfl, rfl, rfl, Nat.le_refl _, fun _ _ _ => rfl⟩ (congrArg Value.bool (by simp [sameC]))
            refine Obs.cons none (by kernel_rfl) ?_ ?_
            · refine Ob.plain fun a w hR hk K k => ?_
              obtain ⟨_, e34, f34⟩ := hk 34 (by decide)
              clear hk
              go_simp
              exact k _ _ (Chg.refl _ _) f34
            refine Obs.cons (some (35, true)) (by kernel_rfl) ?_ ?_
            · refine Ob.yes (fun _ _ h => h) fun a w hR hk K k => ?_
              obtain ⟨_, e0, f0⟩ := hk 0 (by decide)
              clear hk
              go_simp
              exact k _ _ (Chg.refl _ _) f0
            refine Obs.cons (some (35, true)) (by kernel_rfl) ?_ ?_
            · refine Ob.yes (fun _ _ h => h) fun a w hR hk K k => ?_
              obtain ⟨_, e3, rfl⟩ := hk 3 (by decide)
              clear hk
              obtain ⟨z0, z1, z2, z3, z4, z5, z6, z7, z8⟩ := (cred_at_blk hA).keep hR id
              simp only [Nat.zero_add, credBox] at z0 z1 z2 z3 z4 z5 z6 z7 z8
              go_simp
              exact k _ _ (Chg.refl _ _) rfl
            refine Obs.cons (some (35, true)) (by kernel_rfl) ?_ ?_
            · refine Ob.yes (fun _ _ h => h) fun a w hR hk K k => ?_
              obtain ⟨_, e36, rfl⟩ := hk 36 (by decide)
              obtain ⟨_, e37, rfl⟩ := hk 37 (by decide)
              clear hk
              go_simp
              refine (pchas a0 c0 l c _ (by omega) hcs (h0.keep hR (fun _ _ => id))).mono ?_
              rintro e w2 ⟨rfl, hc⟩
              exact k _ _ hc rfl
            refine Obs.cons (some (35, true)) (by kernel_rfl) ?_ ?_
            · refine Ob.yes (fun _ _ h => h) fun a w hR hk K k => ?_
              obtain ⟨_, e0, f0⟩ := hk 0 (by decide)
              clear hk
              go_simp
              exact k _ _ (Chg.refl _ _) f0
            refine Obs.cons (some (35, true)) (by kernel_rfl) ?_ ?_
            · refine Ob.yes (fun _ _ h => h) fun a w hR hk K k => ?_
              obtain ⟨_, e3, rfl⟩ := hk 3 (by decide)
              clear hk
              obtain ⟨z0, z1, z2, z3, z4, z5, z6, z7, z8⟩ := (cred_at_blk hA).keep hR id
              simp only [Nat.zero_add, credBox] at z0 z1 z2 z3 z4 z5 z6 z7 z8
              go_simp
              exact k _ _ (Chg.refl _ _) rfl
            refine Obs.cons (some (35, true)) (by kernel_rfl) ?_ ?_
            · refine Ob.yes (fun _ _ h => h) fun a w hR hk K k => ?_
              obtain ⟨_, e39, rfl⟩ := hk 39 (by decide)
              obtain ⟨_, e40, rfl⟩ := hk 40 (by decide)
              clear hk
              go_simp
              refine (chas_ref a0 c0 l c _ (by omega) (h0.keep hR (fun _ _ => id))).mono ?_
              rintro e w2 ⟨rfl, hc⟩
              exact k _ _ hc rfl
            refine Obs.cons (some (35, true)) (by kernel_rfl) ?_ ?_
            · refine Ob.yes (fun _ _ h => h) fun a w hR hk K k => ?_
              obtain ⟨_, e38, rfl⟩ := hk 38 (by decide)
              obtain ⟨_, e41, rfl⟩ := hk 41 (by decide)
              clear hk
              generalize hasC l c = v at *
              have z : (v == v) = true := by simp
              go_simp
              exact k _ _ (Chg.refl _ _) rfl
            refine Obs.cons none (by kernel_rfl) ?_ ?_
            · refine Ob.plain fun a w hR hk K k => ?_
              obtain ⟨_, e35, rfl⟩ := hk 35 (by decide)
              obtain ⟨_, e42, rfl⟩ := hk 42 (by decide)
              clear hk
              go_simp
              exact k _ _ (Chg.refl _ _) rfl
            refine Obs.cons none (by kernel_rfl) ?_ ?_
            · refine Ob.plain fun a w hR hk K k => ?_
              obtain ⟨_, e43, f43⟩ := hk 43 (by decide)
              clear hk
              go_simp
              exact k _ _ (Chg.refl _ _) f43
            exact Obs.nil
          case fin =>
            intro vals w7 hc7 hv
            have h4 : vals 4 = .bool true := hv 4 (by decide)
            simp only [putAll, List.setIfInBounds_toArray, List.set_cons_zero, List.set_cons_succ, h4]
            go_wp2
            go_ret
            exact ⟨rfl, hcw.trans hc7 (fun _ _ h => h)⟩
end Go.Proofs.Ytjohiggfjpfbeaa

/- A role that came in, opened to its cells. -/
namespace Go.Proofs.Ytjohiggfjpfbeaa
open Go.ChangeShapes Go.WideShapes Go.ChangeAt Go.RowKit Go.Deep

theorem choose_roles {α : Type} (n : Nat) (p : Nat → α → Prop) (h : ∀ i, i < n → ∃ x, p i x) : ∃ l : List α, l.length = n ∧ ∀ i (hi : i < l.length), p i l[i] := by
  induction n with
  | zero => exact ⟨[], rfl, fun i hi => by simp at hi⟩
  | succ n ih =>
    obtain ⟨l, hl, hp⟩ := ih (fun i hi => h i (by omega))
    obtain ⟨x, hx⟩ := h n (by omega)
    refine ⟨l ++ [x], by simp [hl], fun i hi => ?_⟩
    by_cases hin : i < l.length
    · rw [List.getElem_append_left hin]
      exact hp i hin
    · have : i = n := by simp [hl] at hi; omega
      subst this
      rw [List.getElem_append_right (by omega)]
      simpa [hl] using hx

section
variable {H : Type} {enc : TypeId × Value → H} {w : World} {base : Nat} {held : Bool} {fuel : Nat}

set_option maxRecDepth 100000 in
/-- Two cells that are read as a role. -/
theorem open_role_cells {spare : Nat → Bool} {cs : List Value} {x : DataW H × List MemPlace} (h : DataW.trod enc Try.prog w base spare held fuel 23 cs = some x) :
    ∃ r : RoleB, cs = roleCells r ∧ r.1.length ≤ 9223372036854775807 ∧ r.2.length ≤ 9223372036854775807 ∧ 1 + r.1.length + r.2.length ≤ Rows.uptoBulk x.1 := by
  obtain ⟨y0, y1, n, rfl, hl, h0, h1⟩ := trod_struct2 Try.underlying23 h
  have hc : Try.prog.cellsOf 23 = 2 := by kernel_rfl
  rw [hc] at hl
  match cs, hl with
  | [c0, c1], _ =>
    have e0 : DataW.trod enc Try.prog w base spare held n 9 [c0] = some y0 := h0
    have e1 : DataW.trod enc Try.prog w base spare held n 9 [c1] = some y1 := h1
    obtain ⟨s0, hs0, rfl, hm0⟩ := DataW.trod_string Try.underlying9 e0
    obtain ⟨s1, hs1, rfl, hm1⟩ := DataW.trod_string Try.underlying9 e1
    simp only [List.cons.injEq, and_true] at hs0 hs1
    subst hs0
    subst hs1
    unfold maxLen at hm0 hm1
    refine ⟨(s0.data.toList, s1.data.toList), rfl, hm0, hm1, ?_⟩
    simp [Rows.uptoBulk, Rows.uptoBulkAll]
    omega

set_option maxRecDepth 100000 in
/-- A role that came in. -/
theorem open_role {base0 : Nat} {r : Reach} {v : Value} {d : DataW H} {ps : List MemPlace} {spare : Nat → Bool} (hval : Value.okWide Try.prog w r base0 23 v) (hd : DataW.Trod enc Try.prog w base spare held 23 v d ps) :
    ∃ x : RoleB, v = roleV x ∧ x.1.length ≤ 9223372036854775807 ∧ x.2.length ≤ 9223372036854775807 ∧ 1 + x.1.length + x.2.length ≤ Rows.uptoBulk d := by
  obtain ⟨cs, rfl, _⟩ := okWide_struct Try.underlying23 hval
  obtain ⟨n, hn⟩ := hd
  obtain ⟨x, hx, h1, h2, h3⟩ := open_role_cells hn
  refine ⟨x, ?_, h1, h2, h3⟩
  have : cs.toList = roleCells x := hx
  have e : cs = (roleCells x).toArray := by rw [← this]
  rw [e]
  rfl
end
end Go.Proofs.Ytjohiggfjpfbeaa

/- Credentials that came in, one or a list, opened to cells; how much they hold. -/
namespace Go.Proofs.Ytjohiggfjpfbeaa
open Go.ChangeShapes Go.WideShapes Go.ChangeAt Go.RowKit Go.Deep

theorem cred_at_cells' {w : World} {g o : Nat} {c : CredB} (h : ∀ j, j < 9 → w.cell? ⟨g, o + j, none⟩ = (credCells c)[j]?) : CredAt w g o c :=
  ⟨h 0 (by omega), h 1 (by omega), h 2 (by omega), h 3 (by omega), h 4 (by omega), h 5 (by omega), h 6 (by omega), h 7 (by omega), h 8 (by omega)⟩

section
variable {H : Type} {enc : TypeId × Value → H} {w : World} {base : Nat} {held : Bool} {fuel : Nat}

set_option maxRecDepth 100000 in
/-- Nine cells that are read as a credential. -/
theorem open_cred_cells {spare : Nat → Bool} {cs : List Value} {x : DataW H × List MemPlace} (h : DataW.trod enc Try.prog w base spare held fuel 25 cs = some x) :
    ∃ c : CredB, cs = credCells c ∧ credShort c 9223372036854775807 ∧ sizeC c ≤ 3 * Rows.uptoBulk x.1 := by
  obtain ⟨xs, n, _, rfl, hl, hlen, hf⟩ := DataW.trod_struct Try.underlying25 h
  have hc : Try.prog.cellsOf 25 = 9 := by kernel_rfl
  have hr : Try.prog.cellsOf 23 = 2 := by kernel_rfl
  rw [hc] at hl
  match cs, hl, xs, hlen with
  | [c0, c1, c2, c3, c4, c5, c6, c7, c8], _, [y0, y1, y2, y3, y4, y5], _ =>
    have e0 : DataW.trod enc Try.prog w base spare held n 3 [c0] = some y0 := hf 0 _ rfl
    have e1 : DataW.trod enc Try.prog w base spare held n 23 [c1, c2] = some y1 := hf 1 _ rfl
    have e2 : DataW.trod enc Try.prog w base spare held n 9 [c3] = some y2 := hf 2 _ rfl
    have e3 : DataW.trod enc Try.prog w base spare held n 23 [c4, c5] = some y3 := hf 3 _ rfl
    have e4 : DataW.trod enc Try.prog w base spare held n 23 [c6, c7] = some y4 := hf 4 _ rfl
    have e5 : DataW.trod enc Try.prog w base spare held n 9 [c8] = some y5 := hf 5 _ rfl
    obtain ⟨k, hk, rfl, _⟩ := DataW.trod_int Try.underlying3 e0
    obtain ⟨hd, h1, a1, a2, a3⟩ := open_role_cells e1
    obtain ⟨s2, hs2, rfl, hm2⟩ := DataW.trod_string Try.underlying9 e2
    obtain ⟨b, h3, b1, b2, b3⟩ := open_role_cells e3
    obtain ⟨c, h4, d1, d2, d3⟩ := open_role_cells e4
    obtain ⟨s5, hs5, rfl, hm5⟩ := DataW.trod_string Try.underlying9 e5
    simp only [roleCells, List.cons.injEq, and_true] at hk h1 hs2 h3 h4 hs5
    obtain ⟨h1a, h1b⟩ := h1
    obtain ⟨h3a, h3b⟩ := h3
    obtain ⟨h4a, h4b⟩ := h4
    subst hk h1a h1b hs2 h3a h3b h4a h4b hs5
    unfold maxLen at hm2 hm5
    refine ⟨⟨k, hd, s2.data.toList, b, c, s5.data.toList⟩, rfl, ⟨a1, a2, hm2, b1, b2, d1, d2, hm5⟩, ?_⟩
    simp only [sizeC, Rows.uptoBulk, Rows.uptoBulkAll, List.map_cons, List.map_nil]
    omega

set_option maxRecDepth 100000 in
/-- A credential that came in. -/
theorem open_cred {base0 : Nat} {r : Reach} {v : Value} {d : DataW H} {ps : List MemPlace} {spare : Nat → Bool} (hval : Value.okWide Try.prog w r base0 25 v) (hd : DataW.Trod enc Try.prog w base spare held 25 v d ps) :
    ∃ x : CredB, v = credV x ∧ credShort x 9223372036854775807 ∧ sizeC x ≤ 3 * Rows.uptoBulk d := by
  obtain ⟨cs, rfl, _⟩ := okWide_struct Try.underlying25 hval
  obtain ⟨n, hn⟩ := hd
  obtain ⟨x, hx, h1, h2⟩ := open_cred_cells hn
  refine ⟨x, ?_, h1, h2⟩
  have : cs.toList = credCells x := hx
  have e : cs = (credCells x).toArray := by rw [← this]
  rw [e]
  rfl

theorem bulk_creds (D : Nat → DataW H) : ∀ (l : List CredB), (∀ i (h : i < l.length), sizeC l[i] ≤ 3 * Rows.uptoBulk (D i)) → totalC l ≤ 3 * Rows.uptoBulkAll ((List.range l.length).map D)
  | [], _ => Nat.zero_le _
  | x :: l, h => by
    have ih := bulk_creds (fun i => D (i + 1)) l (fun i hi => h (i + 1) (by simp only [List.length_cons]; omega))
    rw [List.length_cons, List.range_succ_eq_map, List.map_cons, List.map_map]
    simp only [totalC, Rows.uptoBulkAll]
    have h0 := h 0 (by simp)
    simp only [List.getElem_cons_zero] at h0
    have e : (List.range l.length).map (D ∘ Nat.succ) = (List.range l.length).map (fun i => D (i + 1)) := rfl
    rw [e]
    omega

set_option maxRecDepth 100000 in
/-- A list of credentials that came in. -/
theorem open_creds {cs : List Value} {x : DataW H × List MemPlace} (h : DataW.trod enc Try.prog w base (fun _ => true) held fuel 49 cs = some x) :
    ∃ (ao : Option Addr) (cap : Nat) (ls : List CredB), cs = [.slice ao ls.length cap] ∧ CredsAt (fun k => k < w.heap.size) w ao ls ∧ totalC ls ≤ 3 * Rows.uptoBulk x.1 ∧ (ao = none → cap = 0) := by
  rcases open_slice Try.underlying49 h with ⟨rfl, rfl⟩ | ⟨a, len, cap, m, n, D, Pl, rfl, _, hl, hm, hmm, rfl, hi⟩
  · exact ⟨none, 0, [], rfl, CredsAt.nil _ _ _, Nat.zero_le _, fun _ => rfl⟩
  · simp only [if_true] at hmm
    have hc9 : Try.prog.cellsOf 25 = 9 := by kernel_rfl
    have each : ∀ i, i < len → ∃ y : CredB, (∃ b off, some a = some ⟨b, off, none⟩ ∧ b < w.heap.size ∧ CredAt w b (off + i * 9) y ∧ credShort y 9223372036854775807) ∧ sizeC y ≤ 3 * Rows.uptoBulk (D i) := by
      intro i hil
      obtain ⟨cs', hcs, ht⟩ := hi i (by omega)
      rw [hc9] at hcs
      obtain ⟨r, hr, h1, h2⟩ := open_cred_cells ht
      subst hr
      obtain ⟨_, _, hat⟩ := World.cells?_some hcs
      have hs : a = ⟨a.block, a.off, none⟩ := by
        obtain ⟨cs'', hcs'', ht''⟩ := hi 0 (by omega)
        rw [hc9] at hcs''
        obtain ⟨r'', hr'', _⟩ := open_cred_cells ht''
        subst hr''
        obtain ⟨_, _, hat''⟩ := World.cells?_some hcs''
        have q := hat'' 0 (by decide)
        rw [Nat.zero_mul, add_zero, add_zero] at q
        exact spot_none q
      have hall : ∀ j, j < 9 → w.cell? ⟨a.block, a.off + i * 9 + j, none⟩ = (credCells r)[j]? := fun j hj => by
        have q := hat j (by simpa [credCells] using hj)
        rw [hs, add_off, add_off] at q
        exact q
      have hat9 := cred_at_cells' hall
      exact ⟨r, ⟨a.block, a.off, congrArg some hs, World.block_lt_of_cell? w ⟨a.block, a.off + i * 9, none⟩ hat9.k0, hat9, h1⟩, h2⟩
    obtain ⟨xs, hlen, hp⟩ := choose_roles len _ each
    subst hlen
    refine ⟨some a, cap, xs, rfl, fun i hi => (hp i hi).1, ?_, fun e => by cases e⟩
    have := bulk_creds D xs (fun i hi => (hp i hi).2)
    simp only [Rows.uptoBulk]
    omega
end
end Go.Proofs.Ytjohiggfjpfbeaa

/- A law that bears a condition, over worlds of the program's shape: what is to be shown of the call. (The kit's wrap for a condition throws the shape away.) -/
namespace Go.Proofs.Ytjohiggfjpfbeaa
open Go.ChangeShapes Go.WideShapes Go.ChangeAt Go.RowKit

theorem handed_cond_shaped {H : Type} {enc : TypeId × Value → H} {a : Assume} {C : Checked} {os : Os} {f : FuncId} {fn : Func} {s : OpenSpec} {k : (H : Type) → List (DataW H) → Bool} (hk : s.cond = some k) {F : Stop.Interp} {conds : List PathCond} {apart fresh handsOn again : Bool}
    (own : ownKnob C.prog.godebug = none) (started : os.Started) (noInit : C.prog.inits.idxOf? f = none) (hfn : C.prog.funcs[f]? = some fn)
    (witness : ∃ (w : World) (tape : Tape) (i : Input), w.os = os ∧ (w.forCall tape i).Shaped C.prog ∧ i.vars = [] ∧ Input.okWide C.prog (w.forCall tape i) .any w.heap.size f i ∧
      s.pre6 enc C.prog fn conds apart (w.forCall tape i).memory i.args ∧ a.holds C.prog (lone (Frame.enter C.prog f i.args .normal) [] (w.forCall tape i)))
    (main : ∀ (W : World) (base : Nat) (args : Array Value) (ds gs : List (DataW H)) (before : List MemPlace), W.ShapedOpen C.prog →
      (∀ (j : Nat) t v, fn.params[j]? = some t → args[j]? = some v → Value.okWide C.prog W .any base t v) →
      DataW.Whole enc C.prog fn.params.toList s.vars apart W args.toList ds gs before → k H (ds ++ gs) = true →
      Calls C.prog f args W fun e W' => ∃ v, e = .returned v ∧ (s.at F).post enc C.prog fn apart fresh handsOn again W args v W') :
    ReturnsInHanded a C os f .any (s.pre6 enc C.prog fn conds apart) ((s.at F).post enc C.prog fn apart fresh handsOn again) := by
  refine returnsInHanded_of_calls own started noInit witness fun w tape i _ hsh _ hok hpre _ => ?_
  obtain ⟨_, _, _, fn', hfn', _, _, _, _, hval⟩ := hok
  obtain rfl : fn' = fn := Option.some.inj (hfn'.symm.trans hfn)
  obtain ⟨ds, gs, before, hw, _, hkk⟩ := (OpenSpec.pre_some hk conds apart _ _).1 hpre.1
  refine (main (w.forCall tape i) w.heap.size i.args ds gs before hsh hval (DataW.Whole.of_heap (w' := w.forCall tape i) (by rfl) hw) hkk).mono ?_
  rintro e W' ⟨v, rfl, hp⟩
  exact ChangeSpec.post_blind hp
end Go.Proofs.Ytjohiggfjpfbeaa
