/- Texts that the proof leans on, in one: RefRoleParse, RoleLong, RoleSame, RoleHas. -/
import Derived.Test.YtdlpddpdobiebaaTm8
import Derived.Test.YtdlpddpdobiebaaTm6
import Derived.Deep.QuietTactic
import Derived.BigQuiet
/- The contract of the document's Parse of layer 4. -/
namespace Go.Proofs.Ytdlpddpdobiebaa
open Go.RowKit

set_option maxRecDepth 100000 in
set_option maxHeartbeats 1000000 in
theorem rparse_ref (s : List UInt8) (w : World) (hs : s.length ≤ 9223372036854775806) :
    Calls Try.prog 9 #[.string ⟨s.toArray⟩] w (ParsePost s w) := by
  have gx := ba_get s
  have hc0 : Chg (fun _ => False) w (w.alloc (.cells #[.string ⟨#[]⟩, .string ⟨#[]⟩] 24)) := (Chg.refl _ w).alloc _
  have hC := heap_alloc_new w (.cells #[.string ⟨#[]⟩, .string ⟨#[]⟩] 24)
  go_enter Try.func9, Try.ntmps9
  go_wp2
  generalize w.alloc (.cells #[.string ⟨#[]⟩, .string ⟨#[]⟩] 24) = w1 at *
  generalize hCC : w.heap.size = C at *
  go_loop [4] (fun i => ∃ k : Nat, i = .int .i64 k ∧ k ≤ s.length ∧ Hid (∀ c ∈ s.take k, c.toNat ≠ 46)) (fun i => s.length - (intOf i).toNat)
  case atStart => exact ⟨0, rfl, Nat.zero_le _, fun c hc => by simp at hc⟩
  case round =>
    obtain ⟨k, rfl, hk, hno⟩ := hrel
    by_cases hlt : k < s.length
    · by_cases hd : s[k].toNat = 46
      · have z1 : ((s[k].toNat : Int) == 46) = true := by simp; omega
        have hcd : Hid (cutDot s = some (s.take k, s.drop (k + 1))) := hid (cutDot_at s k hlt hno.out hd)
        have st := str_take s k
        have sd := str_drop s (k + 1)
        have hlt2 : ((k : Int) + 1) ≤ (s.length : Int) := by omega
        clear hd hno
        go_wp2
        go_region
        have hc1 : Chg (fun _ => False) w1 (w1.alloc (.cells #[.string ⟨(s.take k).toArray⟩, .string ⟨(s.drop (k + 1)).toArray⟩] 24)).drew := ((Chg.refl _ w1).alloc _).drew
        have hB : (w1.alloc (.cells #[.string ⟨(s.take k).toArray⟩, .string ⟨(s.drop (k + 1)).toArray⟩] 24)).drew.heap[w1.heap.size]? = some (.cells #[.string ⟨(s.take k).toArray⟩, .string ⟨(s.drop (k + 1)).toArray⟩] 24) := heap_alloc_new w1 _
        have hC1 := blk_keep hC hc1 id
        have hCB : C < w1.heap.size := lt_blk hC
        generalize (w1.alloc (.cells #[.string ⟨(s.take k).toArray⟩, .string ⟨(s.drop (k + 1)).toArray⟩] 24)).drew = w2 at *
        generalize w1.heap.size = B at *
        have l1 : (s.take k).length ≤ 9223372036854775807 := by simp; omega
        have l2 : (s.drop (k + 1)).length ≤ 9223372036854775807 := by simp; omega
        clear st sd hlt2 z1 gx
        generalize s.take k = o at *
        generalize s.drop (k + 1) = x at *
        have b0 := cell_blk hB 0
        have b1 := cell_blk hB 1
        simp only [List.getElem?_toArray, List.getElem?_cons_zero, List.getElem?_cons_succ] at b0 b1
        have hcw := hc0.trans hc1 (fun _ _ h => h)
        clear hc0 hc1 hC
        go_wp2_with fail
        refine (rright_ref (o, x) w2 l1 l2).mono ?_
        rintro e w3 ⟨rfl, hc3⟩
        have hC3 := blk_keep hC1 hc3 id
        have hB3 := blk_keep hB hc3 id
        have hcw3 := hcw.trans hc3 (fun _ _ h => h)
        clear b0 b1 hcw hB hC1 hc3
        have b0 := cell_blk hB3 0
        have b1 := cell_blk hB3 1
        have q0 := cell_blk hC3 0
        have q1 := cell_blk hC3 1
        have f0 := froz_blk hC3 0
        have f1 := froz_blk hC3 1
        simp only [List.getElem?_toArray, List.getElem?_cons_zero, List.getElem?_cons_succ] at b0 b1 q0 q1
        cases hr : isRole (o, x) with
        | true =>
          have hp : Hid (parseR s = some (o, x)) := hid (by rw [parseR, hcd.out]; simp [hr])
          have hD : ((w3.setCell ⟨C, 0, none⟩ (.string ⟨o.toArray⟩)).setCell ⟨C, 1, none⟩ (.string ⟨x.toArray⟩)).heap[C]? = some (.cells #[.string ⟨o.toArray⟩, .string ⟨x.toArray⟩] 24 (0, 0)) := set_blk (set_blk hC3 0 (.string ⟨o.toArray⟩)) 1 (.string ⟨x.toArray⟩)
          have hch : Chg (fun _ => False) w ((w3.setCell ⟨C, 0, none⟩ (.string ⟨o.toArray⟩)).setCell ⟨C, 1, none⟩ (.string ⟨x.toArray⟩)) := (hcw3.trans (setCell_chg w3 C 0 _) (fun i hi h => by omega)).trans (setCell_chg _ C 1 _) (fun i hi h => by omega)
          have HH := hid (And.intro hD hch)
          clear hD hch hcw3 hC3 hB3
          go_wp2
          refine bodyPost_ret (results_row_tmp rfl _ _ C _ rfl (run_loadVar_row (P := Try.prog) _ C 24 24 _ (0, 0) _ HH.out.1 Try.underlying24 rfl (by kernel_rfl))) rfl ?_
          exact ⟨by rw [hp.out]; rfl, HH.out.2⟩
        | false =>
          have hp : Hid (parseR s = none) := hid (by rw [parseR, hcd.out]; simp [hr])
          have hD : ((w3.setCell ⟨C, 0, none⟩ (.string ⟨#[]⟩)).setCell ⟨C, 1, none⟩ (.string ⟨#[]⟩)).heap[C]? = some (.cells #[.string ⟨#[]⟩, .string ⟨#[]⟩] 24 (0, 0)) := set_blk (set_blk hC3 0 (.string ⟨#[]⟩)) 1 (.string ⟨#[]⟩)
          have hch : Chg (fun _ => False) w ((w3.setCell ⟨C, 0, none⟩ (.string ⟨#[]⟩)).setCell ⟨C, 1, none⟩ (.string ⟨#[]⟩)) := (hcw3.trans (setCell_chg w3 C 0 _) (fun i hi h => by omega)).trans (setCell_chg _ C 1 _) (fun i hi h => by omega)
          have HH := hid (And.intro hD hch)
          clear hD hch hcw3 hC3 hB3
          go_wp2
          refine bodyPost_ret (results_row_tmp rfl _ _ C _ rfl (run_loadVar_row (P := Try.prog) _ C 24 24 _ (0, 0) _ HH.out.1 Try.underlying24 rfl (by kernel_rfl))) rfl ?_
          exact ⟨by rw [hp.out]; rfl, HH.out.2⟩
      · have z1 : ((s[k].toNat : Int) == 46) = false := by simp; omega
        have hn2 : Hid (∀ c ∈ s.take (k + 1), c.toNat ≠ 46) := hid (fun c hc => by
          rw [List.take_succ_eq_append_getElem hlt] at hc
          rcases List.mem_append.1 hc with h | h
          · exact hno.out c h
          · rw [List.mem_singleton.1 h]; exact hd)
        clear hd hno
        go_wp2
        go_round
        case rel => exact ⟨k + 1, by go_num, by omega, hn2⟩
        case measure => simp [intOf]; omega
    · have hk2 : k = s.length := by omega
      subst hk2
      have hp : Hid (parseR s = none) := hid (by
        have := hno.out
        rw [List.take_of_length_le (Nat.le_refl _)] at this
        rw [parseR, cutDot_none s this])
      have hch : Chg (fun _ => False) w ((w1.setCell ⟨C, 0, none⟩ (.string ⟨#[]⟩)).setCell ⟨C, 1, none⟩ (.string ⟨#[]⟩)) := (hc0.trans (setCell_chg w1 C 0 _) (fun i hi h => by omega)).trans (setCell_chg _ C 1 _) (fun i hi h => by omega)
      have hD : ((w1.setCell ⟨C, 0, none⟩ (.string ⟨#[]⟩)).setCell ⟨C, 1, none⟩ (.string ⟨#[]⟩)).heap[C]? = some (.cells #[.string ⟨#[]⟩, .string ⟨#[]⟩] 24 (0, 0)) := set_blk (set_blk hC 0 (.string ⟨#[]⟩)) 1 (.string ⟨#[]⟩)
      have q0 := cell_blk hC 0
      have q1 := cell_blk hC 1
      have f0 := froz_blk hC 0
      have f1 := froz_blk hC 1
      simp only [List.getElem?_toArray, List.getElem?_cons_zero, List.getElem?_cons_succ] at q0 q1
      have HH := hid (And.intro hD hch)
      clear hD hch hC hc0 gx
      go_wp2
      refine bodyPost_ret (results_row_tmp rfl _ _ C _ rfl (run_loadVar_row (P := Try.prog) _ C 24 24 _ (0, 0) _ HH.out.1 Try.underlying24 rfl (by kernel_rfl))) rfl ?_
      exact ⟨by rw [hp.out]; rfl, HH.out.2⟩
end Go.Proofs.Ytdlpddpdobiebaa

/- How much roles hold; the contract of law 4's long. -/
namespace Go.Proofs.Ytdlpddpdobiebaa
open Go.RowKit

/-- Roles and bytes, all together. -/
def totalR : List RoleB → Nat
  | [] => 0
  | x :: l => 1 + x.1.length + x.2.length + totalR l

theorem totalR_append (a b : List RoleB) : totalR (a ++ b) = totalR a + totalR b := by
  induction a with
  | nil => simp [totalR]
  | cons x a ih => simp only [List.cons_append, totalR, ih]; omega

theorem totalR_len (a : List RoleB) : a.length ≤ totalR a := by
  induction a with
  | nil => exact Nat.zero_le _
  | cons x a ih => simp only [List.length_cons, totalR]; omega

theorem totalR_mem {a : List RoleB} {x : RoleB} (h : x ∈ a) : x.1.length + x.2.length ≤ totalR a := by
  induction a with
  | nil => cases h
  | cons y a ih =>
    simp only [totalR]
    rcases List.mem_cons.1 h with rfl | h
    · omega
    · have := ih h; omega

theorem totalR_take (ls : List RoleB) (k : Nat) (h : k < ls.length) : totalR (ls.take (k + 1)) = totalR (ls.take k) + (1 + ls[k].1.length + ls[k].2.length) := by
  rw [List.take_succ_eq_append_getElem h, totalR_append]
  simp [totalR]
theorem totalR_take_le (ls : List RoleB) (k : Nat) : totalR (ls.take k) ≤ totalR ls := by
  have := totalR_append (ls.take k) (ls.drop k)
  rw [List.take_append_drop] at this
  omega

set_option maxRecDepth 100000 in
theorem rlong_any {D : Nat → Prop} (ao : Option Addr) (cp : Nat) (ls : List RoleB) (w : World) (hn : totalR ls ≤ 4194304) (h : RolesAt D w ao ls) :
    Calls Try.prog 7 #[.slice ao ls.length cp] w fun e w' => e = .returned (.bool (decide (800 < totalR ls))) ∧ Chg (fun _ => False) w w' := by
  have hl := totalR_len ls
  go_enter Try.func7, Try.ntmps7
  go_wp2
  go_loopw [3, 8] (fun n i wr => ∃ k m : Nat, k ≤ ls.length ∧ i = .int .i64 k ∧ n = .int .i64 m ∧ Hid (m = totalR (ls.take k)) ∧ m ≤ 4194304 ∧ Chg (fun _ => False) w wr) (fun _ i _ => ls.length - (intOf i).toNat)
  case atStart => exact ⟨0, 0, Nat.zero_le _, rfl, rfl, rfl, by omega, Chg.refl _ _⟩
  case round =>
    obtain ⟨k, m, hk, rfl, rfl, hm, hml, hc⟩ := hrel
    by_cases hlt : k < ls.length
    · obtain ⟨b, off, rfl, _, c0, c1, hs1, hs2⟩ := (h.keep hc (fun _ _ => id)) k hlt
      have ht := totalR_take ls k hlt
      have hle := totalR_take_le ls (k + 1)
      rw [ht, ← hm.out] at hle
      have hx : Hid (m + (1 + ls[k].1.length + ls[k].2.length) = totalR (ls.take (k + 1))) := hid (by rw [ht, hm.out])
      clear h ht
      have hsl2 : m + (1 + ls[k].1.length + ls[k].2.length) ≤ 4194304 := by omega
      clear hle
      generalize ls[k] = s at *
      obtain ⟨o, x⟩ := s
      dsimp only at c0 c1 hs1 hs2 hx hsl2
      have hc2 : Chg (fun _ => False) wr (wr.alloc (.cells #[.string ⟨o.toArray⟩, .string ⟨x.toArray⟩] 24)) := (Chg.refl _ wr).alloc _
      have HC := hid (hc.trans hc2 (fun _ _ h => h))
      clear hc hc2
      go_wp2
      go_roundw
      case rel => exact ⟨k + 1, m + (1 + o.length + x.length), by omega, by go_num, by go_num, hx, hsl2, HC.out⟩
      case measure => simp [intOf]; omega
    · have hk2 : k = ls.length := by omega
      have hx : m = totalR ls := by have := hm.out; rwa [List.take_of_length_le (by omega)] at this
      subst hx
      have HC := hid hc
      clear h hc
      go_wp2
      go_ret
      exact ⟨congrArg (fun b => Ending.returned (.bool b)) (by rw [decide_eq_decide]; omega), HC.out⟩
end Go.Proofs.Ytdlpddpdobiebaa

/- The contract of the document's Same of layer 4. -/
namespace Go.Proofs.Ytdlpddpdobiebaa
open Go.RowKit

theorem drewN_add (w : World) (n m : Nat) : (w.drewN n).drewN m = w.drewN (n + m) := by
  simp only [World.drewN, Nat.add_assoc]

set_option maxRecDepth 100000 in
theorem rsame_ref {D1 D2 : Nat → Prop} (a1 a2 : Option Addr) (c1 c2 : Nat) (l1 l2 : List RoleB) (w : World) (hn : l1.length ≤ 4611686018427387904) (hm : l2.length ≤ 4611686018427387904) (h1 : RolesAt D1 w a1 l1) (h2 : RolesAt D2 w a2 l2) :
    Calls Try.prog 15 #[.slice a1 l1.length c1, .slice a2 l2.length c2] w fun e w' => e = .returned (.bool (sameR l1 l2)) ∧ ∃ n, w' = w.drewN n := by
  by_cases hl : l1.length = l2.length
  · have z1 : ((l1.length : Int) != (l2.length : Int)) = false := by simp; omega
    have HL := hid hl
    have hl1 : l1.length ≤ l2.length := by omega
    have hl2 : l2.length ≤ l1.length := by omega
    clear hl
    go_enter Try.func15, Try.ntmps15
    go_wp2
    go_loopw [13] (fun i wr => ∃ k n : Nat, k ≤ l1.length ∧ i = .int .i64 k ∧ wr = w.drewN n ∧ Hid (l1.take k = l2.take k)) (fun i _ => l1.length - (intOf i).toNat)
    case atStart => exact ⟨0, 0, Nat.zero_le _, rfl, rfl, by rw [List.take_zero, List.take_zero]; rfl⟩
    case round =>
      obtain ⟨k, n, hk, rfl, rfl, hc⟩ := hrel
      by_cases hlt : k < l1.length
      · obtain ⟨b, off, rfl, _, q0, q1, _⟩ := h1 k hlt
        obtain ⟨b2, off2, rfl, _, q2, q3, _⟩ := h2 k (by omega)
        clear h1 h2
        have e0 : (0 : Int) ≤ (k : Int) := by omega
        have e1 : (k : Int) < (l1.length : Int) := by omega
        have e2 : (k : Int) < (l2.length : Int) := by omega
        have hx1 : Hid (l1[k] = l2[k]'(by omega) → l1.take (k + 1) = l2.take (k + 1)) := hid (fun he => by rw [List.take_succ_eq_append_getElem hlt, List.take_succ_eq_append_getElem (HL.out ▸ hlt), hc.out, he])
        have hx2 : Hid (l1[k] ≠ l2[k]'(by omega) → sameR l1 l2 = false) := hid (fun he => by
          simp only [sameR, beq_eq_false_iff_ne, ne_eq]
          intro h
          subst h
          exact he rfl)
        generalize l1[k] = s1 at *
        generalize l2[k]'(by omega) = s2 at *
        obtain ⟨o, x⟩ := s1
        obtain ⟨p, y⟩ := s2
        by_cases f1 : o = p
        · subst f1
          have g1 : (o == o) = true := by simp
          by_cases f2 : x = y
          · subst f2
            have g2 : (x == x) = true := by simp
            have hx := hid (hx1.out rfl)
            go_wp2
            go_quiet (fail)
            go_wp2
            go_roundw
            case rel => exact ⟨k + 1, n + nq, by omega, by go_num, rfl, hx⟩
            case measure => simp [intOf]; omega
          · have g2 : (x == y) = false := by simpa using f2
            have hx := hid (hx2.out (fun h => f2 (congrArg Prod.snd h)))
            clear f2
            go_wp2
            go_quiet (fail)
            go_wp2
            go_ret
            exact ⟨by rw [hx.out]; rfl, _, drewN_add w n nq⟩
        · have g1 : (o == p) = false := by simpa using f1
          have hx := hid (hx2.out (fun h => f1 (congrArg Prod.fst h)))
          clear f1
          go_wp2
          go_quiet (fail)
          go_wp2
          go_ret
          exact ⟨by rw [hx.out]; rfl, _, drewN_add w n nq⟩
      · have hk2 : k = l1.length := by omega
        subst hk2
        have hx : Hid (sameR l1 l2 = true) := by
          have := hc.out
          rw [List.take_of_length_le (Nat.le_refl _), List.take_of_length_le (by rw [HL.out]; omega)] at this
          exact hid (by simp [sameR, this])
        clear h1 h2
        go_wp2
        go_ret
        exact ⟨by rw [hx.out]; rfl, n, rfl⟩
  · have z1 : ((l1.length : Int) != (l2.length : Int)) = true := by simp; omega
    have hx : Hid (sameR l1 l2 = false) := by
      refine hid ?_
      simp only [sameR, beq_eq_false_iff_ne, ne_eq]
      intro h
      exact hl (congrArg List.length h)
    go_enter Try.func15, Try.ntmps15
    go_wp2
    go_ret
    exact ⟨by rw [hx.out]; rfl, 0, rfl⟩
end Go.Proofs.Ytdlpddpdobiebaa

/- The contracts of the document's Has and Same of layer 4. -/
namespace Go.Proofs.Ytdlpddpdobiebaa
open Go.RowKit

set_option maxRecDepth 100000 in
theorem rhas_ref {D : Nat → Prop} (ao : Option Addr) (cp : Nat) (ls : List RoleB) (r : RoleB) (w : World) (hn : ls.length ≤ 9223372036854775807) (h : RolesAt D w ao ls) :
    Calls Try.prog 19 #[.slice ao ls.length cp, roleV r] w fun e w' => e = .returned (.bool (hasR ls r)) ∧ Chg (fun _ => False) w w' := by
  obtain ⟨o, x⟩ := r
  show Calls Try.prog 19 #[.slice ao ls.length cp, .agg #[.string ⟨o.toArray⟩, .string ⟨x.toArray⟩]] w _
  have hc : Chg (fun _ => False) w (w.alloc (.cells #[.string ⟨o.toArray⟩, .string ⟨x.toArray⟩] 24)) := (Chg.refl _ w).alloc _
  have hA := heap_alloc_new w (.cells #[.string ⟨o.toArray⟩, .string ⟨x.toArray⟩] 24)
  have h' := h.keep hc (fun _ _ => id)
  go_enter Try.func19, Try.ntmps19
  go_wp2
  generalize hw1 : w.alloc (.cells #[.string ⟨o.toArray⟩, .string ⟨x.toArray⟩] 24) = w1 at *
  generalize w.heap.size = A at *
  go_loopw [9] (fun i wr => ∃ k : Nat, k ≤ ls.length ∧ i = .int .i64 k ∧ Hid (hasR (ls.take k) (o, x) = false) ∧ Chg (fun _ => False) w1 wr) (fun i _ => ls.length - (intOf i).toNat)
  case atStart => exact ⟨0, Nat.zero_le _, rfl, by rw [List.take_zero]; rfl, Chg.refl _ _⟩
  case round =>
    obtain ⟨k, hk, rfl, hf, hc1⟩ := hrel
    have hA1 := blk_keep hA hc1 id
    have a0 := cell_blk hA1 0
    have a1 := cell_blk hA1 1
    simp only [List.getElem?_toArray, List.getElem?_cons_zero, List.getElem?_cons_succ] at a0 a1
    by_cases hlt : k < ls.length
    · obtain ⟨b, off, rfl, _, c0, c1, _⟩ := (h'.keep hc1 (fun _ _ => id)) k hlt
      have hft := hasR_take ls (o, x) k hlt hf.out
      have HFT := hid hft
      clear h h' hft
      have hmem : Hid (ls[k] ∈ ls) := hid (List.getElem_mem hlt)
      generalize ls[k] = q at *
      obtain ⟨p, y⟩ := q
      have hc2 : Chg (fun _ => False) wr (wr.alloc (.cells #[.string ⟨p.toArray⟩, .string ⟨y.toArray⟩] 24)) := (Chg.refl _ wr).alloc _
      have b0 := hc2.cell a0 id
      have b1 := hc2.cell a1 id
      have HC := hid (hc1.trans hc2 (fun _ _ h => h))
      have HW := hid hc
      clear hc hc1 hc2 hA hA1 hw1
      by_cases e1 : p = o
      · subst e1
        have f1 : (p == p) = true := by simp
        by_cases e2 : y = x
        · subst e2
          have f2 : (y == y) = true := by simp
          have hh : Hid (hasR ls (p, y) = true) := hid (by simpa [hasR] using hmem.out)
          go_wp2
          go_ret
          exact ⟨by rw [hh.out]; rfl, HW.out.trans HC.out (fun _ _ h => h)⟩
        · have f2 : (y == x) = false := by simpa using e2
          have hx := hid (HFT.out (fun h => e2 (congrArg Prod.snd h)))
          clear e2
          go_wp2
          go_roundw
          case rel => exact ⟨k + 1, by omega, by go_num, hx, HC.out⟩
          case measure => simp [intOf]; omega
      · have f1 : (p == o) = false := by simpa using e1
        have hx := hid (HFT.out (fun h => e1 (congrArg Prod.fst h)))
        clear e1
        go_wp2
        go_roundw
        case rel => exact ⟨k + 1, by omega, by go_num, hx, HC.out⟩
        case measure => simp [intOf]; omega
    · have hk2 : k = ls.length := by omega
      have hh : Hid (hasR ls (o, x) = false) := by have := hf.out; rwa [List.take_of_length_le (by omega)] at this
      have HC := hid (hc.trans hc1 (fun _ _ h => h))
      clear h h' hc hc1 hA hA1 hw1
      go_wp2
      go_ret
      exact ⟨by rw [hh.out]; rfl, HC.out⟩
end Go.Proofs.Ytdlpddpdobiebaa
