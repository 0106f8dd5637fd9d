/- Texts that the proof leans on, in one: RoleMake, RoleHas. -/
import Derived.Test.YtjaplnainlbldaaFr24
import Derived.Test.YtjaplnainlbldaaFr8
import Derived.Test.YtjaplnainlbldaaFr25
import Derived.Test.YtjaplnainlbldaaFr2
/- The set of the right roles of a list: append, sort, compact. -/
namespace Go.Proofs.Ytjaplnainlbldaa
open Go.RowKit

set_option maxRecDepth 100000 in
set_option maxHeartbeats 2000000 in
theorem pset {D : Nat → Prop} (ao : Option Addr) (cp : Nat) (ls : List RoleB) (w : World) (hn : ls.length ≤ 4194304) (h : RolesAt D w ao ls) (_ : ∀ i, D i → i < w.heap.size) (hz : ao = none → cp = 0) :
    Calls Try.prog 92 #[.slice ao ls.length cp] w (SetPostR ls w) := by
  obtain ⟨i0, hi, hz0, hz1, hz2⟩ := info_parts Try.info24
  go_enter Try.func92, Try.ntmps92
  go_wp2
  go_loopw [3, 8] (fun v i wr => ∃ (k : Nat) (out : List RoleB) (ao' : Option Addr) (cap : Nat), i = .int .i64 k ∧ k ≤ ls.length ∧ v = .slice ao' out.length cap ∧ Hid (out = (ls.take k).filter isRole) ∧ out.length ≤ k ∧ OwnR w.heap.size wr (.slice ao' out.length cap) out ∧ Chg (fun _ => False) w wr) (fun _ i _ => ls.length - (intOf i).toNat)
  case atStart => exact ⟨0, [], none, 0, rfl, Nat.zero_le _, rfl, rfl, Nat.zero_le _, World.ownsRow_nil _ _ _ _, Chg.refl _ _⟩
  case round =>
    obtain ⟨k, out, ao', cap', rfl, hk, rfl, hout, hol, ho, hc⟩ := hrel
    by_cases hlt : k < ls.length
    · obtain ⟨b, off, rfl, hbD, c0, c1, ls1, ls2⟩ := (h.keep hc (fun _ _ => id)) k hlt
      have HF := hid (List.take_succ_eq_append_getElem hlt)
      clear h
      generalize ls[k] = s at *
      have hS := heap_alloc_new wr (.cells #[.string ⟨s.1.toArray⟩, .string ⟨s.2.toArray⟩] 24)
      have hcS : Chg (fun _ => False) wr (wr.alloc (.cells #[.string ⟨s.1.toArray⟩, .string ⟨s.2.toArray⟩] 24)) := (Chg.refl _ wr).alloc _
      have HS := hid (And.intro hS (And.intro (ho.keep hcS (fun _ _ => id)) (hc.trans hcS (fun _ _ h => h))))
      clear hS hcS ho hc
      go_wp2_with fail
      obtain ⟨hS, ho, hc⟩ := HS.out
      clear HS c0 c1
      generalize wr.alloc (.cells #[.string ⟨s.1.toArray⟩, .string ⟨s.2.toArray⟩] 24) = w3 at *
      generalize wr.heap.size = X at *
      refine (pright s w3 ls1 ls2).mono ?_
      rintro e w4 ⟨rfl, hc4⟩
      have hS4 := blk_keep hS hc4 id
      have ho4 := ho.keep hc4 (fun _ _ => id)
      have hcw4 := hc.trans hc4 (fun _ _ h => h)
      clear hS ho hc hc4
      have b0 := cell_blk hS4 0
      have b1 := cell_blk hS4 1
      simp only [List.getElem?_toArray, List.getElem?_cons_zero, List.getElem?_cons_succ] at b0 b1
      cases hx : isRole s with
      | false =>
        have hn2 : Hid (out = (ls.take (k + 1)).filter isRole) := hid (by rw [HF.out, List.filter_append, ← hout.out]; simp [hx])
        clear hS4
        go_wp2
        go_roundw
        case rel => exact ⟨k + 1, out, ao', cap', by go_num, by omega, rfl, hn2, by omega, ho4, hcw4⟩
        case measure => simp [intOf]; omega
      | true =>
        have hn2 : Hid (out ++ [s] = (ls.take (k + 1)).filter isRole) := hid (by rw [HF.out, List.filter_append, ← hout.out]; simp [hx])
        have hsq := hcw4.size
        clear hS4
        go_wp2_with (at_builtin; refine wpList_append_own_at _ rfl (.tmp 14) (.tmp 16) 59 rfl w.heap.size 24 i0 (.agg #[.string ⟨#[]⟩, .string ⟨#[]⟩]) 2 32 Try.underlying59 hi hz0 hz1 hz2 rfl (by decide) _ _ _ rfl (World.ownsRow.alloc ho4 _) ⟨w4.heap.size, 0, none⟩ 1 1 (roleCells s) rfl rfl ?c1 ?c2 ?c3 ?c4 ?c5 ?_)
        case c1 => exact fun j u hj => role_cells_new w4 s j u hj
        case c2 => intro u hu; simp only [roleCells, List.mem_cons, List.not_mem_nil, or_false] at hu; rcases hu with rfl | rfl <;> rfl
        case c3 => unfold maxLen; omega
        case c4 => omega
        case c5 => simp; omega
        intro v' w2 hown hgrow _ hat
        have hl : (out ++ [s]).length = out.length + 1 := by simp
        have ho2 : OwnR w.heap.size w2 v' (out ++ [s]) := by
          unfold OwnR
          rw [hl, roleRow_snoc]
          exact hown
        have hrow : ∀ k, Value.ownBlock (.slice ao' out.length cap') = some k → w.heap.size ≤ k := fun k hk => (ownsRow_lt ho4 k hk).1
        have hc2 : Chg (fun _ => False) w w2 := (hcw4.alloc _).grown hgrow (fun k e hk => by have := hrow k e; omega)
        obtain ⟨ao5, cap5, hv5⟩ := ho2.shape
        subst hv5
        clear hown hgrow hat hrow ho4 hcw4
        rw [hl]
        go_wp2
        go_roundw
        case rel => exact ⟨k + 1, out ++ [s], ao5, cap5, by go_num, by omega, by rw [hl], hn2, by rw [hl]; omega, ho2, hc2⟩
        case measure => simp [intOf]; omega
    · have hk2 : k = ls.length := by omega
      have ho2 : Hid (out = ls.filter isRole) := by
        have := hout.out
        rw [List.take_of_length_le (by omega)] at this
        exact hid this
      clear h hout
      go_wp2_with fail
      refine (psort_own ho (by omega)).mono ?_
      rintro e w2 ⟨rfl, ⟨ts, hp, hs, ho3⟩, hch3⟩
      have hc2 : Chg (fun _ => False) w w2 := hc.trans (hch3 (fun k => w.heap.size ≤ k) (fun _ h => h)) (fun i hi hk => by omega)
      have hpl := hp.length_eq
      have hso : Hid (SetR ls (Lib.compact ts)) := hid (compactG_set ltR_ord hs fun x => by rw [hp.mem_iff, ho2.out, List.mem_filter])
      clear hch3 hc ho hs hp ho2
      go_wp2_with fail
      rw [← hpl]
      refine (pcompact_own ho3 (by omega)).mono ?_
      rintro e w3 ⟨⟨ao4, cap4, rfl, ho4⟩, hch4⟩
      have hc3 : Chg (fun _ => False) w w3 := hc2.trans (hch4 (fun k => w.heap.size ≤ k) (fun _ h => h)) (fun i hi hk => by omega)
      clear hch4 hc2 ho3
      have hbd : ∀ x ∈ Lib.compact ts, x.1.length ≤ 9223372036854775807 ∧ x.2.length ≤ 9223372036854775807 := fun x hx => by
        have hx2 := ((hso.out.2 x).1 hx).2
        simp only [isRole, Bool.and_eq_true] at hx2
        have := name_len' hx2.1
        have := name_len' hx2.2
        omega
      obtain ⟨ao5, cap5, hv, hst, hz5⟩ := ho4.roles hbd
      cases hv
      go_wp2
      go_ret
      exact ⟨_, _, _, rfl, hso.out, hst, hc3, hz5⟩
end Go.Proofs.Ytjaplnainlbldaa

/- The contracts of the document's Has and Same of layer 4. -/
namespace Go.Proofs.Ytjaplnainlbldaa
open Go.RowKit

set_option maxRecDepth 100000 in
theorem rhas_ref {D : Nat → Prop} (ao : Option Addr) (cp : Nat) (ls : List RoleB) (r : RoleB) (w : World) (hn : ls.length ≤ 9223372036854775807) (h : RolesAt D w ao ls) :
    Calls Try.prog 27 #[.slice ao ls.length cp, roleV r] w fun e w' => e = .returned (.bool (hasR ls r)) ∧ Chg (fun _ => False) w w' := by
  obtain ⟨o, x⟩ := r
  show Calls Try.prog 27 #[.slice ao ls.length cp, .agg #[.string ⟨o.toArray⟩, .string ⟨x.toArray⟩]] w _
  have hc : Chg (fun _ => False) w (w.alloc (.cells #[.string ⟨o.toArray⟩, .string ⟨x.toArray⟩] 24)) := (Chg.refl _ w).alloc _
  have hA := heap_alloc_new w (.cells #[.string ⟨o.toArray⟩, .string ⟨x.toArray⟩] 24)
  have h' := h.keep hc (fun _ _ => id)
  go_enter Try.func27, Try.ntmps27
  go_wp2
  generalize hw1 : w.alloc (.cells #[.string ⟨o.toArray⟩, .string ⟨x.toArray⟩] 24) = w1 at *
  generalize w.heap.size = A at *
  go_loopw [9] (fun i wr => ∃ k : Nat, k ≤ ls.length ∧ i = .int .i64 k ∧ Hid (hasR (ls.take k) (o, x) = false) ∧ Chg (fun _ => False) w1 wr) (fun i _ => ls.length - (intOf i).toNat)
  case atStart => exact ⟨0, Nat.zero_le _, rfl, by rw [List.take_zero]; rfl, Chg.refl _ _⟩
  case round =>
    obtain ⟨k, hk, rfl, hf, hc1⟩ := hrel
    have hA1 := blk_keep hA hc1 id
    have a0 := cell_blk hA1 0
    have a1 := cell_blk hA1 1
    simp only [List.getElem?_toArray, List.getElem?_cons_zero, List.getElem?_cons_succ] at a0 a1
    by_cases hlt : k < ls.length
    · obtain ⟨b, off, rfl, _, c0, c1, _⟩ := (h'.keep hc1 (fun _ _ => id)) k hlt
      have hft := hasR_take ls (o, x) k hlt hf.out
      have HFT := hid hft
      clear h h' hft
      have hmem : Hid (ls[k] ∈ ls) := hid (List.getElem_mem hlt)
      generalize ls[k] = q at *
      obtain ⟨p, y⟩ := q
      have hc2 : Chg (fun _ => False) wr (wr.alloc (.cells #[.string ⟨p.toArray⟩, .string ⟨y.toArray⟩] 24)) := (Chg.refl _ wr).alloc _
      have b0 := hc2.cell a0 id
      have b1 := hc2.cell a1 id
      have HC := hid (hc1.trans hc2 (fun _ _ h => h))
      have HW := hid hc
      clear hc hc1 hc2 hA hA1 hw1
      by_cases e1 : p = o
      · subst e1
        have f1 : (p == p) = true := by simp
        by_cases e2 : y = x
        · subst e2
          have f2 : (y == y) = true := by simp
          have hh : Hid (hasR ls (p, y) = true) := hid (by simpa [hasR] using hmem.out)
          go_wp2
          go_ret
          exact ⟨by rw [hh.out]; rfl, HW.out.trans HC.out (fun _ _ h => h)⟩
        · have f2 : (y == x) = false := by simpa using e2
          have hx := hid (HFT.out (fun h => e2 (congrArg Prod.snd h)))
          clear e2
          go_wp2
          go_roundw
          case rel => exact ⟨k + 1, by omega, by go_num, hx, HC.out⟩
          case measure => simp [intOf]; omega
      · have f1 : (p == o) = false := by simpa using e1
        have hx := hid (HFT.out (fun h => e1 (congrArg Prod.fst h)))
        clear e1
        go_wp2
        go_roundw
        case rel => exact ⟨k + 1, by omega, by go_num, hx, HC.out⟩
        case measure => simp [intOf]; omega
    · have hk2 : k = ls.length := by omega
      have hh : Hid (hasR ls (o, x) = false) := by have := hf.out; rwa [List.take_of_length_le (by omega)] at this
      have HC := hid (hc.trans hc1 (fun _ _ h => h))
      clear h h' hc hc1 hA hA1 hw1
      go_wp2
      go_ret
      exact ⟨by rw [hh.out]; rfl, HC.out⟩
end Go.Proofs.Ytjaplnainlbldaa
