/- The contracts of the program's Both and Within. -/
import Derived.Test.YtaejhkjigppelaaNmConcat
import Derived.Test.YtaejhkjigppelaaRefBoth
namespace Go.Proofs.Ytaejhkjigppelaa
open Go.RowKit

theorem SetOf.has {b sb : List (List UInt8)} (h : SetOf b sb) {s : List UInt8} (hs : isName s = true) : hasS sb s = hasS b s := by
  have h1 := h.2 s
  simp only [hasS, List.contains_eq_mem]
  exact decide_eq_decide.2 ⟨fun k => (h1.1 k).1, fun k => h1.2 ⟨k, hs⟩⟩

theorem bothS_set {b sb : List (List UInt8)} (h : SetOf b sb) (sa : List (List UInt8)) (hn : ∀ x ∈ sa, isName x = true) : bothS sa sb = bothS sa b := by
  unfold bothS
  exact List.filter_congr fun x hx => h.has (hn x hx)

set_option maxRecDepth 100000 in
set_option maxHeartbeats 2000000 in
theorem both_any {D : Nat → Prop} (a1 a2 : Option Addr) (c1 c2 : Nat) (l1 l2 : List (List UInt8)) (w : World) (hn : l1.length ≤ 4194304) (hm : l2.length ≤ 4194304) (h1 : StrsAt D w a1 l1) (h2 : StrsAt D w a2 l2) (hD : ∀ i, D i → i < w.heap.size) :
    Calls Try.prog 54 #[.slice a1 l1.length c1, .slice a2 l2.length c2] w (BothPost l1 l2 w) := by
  obtain ⟨i0, hi, hz0, hz1, hz2⟩ := info_parts Try.info9
  go_enter Try.func54, Try.ntmps54
  go_wp2_with fail
  refine (set_any a2 c2 l2 w (by omega) h2 hD).mono ?_
  rintro e w0 ⟨sb, bo, bc, rfl, hsb, hbt, hc0⟩
  have h1' := h1.keep hc0 (fun _ _ => id)
  have hs0 := hc0.size
  have hbl2 : sb.length ≤ l2.length := nodup_length _ _ hsb.1.nodup fun x hx => ((hsb.2 x).1 hx).1
  clear h1 h2
  go_wp2_with fail
  refine (set_any a1 c1 l1 w0 (by omega) h1' (fun i hi => by have := hD i hi; omega)).mono ?_
  rintro e w1 ⟨sa, ao, cap, rfl, hso, hst, hc01⟩
  have hc1 := hc0.trans hc01 (fun _ _ h => h)
  have hbt1 := hbt.keep hc01 (fun _ _ => id)
  have hsl : sa.length ≤ l1.length := nodup_length _ _ hso.1.nodup fun x hx => ((hso.2 x).1 hx).1
  have hnm : ∀ x ∈ sa, isName x = true := fun x hx => ((hso.2 x).1 hx).2
  have hbl : ∀ x ∈ sa, x.length ≤ 9223372036854775807 := fun x hx => by have := isName_len (hnm x hx); omega
  have hs1 := hc1.size
  clear h1' hbt hc0 hc01
  go_wp2
  go_loopw [5, 14] (fun v i wr => ∃ (k : Nat) (out : List (List UInt8)) (ao' : Option Addr) (cap : Nat), i = .int .i64 k ∧ k ≤ sa.length ∧ v = .slice ao' out.length cap ∧ Hid (out = bothS (sa.take k) sb) ∧ out.length ≤ k ∧ (∀ x ∈ out, x.length ≤ 9223372036854775807) ∧ OwnS w1.heap.size wr (.slice ao' out.length cap) out ∧ Chg (fun _ => False) w1 wr) (fun _ i _ => sa.length - (intOf i).toNat)
  case atStart => exact ⟨0, [], none, 0, rfl, Nat.zero_le _, rfl, rfl, Nat.zero_le _, (fun _ h => by cases h), World.ownsRow_nil _ _ _ _, Chg.refl _ _⟩
  case round =>
    obtain ⟨k, out, ao', cap', rfl, hk, rfl, hout, hol, hob, ho, hc⟩ := hrel
    by_cases hlt : k < sa.length
    · obtain ⟨b, off, rfl, hbD, c0, hsb'⟩ := hst k hlt
      replace c0 := hc.cell c0 id
      have hh2 := hbt1.keep hc (fun _ _ => id)
      have HF := hid (filter_take sa (fun s => hasS sb s) k hlt)
      have hsbr := hid hsb.1
      clear hst hbt1
      generalize sa[k] = s at *
      cases hx : hasS sb s with
      | false =>
        have hn2 : Hid (out = bothS (sa.take (k + 1)) sb) := hid (by unfold bothS; rw [HF.out, hx]; simpa [bothS] using hout.out)
        go_wp2_with (go_at_call 80; refine (inset_any bo bc sb s _ (by omega) hsbr.out hh2).mono ?_; rintro e w' ⟨rfl, q, rfl⟩; rw [hx])
        go_roundw
        case rel => exact ⟨k + 1, out, ao', cap', by go_num, by omega, rfl, hn2, by omega, hob, ho, ⟨hc.os, hc.tape, hc.output, hc.size, hc.block⟩⟩
        case measure => simp [intOf]; omega
      | true =>
        have hn2 : Hid (out ++ [s] = bothS (sa.take (k + 1)) sb) := hid (by unfold bothS; rw [HF.out, hx]; simpa [bothS] using hout.out)
        go_wp2_with (first
          | (go_at_call 80; refine (inset_any bo bc sb s _ (by omega) hsbr.out hh2).mono ?_; rintro e w' ⟨rfl, q, rfl⟩; rw [hx]; have hoq : OwnS w1.heap.size (wr.drewN q) (.slice ao' out.length cap') out := ho; have hcq : Chg (fun _ => False) w1 (wr.drewN q) := ⟨hc.os, hc.tape, hc.output, hc.size, hc.block⟩)
          | (at_builtin; refine wpList_append_own_at _ rfl (.tmp 21) (.tmp 23) 60 rfl w1.heap.size 9 i0 (.string ⟨#[]⟩) 1 16 Try.underlying60 hi hz0 hz1 hz2 rfl (by decide) _ _ _ rfl (World.ownsRow.alloc hoq _) ⟨wr.heap.size, 0, none⟩ 1 1 [strV s] rfl rfl ?c1 ?c2 ?c3 ?c4 ?c5 ?_))
        case c1 => exact (cell_one_new _ _ _)
        case c2 => intro u hu; rw [List.mem_singleton.1 hu]; rfl
        case c3 => unfold maxLen; omega
        case c4 => omega
        case c5 => have := hc.size; simp; omega
        intro v' w2 hown hgrow _ hat
        have hl : (out ++ [s]).length = out.length + 1 := by simp
        have ho2 : OwnS w1.heap.size w2 v' (out ++ [s]) := by
          unfold OwnS
          rw [hl, List.map_append]
          exact hown
        have hrow : ∀ k, Value.ownBlock (.slice ao' out.length cap') = some k → w1.heap.size ≤ k := by
          intro k hk
          rcases ho.2 with ⟨hx, _⟩ | ⟨g, cap', cur, hx, hg, _⟩
          · rw [hx] at hk; cases hk
          · rw [hx] at hk; cases hk; exact hg
        have hc2 : Chg (fun _ => False) w1 w2 := (hcq.alloc _).grown hgrow (fun k e hk => by have := hrow k e; omega)
        have hob2 : ∀ x ∈ out ++ [s], x.length ≤ 9223372036854775807 := fun x hx => (List.mem_append.1 hx).elim (hob x) (fun e => by rw [List.mem_singleton.1 e]; exact hsb')
        obtain ⟨ao3, cap3, hv, _⟩ := ho2.strs hob2
        subst hv
        clear hown hgrow hat hrow ho hc hoq hcq
        rw [hl]
        go_wp2
        go_roundw
        case rel => exact ⟨k + 1, out ++ [s], ao3, cap3, by go_num, by omega, by rw [hl], hn2, by rw [hl]; omega, hob2, ho2, hc2⟩
        case measure => simp [intOf]; omega
    · have hk2 : k = sa.length := by omega
      have ho2 : out = bothS sa l2 := by
        have := hout.out
        rw [List.take_of_length_le (by omega), bothS_set hsb sa hnm] at this
        exact this
      subst ho2
      obtain ⟨ao3, cap3, hv, hs⟩ := ho.strs hob
      cases hv
      clear hst hbt1
      go_wp2
      go_ret
      exact ⟨sa, _, _, hso, rfl, hs.mono (fun i hi => ⟨by omega, hi.2⟩), hc1.trans hc (fun _ _ h => h)⟩
/-- Has b all the right ones of a? -/
def withinB (a b : List (List UInt8)) : Bool := a.all fun s => !isName s || hasS b s

theorem all_succ (l : List (List UInt8)) (p : List UInt8 → Bool) (k : Nat) (h : k < l.length) : (l.take (k + 1)).all p = ((l.take k).all p && p l[k]) := by
  rw [List.take_succ_eq_append_getElem h, List.all_append]
  simp

set_option maxRecDepth 100000 in
theorem within_any {D : Nat → Prop} (a1 a2 : Option Addr) (c1 c2 : Nat) (l1 l2 : List (List UInt8)) (w : World) (hn : l1.length ≤ 9223372036854775807) (hm : l2.length ≤ 16777216) (h1 : StrsAt D w a1 l1) (h2 : StrsAt D w a2 l2) (hD : ∀ i, D i → i < w.heap.size) :
    Calls Try.prog 55 #[.slice a1 l1.length c1, .slice a2 l2.length c2] w fun e w' => e = .returned (.bool (withinB l1 l2)) ∧ Chg (fun _ => False) w w' := by
  go_enter Try.func55, Try.ntmps55
  go_wp2_with fail
  refine (set_any a2 c2 l2 w (by omega) h2 hD).mono ?_
  rintro e w0 ⟨sb, bo, bc, rfl, hsb, hbt, hc0⟩
  have h1' := h1.keep hc0 (fun _ _ => id)
  have hbl2 : sb.length ≤ l2.length := nodup_length _ _ hsb.1.nodup fun x hx => ((hsb.2 x).1 hx).1
  clear h1 h2
  go_wp2
  go_loopw [12] (fun i wr => ∃ (k q : Nat), i = .int .i64 k ∧ k ≤ l1.length ∧ wr = w0.drewN q ∧ Hid ((l1.take k).all (fun s => !isName s || hasS l2 s) = true)) (fun i _ => l1.length - (intOf i).toNat)
  case atStart => exact ⟨0, 0, rfl, Nat.zero_le _, rfl, rfl⟩
  case round =>
    obtain ⟨k, q, rfl, hk, rfl, hal⟩ := hrel
    by_cases hlt : k < l1.length
    · obtain ⟨b, off, rfl, hbD, c0, hsl⟩ := h1' k hlt
      have HF := hid (all_succ l1 (fun s => !isName s || hasS l2 s) k hlt)
      have hm1 : l1[k] ∈ l1 := List.getElem_mem hlt
      have HM := hid hm1
      have hsbr := hid hsb.1
      have hst : StrsAt (fun k => w.heap.size ≤ k ∧ k < w0.heap.size) (w0.drewN q) bo sb := hbt
      clear h1' hbt hm1
      generalize l1[k] = s at *
      cases hx : isName s with
      | false =>
        have hn2 : Hid ((l1.take (k + 1)).all (fun s => !isName s || hasS l2 s) = true) := hid (by rw [HF.out, hal.out, hx]; rfl)
        go_wp2_with (go_at_call 46; refine (right_any s _ hsl).mono ?_; rintro e w' ⟨rfl, rfl⟩; rw [hx])
        go_roundw
        case rel => exact ⟨k + 1, q, by go_num, by omega, rfl, hn2⟩
        case measure => simp [intOf]; omega
      | true =>
        have hh := hsb.has hx
        cases hy : hasS l2 s with
        | true =>
          have hn2 : Hid ((l1.take (k + 1)).all (fun s => !isName s || hasS l2 s) = true) := hid (by rw [HF.out, hal.out, hx, hy]; rfl)
          rw [hy] at hh
          go_wp2_with (first
            | (go_at_call 46; refine (right_any s _ hsl).mono ?_; rintro e w' ⟨rfl, rfl⟩; rw [hx])
            | (go_at_call 80; refine (inset_any bo bc sb s _ (by omega) hsbr.out hst).mono ?_; rintro e w' ⟨rfl, q2, rfl⟩; rw [hh]))
          go_roundw
          case rel => exact ⟨k + 1, q + q2, by go_num, by omega, by simp only [World.drewN, Nat.add_assoc], hn2⟩
          case measure => simp [intOf]; omega
        | false =>
          have hn2 : Hid (withinB l1 l2 = false) := hid (by rw [withinB, List.all_eq_false]; exact ⟨s, HM.out, by rw [hx, hy]; decide⟩)
          rw [hy] at hh
          go_wp2_with (first
            | (go_at_call 46; refine (right_any s _ hsl).mono ?_; rintro e w' ⟨rfl, rfl⟩; rw [hx])
            | (go_at_call 80; refine (inset_any bo bc sb s _ (by omega) hsbr.out hst).mono ?_; rintro e w' ⟨rfl, q2, rfl⟩; rw [hh]))
          go_ret
          exact ⟨by rw [hn2.out]; rfl, ⟨hc0.os, hc0.tape, hc0.output, hc0.size, hc0.block⟩⟩
    · have hk2 : k = l1.length := by omega
      have hn2 : Hid (withinB l1 l2 = true) := by
        have := hal.out
        rw [List.take_of_length_le (by omega)] at this
        exact hid this
      clear h1' hbt
      go_wp2
      go_ret
      exact ⟨by rw [hn2.out]; rfl, ⟨hc0.os, hc0.tape, hc0.output, hc0.size, hc0.block⟩⟩

theorem within_len {l1 l2 x : List (List UInt8)} (h : SetOf l1 x) : withinB l1 l2 = decide ((bothS x l2).length = x.length) := by
  have h1 : withinB l1 l2 = true ↔ (bothS x l2).length = x.length := by
    unfold bothS
    rw [List.length_filter_eq_length_iff]
    simp only [withinB, List.all_eq_true, Bool.or_eq_true, Bool.not_eq_true']
    constructor
    · intro k s hs
      have := (h.2 s).1 hs
      rcases k s this.1 with e | e
      · rw [this.2] at e; cases e
      · exact e
    · intro k s hs
      cases hn : isName s with
      | false => exact .inl rfl
      | true => exact .inr (k s ((h.2 s).2 ⟨hs, hn⟩))
  cases hw : withinB l1 l2 with
  | true => exact (decide_eq_true (h1.1 hw)).symm
  | false => exact (decide_eq_false (fun k => by rw [h1.2 k] at hw; cases hw)).symm

end Go.Proofs.Ytaejhkjigppelaa
