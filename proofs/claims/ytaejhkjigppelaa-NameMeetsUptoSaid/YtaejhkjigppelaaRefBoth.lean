/- The contracts of the document's Both and Get. -/
import Derived.Test.YtaejhkjigppelaaRefSet
import Derived.Test.YtaejhkjigppelaaRefTape
namespace Go.Proofs.Ytaejhkjigppelaa
open Go.RowKit

/-- What both have. -/
def bothS (sa b : List (List UInt8)) : List (List UInt8) := sa.filter fun s => hasS b s
def BothPost (a b : List (List UInt8)) (w : World) (e : Ending) (w' : World) : Prop :=
  ∃ sa ao cap, SetOf a sa ∧ e = .returned (.slice ao (bothS sa b).length cap) ∧ StrsAt (fun k => w.heap.size ≤ k ∧ k < w'.heap.size) w' ao (bothS sa b) ∧ Chg (fun _ => False) w w'

theorem filter_take (l : List (List UInt8)) (p : List UInt8 → Bool) (k : Nat) (h : k < l.length) : (l.take (k + 1)).filter p = (l.take k).filter p ++ (if p l[k] = true then [l[k]] else []) := by
  rw [List.take_succ_eq_append_getElem h, List.filter_append]
  congr 1
  cases hp : p l[k] <;> simp [List.filter, hp]

set_option maxRecDepth 100000 in
set_option maxHeartbeats 2000000 in
theorem refboth_any {D : Nat → Prop} (a1 a2 : Option Addr) (c1 c2 : Nat) (l1 l2 : List (List UInt8)) (w : World) (hn : l1.length ≤ 4194304) (hm : l2.length ≤ 4194304) (h1 : StrsAt D w a1 l1) (h2 : StrsAt D w a2 l2) (hD : ∀ i, D i → i < w.heap.size) :
    Calls Try.prog 45 #[.slice a1 l1.length c1, .slice a2 l2.length c2] w (BothPost l1 l2 w) := by
  obtain ⟨i0, hi, hz0, hz1, hz2⟩ := info_parts Try.info9
  go_enter Try.func45, Try.ntmps45
  go_wp2_with fail
  refine (refset_any a1 c1 l1 w hn h1 hD).mono ?_
  rintro e w1 ⟨sa, ao, cap, rfl, hso, hst, hc1⟩
  have h2' := h2.keep hc1 (fun _ _ => id)
  have hsl : sa.length ≤ l1.length := nodup_length _ _ hso.1.nodup fun x hx => ((hso.2 x).1 hx).1
  have hbl : ∀ x ∈ sa, x.length ≤ 9223372036854775807 := fun x hx => by have := isName_len ((hso.2 x).1 hx).2; omega
  have hs1 := hc1.size
  clear h1 h2
  go_wp2
  go_loopw [5, 11] (fun v i wr => ∃ (k : Nat) (out : List (List UInt8)) (ao' : Option Addr) (cap : Nat), i = .int .i64 k ∧ k ≤ sa.length ∧ v = .slice ao' out.length cap ∧ Hid (out = bothS (sa.take k) l2) ∧ out.length ≤ k ∧ (∀ x ∈ out, x.length ≤ 9223372036854775807) ∧ OwnS w1.heap.size wr (.slice ao' out.length cap) out ∧ Chg (fun _ => False) w1 wr) (fun _ i _ => sa.length - (intOf i).toNat)
  case atStart => exact ⟨0, [], none, 0, rfl, Nat.zero_le _, rfl, rfl, Nat.zero_le _, (fun _ h => by cases h), World.ownsRow_nil _ _ _ _, Chg.refl _ _⟩
  case round =>
    obtain ⟨k, out, ao', cap', rfl, hk, rfl, hout, hol, hob, ho, hc⟩ := hrel
    by_cases hlt : k < sa.length
    · obtain ⟨b, off, rfl, hbD, c0, hsb⟩ := hst k hlt
      replace c0 := hc.cell c0 id
      have hh2 := h2'.keep hc (fun _ _ => id)
      have hft := filter_take sa (fun s => hasS l2 s) k hlt
      have HF := hid hft
      clear hst h2' hft
      generalize sa[k] = s at *
      cases hx : hasS l2 s with
      | false =>
        have hn2 : Hid (out = bothS (sa.take (k + 1)) l2) := hid (by unfold bothS; rw [HF.out, hx]; simpa [bothS] using hout.out)
        go_wp2_with (go_at_call 52; refine (refhas_any a2 c2 l2 s _ (by omega) hh2).mono ?_; rintro e w' ⟨rfl, rfl⟩; rw [hx])
        go_roundw
        case rel => exact ⟨k + 1, out, ao', cap', by go_num, by omega, rfl, hn2, by omega, hob, ho, hc⟩
        case measure => simp [intOf]; omega
      | true =>
        have hn2 : Hid (out ++ [s] = bothS (sa.take (k + 1)) l2) := hid (by unfold bothS; rw [HF.out, hx]; simpa [bothS] using hout.out)
        go_wp2_with (first
          | (go_at_call 52; refine (refhas_any a2 c2 l2 s _ (by omega) hh2).mono ?_; rintro e w' ⟨rfl, rfl⟩; rw [hx])
          | (at_builtin; refine wpList_append_own_at _ rfl (.tmp 18) (.tmp 20) 60 rfl w1.heap.size 9 i0 (.string ⟨#[]⟩) 1 16 Try.underlying60 hi hz0 hz1 hz2 rfl (by decide) _ _ _ rfl (World.ownsRow.alloc ho _) ⟨wr.heap.size, 0, none⟩ 1 1 [strV s] rfl rfl ?c1 ?c2 ?c3 ?c4 ?c5 ?_))
        case c1 => exact (cell_one_new _ _ _)
        case c2 => intro u hu; rw [List.mem_singleton.1 hu]; rfl
        case c3 => unfold maxLen; omega
        case c4 => omega
        case c5 => have := hc.size; simp; omega
        intro v' w2 hown hgrow _ hat
        have hl : (out ++ [s]).length = out.length + 1 := by simp
        have ho2 : OwnS w1.heap.size w2 v' (out ++ [s]) := by
          unfold OwnS
          rw [hl, List.map_append]
          exact hown
        have hrow : ∀ k, Value.ownBlock (.slice ao' out.length cap') = some k → w1.heap.size ≤ k := by
          intro k hk
          rcases ho.2 with ⟨hx, _⟩ | ⟨g, cap', cur, hx, hg, _⟩
          · rw [hx] at hk; cases hk
          · rw [hx] at hk; cases hk; exact hg
        have hc2 : Chg (fun _ => False) w1 w2 := (hc.alloc _).grown hgrow (fun k e hk => by have := hrow k e; omega)
        have hob2 : ∀ x ∈ out ++ [s], x.length ≤ 9223372036854775807 := fun x hx => (List.mem_append.1 hx).elim (hob x) (fun e => by rw [List.mem_singleton.1 e]; exact hsb)
        obtain ⟨ao3, cap3, hv, _⟩ := ho2.strs hob2
        subst hv
        clear hown hgrow hat hrow ho hc
        rw [hl]
        go_wp2
        go_roundw
        case rel => exact ⟨k + 1, out ++ [s], ao3, cap3, by go_num, by omega, by rw [hl], hn2, by rw [hl]; omega, hob2, ho2, hc2⟩
        case measure => simp [intOf]; omega
    · have hk2 : k = sa.length := by omega
      have ho2 : out = bothS sa l2 := by
        have := hout.out
        rwa [List.take_of_length_le (by omega)] at this
      subst ho2
      obtain ⟨ao3, cap3, hv, hs⟩ := ho.strs hob
      cases hv
      clear hst h2'
      go_wp2
      go_ret
      exact ⟨sa, _, _, hso, rfl, hs.mono (fun i hi => ⟨by omega, hi.2⟩), hc1.trans hc (fun _ _ h => h)⟩

/-- What the document's Get comes to: the name, what is left, the error. -/
def GetPost (X : Nat) (l : List UInt8) (w : World) (e : Ending) (w' : World) : Prop :=
  (errText l 16 = 0 ∧ isName ((l.drop (numN 9 l 0 0).2.1).take (numN 9 l 0 0).1) = true ∧ e = .returned (.string ⟨((l.drop (numN 9 l 0 0).2.1).take (numN 9 l 0 0).1).toArray⟩) ∧ TapeAt w' X (l.drop ((numN 9 l 0 0).2.1 + (numN 9 l 0 0).1)) 0 ∧ Chg (· = X) w w') ∨
  (errText l 16 = 0 ∧ isName ((l.drop (numN 9 l 0 0).2.1).take (numN 9 l 0 0).1) = false ∧ e = .returned (.string ⟨#[]⟩) ∧ TapeBad X 30 w w') ∨
  (errText l 16 ≠ 0 ∧ e = .returned (.string ⟨#[]⟩) ∧ TapeBad X (errText l 16) w w')

set_option maxRecDepth 100000 in
theorem refget_any (X : Nat) (l : List UInt8) (w : World) (hl : l.length ≤ 9223372036854775807) (hX : TapeAt w X l 0) :
    Calls Try.prog 59 #[.pointer (some ⟨X, 0, none⟩)] w (GetPost X l w) := by
  go_enter Try.func59, Try.ntmps59
  go_wp2_with fail
  refine (ttext_any X l 16 w hl hX).mono ?_
  rintro e w1 (⟨he, rfl, hX1, hc1⟩ | ⟨he, rfl, hbad⟩)
  · have hlen : ((l.drop (numN 9 l 0 0).2.1).take (numN 9 l 0 0).1).length ≤ 9223372036854775807 := by
      simp only [List.length_take, List.length_drop]
      omega
    have q1 := cell_blk hX1 1
    have q2 := froz_blk hX1 1
    simp only [List.getElem?_toArray, List.getElem?_cons_zero, List.getElem?_cons_succ] at q1
    cases hn : isName ((l.drop (numN 9 l 0 0).2.1).take (numN 9 l 0 0).1) with
    | true =>
      have HE := hid (And.intro he hn)
      clear he
      generalize hs : (l.drop (numN 9 l 0 0).2.1).take (numN 9 l 0 0).1 = s at *
      have HS := hid hs
      clear hs
      go_wp2_with (go_at_call 47; refine (refright_any s _ hlen).mono ?_; rintro e w' ⟨rfl, rfl⟩; rw [hn])
      go_ret
      exact .inl ⟨HE.out.1, by rw [HS.out]; exact hn, by rw [HS.out]; rfl, hX1, hc1⟩
    | false =>
      have HE := hid (And.intro he hn)
      clear he
      generalize hs : (l.drop (numN 9 l 0 0).2.1).take (numN 9 l 0 0).1 = s at *
      have HS := hid hs
      clear hs
      have hX2 := set_blk hX1 1 (.int .i64 30)
      have hcs := hc1.trans (setCell_chg w1 X 1 (.int .i64 30)) (fun _ _ h => h)
      have HB := hid (And.intro hX2 hcs)
      clear hX2 hcs hc1
      go_wp2_with (go_at_call 47; refine (refright_any s _ hlen).mono ?_; rintro e w' ⟨rfl, rfl⟩; rw [hn])
      go_ret
      exact .inr (.inl ⟨HE.out.1, by rw [HS.out]; exact hn, rfl, ⟨_, HB.out.1⟩, HB.out.2⟩)
  · obtain ⟨⟨l1, hX1⟩, hc1⟩ := id hbad
    have q1 := cell_blk hX1 1
    simp only [List.getElem?_toArray, List.getElem?_cons_zero, List.getElem?_cons_succ] at q1
    have z1 : ((errText l 16 : Int) == 0) = false := beq_eq_false_iff_ne.2 (by omega)
    have z2 : ((errText l 16 : Int) != 0) = true := by rw [bne_iff_ne]; omega
    have HE := hid he
    clear he
    go_wp2
    go_ret
    exact .inr (.inr ⟨HE.out, rfl, hbad⟩)
end Go.Proofs.Ytaejhkjigppelaa
