/- The contract of the document's Set. -/
import Derived.Test.YtaejhkjigppelaaRefHas
import Derived.Test.YtaejhkjigppelaaSetMath
import Derived.Maps.AppendAt
namespace Go.Proofs.Ytaejhkjigppelaa
open Go.RowKit

def strV (l : List UInt8) : Value := .string ⟨l.toArray⟩
theorem Try.info9 : (Try.prog.info? 9).map (fun i => (i.zero, i.size, i.bytes)) = some (some (.string ⟨#[]⟩), 1, 16) := by kernel_rfl

/-- A list of texts of the call's own. -/
def OwnS (B : Nat) (w : World) (v : Value) (ls : List (List UInt8)) : Prop := w.ownsRow B 9 1 v ls.length (ls.map strV)

theorem OwnS.strs {B : Nat} {w : World} {v : Value} {ls : List (List UInt8)} (h : OwnS B w v ls) (hb : ∀ x ∈ ls, x.length ≤ 9223372036854775807) : ∃ ao cap, v = .slice ao ls.length cap ∧ StrsAt (fun k => B ≤ k ∧ k < w.heap.size) w ao ls := by
  rcases h.2 with ⟨rfl, h0⟩ | ⟨g, cap, cur, rfl, hg, hh, h1, h2, h3, h4⟩
  · have : ls = [] := List.eq_nil_of_length_eq_zero h0
    subst this
    exact ⟨none, 0, rfl, StrsAt.nil _ _ _⟩
  · refine ⟨_, _, rfl, fun i hi => ⟨g, 0, rfl, ⟨hg, lt_blk hh⟩, ?_, hb _ (List.getElem_mem hi)⟩⟩
    have hcell := h.cells (g := g) rfl i (strV ls[i]) (by simp [hi])
    rw [add_off] at hcell
    exact hcell

def lenOf : Value → Nat
  | .slice _ n _ => n
  | _ => 0

/-- What Set leaves: the set, in new memory. -/
def SetPost (ls : List (List UInt8)) (w : World) (e : Ending) (w' : World) : Prop :=
  ∃ out ao cap, e = .returned (.slice ao out.length cap) ∧ SetOf ls out ∧ StrsAt (fun k => w.heap.size ≤ k ∧ k < w'.heap.size) w' ao out ∧ Chg (fun _ => False) w w'

set_option maxRecDepth 100000 in
set_option maxHeartbeats 2000000 in
theorem refset_any {D : Nat → Prop} (ao : Option Addr) (cp : Nat) (ls : List (List UInt8)) (w : World) (hn : ls.length ≤ 4194304) (h : StrsAt D w ao ls) (hD : ∀ i, D i → i < w.heap.size) :
    Calls Try.prog 44 #[.slice ao ls.length cp] w (SetPost ls w) := by
  obtain ⟨i0, hi, hz0, hz1, hz2⟩ := info_parts Try.info9
  go_enter Try.func44, Try.ntmps44
  go_wp2
  go_loopw [3] (fun v wr => ∃ (out : List (List UInt8)) (ao' : Option Addr) (cap : Nat), v = .slice ao' out.length cap ∧ SetPart ls out ∧ OwnS w.heap.size wr (.slice ao' out.length cap) out ∧ Chg (fun _ => False) w wr) (fun v _ => ls.length + 1 - lenOf v)
  case atStart => exact ⟨[], none, 0, rfl, SetPart.nil ls, World.ownsRow_nil _ _ _ _, Chg.refl _ _⟩
  case round =>
    obtain ⟨out, ao', cap, rfl, hp, ho, hc⟩ := hrel
    have hol := hp.len
    have hbd : ∀ x ∈ out, x.length ≤ 9223372036854775807 := fun x hx => by have := isName_len (hp.2.1 x hx).2; omega
    go_wp2
    obtain ⟨wo, rfl⟩ : ∃ wo : World, wo = wr := ⟨_, rfl⟩
    have hsw := h.keep hc (fun _ _ => id)
    go_loop [4, 9] (fun b i => ∃ (k : Nat) (bs : List UInt8), i = .int .i64 k ∧ k ≤ ls.length ∧ b = .string ⟨bs.toArray⟩ ∧ Hid (Best out (ls.take k) bs)) (fun _ i => ls.length - (intOf i).toNat)
    case atStart => exact ⟨0, [], rfl, Nat.zero_le _, rfl, hid (.inl ⟨rfl, fun s hs => by simp at hs⟩)⟩
    case round =>
      obtain ⟨k, bs, rfl, hk, rfl, hb⟩ := hrel
      by_cases hlt : k < ls.length
      · obtain ⟨b, off, rfl, _, c0, hsl⟩ := hsw k hlt
        have htk : Hid (ls.take (k + 1) = ls.take k ++ [ls[k]]) := hid (List.take_succ_eq_append_getElem hlt)
        clear h hsw
        generalize ls[k] = s at *
        by_cases hs : isName s = true
        · by_cases ho0 : out.length = 0
          · have hca : Hid (candS out s = true) := hid (by rw [List.eq_nil_of_length_eq_zero ho0]; simp [candS, hs])
            have z0 : ((out.length : Int) == 0) = true := beq_iff_eq.2 (by omega)
            clear ho0
            by_cases hbe : bs = []
            · have hnx : Hid (Best out (ls.take (k + 1)) s) := hid (by rw [htk.out]; exact hb.out.take hca.out (.inl hbe))
              have e2 : bs.isEmpty = true := by rw [hbe]; rfl
              clear hb htk hbe
              skip
              go_wp2_with (go_at_call 47; refine (refright_any s _ hsl).mono ?_; rintro e w' ⟨rfl, rfl⟩; rw [hs])
              go_round
              case rel => exact ⟨k + 1, s, by go_num, by omega, rfl, hnx⟩
              case measure => simp [intOf]; omega
            · have e2 : bs.isEmpty = false := by simpa using hbe
              by_cases hlb : Op.bytesLess s bs = true
              · have hnx : Hid (Best out (ls.take (k + 1)) s) := hid (by rw [htk.out]; exact hb.out.take hca.out (.inr hlb))
                clear hb htk hbe
                skip
                go_wp2_with (go_at_call 47; refine (refright_any s _ hsl).mono ?_; rintro e w' ⟨rfl, rfl⟩; rw [hs])
                go_round
                case rel => exact ⟨k + 1, s, by go_num, by omega, rfl, hnx⟩
                case measure => simp [intOf]; omega
              · have hlb2 : Op.bytesLess s bs = false := by simpa using hlb
                have hnx : Hid (Best out (ls.take (k + 1)) bs) := hid (by rw [htk.out]; exact hb.out.keep hbe hlb2)
                clear hb htk hbe hlb
                skip
                go_wp2_with (go_at_call 47; refine (refright_any s _ hsl).mono ?_; rintro e w' ⟨rfl, rfl⟩; rw [hs])
                go_round
                case rel => exact ⟨k + 1, bs, by go_num, by omega, rfl, hnx⟩
                case measure => simp [intOf]; omega

          · have z0 : ((out.length : Int) == 0) = false := beq_eq_false_iff_ne.2 (by omega)
            have hlast : out.length - 1 < out.length := by omega
            obtain ⟨_, _, hve, hst⟩ := ho.strs hbd
            cases hve
            obtain ⟨g, goff, rfl, _, q0, _⟩ := hst (out.length - 1) hlast
            have hgl : out[out.length - 1] = out.getLastD [] := by
              rw [List.getLastD_eq_getLast?, List.getLast?_eq_getElem?, List.getElem?_eq_getElem hlast]
              rfl
            rw [hgl] at q0
            have hol2 : 1 ≤ out.length := by omega
            have e7 : ((out.length : Int) - 1).toNat = out.length - 1 := by omega
            clear hst hgl
            by_cases hgt : ltS (out.getLastD []) s = true
            · have hca : Hid (candS out s = true) := hid (by simp only [candS, hs, hgt, Bool.or_true, Bool.and_true])
              have e5 : Op.bytesLess s (out.getLastD []) = false := by
                cases hx : Op.bytesLess s (out.getLastD []) with
                | false => rfl
                | true =>
                  have := ltS_trans _ _ _ hgt hx
                  rw [ltS_irrefl] at this
                  cases this
              have e6 : (s == out.getLastD []) = false := by
                rw [beq_eq_false_iff_ne]
                intro hx
                rw [hx, ltS_irrefl] at hgt
                cases hgt
              generalize hla : out.getLastD [] = la at *
              have HLA := hid hla
              clear hla hgt
              by_cases hbe : bs = []
              · have hnx : Hid (Best out (ls.take (k + 1)) s) := hid (by rw [htk.out]; exact hb.out.take hca.out (.inl hbe))
                have e2 : bs.isEmpty = true := by rw [hbe]; rfl
                clear hb htk hbe
                skip
                go_wp2_with (go_at_call 47; refine (refright_any s _ hsl).mono ?_; rintro e w' ⟨rfl, rfl⟩; rw [hs])
                go_round
                case rel => exact ⟨k + 1, s, by go_num, by omega, rfl, hnx⟩
                case measure => simp [intOf]; omega
              · have e2 : bs.isEmpty = false := by simpa using hbe
                by_cases hlb : Op.bytesLess s bs = true
                · have hnx : Hid (Best out (ls.take (k + 1)) s) := hid (by rw [htk.out]; exact hb.out.take hca.out (.inr hlb))
                  clear hb htk hbe
                  skip
                  go_wp2_with (go_at_call 47; refine (refright_any s _ hsl).mono ?_; rintro e w' ⟨rfl, rfl⟩; rw [hs])
                  go_round
                  case rel => exact ⟨k + 1, s, by go_num, by omega, rfl, hnx⟩
                  case measure => simp [intOf]; omega
                · have hlb2 : Op.bytesLess s bs = false := by simpa using hlb
                  have hnx : Hid (Best out (ls.take (k + 1)) bs) := hid (by rw [htk.out]; exact hb.out.keep hbe hlb2)
                  clear hb htk hbe hlb
                  skip
                  go_wp2_with (go_at_call 47; refine (refright_any s _ hsl).mono ?_; rintro e w' ⟨rfl, rfl⟩; rw [hs])
                  go_round
                  case rel => exact ⟨k + 1, bs, by go_num, by omega, rfl, hnx⟩
                  case measure => simp [intOf]; omega

            · have hnc : candS out s = false := by
                have : out.isEmpty = false := by cases out with | nil => simp at ho0 | cons _ _ => rfl
                simp only [candS, this, Bool.false_or, hs, Bool.true_and]
                simpa only [Bool.not_eq_true] using hgt
              have hnx : Hid (Best out (ls.take (k + 1)) bs) := hid (by rw [htk.out]; exact hb.out.skip hnc)
              have e5 : (Op.bytesLess s (out.getLastD []) || s == out.getLastD []) = true := by
                rcases ltS_tri s (out.getLastD []) with hx | hx | hx
                · rw [show Op.bytesLess s (out.getLastD []) = true from hx]; rfl
                · simp [hx]
                · exact absurd hx hgt
              generalize hla : out.getLastD [] = la at *
              have HLA := hid hla
              clear hla hgt hnc hb htk
              go_wp2_with (go_at_call 47; refine (refright_any s _ hsl).mono ?_; rintro e w' ⟨rfl, rfl⟩; rw [hs])
              go_round
              case rel => exact ⟨k + 1, bs, by go_num, by omega, rfl, hnx⟩
              case measure => simp [intOf]; omega
        · have hsf : isName s = false := by simpa using hs
          have hnx : Hid (Best out (ls.take (k + 1)) bs) := hid (by rw [htk.out]; exact hb.out.skip (by simp [candS, hsf]))
          clear hb htk hs
          go_wp2_with (go_at_call 47; refine (refright_any s _ hsl).mono ?_; rintro e w' ⟨rfl, rfl⟩; rw [hsf])
          go_round
          case rel => exact ⟨k + 1, bs, by go_num, by omega, rfl, hnx⟩
          case measure => simp [intOf]; omega
      · have hk2 : k = ls.length := by omega
        have hb2 : Hid (Best out ls bs) := hid (by have := hb.out; rwa [List.take_of_length_le (by omega)] at this)
        clear hb hsw
        by_cases hbe : bs = []
        · subst hbe
          have hso := hp.done hb2.out
          obtain ⟨ao2, cap2, hve, hst⟩ := ho.strs hbd
          cases hve
          go_wp2
          go_ret
          exact ⟨out, _, _, rfl, hso, hst, hc⟩
        · have e2 : bs.isEmpty = false := by simpa using hbe
          have hps := hp.step hb2.out hbe
          have hpl := hps.len
          rw [List.length_append, List.length_singleton] at hpl
          clear hb2 hbe
          go_wp2_with (at_builtin; refine wpList_append_own_at _ rfl (.tmp 44) (.tmp 46) 60 rfl w.heap.size 9 i0 (.string ⟨#[]⟩) 1 16 Try.underlying60 hi hz0 hz1 hz2 rfl (by decide) _ _ _ rfl (World.ownsRow.alloc ho _) ⟨wo.heap.size, 0, none⟩ 1 1 [strV bs] rfl rfl ?c1 ?c2 ?c3 ?c4 ?c5 ?_)
          case c1 => exact fun j u h => h
          case c2 => rfl
          case c3 => unfold maxLen; omega
          case c4 => omega
          case c5 => have := hc.size; simp; omega
          intro v' w1 hown hgrow _ hat
          have hl : (out ++ [bs]).length = out.length + 1 := by simp
          have ho2 : OwnS w.heap.size w1 v' (out ++ [bs]) := by
            unfold OwnS
            rw [hl, List.map_append]
            exact hown
          have hrow : ∀ k, Value.ownBlock (.slice ao' out.length cap) = some k → w.heap.size ≤ k := by
            intro k hk
            rcases ho.2 with ⟨hx, _⟩ | ⟨g, cap', cur, hx, hg, _⟩
            · rw [hx] at hk; cases hk
            · rw [hx] at hk; cases hk; exact hg
          have hc2 : Chg (fun _ => False) w w1 := (hc.alloc _).grown hgrow (fun k e hk => by have := hrow k e; omega)
          obtain ⟨ao3, cap3, hv, _⟩ := ho2.strs (fun x hx => by have := isName_len (hps.2.1 x hx).2; omega)
          subst hv
          clear hown hgrow hat hrow ho hc
          rw [hl]
          go_wp2
          go_roundw
          case rel => exact ⟨out ++ [bs], ao3, cap3, by rw [hl], hps, ho2, hc2⟩
          case measure => simp [lenOf]; omega
end Go.Proofs.Ytaejhkjigppelaa
