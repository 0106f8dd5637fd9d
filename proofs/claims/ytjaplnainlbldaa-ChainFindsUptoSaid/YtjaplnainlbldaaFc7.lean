/- Texts that the proof leans on, in one: RefSet, RefKFacts, RefRoleLess, RefCredRight. -/
import Derived.Test.YtjaplnainlbldaaFc6
import Derived.Test.YtjaplnainlbldaaFc1
import Derived.Maps.AppendAt
import Derived.Test.YtjaplnainlbldaaFc5
import Derived.Test.YtjaplnainlbldaaFc2
/- The contract of the document's Set. -/
namespace Go.Proofs.Ytjaplnainlbldaa
open Go.RowKit

/-- What Set leaves: the set, in new memory. -/
def SetPost (ls : List (List UInt8)) (w : World) (e : Ending) (w' : World) : Prop :=
 ∃ out ao cap, e = .returned (.slice ao out.length cap) ∧ SetOf ls out ∧ StrsAt (fun k => w.heap.size ≤ k ∧ k < w'.heap.size) w' ao out ∧ Chg (fun _ => False) w w'

set_option maxRecDepth 100000 in
set_option maxHeartbeats 2000000 in
theorem refset_any {D : Nat → Prop} (ao : Option Addr) (cp : Nat) (ls : List (List UInt8)) (w : World) (hn : ls.length ≤ 4194304) (h : StrsAt D w ao ls) (_ : ∀ i, D i → i < w.heap.size) :
  Calls Try.prog 83 #[.slice ao ls.length cp] w (SetPost ls w) := by
 obtain ⟨i0, hi, hz0, hz1, hz2⟩ := info_parts Try.info9
 go_enter Try.func83, Try.ntmps83
 go_wp2
 go_loopw [3] (fun v wr => ∃ (out : List (List UInt8)) (ao' : Option Addr) (cap : Nat), v = .slice ao' out.length cap ∧ SetPart ls out ∧ OwnS w.heap.size wr (.slice ao' out.length cap) out ∧ Chg (fun _ => False) w wr) (fun v _ => ls.length + 1 - lenOf v)
 case atStart => exact ⟨[], none, 0, rfl, SetPart.nil ls, World.ownsRow_nil _ _ _ _, Chg.refl _ _⟩
 case round =>
  obtain ⟨out, ao', cap, rfl, hp, ho, hc⟩ := hrel
  have hol := hp.len
  have hbd : ∀ x ∈ out, x.length ≤ 9223372036854775807 := fun x hx => by have := isName_len (hp.2.1 x hx).2; omega
  go_wp2
  obtain ⟨wo, rfl⟩ : ∃ wo : World, wo = wr := ⟨_, rfl⟩
  have hsw := h.keep hc (fun _ _ => id)
  go_loop [4, 9] (fun b i => ∃ (k : Nat) (bs : List UInt8), i = .int .i64 k ∧ k ≤ ls.length ∧ b = .string ⟨bs.toArray⟩ ∧ Hid (Best out (ls.take k) bs)) (fun _ i => ls.length - (intOf i).toNat)
  case atStart => exact ⟨0, [], rfl, Nat.zero_le _, rfl, hid (.inl ⟨rfl, fun s hs => by simp at hs⟩)⟩
  case round =>
   obtain ⟨k, bs, rfl, hk, rfl, hb⟩ := hrel
   by_cases hlt : k < ls.length
   ·obtain ⟨b, off, rfl, _, c0, hsl⟩ := hsw k hlt
    have htk : Hid (ls.take (k + 1) = ls.take k ++ [ls[k]]) := hid (List.take_succ_eq_append_getElem hlt)
    clear h hsw
    generalize ls[k] = s at *
    by_cases hs : isName s = true
    ·by_cases ho0 : out.length = 0
     ·have hca : Hid (candS out s = true) := hid (by rw [List.eq_nil_of_length_eq_zero ho0]; simp [candS, hs])
      have z0 : ((out.length : Int) == 0) = true := beq_iff_eq.2 (by omega)
      clear ho0
      by_cases hbe : bs = []
      ·have hnx : Hid (Best out (ls.take (k + 1)) s) := hid (by rw [htk.out]; exact hb.out.take hca.out (.inl hbe))
       have e2 : bs.isEmpty = true := by rw [hbe]; rfl
       clear hb htk hbe
       skip
       go_wp2_with (go_at_call 87; refine (refright_any s _ hsl).mono ?_; rintro e w' ⟨rfl, rfl⟩; rw [hs])
       go_round
       case rel => exact ⟨k + 1, s, by go_num, by omega, rfl, hnx⟩
       case measure => simp [intOf]; omega
      ·have e2 : bs.isEmpty = false := by simpa using hbe
       by_cases hlb : Op.bytesLess s bs = true
       ·have hnx : Hid (Best out (ls.take (k + 1)) s) := hid (by rw [htk.out]; exact hb.out.take hca.out (.inr hlb))
        clear hb htk hbe
        skip
        go_wp2_with (go_at_call 87; refine (refright_any s _ hsl).mono ?_; rintro e w' ⟨rfl, rfl⟩; rw [hs])
        go_round
        case rel => exact ⟨k + 1, s, by go_num, by omega, rfl, hnx⟩
        case measure => simp [intOf]; omega
       ·have hlb2 : Op.bytesLess s bs = false := by simpa using hlb
        have hnx : Hid (Best out (ls.take (k + 1)) bs) := hid (by rw [htk.out]; exact hb.out.keep hbe hlb2)
        clear hb htk hbe hlb
        skip
        go_wp2_with (go_at_call 87; refine (refright_any s _ hsl).mono ?_; rintro e w' ⟨rfl, rfl⟩; rw [hs])
        go_round
        case rel => exact ⟨k + 1, bs, by go_num, by omega, rfl, hnx⟩
        case measure => simp [intOf]; omega

     ·have z0 : ((out.length : Int) == 0) = false := beq_eq_false_iff_ne.2 (by omega)
      have hlast : out.length - 1 < out.length := by omega
      obtain ⟨_, _, hve, hst⟩ := ho.strs hbd
      cases hve
      obtain ⟨g, goff, rfl, _, q0, _⟩ := hst (out.length - 1) hlast
      have hgl : out[out.length - 1] = out.getLastD [] := by
       rw [List.getLastD_eq_getLast?, List.getLast?_eq_getElem?, List.getElem?_eq_getElem hlast]
       rfl
      rw [hgl] at q0
      have hol2 : 1 ≤ out.length := by omega
      have e7 : ((out.length : Int) - 1).toNat = out.length - 1 := by omega
      clear hst hgl
      by_cases hgt : ltS (out.getLastD []) s = true
      ·have hca : Hid (candS out s = true) := hid (by simp only [candS, hs, hgt, Bool.or_true, Bool.and_true])
       have e5 : Op.bytesLess s (out.getLastD []) = false := by
        cases hx : Op.bytesLess s (out.getLastD []) with
        | false => rfl
        | true =>
         have := ltS_trans _ _ _ hgt hx
         rw [ltS_irrefl] at this
         cases this
       have e6 : (s == out.getLastD []) = false := by
        rw [beq_eq_false_iff_ne]
        intro hx
        rw [hx, ltS_irrefl] at hgt
        cases hgt
       generalize hla : out.getLastD [] = la at *
       have HLA := hid hla
       clear hla hgt
       by_cases hbe : bs = []
       ·have hnx : Hid (Best out (ls.take (k + 1)) s) := hid (by rw [htk.out]; exact hb.out.take hca.out (.inl hbe))
        have e2 : bs.isEmpty = true := by rw [hbe]; rfl
        clear hb htk hbe
        skip
        go_wp2_with (go_at_call 87; refine (refright_any s _ hsl).mono ?_; rintro e w' ⟨rfl, rfl⟩; rw [hs])
        go_round
        case rel => exact ⟨k + 1, s, by go_num, by omega, rfl, hnx⟩
        case measure => simp [intOf]; omega
       ·have e2 : bs.isEmpty = false := by simpa using hbe
        by_cases hlb : Op.bytesLess s bs = true
        ·have hnx : Hid (Best out (ls.take (k + 1)) s) := hid (by rw [htk.out]; exact hb.out.take hca.out (.inr hlb))
         clear hb htk hbe
         skip
         go_wp2_with (go_at_call 87; refine (refright_any s _ hsl).mono ?_; rintro e w' ⟨rfl, rfl⟩; rw [hs])
         go_round
         case rel => exact ⟨k + 1, s, by go_num, by omega, rfl, hnx⟩
         case measure => simp [intOf]; omega
        ·have hlb2 : Op.bytesLess s bs = false := by simpa using hlb
         have hnx : Hid (Best out (ls.take (k + 1)) bs) := hid (by rw [htk.out]; exact hb.out.keep hbe hlb2)
         clear hb htk hbe hlb
         skip
         go_wp2_with (go_at_call 87; refine (refright_any s _ hsl).mono ?_; rintro e w' ⟨rfl, rfl⟩; rw [hs])
         go_round
         case rel => exact ⟨k + 1, bs, by go_num, by omega, rfl, hnx⟩
         case measure => simp [intOf]; omega

      ·have hnc : candS out s = false := by
        have : out.isEmpty = false := by cases out with | nil => simp at ho0 | cons _ _ => rfl
        simp only [candS, this, Bool.false_or, hs, Bool.true_and]
        simpa only [Bool.not_eq_true] using hgt
       have hnx : Hid (Best out (ls.take (k + 1)) bs) := hid (by rw [htk.out]; exact hb.out.skip hnc)
       have e5 : (Op.bytesLess s (out.getLastD []) || s == out.getLastD []) = true := by
        rcases ltS_tri s (out.getLastD []) with hx | hx | hx
        ·rw [show Op.bytesLess s (out.getLastD []) = true from hx]; rfl
        ·simp [hx]
        ·exact absurd hx hgt
       generalize hla : out.getLastD [] = la at *
       have HLA := hid hla
       clear hla hgt hnc hb htk
       go_wp2_with (go_at_call 87; refine (refright_any s _ hsl).mono ?_; rintro e w' ⟨rfl, rfl⟩; rw [hs])
       go_round
       case rel => exact ⟨k + 1, bs, by go_num, by omega, rfl, hnx⟩
       case measure => simp [intOf]; omega
    ·have hsf : isName s = false := by simpa using hs
     have hnx : Hid (Best out (ls.take (k + 1)) bs) := hid (by rw [htk.out]; exact hb.out.skip (by simp [candS, hsf]))
     clear hb htk hs
     go_wp2_with (go_at_call 87; refine (refright_any s _ hsl).mono ?_; rintro e w' ⟨rfl, rfl⟩; rw [hsf])
     go_round
     case rel => exact ⟨k + 1, bs, by go_num, by omega, rfl, hnx⟩
     case measure => simp [intOf]; omega
   ·have hk2 : k = ls.length := by omega
    have hb2 : Hid (Best out ls bs) := hid (by have := hb.out; rwa [List.take_of_length_le (by omega)] at this)
    clear hb hsw
    by_cases hbe : bs = []
    ·subst hbe
     have hso := hp.done hb2.out
     obtain ⟨ao2, cap2, hve, hst⟩ := ho.strs hbd
     cases hve
     go_wp2
     go_ret
     exact ⟨out, _, _, rfl, hso, hst, hc⟩
    ·have e2 : bs.isEmpty = false := by simpa using hbe
     have hps := hp.step hb2.out hbe
     have hpl := hps.len
     rw [List.length_append, List.length_singleton] at hpl
     clear hb2 hbe
     go_wp2_with (at_builtin; refine wpList_append_own_at _ rfl (.tmp 44) (.tmp 46) 89 rfl w.heap.size 9 i0 (.string ⟨#[]⟩) 1 16 Try.underlying89 hi hz0 hz1 hz2 rfl (by decide) _ _ _ rfl (World.ownsRow.alloc ho _) ⟨wo.heap.size, 0, none⟩ 1 1 [strV bs] rfl rfl ?c1 ?c2 ?c3 ?c4 ?c5 ?_)
     case c1 => exact fun j u h => h
     case c2 => rfl
     case c3 => unfold maxLen; omega
     case c4 => omega
     case c5 => have := hc.size; simp; omega
     intro v' w1 hown hgrow _ hat
     have hl : (out ++ [bs]).length = out.length + 1 := by simp
     have ho2 : OwnS w.heap.size w1 v' (out ++ [bs]) := by
      unfold OwnS
      rw [hl, List.map_append]
      exact hown
     have hrow : ∀ k, Value.ownBlock (.slice ao' out.length cap) = some k → w.heap.size ≤ k := by
      intro k hk
      rcases ho.2 with ⟨hx, _⟩ | ⟨g, cap', cur, hx, hg, _⟩
      ·rw [hx] at hk; cases hk
      ·rw [hx] at hk; cases hk; exact hg
     have hc2 : Chg (fun _ => False) w w1 := (hc.alloc _).grown hgrow (fun k e hk => by have := hrow k e; omega)
     obtain ⟨ao3, cap3, hv, _⟩ := ho2.strs (fun x hx => by have := isName_len (hps.2.1 x hx).2; omega)
     subst hv
     clear hown hgrow hat hrow ho hc
     rw [hl]
     go_wp2
     go_roundw
     case rel => exact ⟨out ++ [bs], ao3, cap3, by rw [hl], hps, ho2, hc2⟩
     case measure => simp [lenOf]; omega
end Go.Proofs.Ytjaplnainlbldaa

/- The contracts of the document's Facts, and names, of layer 9. -/
namespace Go.Proofs.Ytjaplnainlbldaa
open Go.RowKit

theorem ownsRow_lowK {B A : Nat} {w : World} {ty : TypeId} {n : Nat} {v : Value} {len : Nat} {row : List Value} (h : w.ownsRow B ty n v len row) (hA : A ≤ B) : w.ownsRow A ty n v len row := by
 rcases h with ⟨h1, h2 | ⟨g, cap, cur, h3, h4, h5⟩⟩
 ·exact ⟨h1, .inl h2⟩
 ·exact ⟨h1, .inr ⟨g, cap, cur, h3, Nat.le_trans hA h4, h5⟩⟩

set_option maxRecDepth 100000 in
set_option maxHeartbeats 2000000 in
theorem rkfacts {D : Nat → Prop} (ao : Option Addr) (cp : Nat) (ls : List StepB) (w : World) (hn : ls.length ≤ 1048576) (h : StepsAt D w ao ls) :
  Calls Try.prog 45 #[.slice ao ls.length cp] w fun e w' => ∃ ao' cap', e = .returned (.slice ao' (factsK ls).length cap') ∧ OwnF w.heap.size w' (.slice ao' (factsK ls).length cap') (factsK ls) ∧ Chg (fun _ => False) w w' := by
 obtain ⟨i0, hi, hz0, hz1, hz2⟩ := info_parts Try.info26
 have HI := hid (And.intro hi (And.intro hz0 (And.intro hz1 hz2)))
 have HX := hid h
 clear hi hz0 hz1 hz2 h
 go_enter Try.func45, Try.ntmps45
 go_wp2
 go_loopw [3, 8] (fun v i wr => ∃ (k : Nat) (out : List FactB) (ao' : Option Addr) (cap' : Nat), k ≤ ls.length ∧ i = .int .i64 k ∧ v = .slice ao' out.length cap' ∧ Hid (out = factsK (ls.take k)) ∧ out.length ≤ k ∧ OwnF w.heap.size wr (.slice ao' out.length cap') out ∧ Chg (fun _ => False) w wr) (fun _ i _ => ls.length - (intOf i).toNat)
 case atStart => exact ⟨0, [], none, 0, Nat.zero_le _, rfl, rfl, hid rfl, Nat.zero_le _, World.ownsRow_nil _ _ _ _, Chg.refl _ _⟩
 case round =>
  obtain ⟨k, out, ao', cap', hk, rfl, rfl, hout, hol, ho, hc1⟩ := hrel
  by_cases hlt : k < ls.length
  ·obtain ⟨b, off, hao, _, ⟨⟨a0, a1, a2, a3, a4, a5, a6, a7, a8⟩, ⟨b0, b1, b2⟩⟩, _⟩ := (HX.out.keep hc1 (fun _ _ => id)) k hlt
   have HT : Hid (out ++ [ls[k].f] = factsK (ls.take (k + 1))) := hid (by rw [List.take_succ_eq_append_getElem hlt, factsK_snoc, hout.out])
   have HKL := hid hlt
   generalize ls[k] = s at *
   change wr.cell? ⟨b, off + k * 12 + 10, none⟩ = _ at b1
   change wr.cell? ⟨b, off + k * 12 + 11, none⟩ = _ at b2
   have hSb : (wr.alloc (.cells #[.int .i64 s.c.kind, .string ⟨s.c.head.1.toArray⟩, .string ⟨s.c.head.2.toArray⟩, .string ⟨s.c.who.toArray⟩, .string ⟨s.c.b.1.toArray⟩, .string ⟨s.c.b.2.toArray⟩, .string ⟨s.c.c.1.toArray⟩, .string ⟨s.c.c.2.toArray⟩, .string ⟨s.c.w2.toArray⟩, .string ⟨s.f.1.1.toArray⟩, .string ⟨s.f.1.2.toArray⟩, .string ⟨s.f.2.toArray⟩] 43)).heap[wr.heap.size]? = some (.cells (stepBox s) 43 (0, 0)) := heap_alloc_new wr _
   have hcA : Chg (fun _ => False) wr (wr.alloc (.cells #[.int .i64 s.c.kind, .string ⟨s.c.head.1.toArray⟩, .string ⟨s.c.head.2.toArray⟩, .string ⟨s.c.who.toArray⟩, .string ⟨s.c.b.1.toArray⟩, .string ⟨s.c.b.2.toArray⟩, .string ⟨s.c.c.1.toArray⟩, .string ⟨s.c.c.2.toArray⟩, .string ⟨s.c.w2.toArray⟩, .string ⟨s.f.1.1.toArray⟩, .string ⟨s.f.1.2.toArray⟩, .string ⟨s.f.2.toArray⟩] 43)) := (Chg.refl _ wr).alloc _
   have r9 := cell_blk hSb 9
   have r10 := cell_blk hSb 10
   have r11 := cell_blk hSb 11
   simp only [stepBox, List.getElem?_toArray, List.getElem?_cons_zero, List.getElem?_cons_succ] at r9 r10 r11
   have HO := hid (And.intro (World.ownsRow.alloc ho (.cells #[.int .i64 s.c.kind, .string ⟨s.c.head.1.toArray⟩, .string ⟨s.c.head.2.toArray⟩, .string ⟨s.c.who.toArray⟩, .string ⟨s.c.b.1.toArray⟩, .string ⟨s.c.b.2.toArray⟩, .string ⟨s.c.c.1.toArray⟩, .string ⟨s.c.c.2.toArray⟩, .string ⟨s.c.w2.toArray⟩, .string ⟨s.f.1.1.toArray⟩, .string ⟨s.f.1.2.toArray⟩, .string ⟨s.f.2.toArray⟩] 43)) (And.intro (hc1.trans hcA (fun _ _ h => h)) hc1.size))
   subst hao
   clear hSb hcA ho hc1 hout
   go_wp2_with (at_builtin; refine wpList_append_own_at _ rfl (.tmp 12) (.tmp 15) 33 rfl w.heap.size 26 i0 (.agg #[.string ⟨#[]⟩, .string ⟨#[]⟩, .string ⟨#[]⟩]) 3 48 Try.underlying33 HI.out.1 HI.out.2.1 HI.out.2.2.1 HI.out.2.2.2 rfl (by decide) _ _ _ rfl (World.ownsRow.alloc HO.out.1 _) ⟨wr.heap.size + 1, 0, none⟩ 1 1 (factCells s.f) rfl rfl ?c1 ?c2 ?c3 ?c4 ?c5 ?_)
   case c1 =>
    intro j u hj
    have hq := fact_cells_new (wr.alloc (.cells #[.int .i64 s.c.kind, .string ⟨s.c.head.1.toArray⟩, .string ⟨s.c.head.2.toArray⟩, .string ⟨s.c.who.toArray⟩, .string ⟨s.c.b.1.toArray⟩, .string ⟨s.c.b.2.toArray⟩, .string ⟨s.c.c.1.toArray⟩, .string ⟨s.c.c.2.toArray⟩, .string ⟨s.c.w2.toArray⟩, .string ⟨s.f.1.1.toArray⟩, .string ⟨s.f.1.2.toArray⟩, .string ⟨s.f.2.toArray⟩] 43)) s.f j u hj
    rw [World.size_alloc] at hq
    exact hq
   case c2 => exact fact_one s.f
   case c3 => unfold maxLen; omega
   case c4 => omega
   case c5 => have := HO.out.2.2; simp; omega
   clear a0 a1 a2 a3 a4 a5 a6 a7 a8 b0 b1 b2 r9 r10 r11
   intro v' w3 hown hgrow _ _
   have ho2 : OwnF w.heap.size w3 v' (out ++ [s.f]) := by
    unfold OwnF
    rw [factRow_snoc, List.length_append]
    exact hown
   have hc7 : Chg (fun _ => False) w w3 := (HO.out.2.1.alloc _).grown hgrow (fun k e hk => by have := (ownsRow_lt HO.out.1 k e).1; omega)
   have hl : (out ++ [s.f]).length = out.length + 1 := by simp
   obtain ⟨zs, HZ⟩ : ∃ zs, Hid (zs = out ++ [s.f]) := ⟨_, hid rfl⟩
   rw [← HZ.out] at ho2 hl HT
   obtain ⟨ao5, cap5, hv5⟩ := ho2.shape
   subst hv5
   have HY := hid (And.intro ho2 hc7)
   clear hown hgrow ho2 hc7 HO HZ
   go_wp2
   go_roundw
   case rel => exact ⟨k + 1, zs, ao5, cap5, by have := HKL.out; omega, by go_num, rfl, HT, by omega, HY.out.1, HY.out.2⟩
   case measure => have := HKL.out; simp [intOf]; omega
  ·have hk2 : k = ls.length := by omega
   have hh : Hid (out = factsK ls) := hid (by have := hout.out; rwa [hk2, List.take_length] at this)
   have HC := hid hc1
   have HO := hid ho
   clear hc1 hk2 hout ho
   go_wp2
   go_ret
   rw [← hh.out]
   exact ⟨ao', cap', rfl, HO.out, HC.out⟩

/-- Who is told by facts. -/
def whosF (ls : List FactB) : List (List UInt8) := ls.map (·.2)
theorem whosF_snoc (ls : List FactB) (x : FactB) : whosF (ls ++ [x]) = whosF ls ++ [x.2] := by simp [whosF]
theorem whosF_len (ls : List FactB) : (whosF ls).length = ls.length := by simp [whosF]

set_option maxRecDepth 100000 in
set_option maxHeartbeats 2000000 in
theorem rknames {D : Nat → Prop} (ao : Option Addr) (cp : Nat) (ls : List FactB) (w : World) (hn : ls.length ≤ 1048576) (h : FactsAt D w ao ls) :
  Calls Try.prog 85 #[.slice ao ls.length cp] w fun e w' => ∃ ao' cap', e = .returned (.slice ao' (whosF ls).length cap') ∧ OwnS w.heap.size w' (.slice ao' (whosF ls).length cap') (whosF ls) ∧ Chg (fun _ => False) w w' := by
 obtain ⟨i0, hi, hz0, hz1, hz2⟩ := info_parts Try.info9
 have HI := hid (And.intro hi (And.intro hz0 (And.intro hz1 hz2)))
 have HX := hid h
 clear hi hz0 hz1 hz2 h
 go_enter Try.func85, Try.ntmps85
 go_wp2
 go_loopw [3, 8] (fun v i wr => ∃ (k : Nat) (out : List (List UInt8)) (ao' : Option Addr) (cap' : Nat), k ≤ ls.length ∧ i = .int .i64 k ∧ v = .slice ao' out.length cap' ∧ Hid (out = whosF (ls.take k)) ∧ out.length ≤ k ∧ OwnS w.heap.size wr (.slice ao' out.length cap') out ∧ Chg (fun _ => False) w wr) (fun _ i _ => ls.length - (intOf i).toNat)
 case atStart => exact ⟨0, [], none, 0, Nat.zero_le _, rfl, rfl, hid rfl, Nat.zero_le _, World.ownsRow_nil _ _ _ _, Chg.refl _ _⟩
 case round =>
  obtain ⟨k, out, ao', cap', hk, rfl, rfl, hout, hol, ho, hc1⟩ := hrel
  by_cases hlt : k < ls.length
  ·obtain ⟨b, off, hao, _, ⟨a0, a1, a2⟩⟩ := (HX.out.keep hc1 (fun _ _ => id)) k hlt
   have HT : Hid (out ++ [ls[k].2] = whosF (ls.take (k + 1))) := hid (by rw [List.take_succ_eq_append_getElem hlt, whosF_snoc, hout.out])
   have HKL := hid hlt
   generalize ls[k] = f at *
   have hSb : (wr.alloc (.cells #[.string ⟨f.1.1.toArray⟩, .string ⟨f.1.2.toArray⟩, .string ⟨f.2.toArray⟩] 26)).heap[wr.heap.size]? = some (.cells (factBox f) 26 (0, 0)) := heap_alloc_new wr _
   have hcA : Chg (fun _ => False) wr (wr.alloc (.cells #[.string ⟨f.1.1.toArray⟩, .string ⟨f.1.2.toArray⟩, .string ⟨f.2.toArray⟩] 26)) := (Chg.refl _ wr).alloc _
   obtain ⟨r0, r1, r2⟩ := fact_at_blk hSb
   simp only [Nat.zero_add] at r0 r1 r2
   have HO := hid (And.intro (World.ownsRow.alloc ho (.cells #[.string ⟨f.1.1.toArray⟩, .string ⟨f.1.2.toArray⟩, .string ⟨f.2.toArray⟩] 26)) (And.intro (hc1.trans hcA (fun _ _ h => h)) hc1.size))
   subst hao
   clear hSb hcA ho hc1 hout
   go_wp2_with (at_builtin; refine wpList_append_own_at _ rfl (.tmp 12) (.tmp 15) 89 rfl w.heap.size 9 i0 (.string ⟨#[]⟩) 1 16 Try.underlying89 HI.out.1 HI.out.2.1 HI.out.2.2.1 HI.out.2.2.2 rfl (by decide) _ _ _ rfl (World.ownsRow.alloc HO.out.1 _) ⟨wr.heap.size + 1, 0, none⟩ 1 1 [.string ⟨f.2.toArray⟩] rfl rfl ?c1 ?c2 ?c3 ?c4 ?c5 ?_)
   case c1 =>
    intro j u hj
    have hq := heap_alloc_new (wr.alloc (.cells #[.string ⟨f.1.1.toArray⟩, .string ⟨f.1.2.toArray⟩, .string ⟨f.2.toArray⟩] 26)) (.cells #[.string ⟨f.2.toArray⟩] 9)
    rw [World.size_alloc] at hq
    rw [add_off, cell_blk hq, Nat.zero_add]
    show ([.string ⟨f.2.toArray⟩]).toArray[j]? = some u
    rw [List.getElem?_toArray]
    exact hj
   case c2 => intro u hu; simp only [List.mem_cons, List.not_mem_nil, or_false] at hu; rcases hu with rfl; rfl
   case c3 => unfold maxLen; omega
   case c4 => omega
   case c5 => have := HO.out.2.2; simp; omega
   clear a0 a1 a2 r0 r1 r2
   intro v' w3 hown hgrow _ _
   have ho2 : OwnS w.heap.size w3 v' (out ++ [f.2]) := by
    unfold OwnS
    rw [List.map_append, List.length_append]
    exact hown
   have hc7 : Chg (fun _ => False) w w3 := (HO.out.2.1.alloc _).grown hgrow (fun k e hk => by have := (ownsRow_lt HO.out.1 k e).1; omega)
   have hl : (out ++ [f.2]).length = out.length + 1 := by simp
   obtain ⟨zs, HZ⟩ : ∃ zs, Hid (zs = out ++ [f.2]) := ⟨_, hid rfl⟩
   rw [← HZ.out] at ho2 hl HT
   obtain ⟨ao5, cap5, hv5⟩ : ∃ ao5 cap5, v' = .slice ao5 zs.length cap5 := by
    rcases ho2.2 with ⟨_, h0⟩ | ⟨g, cap, cur, hv, _⟩
    ·omega
    ·exact ⟨_, _, hv⟩
   subst hv5
   have HY := hid (And.intro ho2 hc7)
   clear hown hgrow ho2 hc7 HO HZ
   go_wp2
   go_roundw
   case rel => exact ⟨k + 1, zs, ao5, cap5, by have := HKL.out; omega, by go_num, rfl, HT, by omega, HY.out.1, HY.out.2⟩
   case measure => have := HKL.out; simp [intOf]; omega
  ·have hk2 : k = ls.length := by omega
   have hh : Hid (out = whosF ls) := hid (by have := hout.out; rwa [hk2, List.take_length] at this)
   have HC := hid hc1
   have HO := hid ho
   clear hc1 hk2 hout ho
   go_wp2
   go_ret
   rw [← hh.out]
   exact ⟨ao', cap', rfl, HO.out, HC.out⟩
end Go.Proofs.Ytjaplnainlbldaa

/- The contract of the document's Less of layer 4. -/
namespace Go.Proofs.Ytjaplnainlbldaa
open Go.RowKit

theorem less_ref (a b : RoleB) (w : World) :
  Calls Try.prog 88 #[roleV a, roleV b] w fun e w' => e = .returned (.bool (ltR a b)) ∧ Chg (fun _ => False) w w' := by
 obtain ⟨o, x⟩ := a
 obtain ⟨p, y⟩ := b
 have hc : Chg (fun _ => False) w ((w.alloc (.cells #[.string ⟨o.toArray⟩, .string ⟨x.toArray⟩] 24)).alloc (.cells #[.string ⟨p.toArray⟩, .string ⟨y.toArray⟩] 24)) := ((Chg.refl _ w).alloc _).alloc _
 have HC := hid hc
 clear hc
 show Calls Try.prog 88 #[.agg #[.string ⟨o.toArray⟩, .string ⟨x.toArray⟩], .agg #[.string ⟨p.toArray⟩, .string ⟨y.toArray⟩]] w _
 cases h1 : Op.bytesLess o p with
 | true =>
  have hh : Hid (ltR (o, x) (p, y) = true) := hid (by rw [ltR_def]; simp [ltS, h1])
  go_enter Try.func88, Try.ntmps88
  go_wp2
  go_ret
  exact ⟨by rw [hh.out]; rfl, HC.out⟩
 | false =>
  by_cases h2 : o = p
  ·subst h2
   have e1 : (o == o) = true := by simp
   have hh : Hid (ltR (o, x) (o, y) = Op.bytesLess x y) := hid (by rw [ltR_def]; simp [ltS, h1])
   go_enter Try.func88, Try.ntmps88
   go_wp2
   go_ret
   exact ⟨by rw [hh.out]; rfl, HC.out⟩
  ·have e1 : (o == p) = false := by simpa using h2
   have hh : Hid (ltR (o, x) (p, y) = false) := hid (by rw [ltR_def]; simp [ltS, h1, h2])
   clear h2
   go_enter Try.func88, Try.ntmps88
   go_wp2
   go_ret
   exact ⟨by rw [hh.out]; rfl, HC.out⟩
end Go.Proofs.Ytjaplnainlbldaa

/- The contract of the document's Right of layer 5. -/
namespace Go.Proofs.Ytjaplnainlbldaa
open Go.RowKit

theorem isCred_not1 {c : CredB} (k : c.kind ≠ 1) (h : (c.who == [] && isRole c.b) = false) : isCred c = false := by
 unfold isCred
 rw [if_neg k, h]
 simp

set_option maxRecDepth 100000 in
set_option maxHeartbeats 2000000 in
theorem cright_ref (c : CredB) (w : World) (hs : credShort c 9223372036854775807) :
  Calls Try.prog 46 #[credV c] w fun e w' => e = .returned (.bool (isCred c)) ∧ Chg (fun _ => False) w w' := by
 have hc0 : Chg (fun _ => False) w ((w.alloc (.cells (credBox c) 36)).alloc (.cells #[.string ⟨#[]⟩, .string ⟨#[]⟩] 24)) := ((Chg.refl _ w).alloc _).alloc _
 have hA := blk_keep (heap_alloc_new w (.cells (credBox c) 36)) ((Chg.refl (fun _ => False) _).alloc (.cells #[.string ⟨#[]⟩, .string ⟨#[]⟩] 24)) id
 have hN := heap_alloc_new (w.alloc (.cells (credBox c) 36)) (.cells #[.string ⟨#[]⟩, .string ⟨#[]⟩] 24)
 rw [show (w.alloc (.cells (credBox c) 36)).heap.size = w.heap.size + 1 by simp] at hN
 obtain ⟨k, ⟨ho, hw⟩, who, ⟨bo, bw⟩, ⟨co, cw⟩, w2⟩ := c
 obtain ⟨s1, s2, s3, s4, s5, s6, s7, s8⟩ := hs
 dsimp only at s1 s2 s3 s4 s5 s6 s7 s8
 have hd := cred_at_blk hA
 have n0 := cell_blk hN 0
 have n1 := cell_blk hN 1
 simp only [List.getElem?_toArray, List.getElem?_cons_zero, List.getElem?_cons_succ] at n0 n1
 obtain ⟨a0, a1, a2, a3, a4, a5, a6, a7, a8⟩ := hd
 simp only [Nat.zero_add] at a0 a1 a2 a3 a4 a5 a6 a7 a8
 show Calls Try.prog 46 #[.agg #[.int .i64 k, .string ⟨ho.toArray⟩, .string ⟨hw.toArray⟩, .string ⟨who.toArray⟩, .string ⟨bo.toArray⟩, .string ⟨bw.toArray⟩, .string ⟨co.toArray⟩, .string ⟨cw.toArray⟩, .string ⟨w2.toArray⟩]] w _
 clear hA hN
 cases hr : isRole (ho, hw) with
 | false =>
  have hh : Hid (isCred ⟨k, (ho, hw), who, (bo, bw), (co, cw), w2⟩ = false) := hid (by simp [isCred, hr])
  go_enter Try.func46, Try.ntmps46
  go_wp2_with fail
  refine (rright_ref (ho, hw) _ s1 s2).mono ?_
  rintro e w1 ⟨rfl, hc1⟩
  rw [hr]
  have HC := hid (hc0.trans hc1 (fun _ _ h => h))
  clear hc0 hc1
  go_wp2
  go_ret
  exact ⟨by rw [hh.out]; rfl, HC.out⟩
 | true =>
  go_enter Try.func46, Try.ntmps46
  go_wp2_with fail
  refine (rright_ref (ho, hw) _ s1 s2).mono ?_
  rintro e w1 ⟨rfl, hc1⟩
  rw [hr]
  have hcw := hc0.trans hc1 (fun _ _ h => h)
  replace a0 := hc1.cell a0 id
  replace a1 := hc1.cell a1 id
  replace a2 := hc1.cell a2 id
  replace a3 := hc1.cell a3 id
  replace a4 := hc1.cell a4 id
  replace a5 := hc1.cell a5 id
  replace a6 := hc1.cell a6 id
  replace a7 := hc1.cell a7 id
  replace a8 := hc1.cell a8 id
  replace n0 := hc1.cell n0 id
  replace n1 := hc1.cell n1 id
  have HC := hid hcw
  clear hc0 hc1 hcw
  by_cases k1 : k = 1
  ·subst k1
   have hh : Hid (isCred ⟨1, (ho, hw), who, (bo, bw), (co, cw), w2⟩ = (isName who && ((bo == [] && bw == []) && ((co == [] && cw == []) && w2 == [])))) := hid (by
    simp only [isCred, hr, if_true, Bool.true_and]
    rfl)
   go_wp2_with fail
   refine (refright_any who _ s3).mono ?_
   rintro e w2 ⟨rfl, rfl⟩
   cases hx : isName who <;> clear s1 s2 s3 s4 s5 s6 s7 s8 <;> go_wp2 <;> (go_ret; refine ⟨congrArg (fun b => Ending.returned (.bool b)) ?_, HC.out⟩; rw [hh.out, hx]; simp [*])
  ·by_cases hw0 : who = []
   ·subst hw0
    have z1 : (k == 1) = false := beq_eq_false_iff_ne.2 k1
    go_wp2_with fail
    refine (rright_ref (bo, bw) _ s4 s5).mono ?_
    rintro e w3 ⟨rfl, hc3⟩
    replace a0 := hc3.cell a0 id
    replace a1 := hc3.cell a1 id
    replace a4 := hc3.cell a4 id
    replace a5 := hc3.cell a5 id
    replace a6 := hc3.cell a6 id
    replace a7 := hc3.cell a7 id
    replace a8 := hc3.cell a8 id
    replace n0 := hc3.cell n0 id
    replace n1 := hc3.cell n1 id
    have HC2 := hid (HC.out.trans hc3 (fun _ _ h => h))
    clear HC hc3 a2 a3
    cases hb : isRole (bo, bw) with
    | false =>
     have hh : Hid (isCred ⟨k, (ho, hw), [], (bo, bw), (co, cw), w2⟩ = false) := hid (isCred_not1 k1 (by simp [hb]))
     go_wp2
     go_ret
     exact ⟨by rw [hh.out]; rfl, HC2.out⟩
    | true =>
     have hh : Hid (isCred ⟨k, (ho, hw), [], (bo, bw), (co, cw), w2⟩ = (if k = 2 then (co == [] && cw == []) && w2 == [] else if k = 3 then (co == [] && cw == []) && (bo == ho && isName w2) else k == 4 && (w2 == [] && (isRole (co, cw) && ltR (bo, bw) (co, cw))))) := hid (by
      simp only [isCred, hr, hb, if_neg k1, Bool.true_and, Bool.and_true]
      rfl)
     by_cases k2 : k = 2
     ·subst k2
      clear s1 s2 s3 s4 s5 s6 s7 s8
      go_wp2 <;> (go_ret; refine ⟨congrArg (fun b => Ending.returned (.bool b)) ?_, HC2.out⟩; rw [hh.out]; simp [*])
     ·have z2 : (k == 2) = false := beq_eq_false_iff_ne.2 k2
      by_cases k3 : k = 3
      ·subst k3
       clear s1 s2 s3 s4 s5 s6 s7
       go_wp2_with fail
       ·refine (refright_any w2 _ s8).mono ?_
        rintro e w4 ⟨rfl, rfl⟩
        generalize isName w2 = nw at *
        go_wp2
        go_ret
        exact ⟨congrArg (fun b => Ending.returned (.bool b)) (by rw [hh.out]; simp [*]), HC2.out⟩
       all_goals (go_ret; exact ⟨congrArg (fun b => Ending.returned (.bool b)) (by rw [hh.out]; simp [*]), HC2.out⟩)
      ·have z3 : (k == 3) = false := beq_eq_false_iff_ne.2 k3
       by_cases k4 : k = 4
       ·subst k4
        by_cases hz : w2 = []
        ·subst hz
         go_wp2_with fail
         refine (rright_ref (co, cw) _ s6 s7).mono ?_
         rintro e w4 ⟨rfl, hc4⟩
         replace a4 := hc4.cell a4 id
         replace a5 := hc4.cell a5 id
         replace a6 := hc4.cell a6 id
         replace a7 := hc4.cell a7 id
         have HC3 := hid (HC2.out.trans hc4 (fun _ _ h => h))
         clear HC2 hc4 a0 a1 a8 n0 n1
         cases hcr : isRole (co, cw) with
         | false =>
          rw [hcr] at hh
          go_wp2
          go_ret
          exact ⟨by rw [hh.out]; rfl, HC3.out⟩
         | true =>
          rw [hcr] at hh
          go_wp2_with fail
          refine (less_ref (bo, bw) (co, cw) _).mono ?_
          rintro e w5 ⟨rfl, hc5⟩
          have HC4 := hid (HC3.out.trans hc5 (fun _ _ h => h))
          clear HC3 hc5
          generalize ltR (bo, bw) (co, cw) = lt at *
          go_wp2
          go_ret
          exact ⟨by rw [hh.out]; rfl, HC4.out⟩
        ·clear s1 s2 s3 s4 s5 s6 s7 s8
         go_wp2
         go_ret
         exact ⟨congrArg (fun b => Ending.returned (.bool b)) (by rw [hh.out]; simp [*]), HC2.out⟩
       ·have z4 : (k == 4) = false := beq_eq_false_iff_ne.2 k4
        clear s1 s2 s3 s4 s5 s6 s7 s8
        go_wp2
        go_ret
        exact ⟨congrArg (fun b => Ending.returned (.bool b)) (by rw [hh.out]; simp [*]), HC2.out⟩
   ·have hh : Hid (isCred ⟨k, (ho, hw), who, (bo, bw), (co, cw), w2⟩ = false) := hid (isCred_not1 k1 (by simp [hw0]))
    have z1 : (k == 1) = false := beq_eq_false_iff_ne.2 k1
    have z0 : (who != []) = true := by simp [hw0]
    clear s1 s2 s3 s4 s5 s6 s7 s8
    go_wp2
    go_ret
    exact ⟨by rw [hh.out]; rfl, HC.out⟩
end Go.Proofs.Ytjaplnainlbldaa
