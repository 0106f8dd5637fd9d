/- Texts that the proof leans on, in one: OwnS, RefSet, RefFNames, RefRoleLess, RefFLess, RefFSame, RoleSpec. -/
import Derived.Test.YtanompfdjfgfbaaGreatMb1
import Derived.Test.YtanompfdjfgfbaaGreatProg
import Derived.Test.YtanompfdjfgfbaaGreatChecked
import Derived.Maps.AppendAt
import Derived.Test.YtanompfdjfgfbaaGreatMb4
import Derived.Test.YtanompfdjfgfbaaGreatMb3
import Derived.Deep.QuietTactic
import Derived.BigQuiet
/- Lists of texts of the call's own. -/
namespace Go.Proofs.YtanompfdjfgfbaaGreat
open Go.RowKit

def strV (l : List UInt8) : Value := .string ⟨l.toArray⟩
theorem Tryz.info9 : (Tryz.prog.info? 9).map (fun i => (i.zero, i.size, i.bytes)) = some (some (.string ⟨#[]⟩), 1, 16) := by kernel_rfl

/-- A list of texts of the call's own. -/
def OwnS (B : Nat) (w : World) (v : Value) (ls : List (List UInt8)) : Prop := w.ownsRow B 9 1 v ls.length (ls.map strV)

theorem OwnS.strs {B : Nat} {w : World} {v : Value} {ls : List (List UInt8)} (h : OwnS B w v ls) (hb : ∀ x ∈ ls, x.length ≤ 9223372036854775807) : ∃ ao cap, v = .slice ao ls.length cap ∧ StrsAt (fun k => B ≤ k ∧ k < w.heap.size) w ao ls := by
  rcases h.2 with ⟨rfl, h0⟩ | ⟨g, cap, cur, rfl, hg, hh, h1, h2, h3, h4⟩
  · have : ls = [] := List.eq_nil_of_length_eq_zero h0
    subst this
    exact ⟨none, 0, rfl, StrsAt.nil _ _ _⟩
  · refine ⟨_, _, rfl, fun i hi => ⟨g, 0, rfl, ⟨hg, lt_blk hh⟩, ?_, hb _ (List.getElem_mem hi)⟩⟩
    have hcell := h.cells (g := g) rfl i (strV ls[i]) (by simp [hi])
    rw [add_off] at hcell
    exact hcell

def lenOf : Value → Nat
  | .slice _ n _ => n
  | _ => 0
end Go.Proofs.YtanompfdjfgfbaaGreat

/- The contract of the document's Set. -/
namespace Go.Proofs.YtanompfdjfgfbaaGreat
open Go.RowKit

/-- What Set leaves: the set, in new memory. -/
def SetPost (ls : List (List UInt8)) (w : World) (e : Ending) (w' : World) : Prop :=
  ∃ out ao cap, e = .returned (.slice ao out.length cap) ∧ SetOf ls out ∧ StrsAt (fun k => w.heap.size ≤ k ∧ k < w'.heap.size) w' ao out ∧ Chg (fun _ => False) w w'

set_option maxRecDepth 100000 in
set_option maxHeartbeats 2000000 in
theorem refset_any {D : Nat → Prop} (ao : Option Addr) (cp : Nat) (ls : List (List UInt8)) (w : World) (hn : ls.length ≤ 4194304) (h : StrsAt D w ao ls) (_ : ∀ i, D i → i < w.heap.size) :
    Calls Tryz.prog 36 #[.slice ao ls.length cp] w (SetPost ls w) := by
  obtain ⟨i0, hi, hz0, hz1, hz2⟩ := info_parts Tryz.info9
  go_enter Tryz.func36, Tryz.ntmps36
  go_wp2
  go_loopw [3] (fun v wr => ∃ (out : List (List UInt8)) (ao' : Option Addr) (cap : Nat), v = .slice ao' out.length cap ∧ SetPart ls out ∧ OwnS w.heap.size wr (.slice ao' out.length cap) out ∧ Chg (fun _ => False) w wr) (fun v _ => ls.length + 1 - lenOf v)
  case atStart => exact ⟨[], none, 0, rfl, SetPart.nil ls, World.ownsRow_nil _ _ _ _, Chg.refl _ _⟩
  case round =>
    obtain ⟨out, ao', cap, rfl, hp, ho, hc⟩ := hrel
    have hol := hp.len
    have hbd : ∀ x ∈ out, x.length ≤ 9223372036854775807 := fun x hx => by have := isName_len (hp.2.1 x hx).2; omega
    go_wp2
    obtain ⟨wo, rfl⟩ : ∃ wo : World, wo = wr := ⟨_, rfl⟩
    have hsw := h.keep hc (fun _ _ => id)
    go_loop [4, 9] (fun b i => ∃ (k : Nat) (bs : List UInt8), i = .int .i64 k ∧ k ≤ ls.length ∧ b = .string ⟨bs.toArray⟩ ∧ Hid (Best out (ls.take k) bs)) (fun _ i => ls.length - (intOf i).toNat)
    case atStart => exact ⟨0, [], rfl, Nat.zero_le _, rfl, hid (.inl ⟨rfl, fun s hs => by simp at hs⟩)⟩
    case round =>
      obtain ⟨k, bs, rfl, hk, rfl, hb⟩ := hrel
      by_cases hlt : k < ls.length
      · obtain ⟨b, off, rfl, _, c0, hsl⟩ := hsw k hlt
        have htk : Hid (ls.take (k + 1) = ls.take k ++ [ls[k]]) := hid (List.take_succ_eq_append_getElem hlt)
        clear h hsw
        generalize ls[k] = s at *
        by_cases hs : isName s = true
        · by_cases ho0 : out.length = 0
          · have hca : Hid (candS out s = true) := hid (by rw [List.eq_nil_of_length_eq_zero ho0]; simp [candS, hs])
            have z0 : ((out.length : Int) == 0) = true := beq_iff_eq.2 (by omega)
            clear ho0
            by_cases hbe : bs = []
            · have hnx : Hid (Best out (ls.take (k + 1)) s) := hid (by rw [htk.out]; exact hb.out.take hca.out (.inl hbe))
              have e2 : bs.isEmpty = true := by rw [hbe]; rfl
              clear hb htk hbe
              skip
              go_wp2_with (go_at_call 59; refine (refright_any s _ hsl).mono ?_; rintro e w' ⟨rfl, rfl⟩; rw [hs])
              go_round
              case rel => exact ⟨k + 1, s, by go_num, by omega, rfl, hnx⟩
              case measure => simp [intOf]; omega
            · have e2 : bs.isEmpty = false := by simpa using hbe
              by_cases hlb : Op.bytesLess s bs = true
              · have hnx : Hid (Best out (ls.take (k + 1)) s) := hid (by rw [htk.out]; exact hb.out.take hca.out (.inr hlb))
                clear hb htk hbe
                skip
                go_wp2_with (go_at_call 59; refine (refright_any s _ hsl).mono ?_; rintro e w' ⟨rfl, rfl⟩; rw [hs])
                go_round
                case rel => exact ⟨k + 1, s, by go_num, by omega, rfl, hnx⟩
                case measure => simp [intOf]; omega
              · have hlb2 : Op.bytesLess s bs = false := by simpa using hlb
                have hnx : Hid (Best out (ls.take (k + 1)) bs) := hid (by rw [htk.out]; exact hb.out.keep hbe hlb2)
                clear hb htk hbe hlb
                skip
                go_wp2_with (go_at_call 59; refine (refright_any s _ hsl).mono ?_; rintro e w' ⟨rfl, rfl⟩; rw [hs])
                go_round
                case rel => exact ⟨k + 1, bs, by go_num, by omega, rfl, hnx⟩
                case measure => simp [intOf]; omega

          · have z0 : ((out.length : Int) == 0) = false := beq_eq_false_iff_ne.2 (by omega)
            have hlast : out.length - 1 < out.length := by omega
            obtain ⟨_, _, hve, hst⟩ := ho.strs hbd
            cases hve
            obtain ⟨g, goff, rfl, _, q0, _⟩ := hst (out.length - 1) hlast
            have hgl : out[out.length - 1] = out.getLastD [] := by
              rw [List.getLastD_eq_getLast?, List.getLast?_eq_getElem?, List.getElem?_eq_getElem hlast]
              rfl
            rw [hgl] at q0
            have hol2 : 1 ≤ out.length := by omega
            have e7 : ((out.length : Int) - 1).toNat = out.length - 1 := by omega
            clear hst hgl
            by_cases hgt : ltS (out.getLastD []) s = true
            · have hca : Hid (candS out s = true) := hid (by simp only [candS, hs, hgt, Bool.or_true, Bool.and_true])
              have e5 : Op.bytesLess s (out.getLastD []) = false := by
                cases hx : Op.bytesLess s (out.getLastD []) with
                | false => rfl
                | true =>
                  have := ltS_trans _ _ _ hgt hx
                  rw [ltS_irrefl] at this
                  cases this
              have e6 : (s == out.getLastD []) = false := by
                rw [beq_eq_false_iff_ne]
                intro hx
                rw [hx, ltS_irrefl] at hgt
                cases hgt
              generalize hla : out.getLastD [] = la at *
              have HLA := hid hla
              clear hla hgt
              by_cases hbe : bs = []
              · have hnx : Hid (Best out (ls.take (k + 1)) s) := hid (by rw [htk.out]; exact hb.out.take hca.out (.inl hbe))
                have e2 : bs.isEmpty = true := by rw [hbe]; rfl
                clear hb htk hbe
                skip
                go_wp2_with (go_at_call 59; refine (refright_any s _ hsl).mono ?_; rintro e w' ⟨rfl, rfl⟩; rw [hs])
                go_round
                case rel => exact ⟨k + 1, s, by go_num, by omega, rfl, hnx⟩
                case measure => simp [intOf]; omega
              · have e2 : bs.isEmpty = false := by simpa using hbe
                by_cases hlb : Op.bytesLess s bs = true
                · have hnx : Hid (Best out (ls.take (k + 1)) s) := hid (by rw [htk.out]; exact hb.out.take hca.out (.inr hlb))
                  clear hb htk hbe
                  skip
                  go_wp2_with (go_at_call 59; refine (refright_any s _ hsl).mono ?_; rintro e w' ⟨rfl, rfl⟩; rw [hs])
                  go_round
                  case rel => exact ⟨k + 1, s, by go_num, by omega, rfl, hnx⟩
                  case measure => simp [intOf]; omega
                · have hlb2 : Op.bytesLess s bs = false := by simpa using hlb
                  have hnx : Hid (Best out (ls.take (k + 1)) bs) := hid (by rw [htk.out]; exact hb.out.keep hbe hlb2)
                  clear hb htk hbe hlb
                  skip
                  go_wp2_with (go_at_call 59; refine (refright_any s _ hsl).mono ?_; rintro e w' ⟨rfl, rfl⟩; rw [hs])
                  go_round
                  case rel => exact ⟨k + 1, bs, by go_num, by omega, rfl, hnx⟩
                  case measure => simp [intOf]; omega

            · have hnc : candS out s = false := by
                have : out.isEmpty = false := by cases out with | nil => simp at ho0 | cons _ _ => rfl
                simp only [candS, this, Bool.false_or, hs, Bool.true_and]
                simpa only [Bool.not_eq_true] using hgt
              have hnx : Hid (Best out (ls.take (k + 1)) bs) := hid (by rw [htk.out]; exact hb.out.skip hnc)
              have e5 : (Op.bytesLess s (out.getLastD []) || s == out.getLastD []) = true := by
                rcases ltS_tri s (out.getLastD []) with hx | hx | hx
                · rw [show Op.bytesLess s (out.getLastD []) = true from hx]; rfl
                · simp [hx]
                · exact absurd hx hgt
              generalize hla : out.getLastD [] = la at *
              have HLA := hid hla
              clear hla hgt hnc hb htk
              go_wp2_with (go_at_call 59; refine (refright_any s _ hsl).mono ?_; rintro e w' ⟨rfl, rfl⟩; rw [hs])
              go_round
              case rel => exact ⟨k + 1, bs, by go_num, by omega, rfl, hnx⟩
              case measure => simp [intOf]; omega
        · have hsf : isName s = false := by simpa using hs
          have hnx : Hid (Best out (ls.take (k + 1)) bs) := hid (by rw [htk.out]; exact hb.out.skip (by simp [candS, hsf]))
          clear hb htk hs
          go_wp2_with (go_at_call 59; refine (refright_any s _ hsl).mono ?_; rintro e w' ⟨rfl, rfl⟩; rw [hsf])
          go_round
          case rel => exact ⟨k + 1, bs, by go_num, by omega, rfl, hnx⟩
          case measure => simp [intOf]; omega
      · have hk2 : k = ls.length := by omega
        have hb2 : Hid (Best out ls bs) := hid (by have := hb.out; rwa [List.take_of_length_le (by omega)] at this)
        clear hb hsw
        by_cases hbe : bs = []
        · subst hbe
          have hso := hp.done hb2.out
          obtain ⟨ao2, cap2, hve, hst⟩ := ho.strs hbd
          cases hve
          go_wp2
          go_ret
          exact ⟨out, _, _, rfl, hso, hst, hc⟩
        · have e2 : bs.isEmpty = false := by simpa using hbe
          have hps := hp.step hb2.out hbe
          have hpl := hps.len
          rw [List.length_append, List.length_singleton] at hpl
          clear hb2 hbe
          go_wp2_with (at_builtin; refine wpList_append_own_at _ rfl (.tmp 44) (.tmp 46) 36 rfl w.heap.size 9 i0 (.string ⟨#[]⟩) 1 16 Tryz.underlying36 hi hz0 hz1 hz2 rfl (by decide) _ _ _ rfl (World.ownsRow.alloc ho _) ⟨wo.heap.size, 0, none⟩ 1 1 [strV bs] rfl rfl ?c1 ?c2 ?c3 ?c4 ?c5 ?_)
          case c1 => exact fun j u h => h
          case c2 => rfl
          case c3 => unfold maxLen; omega
          case c4 => omega
          case c5 => have := hc.size; simp; omega
          intro v' w1 hown hgrow _ hat
          have hl : (out ++ [bs]).length = out.length + 1 := by simp
          have ho2 : OwnS w.heap.size w1 v' (out ++ [bs]) := by
            unfold OwnS
            rw [hl, List.map_append]
            exact hown
          have hrow : ∀ k, Value.ownBlock (.slice ao' out.length cap) = some k → w.heap.size ≤ k := by
            intro k hk
            rcases ho.2 with ⟨hx, _⟩ | ⟨g, cap', cur, hx, hg, _⟩
            · rw [hx] at hk; cases hk
            · rw [hx] at hk; cases hk; exact hg
          have hc2 : Chg (fun _ => False) w w1 := (hc.alloc _).grown hgrow (fun k e hk => by have := hrow k e; omega)
          obtain ⟨ao3, cap3, hv, _⟩ := ho2.strs (fun x hx => by have := isName_len (hps.2.1 x hx).2; omega)
          subst hv
          clear hown hgrow hat hrow ho hc
          rw [hl]
          go_wp2
          go_roundw
          case rel => exact ⟨out ++ [bs], ao3, cap3, by rw [hl], hps, ho2, hc2⟩
          case measure => simp [lenOf]; omega
end Go.Proofs.YtanompfdjfgfbaaGreat

/- The contract of the document's Names, of layer 8. -/
namespace Go.Proofs.YtanompfdjfgfbaaGreat
open Go.RowKit

/-- A credential's four texts that name somebody, or an owner. -/
def whoCells (c : CredB) : List Value := [.string ⟨c.who.toArray⟩, .string ⟨c.head.1.toArray⟩, .string ⟨c.b.1.toArray⟩, .string ⟨c.c.1.toArray⟩]

theorem whosOf_short {ls : List CredB} (h : ∀ c ∈ ls, credShort c 9223372036854775807) : ∀ x ∈ whosOf ls, x.length ≤ 9223372036854775807 := by
  intro x hx
  unfold whosOf at hx
  rw [List.mem_flatMap] at hx
  obtain ⟨c, hc, hx⟩ := hx
  obtain ⟨h1, h2, h3, h4, h5, h6, h7, h8⟩ := h c hc
  simp only [List.mem_cons, List.not_mem_nil, or_false] at hx
  rcases hx with rfl | rfl | rfl | rfl <;> assumption

set_option maxRecDepth 100000 in
set_option maxHeartbeats 2000000 in
theorem rfnames {D : Nat → Prop} (ao : Option Addr) (cp : Nat) (ls : List CredB) (w : World) (hn : ls.length ≤ 1048576) (h : CredsAt D w ao ls) :
    Calls Tryz.prog 21 #[.slice ao ls.length cp] w fun e w' => SetPost (whosOf ls) w e w' := by
  obtain ⟨i0, hi, hz0, hz1, hz2⟩ := info_parts Tryz.info9
  have HI := hid (And.intro hi (And.intro hz0 (And.intro hz1 hz2)))
  have hsh : ∀ c ∈ ls, credShort c 9223372036854775807 := fun c hc => by
    obtain ⟨i, hi, rfl⟩ := List.getElem_of_mem hc
    obtain ⟨_, _, _, _, _, hs⟩ := h i hi
    exact hs
  have HSH := hid hsh
  have HCR := hid h
  clear hi hz0 hz1 hz2 hsh h
  go_enter Tryz.func21, Tryz.ntmps21
  go_wp2
  go_loopw [3, 8] (fun v i wr => ∃ (k : Nat) (out : List (List UInt8)) (ao' : Option Addr) (cap' : Nat), k ≤ ls.length ∧ i = .int .i64 k ∧ v = .slice ao' out.length cap' ∧ Hid (out = whosOf (ls.take k)) ∧ out.length ≤ 4 * k ∧ OwnS w.heap.size wr (.slice ao' out.length cap') out ∧ Chg (fun _ => False) w wr) (fun _ i _ => ls.length - (intOf i).toNat)
  case atStart => exact ⟨0, [], none, 0, Nat.zero_le _, rfl, rfl, hid rfl, Nat.zero_le _, World.ownsRow_nil _ _ _ _, Chg.refl _ _⟩
  case round =>
    obtain ⟨k, out, ao', cap', hk, rfl, rfl, hout, hol, ho, hc⟩ := hrel
    by_cases hlt : k < ls.length
    · obtain ⟨b, off, hao, _, ⟨c0, c1, c2, c3, c4, c5, c6, c7, c8⟩, _⟩ := (HCR.out.keep hc (fun _ _ => id)) k hlt
      obtain ⟨c, hcc⟩ : ∃ c, c = ls[k] := ⟨_, rfl⟩
      rw [← hcc] at c0 c1 c2 c3 c4 c5 c6 c7 c8
      have HN2 : Hid (out ++ [c.who, c.head.1, c.b.1, c.c.1] = whosOf (ls.take (k + 1))) := hid (by rw [List.take_succ_eq_append_getElem hlt, whosOf_snoc, ← hout.out, hcc])
      have hS : (wr.alloc (.cells #[.int .i64 c.kind, .string ⟨c.head.1.toArray⟩, .string ⟨c.head.2.toArray⟩, .string ⟨c.who.toArray⟩, .string ⟨c.b.1.toArray⟩, .string ⟨c.b.2.toArray⟩, .string ⟨c.c.1.toArray⟩, .string ⟨c.c.2.toArray⟩, .string ⟨c.w2.toArray⟩] 47)).heap[wr.heap.size]? = some (.cells (credBox c) 47 (0, 0)) := heap_alloc_new wr _
      have hal : Chg (fun _ => False) wr (wr.alloc (.cells #[.int .i64 c.kind, .string ⟨c.head.1.toArray⟩, .string ⟨c.head.2.toArray⟩, .string ⟨c.who.toArray⟩, .string ⟨c.b.1.toArray⟩, .string ⟨c.b.2.toArray⟩, .string ⟨c.c.1.toArray⟩, .string ⟨c.c.2.toArray⟩, .string ⟨c.w2.toArray⟩] 47)) := (Chg.refl _ wr).alloc _
      obtain ⟨s0, s1, s2, s3, s4, s5, s6, s7, s8⟩ := cred_at_blk hS
      simp only [Nat.zero_add] at s0 s1 s2 s3 s4 s5 s6 s7 s8
      have HX := hid (And.intro (ho.alloc (.cells #[.int .i64 c.kind, .string ⟨c.head.1.toArray⟩, .string ⟨c.head.2.toArray⟩, .string ⟨c.who.toArray⟩, .string ⟨c.b.1.toArray⟩, .string ⟨c.b.2.toArray⟩, .string ⟨c.c.1.toArray⟩, .string ⟨c.c.2.toArray⟩, .string ⟨c.w2.toArray⟩] 47)) (And.intro (hc.trans hal (fun _ _ h => h)) (hc.size)))
      subst hao
      clear hcc hS hal ho hc hout
      go_wp2_with (at_builtin; refine wpList_append_own_at _ rfl (.tmp 12) (.tmp 24) 36 rfl w.heap.size 9 i0 (.string ⟨#[]⟩) 1 16 Tryz.underlying36 HI.out.1 HI.out.2.1 HI.out.2.2.1 HI.out.2.2.2 rfl (by decide) _ _ _ rfl (World.ownsRow.alloc HX.out.1 _) ⟨wr.heap.size + 1, 0, none⟩ 4 4 (whoCells c) rfl rfl ?c1 ?c2 ?c3 ?c4 ?c5 ?_)
      case c1 =>
        intro j u hj
        have hq := heap_alloc_new (wr.alloc (.cells #[.int .i64 c.kind, .string ⟨c.head.1.toArray⟩, .string ⟨c.head.2.toArray⟩, .string ⟨c.who.toArray⟩, .string ⟨c.b.1.toArray⟩, .string ⟨c.b.2.toArray⟩, .string ⟨c.c.1.toArray⟩, .string ⟨c.c.2.toArray⟩, .string ⟨c.w2.toArray⟩] 47)) (.cells #[.string ⟨c.who.toArray⟩, .string ⟨c.head.1.toArray⟩, .string ⟨c.b.1.toArray⟩, .string ⟨c.c.1.toArray⟩] 9)
        rw [World.size_alloc] at hq
        rw [add_off, cell_blk hq, Nat.zero_add]
        show (whoCells c).toArray[j]? = some u
        rw [List.getElem?_toArray]
        exact hj
      case c2 => intro u hu; simp only [whoCells, List.mem_cons, List.not_mem_nil, or_false] at hu; rcases hu with rfl | rfl | rfl | rfl <;> rfl
      case c3 => unfold maxLen; omega
      case c4 => omega
      case c5 => have := HX.out.2.2; simp; omega
      intro v' w3 hown hgrow _ _
      have ho2 : OwnS w.heap.size w3 v' (out ++ [c.who, c.head.1, c.b.1, c.c.1]) := by
        unfold OwnS
        rw [List.map_append, List.length_append]
        exact hown
      have hc7 : Chg (fun _ => False) w w3 := (HX.out.2.1.alloc _).grown hgrow (fun k e hk => by have := (ownsRow_lt HX.out.1 k e).1; omega)
      have hl : (out ++ [c.who, c.head.1, c.b.1, c.c.1]).length = out.length + 4 := by simp
      obtain ⟨ao5, cap5, hv5⟩ : ∃ ao5 cap5, v' = .slice ao5 (out.length + 4) cap5 := by
        rcases ho2.2 with ⟨_, h0⟩ | ⟨g, cap, cur, hv, _⟩
        · rw [hl] at h0; omega
        · exact ⟨_, _, by rw [hv, hl]⟩
      subst hv5
      have HY := hid (And.intro ho2 hc7)
      clear hown hgrow ho2 hc7 HX hl
      go_wp2
      go_roundw
      case rel => exact ⟨k + 1, _, ao5, cap5, by omega, by go_num, by simp, HN2, by simp; omega, by simpa using HY.out.1, HY.out.2⟩
      case measure => simp [intOf]; omega
    · have hk2 : k = ls.length := by omega
      have hout2 : out = whosOf ls := by have := hout.out; rw [hk2, List.take_length] at this; exact this
      obtain ⟨ao2, cap2, he, hst⟩ := ho.strs (fun x hx => whosOf_short HSH.out x (by rw [← hout2]; exact hx))
      have hset := refset_any ao2 cap2 out wr (by omega) hst (fun i hi => hi.2)
      rw [hout2] at hset
      have HS : Hid (Calls Tryz.prog 36 #[.slice ao' out.length cap'] wr (SetPost (whosOf ls) wr)) := hid (by rw [he, hout2]; exact hset)
      have HC := hid hc
      clear hk2 hout2 he hst hset ho hout hc
      go_wp2_with fail
      refine HS.out.mono ?_
      rintro e w2 ⟨o2, ao3, cap3, rfl, hso, hst, hc2⟩
      have HF := hid (And.intro hso (And.intro hst (And.intro hc2 HC.out.size)))
      clear hso hst hc2
      go_wp2
      go_ret
      exact ⟨o2, ao3, cap3, rfl, HF.out.1, HF.out.2.1.mono (fun i hi => ⟨Nat.le_trans HF.out.2.2.2 hi.1, hi.2⟩), HC.out.trans HF.out.2.2.1 (fun _ _ h => h)⟩
end Go.Proofs.YtanompfdjfgfbaaGreat

/- The contract of the document's Less of layer 4. -/
namespace Go.Proofs.YtanompfdjfgfbaaGreat
open Go.RowKit

theorem less_ref (a b : RoleB) (w : World) :
    Calls Tryz.prog 61 #[roleV a, roleV b] w fun e w' => e = .returned (.bool (ltR a b)) ∧ Chg (fun _ => False) w w' := by
  obtain ⟨o, x⟩ := a
  obtain ⟨p, y⟩ := b
  have hc : Chg (fun _ => False) w ((w.alloc (.cells #[.string ⟨o.toArray⟩, .string ⟨x.toArray⟩] 24)).alloc (.cells #[.string ⟨p.toArray⟩, .string ⟨y.toArray⟩] 24)) := ((Chg.refl _ w).alloc _).alloc _
  have HC := hid hc
  clear hc
  show Calls Tryz.prog 61 #[.agg #[.string ⟨o.toArray⟩, .string ⟨x.toArray⟩], .agg #[.string ⟨p.toArray⟩, .string ⟨y.toArray⟩]] w _
  cases h1 : Op.bytesLess o p with
  | true =>
    have hh : Hid (ltR (o, x) (p, y) = true) := hid (by rw [ltR_def]; simp [ltS, h1])
    go_enter Tryz.func61, Tryz.ntmps61
    go_wp2
    go_ret
    exact ⟨by rw [hh.out]; rfl, HC.out⟩
  | false =>
    by_cases h2 : o = p
    · subst h2
      have e1 : (o == o) = true := by simp
      have hh : Hid (ltR (o, x) (o, y) = Op.bytesLess x y) := hid (by rw [ltR_def]; simp [ltS, h1])
      go_enter Tryz.func61, Tryz.ntmps61
      go_wp2
      go_ret
      exact ⟨by rw [hh.out]; rfl, HC.out⟩
    · have e1 : (o == p) = false := by simpa using h2
      have hh : Hid (ltR (o, x) (p, y) = false) := hid (by rw [ltR_def]; simp [ltS, h1, h2])
      clear h2
      go_enter Tryz.func61, Tryz.ntmps61
      go_wp2
      go_ret
      exact ⟨by rw [hh.out]; rfl, HC.out⟩
end Go.Proofs.YtanompfdjfgfbaaGreat

/- The contract of the document's less, of layer 8; == and != at facts. -/
namespace Go.Proofs.YtanompfdjfgfbaaGreat
open Go.RowKit

theorem run_eqg_fact (x y : Operand) (a b : FactB) (w : World) : Sem.run Tryz.prog (eqGuard BinOp.neq 52 x y (.agg #[.string ⟨a.1.1.toArray⟩, .string ⟨a.1.2.toArray⟩, .string ⟨a.2.toArray⟩]) (.agg #[.string ⟨b.1.1.toArray⟩, .string ⟨b.1.2.toArray⟩, .string ⟨b.2.toArray⟩])) w = .ok () w := by
  go_simp

theorem run_neq_fact (a b : FactB) (w : World) : Sem.run Tryz.prog (binOp BinOp.neq 52 (.agg #[.string ⟨a.1.1.toArray⟩, .string ⟨a.1.2.toArray⟩, .string ⟨a.2.toArray⟩]) (.agg #[.string ⟨b.1.1.toArray⟩, .string ⟨b.1.2.toArray⟩, .string ⟨b.2.toArray⟩])) w = .ok (.bool (!decide (a = b))) w := by
  have : decide (a = b) = decide (a.1.1 = b.1.1 ∧ a.1.2 = b.1.2 ∧ a.2 = b.2) := by simp only [Prod.ext_iff, and_assoc]
  rw [this]
  go_simp
  repeat' split
  all_goals simp_all

theorem ltF_def (a b : FactB) : ltF a b = (ltR a.1 b.1 || (decide (a.1 = b.1) && ltS a.2 b.2)) := by
  unfold ltF lexLt
  congr 1
  congr 1
  cases h : (a.1 == b.1) with
  | true => simp [beq_iff_eq.1 h]
  | false => simp at h; simp [h]

theorem retb7 {a b : Bool} (h : a = b) : Ending.returned (.bool a) = .returned (.bool b) := by rw [h]

attribute [local go_sem ↓ high] run_eqg_role run_eql_role
set_option maxRecDepth 100000 in
set_option maxHeartbeats 2000000 in
theorem rfless (a b : FactB) (w : World) :
    Calls Tryz.prog 43 #[.agg #[.string ⟨a.1.1.toArray⟩, .string ⟨a.1.2.toArray⟩, .string ⟨a.2.toArray⟩], .agg #[.string ⟨b.1.1.toArray⟩, .string ⟨b.1.2.toArray⟩, .string ⟨b.2.toArray⟩]] w fun e w' => e = .returned (.bool (ltF a b)) ∧ Chg (fun _ => False) w w' := by
  have hA := heap_alloc_new w (.cells (factBox a) 52)
  have hB := heap_alloc_new (w.alloc (.cells (factBox a) 52)) (.cells (factBox b) 52)
  rw [World.size_alloc] at hB
  have hA2 := blk_keep hA ((Chg.refl (fun _ => False) _).alloc (.cells (factBox b) 52)) id
  have hc : Chg (fun _ => False) w ((w.alloc (.cells (factBox a) 52)).alloc (.cells (factBox b) 52)) := ((Chg.refl _ w).alloc _).alloc _
  have HH := hid (And.intro hA2 (And.intro hB hc))
  have HL := hid (fun W => less_ref a.1 b.1 W)
  clear hA hB hA2 hc
  go_enter Tryz.func43, Tryz.ntmps43
  go_wp2_with fail
  refine (HL.out _).mono ?_
  rintro e W ⟨rfl, hc1⟩
  obtain ⟨hA, hB, hc⟩ := HH.out
  replace hA := blk_keep hA hc1 id
  replace hB := blk_keep hB hc1 id
  have a0 := cell_blk hA 0
  have a1 := cell_blk hA 1
  have a2 := cell_blk hA 2
  have b0 := cell_blk hB 0
  have b1 := cell_blk hB 1
  have b2 := cell_blk hB 2
  simp only [factBox, List.getElem?_toArray, List.getElem?_cons_zero, List.getElem?_cons_succ] at a0 a1 a2 b0 b1 b2
  have HC := hid (hc.trans hc1 (fun _ _ h => h))
  clear hA hB hc hc1 HH HL
  have HL := hid (ltF_def a b)
  cases hl : ltR a.1 b.1 with
  | true =>
    rw [hl] at HL
    go_wp2
    go_ret
    exact ⟨retb7 (by rw [HL.out]; rfl), HC.out⟩
  | false =>
    rw [hl] at HL
    generalize a.1 = ar at *
    generalize b.1 = br at *
    by_cases hr : ar = br
    · have d1 : decide (ar = br) = true := decide_eq_true hr
      rw [d1] at HL
      clear hr
      go_wp2
      go_ret
      exact ⟨retb7 (by rw [HL.out]; simp [ltS]), HC.out⟩
    · have d1 : decide (ar = br) = false := decide_eq_false hr
      rw [d1] at HL
      clear hr
      go_wp2
      go_ret
      exact ⟨retb7 (by rw [HL.out]; rfl), HC.out⟩
end Go.Proofs.YtanompfdjfgfbaaGreat

/- The contract of the document's Same of layer 8. -/
namespace Go.Proofs.YtanompfdjfgfbaaGreat
open Go.RowKit
attribute [local go_sem ↓ high] run_eqg_fact run_neq_fact

def sameF (a b : List FactB) : Bool := a == b

set_option maxRecDepth 100000 in
set_option maxHeartbeats 2000000 in
theorem rfsame {D1 D2 : Nat → Prop} (a1 a2 : Option Addr) (c1 c2 : Nat) (l1 l2 : List FactB) (w : World) (hn : l1.length ≤ 4611686018427387904) (hm : l2.length ≤ 4611686018427387904) (h1 : FactsAt D1 w a1 l1) (h2 : FactsAt D2 w a2 l2) :
    Calls Tryz.prog 10 #[.slice a1 l1.length c1, .slice a2 l2.length c2] w fun e w' => e = .returned (.bool (sameF l1 l2)) ∧ ∃ n, w' = w.drewN n := by
  by_cases hl : l1.length = l2.length
  · have z1 : ((l1.length : Int) != (l2.length : Int)) = false := by simp; omega
    have HL := hid hl
    have hl1 : l1.length ≤ l2.length := by omega
    have hl2 : l2.length ≤ l1.length := by omega
    clear hl
    go_enter Tryz.func10, Tryz.ntmps10
    go_wp2
    go_loopw [13] (fun i wr => ∃ k n : Nat, k ≤ l1.length ∧ i = .int .i64 k ∧ wr = w.drewN n ∧ Hid (l1.take k = l2.take k)) (fun i _ => l1.length - (intOf i).toNat)
    case atStart => exact ⟨0, 0, Nat.zero_le _, rfl, rfl, by rw [List.take_zero, List.take_zero]; rfl⟩
    case round =>
      obtain ⟨k, n, hk, rfl, rfl, hc⟩ := hrel
      by_cases hlt : k < l1.length
      · obtain ⟨b, off, rfl, _, ⟨p0, p1, p2⟩⟩ := h1 k hlt
        obtain ⟨b2, off2, rfl, _, ⟨q0, q1, q2⟩⟩ := h2 k (by omega)
        clear h1 h2
        have e0 : (0 : Int) ≤ (k : Int) := by omega
        have e1 : (k : Int) < (l1.length : Int) := by omega
        have e2 : (k : Int) < (l2.length : Int) := by omega
        have hx1 : Hid (l1[k] = l2[k]'(by omega) → l1.take (k + 1) = l2.take (k + 1)) := hid (fun he => by rw [List.take_succ_eq_append_getElem hlt, List.take_succ_eq_append_getElem (HL.out ▸ hlt), hc.out, he])
        have hx2 : Hid (l1[k] ≠ l2[k]'(by omega) → sameF l1 l2 = false) := hid (fun he => by
          simp only [sameF, beq_eq_false_iff_ne, ne_eq]
          intro h
          subst h
          exact he rfl)
        generalize l1[k] = s1 at *
        generalize l2[k]'(by omega) = s2 at *
        by_cases e : s1 = s2
        · have hx := hid (hx1.out e)
          have d1 : decide (s1 = s2) = true := decide_eq_true e
          clear hx1 hx2 e
          go_wp2
          go_quiet (fail)
          go_wp2
          go_roundw
          case rel => exact ⟨k + 1, n + nq, by omega, by go_num, rfl, hx⟩
          case measure => simp [intOf]; omega
        · have hx := hid (hx2.out e)
          have d1 : decide (s1 = s2) = false := decide_eq_false e
          clear hx1 hx2 e
          go_wp2
          go_quiet (fail)
          go_wp2
          go_ret
          exact ⟨by rw [hx.out]; rfl, _, drewN_add w n nq⟩
      · have hk2 : k = l1.length := by omega
        have hx : Hid (sameF l1 l2 = true) := hid (by
          have := hc.out
          rw [hk2, List.take_length, HL.out, List.take_length] at this
          simp [sameF, this])
        clear hk2 hc h1 h2
        go_wp2
        go_ret
        exact ⟨by rw [hx.out]; rfl, _, rfl⟩
  · have z1 : ((l1.length : Int) != (l2.length : Int)) = true := by simp; omega
    have hx : Hid (sameF l1 l2 = false) := hid (by
      simp only [sameF, beq_eq_false_iff_ne, ne_eq]
      intro h
      exact hl (by rw [h]))
    clear hl h1 h2
    go_enter Tryz.func10, Tryz.ntmps10
    go_wp2
    go_ret
    exact ⟨by rw [hx.out]; rfl, 0, rfl⟩
end Go.Proofs.YtanompfdjfgfbaaGreat

/- Roles in slots. -/
namespace Go.Proofs.YtanompfdjfgfbaaGreat
open Go.RowKit

/-- A pointer to a role. -/
def Spec.roleP (r : RoleB) : Spec :=
  ⟨fun v w => ∃ b off, v = .pointer (some ⟨b, off, none⟩) ∧ RoleAt w b off r, fun _ _ _ hc ⟨b, off, h1, h2⟩ => ⟨b, off, h1, h2.keep hc id⟩⟩

/-- An operation whose guard was not run. -/
theorem Ob.und {P : Program} {Q : Exit → Act → World → Prop} {R : World → World → Prop} {G : Tmp → Value → World → Prop} {w0 : World} {o : Oper} {t : Tmp} {b : Bool}
    (hb : ∀ v w, G t v w → v = undef) (hrefl : ∀ w, R w w) (hd : ∀ w, R w0 w → Gd G o.dst undef w) : Ob P Q R G w0 (some (t, b)) o := by
  intro a w hR hk K hK
  obtain ⟨v, hv, hg⟩ := hk t (by simp [looks, gTmps])
  have := hb v w hg
  subst this
  have hne : ¬ (says b a.tmps[t]? = true) := by
    rw [hv]
    simp [says, undef]
  simp only [if_neg hne]
  exact hK _ _ (hrefl w) (hd w hR)

theorem name_len' {s : List UInt8} (hn : isName s = true) : 0 < s.length ∧ s.length ≤ 16 := isName_len hn
end Go.Proofs.YtanompfdjfgfbaaGreat
