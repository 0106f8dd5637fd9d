/- Texts that the proof leans on, in one: RefFStep, DrewN, RefSameS, OwnS, RefSet, RefKFacts, RefRoleLess. -/
import Derived.Test.YtmmkopdcbiiedaaKb10
import Derived.Test.YtmmkopdcbiiedaaKb1
import Derived.Test.YtmmkopdcbiiedaaKb5
import Derived.Deep.QuietTactic
import Derived.BigQuiet
import Derived.Test.YtmmkopdcbiiedaaKb4
import Derived.Test.YtmmkopdcbiiedaaProg
import Derived.Test.YtmmkopdcbiiedaaChecked
import Derived.Maps.AppendAt
import Derived.Test.YtmmkopdcbiiedaaKb9
/- The contract of the document's Step, of layer 8. -/
namespace Go.Proofs.Ytmmkopdcbiiedaa
open Go.RowKit

/-- Whether one by the names so far brings s. -/
def linkF (xs : List FactB) (c : CredB) (names : List (List UInt8)) (s : List UInt8) : Bool := names.any (fun b => inF xs c.b b && inF xs (b, c.w2) s)

theorem linkF_take {xs : List FactB} {c : CredB} {names : List (List UInt8)} {s : List UInt8} {k : Nat} (h : k < names.length) (h0 : linkF xs c (names.take k) s = false) (h1 : (inF xs c.b names[k] && inF xs (names[k], c.w2) s) = false) : linkF xs c (names.take (k + 1)) s = false := by
  rw [List.take_succ_eq_append_getElem h]
  unfold linkF at *
  rw [List.any_append, h0]
  simpa using h1
theorem linkF_at {xs : List FactB} {c : CredB} {names : List (List UInt8)} {s : List UInt8} {k : Nat} (h : k < names.length) (h1 : (inF xs c.b names[k] && inF xs (names[k], c.w2) s) = true) : linkF xs c names s = true := by
  unfold linkF
  rw [List.any_eq_true]
  exact ⟨_, List.getElem_mem h, h1⟩

set_option maxRecDepth 100000 in
set_option maxHeartbeats 4000000 in
theorem rfstep {D E : Nat → Prop} (ao no : Option Addr) (cp np : Nat) (xs : List FactB) (c : CredB) (names : List (List UInt8)) (s : List UInt8) (w : World) (hn : xs.length ≤ 4611686018427387904) (hm : names.length ≤ 4611686018427387904) (h : FactsAt D w ao xs) (hs : StrsAt E w no names) :
    Calls Try.prog 33 #[.slice ao xs.length cp, credV c, .slice no names.length np, .string ⟨s.toArray⟩] w fun e w' => e = .returned (.bool (stepF xs c names s)) ∧ Chg (fun _ => False) w w' := by
  have hA := heap_alloc_new w (.cells (credBox c) 32)
  have hc1 : Chg (fun _ => False) w (w.alloc (.cells (credBox c) 32)) := (Chg.refl _ w).alloc _
  have HIN : Hid (∀ (W : World) (r : RoleB) (x : List UInt8), Chg (fun _ => False) w W → Calls Try.prog 38 #[.slice ao xs.length cp, .agg #[.string ⟨r.1.toArray⟩, .string ⟨r.2.toArray⟩], .string ⟨x.toArray⟩] W fun e w' => e = .returned (.bool (inF xs r x)) ∧ Chg (fun _ => False) W w') := hid (fun W r x hW => rfin ao cp xs r x W hn (h.keep hW (fun _ _ => id)))
  have HA := hid hA
  have HC : Hid (Chg (fun _ => False) w (w.alloc (.cells #[.int .i64 c.kind, .string ⟨c.head.1.toArray⟩, .string ⟨c.head.2.toArray⟩, .string ⟨c.who.toArray⟩, .string ⟨c.b.1.toArray⟩, .string ⟨c.b.2.toArray⟩, .string ⟨c.c.1.toArray⟩, .string ⟨c.c.2.toArray⟩, .string ⟨c.w2.toArray⟩] 32))) := hid hc1
  have HNS := hid hs
  clear hA hc1 h hs
  unfold credV credBox
  by_cases k1 : c.kind = 1
  · have z1 : (c.kind == 1) = true := by rw [k1]; rfl
    have HST : Hid (stepF xs c names s = (c.who == s)) := hid (by unfold stepF; rw [if_pos k1])
    clear k1
    go_enter Try.func33, Try.ntmps33
    go_wp2
    go_ret
    exact ⟨by rw [HST.out]; rfl, HC.out⟩
  · have z1 : (c.kind == 1) = false := by simpa using k1
    by_cases k2 : c.kind = 2
    · have z2 : (c.kind == 2) = true := by rw [k2]; rfl
      have HST : Hid (stepF xs c names s = inF xs c.b s) := hid (by unfold stepF; rw [if_neg k1, if_pos k2])
      clear k1 k2
      go_enter Try.func33, Try.ntmps33
      go_wp2_with fail
      refine (HIN.out _ c.b s HC.out).mono ?_
      rintro e w2 ⟨rfl, hc2⟩
      have HC2 := hid (HC.out.trans hc2 (fun _ _ h => h))
      clear hc2
      go_wp2
      go_ret
      exact ⟨by rw [HST.out]; rfl, HC2.out⟩
    · have z2 : (c.kind == 2) = false := by simpa using k2
      by_cases k4 : c.kind = 4
      · have z4 : (c.kind == 4) = true := by rw [k4]; rfl
        have HST : Hid (stepF xs c names s = (inF xs c.b s && inF xs c.c s)) := hid (by unfold stepF; rw [if_neg k1, if_neg k2, if_pos k4])
        clear k1 k2 k4
        go_enter Try.func33, Try.ntmps33
        go_wp2_with fail
        refine (HIN.out _ c.b s HC.out).mono ?_
        rintro e w2 ⟨rfl, hc2⟩
        have HC2 := hid (HC.out.trans hc2 (fun _ _ h => h))
        have hb2 := cred_at_blk (blk_keep HA.out hc2 id)
        obtain ⟨y0, y1, y2, y3, y4, y5, y6, y7, y8⟩ := hb2
        simp only [Nat.zero_add] at y0 y1 y2 y3 y4 y5 y6 y7 y8
        clear hc2
        cases hb : inF xs c.b s with
        | false =>
          have HB := hid hb
          clear hb
          go_wp2
          go_ret
          exact ⟨by rw [HST.out, HB.out]; rfl, HC2.out⟩
        | true =>
          have HB := hid hb
          clear hb
          go_wp2_with fail
          refine (HIN.out _ c.c s HC2.out).mono ?_
          rintro e w3 ⟨rfl, hc3⟩
          have HC3 := hid (HC2.out.trans hc3 (fun _ _ h => h))
          clear hc3
          go_wp2
          go_ret
          exact ⟨by rw [HST.out, HB.out]; rfl, HC3.out⟩
      · have z4 : (c.kind == 4) = false := by simpa using k4
        have HST : Hid (stepF xs c names s = linkF xs c names s) := hid (by unfold stepF linkF; rw [if_neg k1, if_neg k2, if_neg k4])
        clear k1 k2 k4
        go_enter Try.func33, Try.ntmps33
        go_wp2
        have HA1 : Hid ((w.alloc (.cells #[.int .i64 c.kind, .string ⟨c.head.1.toArray⟩, .string ⟨c.head.2.toArray⟩, .string ⟨c.who.toArray⟩, .string ⟨c.b.1.toArray⟩, .string ⟨c.b.2.toArray⟩, .string ⟨c.c.1.toArray⟩, .string ⟨c.c.2.toArray⟩, .string ⟨c.w2.toArray⟩] 32)).heap[w.heap.size]? = some (.cells (credBox c) 32 (0, 0))) := HA
        clear HA
        generalize (w.alloc (.cells #[.int .i64 c.kind, .string ⟨c.head.1.toArray⟩, .string ⟨c.head.2.toArray⟩, .string ⟨c.who.toArray⟩, .string ⟨c.b.1.toArray⟩, .string ⟨c.b.2.toArray⟩, .string ⟨c.c.1.toArray⟩, .string ⟨c.c.2.toArray⟩, .string ⟨c.w2.toArray⟩] 32)) = w1 at *
        generalize w.heap.size = A at *
        go_loopw [43] (fun i wr => ∃ k : Nat, k ≤ names.length ∧ i = .int .i64 k ∧ Hid (linkF xs c (names.take k) s = false) ∧ Chg (fun _ => False) w1 wr) (fun i _ => names.length - (intOf i).toNat)
        case atStart => exact ⟨0, Nat.zero_le _, rfl, hid rfl, Chg.refl _ _⟩
        case round =>
          obtain ⟨k, hk, rfl, hf, hc2⟩ := hrel
          have hcw := HC.out.trans hc2 (fun _ _ h => h)
          have hb2 := cred_at_blk (blk_keep HA1.out hc2 id)
          obtain ⟨y0, y1, y2, y3, y4, y5, y6, y7, y8⟩ := hb2
          simp only [Nat.zero_add] at y0 y1 y2 y3 y4 y5 y6 y7 y8
          by_cases hlt : k < names.length
          · obtain ⟨b, off, hno, _, c0, _⟩ := (HNS.out.keep hcw (fun _ _ => id)) k hlt
            have HY : Hid (((inF xs c.b names[k] && inF xs (names[k], c.w2) s) = true → linkF xs c names s = true) ∧ ((inF xs c.b names[k] && inF xs (names[k], c.w2) s) = false → linkF xs c (names.take (k + 1)) s = false)) := hid ⟨linkF_at hlt, linkF_take hlt hf.out⟩
            generalize names[k] = q at *
            have HCW := hid hcw
            have HC2 := hid hc2
            subst hno
            clear hf hcw hc2
            go_wp2_with fail
            refine (HIN.out _ c.b q HCW.out).mono ?_
            rintro e w3 ⟨rfl, hc3⟩
            have HCW3 := hid (HCW.out.trans hc3 (fun _ _ h => h))
            have HC3 := hid (HC2.out.trans hc3 (fun _ _ h => h))
            clear hc3 y0 y1 y2 y3 y4 y5 y6 y7 y8 c0
            have hb3 := cred_at_blk (blk_keep HA1.out HC3.out id)
            obtain ⟨y0, y1, y2, y3, y4, y5, y6, y7, y8⟩ := hb3
            simp only [Nat.zero_add] at y0 y1 y2 y3 y4 y5 y6 y7 y8
            cases hb : inF xs c.b q with
            | false =>
              have HE := hid (HY.out.2 (by rw [hb]; rfl))
              clear hb
              go_wp2
              go_roundw
              case rel => exact ⟨k + 1, by omega, by go_num, HE, HC3.out⟩
              case measure => simp [intOf]; omega
            | true =>
              have HB := hid hb
              clear hb
              go_wp2_with fail
              refine (HIN.out _ (q, c.w2) s HCW3.out).mono ?_
              rintro e w4 ⟨rfl, hc4⟩
              have HCW4 := hid (HCW3.out.trans hc4 (fun _ _ h => h))
              have HC4 := hid (HC3.out.trans hc4 (fun _ _ h => h))
              clear hc4
              cases hb2 : inF xs (q, c.w2) s with
              | false =>
                have HE := hid (HY.out.2 (by rw [HB.out, hb2]; rfl))
                clear hb2
                go_wp2
                go_roundw
                case rel => exact ⟨k + 1, by omega, by go_num, HE, HC4.out⟩
                case measure => simp [intOf]; omega
              | true =>
                have HE := hid (HY.out.1 (by rw [HB.out, hb2]; rfl))
                clear hb2
                go_wp2
                go_ret
                exact ⟨by rw [HST.out, HE.out]; rfl, HCW4.out⟩
          · have hk2 : k = names.length := by omega
            have HE : Hid (linkF xs c names s = false) := hid (by have := hf.out; rwa [hk2, List.take_length] at this)
            have HCW := hid hcw
            clear hk2 hf hcw hc2
            go_wp2
            go_ret
            exact ⟨by rw [HST.out, HE.out]; rfl, HCW.out⟩
end Go.Proofs.Ytmmkopdcbiiedaa

/- Draws add up. -/
namespace Go.Proofs.Ytmmkopdcbiiedaa
open Go.RowKit

end Go.Proofs.Ytmmkopdcbiiedaa

/- The contract of the document's Same, of lists of texts. -/
namespace Go.Proofs.Ytmmkopdcbiiedaa
open Go.RowKit

end Go.Proofs.Ytmmkopdcbiiedaa

/- Lists of texts of the call's own. -/
namespace Go.Proofs.Ytmmkopdcbiiedaa
open Go.RowKit

def strV (l : List UInt8) : Value := .string ⟨l.toArray⟩
theorem Try.info9 : (Try.prog.info? 9).map (fun i => (i.zero, i.size, i.bytes)) = some (some (.string ⟨#[]⟩), 1, 16) := by kernel_rfl

/-- A list of texts of the call's own. -/
def OwnS (B : Nat) (w : World) (v : Value) (ls : List (List UInt8)) : Prop := w.ownsRow B 9 1 v ls.length (ls.map strV)

theorem OwnS.strs {B : Nat} {w : World} {v : Value} {ls : List (List UInt8)} (h : OwnS B w v ls) (hb : ∀ x ∈ ls, x.length ≤ 9223372036854775807) : ∃ ao cap, v = .slice ao ls.length cap ∧ StrsAt (fun k => B ≤ k ∧ k < w.heap.size) w ao ls := by
  rcases h.2 with ⟨rfl, h0⟩ | ⟨g, cap, cur, rfl, hg, hh, h1, h2, h3, h4⟩
  · have : ls = [] := List.eq_nil_of_length_eq_zero h0
    subst this
    exact ⟨none, 0, rfl, StrsAt.nil _ _ _⟩
  · refine ⟨_, _, rfl, fun i hi => ⟨g, 0, rfl, ⟨hg, lt_blk hh⟩, ?_, hb _ (List.getElem_mem hi)⟩⟩
    have hcell := h.cells (g := g) rfl i (strV ls[i]) (by simp [hi])
    rw [add_off] at hcell
    exact hcell

def lenOf : Value → Nat
  | .slice _ n _ => n
  | _ => 0
end Go.Proofs.Ytmmkopdcbiiedaa

/- The contract of the document's Set. -/
namespace Go.Proofs.Ytmmkopdcbiiedaa
open Go.RowKit

end Go.Proofs.Ytmmkopdcbiiedaa

/- The contracts of the document's Facts, and names, of layer 9. -/
namespace Go.Proofs.Ytmmkopdcbiiedaa
open Go.RowKit

set_option maxRecDepth 100000 in
set_option maxHeartbeats 2000000 in
theorem rkfacts {D : Nat → Prop} (ao : Option Addr) (cp : Nat) (ls : List StepB) (w : World) (hn : ls.length ≤ 1048576) (h : StepsAt D w ao ls) :
    Calls Try.prog 10 #[.slice ao ls.length cp] w fun e w' => ∃ ao' cap', e = .returned (.slice ao' (factsK ls).length cap') ∧ OwnF w.heap.size w' (.slice ao' (factsK ls).length cap') (factsK ls) ∧ Chg (fun _ => False) w w' := by
  obtain ⟨i0, hi, hz0, hz1, hz2⟩ := info_parts Try.info27
  have HI := hid (And.intro hi (And.intro hz0 (And.intro hz1 hz2)))
  have HX := hid h
  clear hi hz0 hz1 hz2 h
  go_enter Try.func10, Try.ntmps10
  go_wp2
  go_loopw [3, 8] (fun v i wr => ∃ (k : Nat) (out : List FactB) (ao' : Option Addr) (cap' : Nat), k ≤ ls.length ∧ i = .int .i64 k ∧ v = .slice ao' out.length cap' ∧ Hid (out = factsK (ls.take k)) ∧ out.length ≤ k ∧ OwnF w.heap.size wr (.slice ao' out.length cap') out ∧ Chg (fun _ => False) w wr) (fun _ i _ => ls.length - (intOf i).toNat)
  case atStart => exact ⟨0, [], none, 0, Nat.zero_le _, rfl, rfl, hid rfl, Nat.zero_le _, World.ownsRow_nil _ _ _ _, Chg.refl _ _⟩
  case round =>
    obtain ⟨k, out, ao', cap', hk, rfl, rfl, hout, hol, ho, hc1⟩ := hrel
    by_cases hlt : k < ls.length
    · obtain ⟨b, off, hao, _, ⟨⟨a0, a1, a2, a3, a4, a5, a6, a7, a8⟩, ⟨b0, b1, b2⟩⟩, _⟩ := (HX.out.keep hc1 (fun _ _ => id)) k hlt
      have HT : Hid (out ++ [ls[k].f] = factsK (ls.take (k + 1))) := hid (by rw [List.take_succ_eq_append_getElem hlt, factsK_snoc, hout.out])
      have HKL := hid hlt
      generalize ls[k] = s at *
      change wr.cell? ⟨b, off + k * 12 + 10, none⟩ = _ at b1
      change wr.cell? ⟨b, off + k * 12 + 11, none⟩ = _ at b2
      have hSb : (wr.alloc (.cells #[.int .i64 s.c.kind, .string ⟨s.c.head.1.toArray⟩, .string ⟨s.c.head.2.toArray⟩, .string ⟨s.c.who.toArray⟩, .string ⟨s.c.b.1.toArray⟩, .string ⟨s.c.b.2.toArray⟩, .string ⟨s.c.c.1.toArray⟩, .string ⟨s.c.c.2.toArray⟩, .string ⟨s.c.w2.toArray⟩, .string ⟨s.f.1.1.toArray⟩, .string ⟨s.f.1.2.toArray⟩, .string ⟨s.f.2.toArray⟩] 34)).heap[wr.heap.size]? = some (.cells (stepBox s) 34 (0, 0)) := heap_alloc_new wr _
      have hcA : Chg (fun _ => False) wr (wr.alloc (.cells #[.int .i64 s.c.kind, .string ⟨s.c.head.1.toArray⟩, .string ⟨s.c.head.2.toArray⟩, .string ⟨s.c.who.toArray⟩, .string ⟨s.c.b.1.toArray⟩, .string ⟨s.c.b.2.toArray⟩, .string ⟨s.c.c.1.toArray⟩, .string ⟨s.c.c.2.toArray⟩, .string ⟨s.c.w2.toArray⟩, .string ⟨s.f.1.1.toArray⟩, .string ⟨s.f.1.2.toArray⟩, .string ⟨s.f.2.toArray⟩] 34)) := (Chg.refl _ wr).alloc _
      have r9 := cell_blk hSb 9
      have r10 := cell_blk hSb 10
      have r11 := cell_blk hSb 11
      simp only [stepBox, List.getElem?_toArray, List.getElem?_cons_zero, List.getElem?_cons_succ] at r9 r10 r11
      have HO := hid (And.intro (World.ownsRow.alloc ho (.cells #[.int .i64 s.c.kind, .string ⟨s.c.head.1.toArray⟩, .string ⟨s.c.head.2.toArray⟩, .string ⟨s.c.who.toArray⟩, .string ⟨s.c.b.1.toArray⟩, .string ⟨s.c.b.2.toArray⟩, .string ⟨s.c.c.1.toArray⟩, .string ⟨s.c.c.2.toArray⟩, .string ⟨s.c.w2.toArray⟩, .string ⟨s.f.1.1.toArray⟩, .string ⟨s.f.1.2.toArray⟩, .string ⟨s.f.2.toArray⟩] 34)) (And.intro (hc1.trans hcA (fun _ _ h => h)) hc1.size))
      subst hao
      clear hSb hcA ho hc1 hout
      go_wp2_with (at_builtin; refine wpList_append_own_at _ rfl (.tmp 12) (.tmp 15) 35 rfl w.heap.size 27 i0 (.agg #[.string ⟨#[]⟩, .string ⟨#[]⟩, .string ⟨#[]⟩]) 3 48 Try.underlying35 HI.out.1 HI.out.2.1 HI.out.2.2.1 HI.out.2.2.2 rfl (by decide) _ _ _ rfl (World.ownsRow.alloc HO.out.1 _) ⟨wr.heap.size + 1, 0, none⟩ 1 1 (factCells s.f) rfl rfl ?c1 ?c2 ?c3 ?c4 ?c5 ?_)
      case c1 =>
        intro j u hj
        have hq := fact_cells_new (wr.alloc (.cells #[.int .i64 s.c.kind, .string ⟨s.c.head.1.toArray⟩, .string ⟨s.c.head.2.toArray⟩, .string ⟨s.c.who.toArray⟩, .string ⟨s.c.b.1.toArray⟩, .string ⟨s.c.b.2.toArray⟩, .string ⟨s.c.c.1.toArray⟩, .string ⟨s.c.c.2.toArray⟩, .string ⟨s.c.w2.toArray⟩, .string ⟨s.f.1.1.toArray⟩, .string ⟨s.f.1.2.toArray⟩, .string ⟨s.f.2.toArray⟩] 34)) s.f j u hj
        rw [World.size_alloc] at hq
        exact hq
      case c2 => exact fact_one s.f
      case c3 => unfold maxLen; omega
      case c4 => omega
      case c5 => have := HO.out.2.2; simp; omega
      clear a0 a1 a2 a3 a4 a5 a6 a7 a8 b0 b1 b2 r9 r10 r11
      intro v' w3 hown hgrow _ _
      have ho2 : OwnF w.heap.size w3 v' (out ++ [s.f]) := by
        unfold OwnF
        rw [factRow_snoc, List.length_append]
        exact hown
      have hc7 : Chg (fun _ => False) w w3 := (HO.out.2.1.alloc _).grown hgrow (fun k e hk => by have := (ownsRow_lt HO.out.1 k e).1; omega)
      have hl : (out ++ [s.f]).length = out.length + 1 := by simp
      obtain ⟨zs, HZ⟩ : ∃ zs, Hid (zs = out ++ [s.f]) := ⟨_, hid rfl⟩
      rw [← HZ.out] at ho2 hl HT
      obtain ⟨ao5, cap5, hv5⟩ := ho2.shape
      subst hv5
      have HY := hid (And.intro ho2 hc7)
      clear hown hgrow ho2 hc7 HO HZ
      go_wp2
      go_roundw
      case rel => exact ⟨k + 1, zs, ao5, cap5, by have := HKL.out; omega, by go_num, rfl, HT, by omega, HY.out.1, HY.out.2⟩
      case measure => have := HKL.out; simp [intOf]; omega
    · have hk2 : k = ls.length := by omega
      have hh : Hid (out = factsK ls) := hid (by have := hout.out; rwa [hk2, List.take_length] at this)
      have HC := hid hc1
      have HO := hid ho
      clear hc1 hk2 hout ho
      go_wp2
      go_ret
      rw [← hh.out]
      exact ⟨ao', cap', rfl, HO.out, HC.out⟩

/-- Who is told by facts. -/
def whosF (ls : List FactB) : List (List UInt8) := ls.map (·.2)
theorem whosF_snoc (ls : List FactB) (x : FactB) : whosF (ls ++ [x]) = whosF ls ++ [x.2] := by simp [whosF]
theorem whosF_len (ls : List FactB) : (whosF ls).length = ls.length := by simp [whosF]

set_option maxRecDepth 100000 in
set_option maxHeartbeats 2000000 in
theorem rknames {D : Nat → Prop} (ao : Option Addr) (cp : Nat) (ls : List FactB) (w : World) (hn : ls.length ≤ 1048576) (h : FactsAt D w ao ls) :
    Calls Try.prog 34 #[.slice ao ls.length cp] w fun e w' => ∃ ao' cap', e = .returned (.slice ao' (whosF ls).length cap') ∧ OwnS w.heap.size w' (.slice ao' (whosF ls).length cap') (whosF ls) ∧ Chg (fun _ => False) w w' := by
  obtain ⟨i0, hi, hz0, hz1, hz2⟩ := info_parts Try.info9
  have HI := hid (And.intro hi (And.intro hz0 (And.intro hz1 hz2)))
  have HX := hid h
  clear hi hz0 hz1 hz2 h
  go_enter Try.func34, Try.ntmps34
  go_wp2
  go_loopw [3, 8] (fun v i wr => ∃ (k : Nat) (out : List (List UInt8)) (ao' : Option Addr) (cap' : Nat), k ≤ ls.length ∧ i = .int .i64 k ∧ v = .slice ao' out.length cap' ∧ Hid (out = whosF (ls.take k)) ∧ out.length ≤ k ∧ OwnS w.heap.size wr (.slice ao' out.length cap') out ∧ Chg (fun _ => False) w wr) (fun _ i _ => ls.length - (intOf i).toNat)
  case atStart => exact ⟨0, [], none, 0, Nat.zero_le _, rfl, rfl, hid rfl, Nat.zero_le _, World.ownsRow_nil _ _ _ _, Chg.refl _ _⟩
  case round =>
    obtain ⟨k, out, ao', cap', hk, rfl, rfl, hout, hol, ho, hc1⟩ := hrel
    by_cases hlt : k < ls.length
    · obtain ⟨b, off, hao, _, ⟨a0, a1, a2⟩⟩ := (HX.out.keep hc1 (fun _ _ => id)) k hlt
      have HT : Hid (out ++ [ls[k].2] = whosF (ls.take (k + 1))) := hid (by rw [List.take_succ_eq_append_getElem hlt, whosF_snoc, hout.out])
      have HKL := hid hlt
      generalize ls[k] = f at *
      have hSb : (wr.alloc (.cells #[.string ⟨f.1.1.toArray⟩, .string ⟨f.1.2.toArray⟩, .string ⟨f.2.toArray⟩] 27)).heap[wr.heap.size]? = some (.cells (factBox f) 27 (0, 0)) := heap_alloc_new wr _
      have hcA : Chg (fun _ => False) wr (wr.alloc (.cells #[.string ⟨f.1.1.toArray⟩, .string ⟨f.1.2.toArray⟩, .string ⟨f.2.toArray⟩] 27)) := (Chg.refl _ wr).alloc _
      obtain ⟨r0, r1, r2⟩ := fact_at_blk hSb
      simp only [Nat.zero_add] at r0 r1 r2
      have HO := hid (And.intro (World.ownsRow.alloc ho (.cells #[.string ⟨f.1.1.toArray⟩, .string ⟨f.1.2.toArray⟩, .string ⟨f.2.toArray⟩] 27)) (And.intro (hc1.trans hcA (fun _ _ h => h)) hc1.size))
      subst hao
      clear hSb hcA ho hc1 hout
      go_wp2_with (at_builtin; refine wpList_append_own_at _ rfl (.tmp 12) (.tmp 15) 73 rfl w.heap.size 9 i0 (.string ⟨#[]⟩) 1 16 Try.underlying73 HI.out.1 HI.out.2.1 HI.out.2.2.1 HI.out.2.2.2 rfl (by decide) _ _ _ rfl (World.ownsRow.alloc HO.out.1 _) ⟨wr.heap.size + 1, 0, none⟩ 1 1 [.string ⟨f.2.toArray⟩] rfl rfl ?c1 ?c2 ?c3 ?c4 ?c5 ?_)
      case c1 =>
        intro j u hj
        have hq := heap_alloc_new (wr.alloc (.cells #[.string ⟨f.1.1.toArray⟩, .string ⟨f.1.2.toArray⟩, .string ⟨f.2.toArray⟩] 27)) (.cells #[.string ⟨f.2.toArray⟩] 9)
        rw [World.size_alloc] at hq
        rw [add_off, cell_blk hq, Nat.zero_add]
        show ([.string ⟨f.2.toArray⟩]).toArray[j]? = some u
        rw [List.getElem?_toArray]
        exact hj
      case c2 => intro u hu; simp only [List.mem_cons, List.not_mem_nil, or_false] at hu; rcases hu with rfl; rfl
      case c3 => unfold maxLen; omega
      case c4 => omega
      case c5 => have := HO.out.2.2; simp; omega
      clear a0 a1 a2 r0 r1 r2
      intro v' w3 hown hgrow _ _
      have ho2 : OwnS w.heap.size w3 v' (out ++ [f.2]) := by
        unfold OwnS
        rw [List.map_append, List.length_append]
        exact hown
      have hc7 : Chg (fun _ => False) w w3 := (HO.out.2.1.alloc _).grown hgrow (fun k e hk => by have := (ownsRow_lt HO.out.1 k e).1; omega)
      have hl : (out ++ [f.2]).length = out.length + 1 := by simp
      obtain ⟨zs, HZ⟩ : ∃ zs, Hid (zs = out ++ [f.2]) := ⟨_, hid rfl⟩
      rw [← HZ.out] at ho2 hl HT
      obtain ⟨ao5, cap5, hv5⟩ : ∃ ao5 cap5, v' = .slice ao5 zs.length cap5 := by
        rcases ho2.2 with ⟨_, h0⟩ | ⟨g, cap, cur, hv, _⟩
        · omega
        · exact ⟨_, _, hv⟩
      subst hv5
      have HY := hid (And.intro ho2 hc7)
      clear hown hgrow ho2 hc7 HO HZ
      go_wp2
      go_roundw
      case rel => exact ⟨k + 1, zs, ao5, cap5, by have := HKL.out; omega, by go_num, rfl, HT, by omega, HY.out.1, HY.out.2⟩
      case measure => have := HKL.out; simp [intOf]; omega
    · have hk2 : k = ls.length := by omega
      have hh : Hid (out = whosF ls) := hid (by have := hout.out; rwa [hk2, List.take_length] at this)
      have HC := hid hc1
      have HO := hid ho
      clear hc1 hk2 hout ho
      go_wp2
      go_ret
      rw [← hh.out]
      exact ⟨ao', cap', rfl, HO.out, HC.out⟩
end Go.Proofs.Ytmmkopdcbiiedaa

/- The contract of the document's Less of layer 4. -/
namespace Go.Proofs.Ytmmkopdcbiiedaa
open Go.RowKit

theorem less_ref (a b : RoleB) (w : World) :
    Calls Try.prog 62 #[roleV a, roleV b] w fun e w' => e = .returned (.bool (ltR a b)) ∧ Chg (fun _ => False) w w' := by
  obtain ⟨o, x⟩ := a
  obtain ⟨p, y⟩ := b
  have hc : Chg (fun _ => False) w ((w.alloc (.cells #[.string ⟨o.toArray⟩, .string ⟨x.toArray⟩] 25)).alloc (.cells #[.string ⟨p.toArray⟩, .string ⟨y.toArray⟩] 25)) := ((Chg.refl _ w).alloc _).alloc _
  have HC := hid hc
  clear hc
  show Calls Try.prog 62 #[.agg #[.string ⟨o.toArray⟩, .string ⟨x.toArray⟩], .agg #[.string ⟨p.toArray⟩, .string ⟨y.toArray⟩]] w _
  cases h1 : Op.bytesLess o p with
  | true =>
    have hh : Hid (ltR (o, x) (p, y) = true) := hid (by rw [ltR_def]; simp [ltS, h1])
    go_enter Try.func62, Try.ntmps62
    go_wp2
    go_ret
    exact ⟨by rw [hh.out]; rfl, HC.out⟩
  | false =>
    by_cases h2 : o = p
    · subst h2
      have e1 : (o == o) = true := by simp
      have hh : Hid (ltR (o, x) (o, y) = Op.bytesLess x y) := hid (by rw [ltR_def]; simp [ltS, h1])
      go_enter Try.func62, Try.ntmps62
      go_wp2
      go_ret
      exact ⟨by rw [hh.out]; rfl, HC.out⟩
    · have e1 : (o == p) = false := by simpa using h2
      have hh : Hid (ltR (o, x) (p, y) = false) := hid (by rw [ltR_def]; simp [ltS, h1, h2])
      clear h2
      go_enter Try.func62, Try.ntmps62
      go_wp2
      go_ret
      exact ⟨by rw [hh.out]; rfl, HC.out⟩
end Go.Proofs.Ytmmkopdcbiiedaa
