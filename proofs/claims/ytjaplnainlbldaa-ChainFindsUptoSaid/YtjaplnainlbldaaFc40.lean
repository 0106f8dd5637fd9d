/- Texts that the proof leans on, in one: ModelOfM, RefFOf, KwHas, KwAdd, SeqC, KwWay, KwWaysM, KwWaysA, KwWaysB, KwFollows, KwKK, KwFol, KwSetOf, KwCheck, RefFMembers, RefFRoles, RoleSame, ModelK, ChFew. -/
import Derived.Test.YtjaplnainlbldaaFc5
import Derived.Test.YtjaplnainlbldaaFc1
import Derived.Test.YtjaplnainlbldaaFc6
import Derived.Test.YtjaplnainlbldaaFc37
import Derived.Test.YtjaplnainlbldaaFc39
import Derived.Test.YtjaplnainlbldaaFc34
import Derived.Test.YtjaplnainlbldaaFc12
import Derived.Test.YtjaplnainlbldaaFc13
import Derived.RangeFuncNested
import Derived.RangeFuncBound
import Derived.RangeFuncCalls
import Derived.RangeFuncLeaves
import Derived.Shelf.Abstract
import Derived.Shelf.RegionOpen
import Derived.WalkKit
import Derived.OwnWalkIn
import Derived.TacticsInMore
import Derived.LoopNIn
import Derived.LoopIn
import Derived.Test.YtjaplnainlbldaaFc10
import Derived.Test.YtjaplnainlbldaaFc25
import Derived.Test.YtjaplnainlbldaaFc19
import Derived.Deep.Cut
import Derived.Test.YtjaplnainlbldaaFc36
import Derived.Deep.QuietTactic
import Derived.BigQuiet
import Derived.Test.YtjaplnainlbldaaFc35
import Derived.Test.YtjaplnainlbldaaFc33
/- The document's way to the least model, round by round: plain words, nothing of the program's text. -/
namespace Go.Proofs.Ytjaplnainlbldaa
open Go.RowKit

theorem PartM.len {cs : List CredB} {ns : List (List UInt8)} {xs : List FactB} (hns : SetOf (whosOf cs) ns) (h : PartM cs xs) : xs.length ≤ cs.length * ns.length := by
 have := facts_le (rs := cs.map (·.head)) (ns := ns) h.1 (fun f hf => by
  have hd := h.2 f hf
  refine ⟨?_, ?_⟩
  ·obtain ⟨c, hc, _, e⟩ := hd.head
   exact List.mem_map.2 ⟨c, hc, e⟩
  ·obtain ⟨c, hc, hr, hk, e⟩ := hd.who
   rw [← e]
   exact (hns.2 _).2 ⟨whosOf_who hc, isCred_member hr hk⟩)
 rwa [List.length_map] at this

/-- Nothing comes of the credential c for n. -/
def okF (xs : List FactB) (c : CredB) (ns : List (List UInt8)) (n : List UInt8) : Prop := inF xs c.head n = true ∨ stepF xs c ns n = false

/-- Within a round that began with xs, behind k credentials. -/
def RoundM (cs : List CredB) (ns : List (List UInt8)) (xs : List FactB) (k : Nat) (came : Bool) (ys : List FactB) : Prop :=
 PartM cs ys ∧ (came = true → xs.length < ys.length) ∧ (came = false → ys = xs ∧ ∀ c ∈ cs.take k, ∀ n ∈ ns, okF xs c ns n)
def InnerM (cs : List CredB) (ns : List (List UInt8)) (xs : List FactB) (k : Nat) (c : CredB) (j : Nat) (came : Bool) (ys : List FactB) : Prop :=
 RoundM cs ns xs k came ys ∧ (came = false → ∀ n ∈ ns.take j, okF xs c ns n)

theorem RoundM.start {cs : List CredB} {ns : List (List UInt8)} {xs : List FactB} (h : PartM cs xs) : RoundM cs ns xs 0 false xs :=
 ⟨h, (fun e => by cases e), fun _ => ⟨rfl, fun c hc => by simp at hc⟩⟩
theorem RoundM.inner {cs : List CredB} {ns : List (List UInt8)} {xs ys : List FactB} {k : Nat} {came : Bool} (c : CredB) (h : RoundM cs ns xs k came ys) : InnerM cs ns xs k c 0 came ys :=
 ⟨h, fun _ n hn => by simp at hn⟩
theorem InnerM.no {cs : List CredB} {ns : List (List UInt8)} {xs ys : List FactB} {k j : Nat} {c : CredB} {came : Bool} (h : InnerM cs ns xs k c j came ys) (hj : j < ns.length) (hok : okF ys c ns ns[j]) : InnerM cs ns xs k c (j + 1) came ys := by
 refine ⟨h.1, fun e n hn => ?_⟩
 rw [List.take_succ_eq_append_getElem hj] at hn
 rcases List.mem_append.1 hn with hn | hn
 ·exact h.2 e n hn
 ·rw [List.mem_singleton.1 hn, ← (h.1.2.2 e).1]
  exact hok
theorem InnerM.yes {cs : List CredB} {ns : List (List UInt8)} {xs ys : List FactB} {k j : Nat} {c : CredB} {came : Bool} (h : InnerM cs ns xs k c j came ys) (hc : c ∈ cs) (hr : isCred c = true) {n : List UInt8} (h0 : inF ys c.head n = false) (h1 : stepF ys c ns n = true) : InnerM cs ns xs k c (j + 1) true (ys ++ [(c.head, n)]) := by
 have hp := h.1.1.snoc (stepF_der h.1.1.2 hc hr h1) (fun hm => by rw [inF_iff.2 hm] at h0; cases h0)
 refine ⟨⟨hp, fun _ => ?_, fun e => by cases e⟩, fun e => by cases e⟩
 rw [List.length_append, List.length_singleton]
 cases came with
 | true => have := h.1.2.1 rfl; omega
 | false => rw [(h.1.2.2 rfl).1]; omega
theorem InnerM.done {cs : List CredB} {ns : List (List UInt8)} {xs ys : List FactB} {k : Nat} {came : Bool} (hk : k < cs.length) (h : InnerM cs ns xs k cs[k] ns.length came ys) : RoundM cs ns xs (k + 1) came ys := by
 refine ⟨h.1.1, h.1.2.1, fun e => ⟨(h.1.2.2 e).1, fun c hc n hn => ?_⟩⟩
 rw [List.take_succ_eq_append_getElem hk] at hc
 rcases List.mem_append.1 hc with hc | hc
 ·exact (h.1.2.2 e).2 c hc n hn
 ·rw [List.mem_singleton.1 hc]
  exact h.2 e n (by rwa [List.take_length])
theorem RoundM.all {cs : List CredB} {ns : List (List UInt8)} {xs ys : List FactB} (hns : SetOf (whosOf cs) ns) (h : RoundM cs ns xs cs.length false ys) : ∀ f, Der cs f → f ∈ ys := by
 obtain ⟨e, hcl⟩ := h.2.2 rfl
 subst e
 rw [List.take_length] at hcl
 exact fun f hf => closed_der (names := ns) (fun c hc hr hk => (hns.2 _).2 ⟨whosOf_who hc, isCred_member hr hk⟩) (fun c hc _ n hn => hcl c hc n hn) hf

/-- The document's model of credentials, of their set's facts. -/
theorem RoundM.model {ls cs : List CredB} {ns : List (List UInt8)} {xs ys zs : List FactB} (hcs : SetC ls cs) (hns : SetOf (whosOf cs) ns) (h : RoundM cs ns xs cs.length false ys) (hz : SetG ltF (fun _ => true) ys zs) : ModelOf ls zs :=
 (h.1.model (h.all hns) hz).of_same fun _ => der_set hcs
end Go.Proofs.Ytjaplnainlbldaa

/- The contract of the document's Of, of layer 8. -/
namespace Go.Proofs.Ytjaplnainlbldaa
open Go.RowKit

theorem own_not_cred {B : Nat} {w : World} {v : Value} {len k : Nat} {row : List Value} {c : CredB} (h : w.ownsRow B 26 3 v len row) (e : v.ownBlock = some k) (hc : w.heap[k]? = some (.cells (credBox c) 36 (0, 0))) : False := by
 rcases h.2 with ⟨rfl, _⟩ | ⟨g, cap, cur, rfl, _, hh, _⟩
 ·cases e
 ·have hk : g = k := by injection e
  subst hk
  rw [hc] at hh
  injection hh with hh
  injection hh with _ h2
  exact absurd h2 (by decide)

theorem World.ownsRow_keepF {B : Nat} {w w' : World} {ty : TypeId} {n : Nat} {v : Value} {len : Nat} {row : List Value} (h : w.ownsRow B ty n v len row) (hc : Chg (fun _ => False) w w') : w'.ownsRow B ty n v len row := ownsRow_keep h hc (fun _ _ => id)

set_option maxRecDepth 100000 in
set_option maxHeartbeats 8000000 in
theorem rfof {D : Nat → Prop} (ao : Option Addr) (cp : Nat) (ls : List CredB) (w : World) (hn : ls.length ≤ 1000) (h : CredsAt D w ao ls) (hD : ∀ i, D i → i < w.heap.size) :
  Calls Try.prog 11 #[.slice ao ls.length cp] w fun e w' => ∃ ys ao' cap', e = .returned (.slice ao' ys.length cap') ∧ ModelOf ls ys ∧ OwnF w.heap.size w' (.slice ao' ys.length cap') ys ∧ Chg (fun _ => False) w w' := by
 obtain ⟨i0, hi, hz0, hz1, hz2⟩ := info_parts Try.info26
 have HI := hid (And.intro hi (And.intro hz0 (And.intro hz1 hz2)))
 have HS := hid (cset_ref ao cp ls w (by omega) h hD)
 clear hi hz0 hz1 hz2 h hD
 go_enter Try.func11, Try.ntmps11
 go_wp2_with fail
 refine HS.out.mono ?_
 rintro e w1 ⟨cs, ac, cc, rfl, hcs, hca, hc1, _⟩
 have hcl : cs.length ≤ ls.length := SetG.len ltC_ord hcs
 have HN := hid (rfnames ac cc cs w1 (by omega) hca)
 have HP := hid (And.intro hcs (And.intro hca hc1))
 clear hcs hca hc1 HS
 go_wp2_with fail
 refine HN.out.mono ?_
 rintro e w2 ⟨ns, an, cn, rfl, hns, hst, hc2⟩
 have hnl : ns.length ≤ cs.length * 4 := by
  have := nodup_length ns (whosOf cs) hns.1.nodup (fun x hx => ((hns.2 x).1 hx).1)
  rwa [whosOf_len] at this
 have hmul : cs.length * ns.length ≤ 4000000 := Nat.le_trans (Nat.mul_le_mul (Nat.le_trans hcl hn) (Nat.le_trans hnl (Nat.mul_le_mul_right 4 (Nat.le_trans hcl hn)))) (by decide)
 have HC2 := hid (HP.out.2.2.trans hc2 (fun _ _ h => h))
 have hca2 := hid (HP.out.2.1.keep hc2 (fun _ _ => id))
 have hst2 := hid hst
 have HNS := hid hns
 have HCS := hid HP.out.1
 have HXL : Hid (∀ xs : List FactB, PartM cs xs → xs.length ≤ cs.length * ns.length) := hid (fun xs hx => hx.len hns)
 clear hst hns hc2 HN HP
 go_wp2
 go_loopw [5] (fun v wr => ∃ (xs : List FactB) (ax : Option Addr) (cx : Nat), v = .slice ax xs.length cx ∧ Hid (PartM cs xs) ∧ OwnF w2.heap.size wr (.slice ax xs.length cx) xs ∧ Chg (fun _ => False) w2 wr) (fun v _ => cs.length * ns.length + 1 - lenOfV v)
 case atStart => exact ⟨[], none, 0, rfl, hid (PartM.nil cs), World.ownsRow_nil _ _ _ _, Chg.refl _ _⟩
 case round =>
  obtain ⟨xs, ax, cx, rfl, hpm, ho, hc⟩ := hrel
  have hxl := HXL.out xs hpm.out
  go_wp2
  go_loopw [5, 6, 17] (fun v cm i wr => ∃ (k : Nat) (ys : List FactB) (came : Bool) (ay : Option Addr) (cy : Nat), v = .slice ay ys.length cy ∧ cm = .bool came ∧ i = .int .i64 k ∧ k ≤ cs.length ∧ Hid (RoundM cs ns xs k came ys) ∧ OwnF w2.heap.size wr (.slice ay ys.length cy) ys ∧ Chg (fun _ => False) w2 wr) (fun _ _ i _ => cs.length - (intOf i).toNat)
  case atStart => exact ⟨0, xs, false, ax, cx, rfl, rfl, rfl, Nat.zero_le _, hid (RoundM.start hpm.out), ho, hc⟩
  case round =>
   obtain ⟨k, ys, came, ay, cy, rfl, rfl, rfl, hk, hrd, ho1, hc1⟩ := hrel
   clear ho hc
   by_cases hlt : k < cs.length
   ·obtain ⟨b, off, hac, _, hcat, hcsh⟩ := (hca2.out.keep hc1 (fun _ _ => id)) k hlt
    have HCM : Hid (cs[k] ∈ cs ∧ isCred cs[k] = true) := hid ⟨List.getElem_mem hlt, ((HCS.out.2 _).1 (List.getElem_mem hlt)).2⟩
    have HDN : Hid (∀ came zs, InnerM cs ns xs k cs[k] ns.length came zs → RoundM cs ns xs (k + 1) came zs) := hid (fun came zs hz => hz.done hlt)
    have HKL := hid hlt
    generalize cs[k] = c at *
    obtain ⟨c0, c1, c2, c3, c4, c5, c6, c7, c8⟩ := hcat
    have hS : (wr.alloc (.cells #[.int .i64 c.kind, .string ⟨c.head.1.toArray⟩, .string ⟨c.head.2.toArray⟩, .string ⟨c.who.toArray⟩, .string ⟨c.b.1.toArray⟩, .string ⟨c.b.2.toArray⟩, .string ⟨c.c.1.toArray⟩, .string ⟨c.c.2.toArray⟩, .string ⟨c.w2.toArray⟩] 36)).heap[wr.heap.size]? = some (.cells (credBox c) 36 (0, 0)) := heap_alloc_new wr _
    have hal : Chg (fun _ => False) wr (wr.alloc (.cells #[.int .i64 c.kind, .string ⟨c.head.1.toArray⟩, .string ⟨c.head.2.toArray⟩, .string ⟨c.who.toArray⟩, .string ⟨c.b.1.toArray⟩, .string ⟨c.b.2.toArray⟩, .string ⟨c.c.1.toArray⟩, .string ⟨c.c.2.toArray⟩, .string ⟨c.w2.toArray⟩] 36)) := (Chg.refl _ wr).alloc _
    have HO := hid (And.intro (World.ownsRow.alloc ho1 (.cells #[.int .i64 c.kind, .string ⟨c.head.1.toArray⟩, .string ⟨c.head.2.toArray⟩, .string ⟨c.who.toArray⟩, .string ⟨c.b.1.toArray⟩, .string ⟨c.b.2.toArray⟩, .string ⟨c.c.1.toArray⟩, .string ⟨c.c.2.toArray⟩, .string ⟨c.w2.toArray⟩] 36)) (hc1.trans hal (fun _ _ h => h)))
    have HIS := hid hS
    have HSZ := hid hc1.size
    subst hac
    clear hcsh hS hal ho1 hc1
    go_wp2
    clear c0 c1 c2 c3 c4 c5 c6 c7 c8
    generalize wr.alloc (.cells #[.int .i64 c.kind, .string ⟨c.head.1.toArray⟩, .string ⟨c.head.2.toArray⟩, .string ⟨c.who.toArray⟩, .string ⟨c.b.1.toArray⟩, .string ⟨c.b.2.toArray⟩, .string ⟨c.c.1.toArray⟩, .string ⟨c.c.2.toArray⟩, .string ⟨c.w2.toArray⟩] 36) = w4 at *
    generalize wr.heap.size = Cb at *
    go_loopw [5, 6, 23] (fun v cm i wr => ∃ (j : Nat) (zs : List FactB) (came : Bool) (az : Option Addr) (cz : Nat), v = .slice az zs.length cz ∧ cm = .bool came ∧ i = .int .i64 j ∧ j ≤ ns.length ∧ Hid (InnerM cs ns xs k c j came zs) ∧ OwnF w2.heap.size wr (.slice az zs.length cz) zs ∧ Chg (fun _ => False) w2 wr ∧ wr.heap[Cb]? = some (.cells (credBox c) 36 (0, 0))) (fun _ _ i _ => ns.length - (intOf i).toNat)
    case atStart => exact ⟨0, ys, came, ay, cy, rfl, rfl, rfl, Nat.zero_le _, hid (hrd.out.inner c), HO.out.1, HO.out.2, HIS.out⟩
    case round =>
     obtain ⟨j, zs, came, az, cz, rfl, rfl, rfl, hj, hin, ho1, hc1, hCb⟩ := hrel
     clear HIS HO
     by_cases hjl : j < ns.length
     ·obtain ⟨b2, off2, han, _, hsat, _⟩ := (hst2.out.keep hc1 (fun _ _ => id)) j hjl
      have HNO : Hid (okF zs c ns ns[j] → InnerM cs ns xs k c (j + 1) came zs) := hid (fun hok => hin.out.no hjl hok)
      generalize ns[j] = s at *
      obtain ⟨az6, cz6, hz6, hfa, _⟩ := ho1.facts
      cases hz6
      have hzl := HXL.out zs hin.out.1.1
      have HIN := hid (fun W hW => rfin az cz zs c.head s W (by omega) (hfa.keep hW (fun _ _ => id)))
      have HST := hid (fun W hW => rfstep az an cz cn zs c ns s W (by omega) (by omega) (hfa.keep hW (fun _ _ => id)) (hst2.out.keep (hc1.trans hW (fun _ _ h => h)) (fun _ _ => id)))
      have HJL := hid hjl
      obtain ⟨c0, c1, c2, c3, c4, c5, c6, c7, c8⟩ := cred_at_blk hCb
      simp only [Nat.zero_add] at c0 c1 c2 c3 c4 c5 c6 c7 c8
      have HO := hid (And.intro ho1 (And.intro hc1 hCb))
      clear hfa ho1 hc1 hCb
      subst han
      go_wp2_with fail
      refine (HIN.out wr (Chg.refl _ _)).mono ?_
      rintro e w5 ⟨rfl, hc5⟩
      replace c0 := hc5.cell c0 id
      replace c1 := hc5.cell c1 id
      replace c2 := hc5.cell c2 id
      replace c3 := hc5.cell c3 id
      replace c4 := hc5.cell c4 id
      replace c5 := hc5.cell c5 id
      replace c6 := hc5.cell c6 id
      replace c7 := hc5.cell c7 id
      replace c8 := hc5.cell c8 id
      have HC5 := hid hc5
      clear hc5
      cases hin1 : inF zs c.head s with
      | true =>
       have HE := hid (HNO.out (Or.inl hin1))
       clear hin1
       go_wp2
       go_roundw
       case rel => exact ⟨j + 1, zs, came, az, cz, rfl, rfl, by go_num, by have := HJL.out; omega, HE, World.ownsRow_keepF HO.out.1 HC5.out, HO.out.2.1.trans HC5.out (fun _ _ h => h), blk_keep HO.out.2.2 HC5.out id⟩
       case measure => have := HJL.out; simp [intOf]; omega
      | false =>
       go_wp2_with fail
       refine (HST.out w5 HC5.out).mono ?_
       rintro e w6 ⟨rfl, hc6⟩
       have hc6 := HC5.out.trans hc6 (fun _ _ h => h)
       have HQ := hid (And.intro (World.ownsRow_keepF HO.out.1 hc6) (And.intro (HO.out.2.1.trans hc6 (fun _ _ h => h)) (blk_keep HO.out.2.2 hc6 id)))
       obtain ⟨d0, d1, d2, d3, d4, d5, d6, d7, d8⟩ := cred_at_blk HQ.out.2.2
       simp only [Nat.zero_add] at d0 d1 d2 d3 d4 d5 d6 d7 d8
       clear HO HC5 hc6 c0 c1 c2 c3 c4 c5 c6 c7 c8
       cases hst1 : stepF zs c ns s with
       | false =>
        have HE := hid (HNO.out (Or.inr hst1))
        clear hin1 hst1
        go_wp2
        go_roundw
        case rel => exact ⟨j + 1, zs, came, az, cz, rfl, rfl, by go_num, by have := HJL.out; omega, HE, HQ.out.1, HQ.out.2.1, HQ.out.2.2⟩
        case measure => have := HJL.out; simp [intOf]; omega
       | true =>
        have HE := hid (hin.out.yes HCM.out.1 HCM.out.2 hin1 hst1)
        have hsz := HQ.out.2.1.size
        clear hin1 hst1
        go_wp2_with (at_builtin; refine wpList_append_own_at _ rfl (.tmp 40) (.tmp 45) 33 rfl w2.heap.size 26 i0 (.agg #[.string ⟨#[]⟩, .string ⟨#[]⟩, .string ⟨#[]⟩]) 3 48 Try.underlying33 HI.out.1 HI.out.2.1 HI.out.2.2.1 HI.out.2.2.2 rfl (by decide) _ _ _ rfl (World.ownsRow.alloc HQ.out.1 _) ⟨w6.heap.size, 0, none⟩ 1 1 (factCells (c.head, s)) rfl rfl ?c1 ?c2 ?c3 ?c4 ?c5 ?_)
        case c1 => exact fun i u hi => fact_cells_new w6 (c.head, s) i u hi
        case c2 => exact fact_one (c.head, s)
        case c3 => unfold maxLen; omega
        case c4 => omega
        case c5 => simp; omega
        intro v' w7 hown hgrow _ _
        have hl : (zs ++ [(c.head, s)]).length = zs.length + 1 := by simp
        have ho2 : OwnF w2.heap.size w7 v' (zs ++ [(c.head, s)]) := by
         unfold OwnF
         rw [hl, factRow_snoc]
         exact hown
        have hgb : ∀ k, Value.ownBlock (.slice az zs.length cz) = some k → k ≠ Cb := fun k e hk => by
         subst hk
         exact own_not_cred HQ.out.1 e HQ.out.2.2
        have hg2 := (Chg.refl (fun k => k ≠ Cb) _).grown hgrow (fun k e _ => hgb k e)
        have hCb7 : w7.heap[Cb]? = some (.cells (credBox c) 36 (0, 0)) := blk_keep (blk_keep HQ.out.2.2 ((Chg.refl (fun _ => False) _).alloc _) id) hg2 (fun h => h rfl)
        have hc7 : Chg (fun _ => False) w2 w7 := (HQ.out.2.1.alloc _).grown hgrow (fun k e hk => by have := (ownsRow_lt HQ.out.1 k e).1; omega)
        obtain ⟨ao5, cap5, hv5⟩ := ho2.shape
        subst hv5
        have HY := hid (And.intro ho2 (And.intro hc7 hCb7))
        have HL := hid hl
        clear hown hgrow HQ ho2 hc7 hCb7 hg2 hgb hsz d0 d1 d2 d3 d4 d5 d6 d7 d8
        rw [hl]
        clear hl
        go_wp2
        go_roundw
        case rel => exact ⟨j + 1, zs ++ [(c.head, s)], true, ao5, cap5, by rw [HL.out], rfl, by go_num, by have := HJL.out; omega, HE, HY.out.1, HY.out.2.1, HY.out.2.2⟩
        case measure => have := HJL.out; simp [intOf]; omega
     ·have hj2 : j = ns.length := by omega
      have HE : Hid (RoundM cs ns xs (k + 1) came zs) := hid (HDN.out came zs (by have := hin.out; rwa [hj2] at this))
      have HO := hid (And.intro ho1 hc1)
      clear hj2 ho1 hc1 hCb
      go_wp2
      go_roundw
      case rel => exact ⟨k + 1, zs, came, az, cz, rfl, rfl, by go_num, by have := HKL.out; omega, HE, HO.out.1, HO.out.2⟩
      case measure => have := HKL.out; simp [intOf]; omega
   ·have hk2 : k = cs.length := by omega
    have HE : Hid (RoundM cs ns xs cs.length came ys) := hid (by have := hrd.out; rwa [hk2] at this)
    have HO := hid (And.intro ho1 hc1)
    have HX := hid hxl
    clear hk2 ho1 hc1 hrd
    cases came with
    | true =>
     have hyl := HXL.out ys HE.out.1
     have hgt := HE.out.2.1 rfl
     have HM : Hid (xs.length < ys.length ∧ ys.length ≤ cs.length * ns.length) := hid ⟨hgt, hyl⟩
     clear hyl hgt
     go_wp2
     go_roundw
     case rel => exact ⟨ys, ay, cy, rfl, hid HE.out.1, HO.out.1, HO.out.2⟩
     case measure => have := HM.out; simp [lenOfV]; omega
    | false =>
     obtain ⟨ay6, cy6, hy6, hfa, _⟩ := HO.out.1.facts
     cases hy6
     have hyl := HXL.out ys HE.out.1
     have HSO := hid (rfsorted ay cy ys wr (by omega) hfa)
     clear hfa
     go_wp2_with fail
     refine HSO.out.mono ?_
     rintro e w8 ⟨zs, az, cz, rfl, hso, ho8, hc8⟩
     have HZ := hid (And.intro hso (And.intro ho8 hc8))
     clear hso ho8 hc8
     go_wp2
     go_ret
     have hs1 := HC2.out.size
     have hs2 := HO.out.2.size
     exact ⟨zs, az, cz, rfl, HE.out.model HCS.out HNS.out HZ.out.1, HZ.out.2.1.low (by omega), (HC2.out.trans HO.out.2 (fun _ _ h => h)).trans HZ.out.2.2 (fun _ _ h => h)⟩
end Go.Proofs.Ytjaplnainlbldaa

/- Facts that are known: none yet; is one among them? -/
namespace Go.Proofs.Ytjaplnainlbldaa
open Go.RowKit Go.Maps

end Go.Proofs.Ytjaplnainlbldaa

/- A fact is added to those that are known. -/
namespace Go.Proofs.Ytjaplnainlbldaa
open Go.RowKit Go.Maps

end Go.Proofs.Ytjaplnainlbldaa

/- A range over an iterator that hands its rounds rows which were laid just then: the round is told what lies there. -/
namespace Go.Proofs.Ytjaplnainlbldaa
open Go.RowKit

end Go.Proofs.Ytjaplnainlbldaa

/- One way to a step, and the round that it is handed to. -/
namespace Go.Proofs.Ytjaplnainlbldaa
open Go.RowKit Go.Maps
attribute [local go_sem] Oper.semAt_some

end Go.Proofs.Ytjaplnainlbldaa

/- The ways to a step: the block that the iterator lays for the credential; what is so between two rounds. -/
namespace Go.Proofs.Ytjaplnainlbldaa
open Go.RowKit Go.Maps

theorem run_neg_role (x y : Operand) (a b : RoleB) (w : World) : Sem.run Try.prog (eqGuard BinOp.neq 24 x y (.agg #[.string ⟨a.1.toArray⟩, .string ⟨a.2.toArray⟩]) (.agg #[.string ⟨b.1.toArray⟩, .string ⟨b.2.toArray⟩])) w = .ok () w := by
 go_simp
theorem run_nel_role (a b : RoleB) (w : World) : Sem.run Try.prog (binOp BinOp.neq 24 (.agg #[.string ⟨a.1.toArray⟩, .string ⟨a.2.toArray⟩]) (.agg #[.string ⟨b.1.toArray⟩, .string ⟨b.2.toArray⟩])) w = .ok (.bool (!decide (a = b))) w := by
 have : decide (a = b) = decide (a.1 = b.1 ∧ a.2 = b.2) := by simp only [Prod.ext_iff]
 rw [this]
 go_simp
 repeat' split
 all_goals simp_all

def VW (U : Nat → Prop) (n0 nW : Nat) (pre : List (Value × List Nat)) (x : Value × List Nat) (i : Nat) : Prop := U i ∨ (n0 ≤ i ∧ i < nW) ∨ ∃ y ∈ pre ++ [x], y.1.ownBlock = some i

section
variable {J : List (Value × List Nat) → World → Prop} {T : Nat → Option KTag} {U : Nat → Prop} {g : Nat} {F : List FactB} {s : StepB} {Bs Bk b n0 nW : Nat} {pre : List (Value × List Nat)} {w w' : World}

end

end Go.Proofs.Ytjaplnainlbldaa

/- The ways to a step: no way; Member, Include, Both. -/
namespace Go.Proofs.Ytjaplnainlbldaa
open Go.RowKit Go.Maps
attribute [local go_sem] Oper.semAt_some

attribute [local go_sem ↓ high] run_neg_role run_nel_role

end Go.Proofs.Ytjaplnainlbldaa

/- The ways to a step: Linked; and all. -/
namespace Go.Proofs.Ytjaplnainlbldaa
open Go.RowKit Go.Maps
attribute [local go_sem] Oper.semAt_some
attribute [local go_sem ↓ high] run_neg_role run_nel_role

end Go.Proofs.Ytjaplnainlbldaa

/- Is there a way to a step? -/
namespace Go.Proofs.Ytjaplnainlbldaa
open Go.RowKit Go.Maps
attribute [local go_sem] Oper.semAt_some

end Go.Proofs.Ytjaplnainlbldaa

/- What is known, amid the program's loops. -/
namespace Go.Proofs.Ytjaplnainlbldaa
open Go.RowKit Go.Maps

/-- The block g knows F; its blocks are newer than w0, and none of Pr. -/
structure KK (w0 : World) (Pr : Nat → Prop) (g : Nat) (F : List FactB) (w : World) : Prop where
 ex : ∃ T, KS T w g F ∧ ∀ b, T b ≠ none → w0.heap.size ≤ b ∧ ¬ Pr b
 sz : w0.heap.size ≤ w.heap.size

section
variable {w0 w w' : World} {Pr : Nat → Prop} {g : Nat} {F : List FactB}
end

end Go.Proofs.Ytjaplnainlbldaa

/- The contract of the program's Follows. -/
namespace Go.Proofs.Ytjaplnainlbldaa
open Go.RowKit Go.Maps

end Go.Proofs.Ytjaplnainlbldaa

/- The contract of the program's Check. -/
namespace Go.Proofs.Ytjaplnainlbldaa
open Go.RowKit Go.Maps

end Go.Proofs.Ytjaplnainlbldaa

/- The contract of the program's Check. -/
namespace Go.Proofs.Ytjaplnainlbldaa
open Go.RowKit Go.Maps

theorem totalC_len9 (a : List CredB) : a.length * 20 ≤ totalC a := by
 induction a with
 | nil => simp [totalC]
 | cons x l ih => rw [totalC, List.length_cons, sizeC]; omega

end Go.Proofs.Ytjaplnainlbldaa

/- The contract of the document's Members, of layer 8. -/
namespace Go.Proofs.Ytjaplnainlbldaa
open Go.RowKit
attribute [local go_sem ↓ high] run_eqg_role run_eql_role

end Go.Proofs.Ytjaplnainlbldaa

/- The contract of the document's Roles, of layer 8. -/
namespace Go.Proofs.Ytjaplnainlbldaa
open Go.RowKit
attribute [local go_sem ↓ high] run_eqg_role run_eql_role

end Go.Proofs.Ytjaplnainlbldaa

/- The contract of the document's Same of layer 4. -/
namespace Go.Proofs.Ytjaplnainlbldaa
open Go.RowKit


end Go.Proofs.Ytjaplnainlbldaa

/- What the laws of layer 8 ask of the program's model: its contracts, as the fields of a structure. -/
namespace Go.Proofs.Ytjaplnainlbldaa
open Go.RowKit

/-- Few credentials, of short texts. -/
def SmallC (ls : List CredB) : Prop := ls.length ≤ 1000 ∧ ∀ c ∈ ls, credShort c 100000

theorem totalC_len20 (a : List CredB) : a.length * 20 ≤ totalC a := by
 induction a with
 | nil => simp [totalC]
 | cons x l ih => rw [totalC, List.length_cons, sizeC]; omega

theorem SmallC.of {ls : List CredB} (h : totalC ls ≤ 20000) : SmallC ls :=
 ⟨by have := totalC_len20 ls; omega, fun _ hc => (sizeC_short (Nat.le_trans (totalC_mem hc) h)).mono (by omega)⟩

theorem ModelOf.len {ls : List CredB} {xs : List FactB} (h : ModelOf ls xs) : xs.length ≤ ls.length * (ls.length * 4) := by
 have := facts_le (rs := ls.map (·.head)) (ns := whosOf ls) (h.1.nodup ltF_ord) (fun f hf => by
  have hd := (h.2 f).1 hf
  refine ⟨?_, ?_⟩
  ·obtain ⟨c, hc, _, e⟩ := hd.head
   exact List.mem_map.2 ⟨c, hc, e⟩
  ·obtain ⟨c, hc, hr, hk, e⟩ := hd.who
   rw [← e]
   exact whosOf_who hc)
 rwa [List.length_map, whosOf_len] at this

theorem ModelOf.few {ls : List CredB} {xs : List FactB} (h : ModelOf ls xs) (hs : SmallC ls) : xs.length ≤ 4000000 :=
 Nat.le_trans h.len (Nat.le_trans (Nat.mul_le_mul hs.1 (Nat.mul_le_mul_right 4 hs.1)) (by decide))

end Go.Proofs.Ytjaplnainlbldaa

/- What the laws ask of Find beyond its contract: how long a chain may be, what its steps are; a list appended to a row in its own place; Find of a list that tells the same. -/
namespace Go.Proofs.Ytjaplnainlbldaa
open Go.RowKit

theorem tightG_len {ls : List CredB} {S : List StepB} (hg : Good ls S) {last : Nat} (hl : last < S.length) : (tightG S last).length ≤ S.length := by
 have hk := kept_of hg hl
 have hn : (tightI S last (last + 1)).2.reverse.Nodup := hk.inc.imp (fun h => Nat.ne_of_lt h)
 have h1 := nodup_lengthG _ (List.range S.length) hn (fun i hi => List.mem_range.2 (Nat.lt_of_le_of_lt (hk.le i hi) hl))
 rw [List.length_range, List.length_reverse] at h1
 unfold tightG stepsOf
 rw [List.length_reverse, List.length_map]
 exact h1

theorem FindIs.few {ls : List CredB} {want : FactB} {R : List StepB} {b : Bool} (h : FindIs ls want R b) (hl : ls.length ≤ 50) : R.length ≤ 2500 := by
 obtain ⟨cs, S, h1, h2, h3⟩ := h
 have hall : ∀ c ∈ cs, isCred c = true := fun c hc => ((h1.2 c).1 hc).2
 obtain ⟨hgood, _⟩ := h2.iff hall
 rcases h3 with ⟨q1, rfl, rfl⟩ | ⟨_, rfl, rfl⟩
 ·have hi : (factsK S).idxOf want < S.length := by rw [← factsK_len]; exact List.idxOf_lt_length_of_mem q1
  refine Nat.le_trans (tightG_len hgood hi) ?_
  have hc := setC_few h1 hl
  have h4 := facts_le (rs := cs.map (·.head)) (ns := cs.map (·.who)) hgood.nd (fun f hf => by
   have hd := hgood.der f hf
   refine ⟨?_, ?_⟩
   ·obtain ⟨c, hc, _, e⟩ := hd.head
    exact List.mem_map.2 ⟨c, hc, e⟩
   ·obtain ⟨c, hc, hr, hk, e⟩ := hd.who
    exact List.mem_map.2 ⟨c, hc, e⟩)
  rw [List.length_map, List.length_map, factsK_len] at h4
  have h5 : cs.length * cs.length ≤ 50 * 50 := Nat.mul_le_mul hc hc
  omega
 ·simp

theorem FindIs.der {ls : List CredB} {want : FactB} {R : List StepB} {b : Bool} (h : FindIs ls want R b) : ∀ s ∈ R, Der ls s.f := by
 obtain ⟨cs, S, h1, h2, h3⟩ := h
 have hall : ∀ c ∈ cs, isCred c = true := fun c hc => ((h1.2 c).1 hc).2
 obtain ⟨hgood, _⟩ := h2.iff hall
 intro s hs
 rcases h3 with ⟨q1, rfl, rfl⟩ | ⟨_, rfl, rfl⟩
 ·have hi : (factsK S).idxOf want < S.length := by rw [← factsK_len]; exact List.idxOf_lt_length_of_mem q1
  have hk := kept_of hgood hi
  unfold tightG stepsOf at hs
  rw [List.mem_reverse] at hs
  obtain ⟨i, hi2, rfl⟩ := List.mem_map.1 hs
  have hil : i < S.length := Nat.lt_of_le_of_lt (hk.le i (List.mem_reverse.2 hi2)) hi
  rw [getD_lt hil]
  exact (der_set h1 (f := S[i].f)).1 (hgood.der _ (List.mem_map.2 ⟨_, List.getElem_mem hil, rfl⟩))
 ·cases hs

theorem der_short9 {ls : List CredB} {f : FactB} (hd : Der ls f) : factShort f 9223372036854775807 := factShort.mono (n := 16) (der_short hd) (by decide)
theorem creds_short {D : Nat → Prop} {w : World} {ao : Option Addr} {ls : List CredB} (h : CredsAt D w ao ls) : ∀ c ∈ ls, credShort c 9223372036854775807 := fun c hc => by
 obtain ⟨i, hi, rfl⟩ := List.getElem_of_mem hc
 obtain ⟨_, _, _, _, _, h⟩ := h i hi
 exact h
theorem FindIs.short {ls : List CredB} {want : FactB} {R : List StepB} {b : Bool} (h : FindIs ls want R b) : ∀ s ∈ R, stepShort s 9223372036854775807 := by
 intro s hs
 have hd := h.der s hs
 have hb : b = true := by
  cases b with
  | true => rfl
  | false => rw [(h.spec).2.1 rfl] at hs; cases hs
 have hc := ((h.spec).2.2 hb).2.2.2 s hs
 refine ⟨(isCred_short hc.2).mono' (by decide), ?_⟩
 exact der_short9 hd

/-- What the document's Check tells of it. -/
theorem FindIs.checks {ls : List CredB} {want : FactB} {R : List StepB} (h : FindIs ls want R true) {cs : List CredB} (hs : SetC ls cs) : CheckIs R cs want R.length 0 := by
 obtain ⟨h1, h2, ⟨R0, s, e, hf⟩, h4⟩ := (h.spec).2.2 rfl
 unfold standsK at h1
 have h1 := of_decide_eq_true h1
 refine .inr ⟨rfl, fun i _ hi => ⟨?_, h1 i hi⟩, ?_⟩
 ·have := h4 _ (List.getElem_mem hi)
  unfold hasC
  rw [List.contains_iff_mem]
  exact (hs.2 _).2 this
 ·rw [if_pos]
  refine inF_iff.2 ?_
  rw [e]
  unfold factsK
  rw [List.map_append]
  exact List.mem_append_right _ (by rw [List.map_cons, hf]; exact List.mem_cons_self)

theorem run_append_credsG {D : Nat → Prop} {B : Nat} {w : World} {v : Value} {zs : List CredB} (ty : TypeId) (hown : OwnC B w v zs)
  {ao : Option Addr} {cp : Nat} {ls : List CredB} (hst : CredsAt D w ao ls) (h0 : ao = none → cp = 0) (hlen : zs.length + ls.length ≤ 33554432) (hB : B ≤ w.heap.size) :
  ∃ v' w', (Builtin.append_ #[22, 22] ty #[v, .slice ao ls.length cp]).run Try.prog w = .ok v' w' ∧ OwnC B w' v' (zs ++ ls) ∧ Chg (fun k => v.ownBlock = some k) w w' := by
 obtain ⟨i0, hi, hz0, hz1, hz2⟩ := info_parts Try.info36
 cases ao with
 | none =>
  have hl := credsAt_none hst
  subst hl
  have hcp := h0 rfl
  subst hcp
  exact ⟨v, w, run_append_owned_none (P := Try.prog) (w := w) B 22 ty 36 i0 9 Try.underlying22 hi v _ _ hown, by rw [List.append_nil]; exact hown, Chg.refl _ w⟩
 | some ad =>
  obtain ⟨v', w', h1, h2, h3, _⟩ := run_append_own_at (P := Try.prog) w B 22 ty 36 i0 (.agg #[.int .i64 0, .string ⟨#[]⟩, .string ⟨#[]⟩, .string ⟨#[]⟩, .string ⟨#[]⟩, .string ⟨#[]⟩, .string ⟨#[]⟩, .string ⟨#[]⟩, .string ⟨#[]⟩]) 9 136 Try.underlying22 hi hz0 hz1 hz2 rfl (by decide) v _ _ hown ad ls.length cp (credRow ls) (by rw [credRow_len8])
   (fun j u hj => credsAt_row hst j u hj) (fun u hu => credRow_one8 ls u hu) (by unfold maxLen; omega) (by omega) hB
  exact ⟨v', w', h1, by unfold OwnC; rw [credRow_append8, List.length_append]; exact h2, (Chg.refl _ w).grown h3 fun k e _ => e⟩

set_option maxRecDepth 100000 in
theorem find_same (B : Nat) (ls zs : List CredB) (want : FactB) (R : List StepB) (b : Bool) (hF : FindIs ls want R b) (hl : ls.length ≤ 50) (hz : zs.length ≤ 1000) (hm : ∀ c, c ∈ ls ↔ c ∈ zs) (hs : ∀ c ∈ ls, credShort c 9223372036854775807) (hw : factShort want 9223372036854775807) (v : Value) (w : World) (ho : OwnC B w v zs) :
  Calls Try.prog 9 #[v, .agg #[.string ⟨want.1.1.toArray⟩, .string ⟨want.1.2.toArray⟩, .string ⟨want.2.toArray⟩]] w fun e w' => ∃ x, e = .returned (.tuple #[x, .bool b]) ∧ OwnSt w.heap.size w' x R ∧ Chg (fun _ => False) w w' := by
 obtain ⟨ao, cap, rfl, hc, hz0⟩ := ho.creds (fun x hx => hs x ((hm x).2 hx))
 refine (ch_find2 ao cap zs want w ⟨hz, ls, hl, fun c hc => (hm c).2 hc⟩ hc (fun i h => h.2) hz0 hw).mono ?_
 rintro e w' ⟨x, R', b', rfl, hR, hO, hC⟩
 obtain ⟨rfl, rfl⟩ := (hF.same hm).one hR
 exact ⟨x, rfl, hO, hC⟩

/-- What is found lies behind B5; what may change lies between B and B5. -/
def SpecR.exFT (B B5 : Nat) (R : List StepB) (b : Bool) : SpecR (Chg (fun k => B ≤ k ∧ k < B5)) :=
 ⟨fun v w => ∃ x, v = .tuple #[x, .bool b] ∧ OwnSt B5 w x R, fun _ _ _ hc ⟨x, h1, h2⟩ => ⟨x, h1, h2.keep hc (fun k hk h => by have := (h2.blt hk).1; omega)⟩⟩
def SpecR.exFO (B B5 : Nat) (R : List StepB) : SpecR (Chg (fun k => B ≤ k ∧ k < B5)) :=
 ⟨fun v w => OwnSt B5 w v R, fun _ _ _ hc h2 => h2.keep hc (fun k hk h => by have := (h2.blt hk).1; omega)⟩

/-- The row's turn: what stands ahead of the append, and behind it. -/
def BackR (B : Nat) (w5 : World) (zs : List CredB) (v : Value) (w : World) : Prop := OwnC B w v zs ∧ Chg (fun k => B ≤ k ∧ k < w5.heap.size) w5 w
def BackR0 (B : Nat) (w5 : World) (zs : List CredB) (v : Value) (w : World) : Prop := OwnC B w v zs ∧ Chg (fun _ => False) w5 w
theorem BackR.quiet {B : Nat} {w5 w w' : World} {zs : List CredB} {v : Value} (h : BackR B w5 zs v w) (hc : Chg (fun _ => False) w w') : BackR B w5 zs v w' := ⟨h.1.keep hc (fun _ _ => id), h.2.trans hc (fun _ _ h => h.elim)⟩
theorem BackR0.quiet {B : Nat} {w5 w w' : World} {zs : List CredB} {v : Value} (h : BackR0 B w5 zs v w) (hc : Chg (fun _ => False) w w') : BackR0 B w5 zs v w' := ⟨h.1.keep hc (fun _ _ => id), h.2.trans hc (fun _ _ h => h)⟩
theorem BackR0.append {D : Nat → Prop} {B : Nat} {w5 w : World} {zs ls : List CredB} {v : Value} (h : BackR0 B w5 zs v w) (hv : OwnC B w5 v zs) (ty : TypeId) {ao : Option Addr} {cp : Nat} (hst : CredsAt D w5 ao ls) (h0 : ao = none → cp = 0) (hlen : zs.length + ls.length ≤ 33554432) (hB : B ≤ w5.heap.size) :
  ∃ v' w', (Builtin.append_ #[22, 22] ty #[v, .slice ao ls.length cp]).run Try.prog w = .ok v' w' ∧ BackR B w5 (zs ++ ls) v' w' ∧ Chg (fun k => B ≤ k ∧ k < w5.heap.size) w w' := by
 obtain ⟨v', w', h1, h2, h3⟩ := run_append_credsG ty h.1 (hst.keep h.2 (fun _ _ => id)) h0 hlen (Nat.le_trans hB h.2.size)
 have hS : ∀ k, v.ownBlock = some k → B ≤ k ∧ k < w5.heap.size := fun k hk => hv.blt hk
 exact ⟨v', w', h1, ⟨h2, h.2.none9.trans h3 (fun i _ hi => hS i hi)⟩, h3.mono (fun i _ hi => hS i hi)⟩
theorem OwnSt.caps {B : Nat} {w : World} {R : List StepB} {av : Option Addr} {n cv : Nat} (h : OwnSt B w (.slice av n cv) R) : R.length ≤ cv ∧ cv ≤ 9223372036854775807 := by
 rcases h.2 with ⟨e, h0⟩ | ⟨g, cap, cur, e, _, _, h1, h2, _⟩
 ·injection e with _ _ e
  omega
 ·injection e with _ _ e
  unfold maxLen at h2
  omega
end Go.Proofs.Ytjaplnainlbldaa
