/- Texts that the proof leans on, in one: ModelOfM, RefFOf, RefFMembers, RefFRoles, RefCredGreat, RoleSame, ModelK, OpenB. -/
import Derived.Test.YtanompfdjfgfbaaGreatMb4
import Derived.Test.YtanompfdjfgfbaaGreatMb1
import Derived.Test.YtanompfdjfgfbaaGreatMb5
import Derived.Test.YtanompfdjfgfbaaGreatMb6
import Derived.Test.YtanompfdjfgfbaaGreatMb8
import Derived.Test.YtanompfdjfgfbaaGreatProg
import Derived.Test.YtanompfdjfgfbaaGreatChecked
import Derived.Deep.QuietTactic
import Derived.BigQuiet
import Derived.Test.YtanompfdjfgfbaaGreatMb3
import Derived.Test.YtanompfdjfgfbaaGreatRows
import Derived.Test.YtanompfdjfgfbaaGreatMb2
import Derived.ProofKit
import Derived.OpenShut
import Derived.ShutString
import Derived.ChangeOld
import Derived.Deep.Slices
import Derived.Deep.Fields
import Derived.ChangeSame
/- The document's way to the least model, round by round: plain words, nothing of the program's text. -/
namespace Go.Proofs.YtanompfdjfgfbaaGreat
open Go.RowKit

theorem PartM.len {cs : List CredB} {ns : List (List UInt8)} {xs : List FactB} (hns : SetOf (whosOf cs) ns) (h : PartM cs xs) : xs.length ≤ cs.length * ns.length := by
  have := facts_le (rs := cs.map (·.head)) (ns := ns) h.1 (fun f hf => by
    have hd := h.2 f hf
    refine ⟨?_, ?_⟩
    · obtain ⟨c, hc, _, e⟩ := hd.head
      exact List.mem_map.2 ⟨c, hc, e⟩
    · obtain ⟨c, hc, hr, hk, e⟩ := hd.who
      rw [← e]
      exact (hns.2 _).2 ⟨whosOf_who hc, isCred_member hr hk⟩)
  rwa [List.length_map] at this

/-- Nothing comes of the credential c for n. -/
def okF (xs : List FactB) (c : CredB) (ns : List (List UInt8)) (n : List UInt8) : Prop := inF xs c.head n = true ∨ stepF xs c ns n = false

/-- Within a round that began with xs, behind k credentials. -/
def RoundM (cs : List CredB) (ns : List (List UInt8)) (xs : List FactB) (k : Nat) (came : Bool) (ys : List FactB) : Prop :=
  PartM cs ys ∧ (came = true → xs.length < ys.length) ∧ (came = false → ys = xs ∧ ∀ c ∈ cs.take k, ∀ n ∈ ns, okF xs c ns n)
def InnerM (cs : List CredB) (ns : List (List UInt8)) (xs : List FactB) (k : Nat) (c : CredB) (j : Nat) (came : Bool) (ys : List FactB) : Prop :=
  RoundM cs ns xs k came ys ∧ (came = false → ∀ n ∈ ns.take j, okF xs c ns n)

theorem RoundM.start {cs : List CredB} {ns : List (List UInt8)} {xs : List FactB} (h : PartM cs xs) : RoundM cs ns xs 0 false xs :=
  ⟨h, (fun e => by cases e), fun _ => ⟨rfl, fun c hc => by simp at hc⟩⟩
theorem RoundM.inner {cs : List CredB} {ns : List (List UInt8)} {xs ys : List FactB} {k : Nat} {came : Bool} (c : CredB) (h : RoundM cs ns xs k came ys) : InnerM cs ns xs k c 0 came ys :=
  ⟨h, fun _ n hn => by simp at hn⟩
theorem InnerM.no {cs : List CredB} {ns : List (List UInt8)} {xs ys : List FactB} {k j : Nat} {c : CredB} {came : Bool} (h : InnerM cs ns xs k c j came ys) (hj : j < ns.length) (hok : okF ys c ns ns[j]) : InnerM cs ns xs k c (j + 1) came ys := by
  refine ⟨h.1, fun e n hn => ?_⟩
  rw [List.take_succ_eq_append_getElem hj] at hn
  rcases List.mem_append.1 hn with hn | hn
  · exact h.2 e n hn
  · rw [List.mem_singleton.1 hn, ← (h.1.2.2 e).1]
    exact hok
theorem InnerM.yes {cs : List CredB} {ns : List (List UInt8)} {xs ys : List FactB} {k j : Nat} {c : CredB} {came : Bool} (h : InnerM cs ns xs k c j came ys) (hc : c ∈ cs) (hr : isCred c = true) {n : List UInt8} (h0 : inF ys c.head n = false) (h1 : stepF ys c ns n = true) : InnerM cs ns xs k c (j + 1) true (ys ++ [(c.head, n)]) := by
  have hp := h.1.1.snoc (stepF_der h.1.1.2 hc hr h1) (fun hm => by rw [inF_iff.2 hm] at h0; cases h0)
  refine ⟨⟨hp, fun _ => ?_, fun e => by cases e⟩, fun e => by cases e⟩
  rw [List.length_append, List.length_singleton]
  cases came with
  | true => have := h.1.2.1 rfl; omega
  | false => rw [(h.1.2.2 rfl).1]; omega
theorem InnerM.done {cs : List CredB} {ns : List (List UInt8)} {xs ys : List FactB} {k : Nat} {came : Bool} (hk : k < cs.length) (h : InnerM cs ns xs k cs[k] ns.length came ys) : RoundM cs ns xs (k + 1) came ys := by
  refine ⟨h.1.1, h.1.2.1, fun e => ⟨(h.1.2.2 e).1, fun c hc n hn => ?_⟩⟩
  rw [List.take_succ_eq_append_getElem hk] at hc
  rcases List.mem_append.1 hc with hc | hc
  · exact (h.1.2.2 e).2 c hc n hn
  · rw [List.mem_singleton.1 hc]
    exact h.2 e n (by rwa [List.take_length])
theorem RoundM.all {cs : List CredB} {ns : List (List UInt8)} {xs ys : List FactB} (hns : SetOf (whosOf cs) ns) (h : RoundM cs ns xs cs.length false ys) : ∀ f, Der cs f → f ∈ ys := by
  obtain ⟨e, hcl⟩ := h.2.2 rfl
  subst e
  rw [List.take_length] at hcl
  exact fun f hf => closed_der (names := ns) (fun c hc hr hk => (hns.2 _).2 ⟨whosOf_who hc, isCred_member hr hk⟩) (fun c hc _ n hn => hcl c hc n hn) hf

/-- The document's model of credentials, of their set's facts. -/
theorem RoundM.model {ls cs : List CredB} {ns : List (List UInt8)} {xs ys zs : List FactB} (hcs : SetC ls cs) (hns : SetOf (whosOf cs) ns) (h : RoundM cs ns xs cs.length false ys) (hz : SetG ltF (fun _ => true) ys zs) : ModelOf ls zs :=
  (h.1.model (h.all hns) hz).of_same fun _ => der_set hcs
end Go.Proofs.YtanompfdjfgfbaaGreat

/- The contract of the document's Of, of layer 8. -/
namespace Go.Proofs.YtanompfdjfgfbaaGreat
open Go.RowKit

theorem own_not_cred {B : Nat} {w : World} {v : Value} {len k : Nat} {row : List Value} {c : CredB} (h : w.ownsRow B 52 3 v len row) (e : v.ownBlock = some k) (hc : w.heap[k]? = some (.cells (credBox c) 47 (0, 0))) : False := by
  rcases h.2 with ⟨rfl, _⟩ | ⟨g, cap, cur, rfl, _, hh, _⟩
  · cases e
  · have hk : g = k := by injection e
    subst hk
    rw [hc] at hh
    injection hh with hh
    injection hh with _ h2
    exact absurd h2 (by decide)

theorem World.ownsRow_keepF {B : Nat} {w w' : World} {ty : TypeId} {n : Nat} {v : Value} {len : Nat} {row : List Value} (h : w.ownsRow B ty n v len row) (hc : Chg (fun _ => False) w w') : w'.ownsRow B ty n v len row := ownsRow_keep h hc (fun _ _ => id)

set_option maxRecDepth 100000 in
set_option maxHeartbeats 8000000 in
theorem rfof {D : Nat → Prop} (ao : Option Addr) (cp : Nat) (ls : List CredB) (w : World) (hn : ls.length ≤ 1000) (h : CredsAt D w ao ls) (hD : ∀ i, D i → i < w.heap.size) :
    Calls Tryz.prog 9 #[.slice ao ls.length cp] w fun e w' => ∃ ys ao' cap', e = .returned (.slice ao' ys.length cap') ∧ ModelOf ls ys ∧ OwnF w.heap.size w' (.slice ao' ys.length cap') ys ∧ Chg (fun _ => False) w w' := by
  obtain ⟨i0, hi, hz0, hz1, hz2⟩ := info_parts Tryz.info52
  have HI := hid (And.intro hi (And.intro hz0 (And.intro hz1 hz2)))
  have HS := hid (cset_ref ao cp ls w (by omega) h hD)
  clear hi hz0 hz1 hz2 h hD
  go_enter Tryz.func9, Tryz.ntmps9
  go_wp2_with fail
  refine HS.out.mono ?_
  rintro e w1 ⟨cs, ac, cc, rfl, hcs, hca, hc1, _⟩
  have hcl : cs.length ≤ ls.length := SetG.len ltC_ord hcs
  have HN := hid (rfnames ac cc cs w1 (by omega) hca)
  have HP := hid (And.intro hcs (And.intro hca hc1))
  clear hcs hca hc1 HS
  go_wp2_with fail
  refine HN.out.mono ?_
  rintro e w2 ⟨ns, an, cn, rfl, hns, hst, hc2⟩
  have hnl : ns.length ≤ cs.length * 4 := by
    have := nodup_length ns (whosOf cs) hns.1.nodup (fun x hx => ((hns.2 x).1 hx).1)
    rwa [whosOf_len] at this
  have hmul : cs.length * ns.length ≤ 4000000 := Nat.le_trans (Nat.mul_le_mul (Nat.le_trans hcl hn) (Nat.le_trans hnl (Nat.mul_le_mul_right 4 (Nat.le_trans hcl hn)))) (by decide)
  have HC2 := hid (HP.out.2.2.trans hc2 (fun _ _ h => h))
  have hca2 := hid (HP.out.2.1.keep hc2 (fun _ _ => id))
  have hst2 := hid hst
  have HNS := hid hns
  have HCS := hid HP.out.1
  have HXL : Hid (∀ xs : List FactB, PartM cs xs → xs.length ≤ cs.length * ns.length) := hid (fun xs hx => hx.len hns)
  clear hst hns hc2 HN HP
  go_wp2
  go_loopw [5] (fun v wr => ∃ (xs : List FactB) (ax : Option Addr) (cx : Nat), v = .slice ax xs.length cx ∧ Hid (PartM cs xs) ∧ OwnF w2.heap.size wr (.slice ax xs.length cx) xs ∧ Chg (fun _ => False) w2 wr) (fun v _ => cs.length * ns.length + 1 - lenOfV v)
  case atStart => exact ⟨[], none, 0, rfl, hid (PartM.nil cs), World.ownsRow_nil _ _ _ _, Chg.refl _ _⟩
  case round =>
    obtain ⟨xs, ax, cx, rfl, hpm, ho, hc⟩ := hrel
    have hxl := HXL.out xs hpm.out
    go_wp2
    go_loopw [5, 6, 17] (fun v cm i wr => ∃ (k : Nat) (ys : List FactB) (came : Bool) (ay : Option Addr) (cy : Nat), v = .slice ay ys.length cy ∧ cm = .bool came ∧ i = .int .i64 k ∧ k ≤ cs.length ∧ Hid (RoundM cs ns xs k came ys) ∧ OwnF w2.heap.size wr (.slice ay ys.length cy) ys ∧ Chg (fun _ => False) w2 wr) (fun _ _ i _ => cs.length - (intOf i).toNat)
    case atStart => exact ⟨0, xs, false, ax, cx, rfl, rfl, rfl, Nat.zero_le _, hid (RoundM.start hpm.out), ho, hc⟩
    case round =>
      obtain ⟨k, ys, came, ay, cy, rfl, rfl, rfl, hk, hrd, ho1, hc1⟩ := hrel
      clear ho hc
      by_cases hlt : k < cs.length
      · obtain ⟨b, off, hac, _, hcat, hcsh⟩ := (hca2.out.keep hc1 (fun _ _ => id)) k hlt
        have HCM : Hid (cs[k] ∈ cs ∧ isCred cs[k] = true) := hid ⟨List.getElem_mem hlt, ((HCS.out.2 _).1 (List.getElem_mem hlt)).2⟩
        have HDN : Hid (∀ came zs, InnerM cs ns xs k cs[k] ns.length came zs → RoundM cs ns xs (k + 1) came zs) := hid (fun came zs hz => hz.done hlt)
        have HKL := hid hlt
        generalize cs[k] = c at *
        obtain ⟨c0, c1, c2, c3, c4, c5, c6, c7, c8⟩ := hcat
        have hS : (wr.alloc (.cells #[.int .i64 c.kind, .string ⟨c.head.1.toArray⟩, .string ⟨c.head.2.toArray⟩, .string ⟨c.who.toArray⟩, .string ⟨c.b.1.toArray⟩, .string ⟨c.b.2.toArray⟩, .string ⟨c.c.1.toArray⟩, .string ⟨c.c.2.toArray⟩, .string ⟨c.w2.toArray⟩] 47)).heap[wr.heap.size]? = some (.cells (credBox c) 47 (0, 0)) := heap_alloc_new wr _
        have hal : Chg (fun _ => False) wr (wr.alloc (.cells #[.int .i64 c.kind, .string ⟨c.head.1.toArray⟩, .string ⟨c.head.2.toArray⟩, .string ⟨c.who.toArray⟩, .string ⟨c.b.1.toArray⟩, .string ⟨c.b.2.toArray⟩, .string ⟨c.c.1.toArray⟩, .string ⟨c.c.2.toArray⟩, .string ⟨c.w2.toArray⟩] 47)) := (Chg.refl _ wr).alloc _
        have HO := hid (And.intro (World.ownsRow.alloc ho1 (.cells #[.int .i64 c.kind, .string ⟨c.head.1.toArray⟩, .string ⟨c.head.2.toArray⟩, .string ⟨c.who.toArray⟩, .string ⟨c.b.1.toArray⟩, .string ⟨c.b.2.toArray⟩, .string ⟨c.c.1.toArray⟩, .string ⟨c.c.2.toArray⟩, .string ⟨c.w2.toArray⟩] 47)) (hc1.trans hal (fun _ _ h => h)))
        have HIS := hid hS
        have HSZ := hid hc1.size
        subst hac
        clear hcsh hS hal ho1 hc1
        go_wp2
        clear c0 c1 c2 c3 c4 c5 c6 c7 c8
        generalize wr.alloc (.cells #[.int .i64 c.kind, .string ⟨c.head.1.toArray⟩, .string ⟨c.head.2.toArray⟩, .string ⟨c.who.toArray⟩, .string ⟨c.b.1.toArray⟩, .string ⟨c.b.2.toArray⟩, .string ⟨c.c.1.toArray⟩, .string ⟨c.c.2.toArray⟩, .string ⟨c.w2.toArray⟩] 47) = w4 at *
        generalize wr.heap.size = Cb at *
        go_loopw [5, 6, 23] (fun v cm i wr => ∃ (j : Nat) (zs : List FactB) (came : Bool) (az : Option Addr) (cz : Nat), v = .slice az zs.length cz ∧ cm = .bool came ∧ i = .int .i64 j ∧ j ≤ ns.length ∧ Hid (InnerM cs ns xs k c j came zs) ∧ OwnF w2.heap.size wr (.slice az zs.length cz) zs ∧ Chg (fun _ => False) w2 wr ∧ wr.heap[Cb]? = some (.cells (credBox c) 47 (0, 0))) (fun _ _ i _ => ns.length - (intOf i).toNat)
        case atStart => exact ⟨0, ys, came, ay, cy, rfl, rfl, rfl, Nat.zero_le _, hid (hrd.out.inner c), HO.out.1, HO.out.2, HIS.out⟩
        case round =>
          obtain ⟨j, zs, came, az, cz, rfl, rfl, rfl, hj, hin, ho1, hc1, hCb⟩ := hrel
          clear HIS HO
          by_cases hjl : j < ns.length
          · obtain ⟨b2, off2, han, _, hsat, _⟩ := (hst2.out.keep hc1 (fun _ _ => id)) j hjl
            have HNO : Hid (okF zs c ns ns[j] → InnerM cs ns xs k c (j + 1) came zs) := hid (fun hok => hin.out.no hjl hok)
            generalize ns[j] = s at *
            obtain ⟨az6, cz6, hz6, hfa, _⟩ := ho1.facts
            cases hz6
            have hzl := HXL.out zs hin.out.1.1
            have HIN := hid (fun W hW => rfin az cz zs c.head s W (by omega) (hfa.keep hW (fun _ _ => id)))
            have HST := hid (fun W hW => rfstep az an cz cn zs c ns s W (by omega) (by omega) (hfa.keep hW (fun _ _ => id)) (hst2.out.keep (hc1.trans hW (fun _ _ h => h)) (fun _ _ => id)))
            have HJL := hid hjl
            obtain ⟨c0, c1, c2, c3, c4, c5, c6, c7, c8⟩ := cred_at_blk hCb
            simp only [Nat.zero_add] at c0 c1 c2 c3 c4 c5 c6 c7 c8
            have HO := hid (And.intro ho1 (And.intro hc1 hCb))
            clear hfa ho1 hc1 hCb
            subst han
            go_wp2_with fail
            refine (HIN.out wr (Chg.refl _ _)).mono ?_
            rintro e w5 ⟨rfl, hc5⟩
            replace c0 := hc5.cell c0 id
            replace c1 := hc5.cell c1 id
            replace c2 := hc5.cell c2 id
            replace c3 := hc5.cell c3 id
            replace c4 := hc5.cell c4 id
            replace c5 := hc5.cell c5 id
            replace c6 := hc5.cell c6 id
            replace c7 := hc5.cell c7 id
            replace c8 := hc5.cell c8 id
            have HC5 := hid hc5
            clear hc5
            cases hin1 : inF zs c.head s with
            | true =>
              have HE := hid (HNO.out (Or.inl hin1))
              clear hin1
              go_wp2
              go_roundw
              case rel => exact ⟨j + 1, zs, came, az, cz, rfl, rfl, by go_num, by have := HJL.out; omega, HE, World.ownsRow_keepF HO.out.1 HC5.out, HO.out.2.1.trans HC5.out (fun _ _ h => h), blk_keep HO.out.2.2 HC5.out id⟩
              case measure => have := HJL.out; simp [intOf]; omega
            | false =>
              go_wp2_with fail
              refine (HST.out w5 HC5.out).mono ?_
              rintro e w6 ⟨rfl, hc6⟩
              have hc6 := HC5.out.trans hc6 (fun _ _ h => h)
              have HQ := hid (And.intro (World.ownsRow_keepF HO.out.1 hc6) (And.intro (HO.out.2.1.trans hc6 (fun _ _ h => h)) (blk_keep HO.out.2.2 hc6 id)))
              obtain ⟨d0, d1, d2, d3, d4, d5, d6, d7, d8⟩ := cred_at_blk HQ.out.2.2
              simp only [Nat.zero_add] at d0 d1 d2 d3 d4 d5 d6 d7 d8
              clear HO HC5 hc6 c0 c1 c2 c3 c4 c5 c6 c7 c8
              cases hst1 : stepF zs c ns s with
              | false =>
                have HE := hid (HNO.out (Or.inr hst1))
                clear hin1 hst1
                go_wp2
                go_roundw
                case rel => exact ⟨j + 1, zs, came, az, cz, rfl, rfl, by go_num, by have := HJL.out; omega, HE, HQ.out.1, HQ.out.2.1, HQ.out.2.2⟩
                case measure => have := HJL.out; simp [intOf]; omega
              | true =>
                have HE := hid (hin.out.yes HCM.out.1 HCM.out.2 hin1 hst1)
                have hsz := HQ.out.2.1.size
                clear hin1 hst1
                go_wp2_with (at_builtin; refine wpList_append_own_at _ rfl (.tmp 40) (.tmp 45) 29 rfl w2.heap.size 52 i0 (.agg #[.string ⟨#[]⟩, .string ⟨#[]⟩, .string ⟨#[]⟩]) 3 48 Tryz.underlying29 HI.out.1 HI.out.2.1 HI.out.2.2.1 HI.out.2.2.2 rfl (by decide) _ _ _ rfl (World.ownsRow.alloc HQ.out.1 _) ⟨w6.heap.size, 0, none⟩ 1 1 (factCells (c.head, s)) rfl rfl ?c1 ?c2 ?c3 ?c4 ?c5 ?_)
                case c1 => exact fun i u hi => fact_cells_new w6 (c.head, s) i u hi
                case c2 => exact fact_one (c.head, s)
                case c3 => unfold maxLen; omega
                case c4 => omega
                case c5 => simp; omega
                intro v' w7 hown hgrow _ _
                have hl : (zs ++ [(c.head, s)]).length = zs.length + 1 := by simp
                have ho2 : OwnF w2.heap.size w7 v' (zs ++ [(c.head, s)]) := by
                  unfold OwnF
                  rw [hl, factRow_snoc]
                  exact hown
                have hgb : ∀ k, Value.ownBlock (.slice az zs.length cz) = some k → k ≠ Cb := fun k e hk => by
                  subst hk
                  exact own_not_cred HQ.out.1 e HQ.out.2.2
                have hg2 := (Chg.refl (fun k => k ≠ Cb) _).grown hgrow (fun k e _ => hgb k e)
                have hCb7 : w7.heap[Cb]? = some (.cells (credBox c) 47 (0, 0)) := blk_keep (blk_keep HQ.out.2.2 ((Chg.refl (fun _ => False) _).alloc _) id) hg2 (fun h => h rfl)
                have hc7 : Chg (fun _ => False) w2 w7 := (HQ.out.2.1.alloc _).grown hgrow (fun k e hk => by have := (ownsRow_lt HQ.out.1 k e).1; omega)
                obtain ⟨ao5, cap5, hv5⟩ := ho2.shape
                subst hv5
                have HY := hid (And.intro ho2 (And.intro hc7 hCb7))
                have HL := hid hl
                clear hown hgrow HQ ho2 hc7 hCb7 hg2 hgb hsz d0 d1 d2 d3 d4 d5 d6 d7 d8
                rw [hl]
                clear hl
                go_wp2
                go_roundw
                case rel => exact ⟨j + 1, zs ++ [(c.head, s)], true, ao5, cap5, by rw [HL.out], rfl, by go_num, by have := HJL.out; omega, HE, HY.out.1, HY.out.2.1, HY.out.2.2⟩
                case measure => have := HJL.out; simp [intOf]; omega
          · have hj2 : j = ns.length := by omega
            have HE : Hid (RoundM cs ns xs (k + 1) came zs) := hid (HDN.out came zs (by have := hin.out; rwa [hj2] at this))
            have HO := hid (And.intro ho1 hc1)
            clear hj2 ho1 hc1 hCb
            go_wp2
            go_roundw
            case rel => exact ⟨k + 1, zs, came, az, cz, rfl, rfl, by go_num, by have := HKL.out; omega, HE, HO.out.1, HO.out.2⟩
            case measure => have := HKL.out; simp [intOf]; omega
      · have hk2 : k = cs.length := by omega
        have HE : Hid (RoundM cs ns xs cs.length came ys) := hid (by have := hrd.out; rwa [hk2] at this)
        have HO := hid (And.intro ho1 hc1)
        have HX := hid hxl
        clear hk2 ho1 hc1 hrd
        cases came with
        | true =>
          have hyl := HXL.out ys HE.out.1
          have hgt := HE.out.2.1 rfl
          have HM : Hid (xs.length < ys.length ∧ ys.length ≤ cs.length * ns.length) := hid ⟨hgt, hyl⟩
          clear hyl hgt
          go_wp2
          go_roundw
          case rel => exact ⟨ys, ay, cy, rfl, hid HE.out.1, HO.out.1, HO.out.2⟩
          case measure => have := HM.out; simp [lenOfV]; omega
        | false =>
          obtain ⟨ay6, cy6, hy6, hfa, _⟩ := HO.out.1.facts
          cases hy6
          have hyl := HXL.out ys HE.out.1
          have HSO := hid (rfsorted ay cy ys wr (by omega) hfa)
          clear hfa
          go_wp2_with fail
          refine HSO.out.mono ?_
          rintro e w8 ⟨zs, az, cz, rfl, hso, ho8, hc8⟩
          have HZ := hid (And.intro hso (And.intro ho8 hc8))
          clear hso ho8 hc8
          go_wp2
          go_ret
          have hs1 := HC2.out.size
          have hs2 := HO.out.2.size
          exact ⟨zs, az, cz, rfl, HE.out.model HCS.out HNS.out HZ.out.1, HZ.out.2.1.low (by omega), (HC2.out.trans HO.out.2 (fun _ _ h => h)).trans HZ.out.2.2 (fun _ _ h => h)⟩
end Go.Proofs.YtanompfdjfgfbaaGreat

/- The contract of the document's Members, of layer 8. -/
namespace Go.Proofs.YtanompfdjfgfbaaGreat
open Go.RowKit
attribute [local go_sem ↓ high] run_eqg_role run_eql_role

theorem membersF_snoc (ls : List FactB) (q : FactB) (r : RoleB) : membersF (ls ++ [q]) r = membersF ls r ++ (if q.1 = r then [q.2] else []) := by
  unfold membersF
  rw [List.filter_append, List.map_append]
  congr 1
  by_cases h : q.1 = r
  · simp [h]
  · simp [h]

theorem ownsRow_lowF {B A : Nat} {w : World} {ty : TypeId} {n : Nat} {v : Value} {len : Nat} {row : List Value} (h : w.ownsRow B ty n v len row) (hA : A ≤ B) : w.ownsRow A ty n v len row := by
  rcases h with ⟨h1, h2 | ⟨g, cap, cur, h3, h4, h5⟩⟩
  · exact ⟨h1, .inl h2⟩
  · exact ⟨h1, .inr ⟨g, cap, cur, h3, Nat.le_trans hA h4, h5⟩⟩

set_option maxRecDepth 100000 in
set_option maxHeartbeats 2000000 in
theorem rfmembers {D : Nat → Prop} (ao : Option Addr) (cp : Nat) (ls : List FactB) (r : RoleB) (w : World) (hn : ls.length ≤ 4194304) (h : FactsAt D w ao ls) :
    Calls Tryz.prog 16 #[.slice ao ls.length cp, .agg #[.string ⟨r.1.toArray⟩, .string ⟨r.2.toArray⟩]] w fun e w' => ∃ ao' cap', e = .returned (.slice ao' (membersF ls r).length cap') ∧ OwnS w.heap.size w' (.slice ao' (membersF ls r).length cap') (membersF ls r) ∧ Chg (fun _ => False) w w' := by
  obtain ⟨i0, hi, hz0, hz1, hz2⟩ := info_parts Tryz.info9
  have HI := hid (And.intro hi (And.intro hz0 (And.intro hz1 hz2)))
  clear hi hz0 hz1 hz2
  have hc0 : Chg (fun _ => False) w (w.alloc (.cells #[.string ⟨r.1.toArray⟩, .string ⟨r.2.toArray⟩] 24)) := (Chg.refl _ w).alloc _
  have hA := heap_alloc_new w (.cells #[.string ⟨r.1.toArray⟩, .string ⟨r.2.toArray⟩] 24)
  have HH := hid (And.intro hA (And.intro hc0 (h.keep hc0 (fun _ _ => id))))
  clear hc0 hA h
  go_enter Tryz.func16, Tryz.ntmps16
  go_wp2
  obtain ⟨hA, hc0, h⟩ := HH.out
  clear HH
  generalize (w.alloc (.cells #[.string ⟨r.1.toArray⟩, .string ⟨r.2.toArray⟩] 24)) = w1 at *
  generalize hAw : w.heap.size = A at *
  have HB : Hid (A ≤ w1.heap.size) := hid (by have := hc0.size; omega)
  have HX := hid (And.intro hA (And.intro hc0 h))
  have HW := hid hAw
  clear hA hc0 h hAw
  go_loopw [5, 10] (fun v i wr => ∃ (k : Nat) (out : List (List UInt8)) (ao' : Option Addr) (cap' : Nat), k ≤ ls.length ∧ i = .int .i64 k ∧ v = .slice ao' out.length cap' ∧ Hid (out = membersF (ls.take k) r) ∧ out.length ≤ k ∧ OwnS w1.heap.size wr (.slice ao' out.length cap') out ∧ Chg (fun _ => False) w1 wr) (fun _ i _ => ls.length - (intOf i).toNat)
  case atStart => exact ⟨0, [], none, 0, Nat.zero_le _, rfl, rfl, hid rfl, Nat.zero_le _, World.ownsRow_nil _ _ _ _, Chg.refl _ _⟩
  case round =>
    obtain ⟨k, out, ao', cap', hk, rfl, rfl, hout, hol, ho, hc1⟩ := hrel
    have hA1 := blk_keep HX.out.1 hc1 id
    by_cases hlt : k < ls.length
    · obtain ⟨b, off, hao, _, ⟨a0, a1, a2⟩⟩ := (HX.out.2.2.keep hc1 (fun _ _ => id)) k hlt
      have HT : Hid (membersF (ls.take (k + 1)) r = membersF (ls.take k) r ++ (if ls[k].1 = r then [ls[k].2] else [])) := hid (by rw [List.take_succ_eq_append_getElem hlt, membersF_snoc])
      generalize ls[k] = q at *
      have hA2 := blk_keep hA1 ((Chg.refl (fun _ => False) wr).alloc (.cells #[.string ⟨q.1.1.toArray⟩, .string ⟨q.1.2.toArray⟩, .string ⟨q.2.toArray⟩] 52)) id
      have r0 := cell_blk hA2 0
      have r1 := cell_blk hA2 1
      simp only [List.getElem?_toArray, List.getElem?_cons_zero, List.getElem?_cons_succ] at r0 r1
      have hcA : Chg (fun _ => False) wr (wr.alloc (.cells #[.string ⟨q.1.1.toArray⟩, .string ⟨q.1.2.toArray⟩, .string ⟨q.2.toArray⟩] 52)) := (Chg.refl _ wr).alloc _
      have HO := hid (And.intro (World.ownsRow.alloc ho (.cells #[.string ⟨q.1.1.toArray⟩, .string ⟨q.1.2.toArray⟩, .string ⟨q.2.toArray⟩] 52)) (And.intro (hc1.trans hcA (fun _ _ h => h)) hc1.size))
      subst hao
      clear hA1 hA2 hcA ho hc1
      by_cases hr : q.1 = r
      · have d1 : decide (q.1 = r) = true := decide_eq_true hr
        have HE : Hid (out ++ [q.2] = membersF (ls.take (k + 1)) r) := hid (by rw [HT.out, if_pos hr, hout.out])
        clear hr HT hout
        go_wp2_with (at_builtin; refine wpList_append_own_at _ rfl (.tmp 18) (.tmp 21) 36 rfl w1.heap.size 9 i0 (.string ⟨#[]⟩) 1 16 Tryz.underlying36 HI.out.1 HI.out.2.1 HI.out.2.2.1 HI.out.2.2.2 rfl (by decide) _ _ _ rfl (World.ownsRow.alloc HO.out.1 _) ⟨wr.heap.size + 1, 0, none⟩ 1 1 [.string ⟨q.2.toArray⟩] rfl rfl ?c1 ?c2 ?c3 ?c4 ?c5 ?_)
        case c1 =>
          intro j u hj
          have hq := heap_alloc_new (wr.alloc (.cells #[.string ⟨q.1.1.toArray⟩, .string ⟨q.1.2.toArray⟩, .string ⟨q.2.toArray⟩] 52)) (.cells #[.string ⟨q.2.toArray⟩] 9)
          rw [World.size_alloc] at hq
          rw [add_off, cell_blk hq, Nat.zero_add]
          show ([.string ⟨q.2.toArray⟩]).toArray[j]? = some u
          rw [List.getElem?_toArray]
          exact hj
        case c2 => intro u hu; simp only [List.mem_cons, List.not_mem_nil, or_false] at hu; rcases hu with rfl; rfl
        case c3 => unfold maxLen; omega
        case c4 => omega
        case c5 => have := HO.out.2.2; simp; omega
        intro v' w3 hown hgrow _ _
        have ho2 : OwnS w1.heap.size w3 v' (out ++ [q.2]) := by
          unfold OwnS
          rw [List.map_append, List.length_append]
          exact hown
        have hc7 : Chg (fun _ => False) w1 w3 := (HO.out.2.1.alloc _).grown hgrow (fun k e hk => by have := (ownsRow_lt HO.out.1 k e).1; omega)
        have hl : (out ++ [q.2]).length = out.length + 1 := by simp
        obtain ⟨ao5, cap5, hv5⟩ : ∃ ao5 cap5, v' = .slice ao5 (out.length + 1) cap5 := by
          rcases ho2.2 with ⟨_, h0⟩ | ⟨g, cap, cur, hv, _⟩
          · rw [hl] at h0; omega
          · exact ⟨_, _, by rw [hv, hl]⟩
        subst hv5
        have HY := hid (And.intro ho2 hc7)
        clear hown hgrow ho2 hc7 HO hl
        go_wp2
        go_roundw
        case rel => exact ⟨k + 1, _, ao5, cap5, by omega, by go_num, by simp, HE, by simp; omega, by simpa using HY.out.1, HY.out.2⟩
        case measure => simp [intOf]; omega
      · have d1 : decide (q.1 = r) = false := decide_eq_false hr
        have HE : Hid (out = membersF (ls.take (k + 1)) r) := hid (by rw [HT.out, if_neg hr, hout.out, List.append_nil])
        clear hr HT hout
        go_wp2
        go_roundw
        case rel => exact ⟨k + 1, out, ao', cap', by omega, by go_num, rfl, HE, by omega, HO.out.1, HO.out.2.1⟩
        case measure => simp [intOf]; omega
    · have hk2 : k = ls.length := by omega
      have hh : Hid (out = membersF ls r) := hid (by have := hout.out; rwa [hk2, List.take_length] at this)
      have HC := hid hc1
      have HO := hid ho
      clear hc1 hk2 hout ho hA1
      go_wp2
      go_ret
      rw [← hh.out]
      exact ⟨ao', cap', rfl, ownsRow_lowF HO.out (HW.out ▸ HB.out), HX.out.2.1.trans HC.out (fun _ _ h => h)⟩
end Go.Proofs.YtanompfdjfgfbaaGreat

/- The contract of the document's Roles, of layer 8. -/
namespace Go.Proofs.YtanompfdjfgfbaaGreat
open Go.RowKit
attribute [local go_sem ↓ high] run_eqg_role run_eql_role

theorem rolesF_snoc (ls : List FactB) (q : FactB) (s : List UInt8) : rolesF (ls ++ [q]) s = rolesF ls s ++ (if q.2 = s then [q.1] else []) := by
  unfold rolesF
  rw [List.filter_append, List.map_append]
  congr 1
  by_cases h : q.2 = s
  · simp [h]
  · simp [h]

set_option maxRecDepth 100000 in
set_option maxHeartbeats 2000000 in
theorem rfroles {D : Nat → Prop} (ao : Option Addr) (cp : Nat) (ls : List FactB) (s : List UInt8) (w : World) (hn : ls.length ≤ 4194304) (h : FactsAt D w ao ls) :
    Calls Tryz.prog 19 #[.slice ao ls.length cp, .string ⟨s.toArray⟩] w fun e w' => ∃ ao' cap', e = .returned (.slice ao' (rolesF ls s).length cap') ∧ OwnR w.heap.size w' (.slice ao' (rolesF ls s).length cap') (rolesF ls s) ∧ Chg (fun _ => False) w w' := by
  obtain ⟨i0, hi, hz0, hz1, hz2⟩ := info_parts Tryz.info24
  have HI := hid (And.intro hi (And.intro hz0 (And.intro hz1 hz2)))
  clear hi hz0 hz1 hz2
  have HX := hid h
  clear h
  go_enter Tryz.func19, Tryz.ntmps19
  go_wp2
  go_loopw [5, 10] (fun v i wr => ∃ (k : Nat) (out : List RoleB) (ao' : Option Addr) (cap' : Nat), k ≤ ls.length ∧ i = .int .i64 k ∧ v = .slice ao' out.length cap' ∧ Hid (out = rolesF (ls.take k) s) ∧ out.length ≤ k ∧ OwnR w.heap.size wr (.slice ao' out.length cap') out ∧ Chg (fun _ => False) w wr) (fun _ i _ => ls.length - (intOf i).toNat)
  case atStart => exact ⟨0, [], none, 0, Nat.zero_le _, rfl, rfl, hid rfl, Nat.zero_le _, World.ownsRow_nil _ _ _ _, Chg.refl _ _⟩
  case round =>
    obtain ⟨k, out, ao', cap', hk, rfl, rfl, hout, hol, ho, hc1⟩ := hrel
    by_cases hlt : k < ls.length
    · obtain ⟨b, off, hao, _, ⟨a0, a1, a2⟩⟩ := (HX.out.keep hc1 (fun _ _ => id)) k hlt
      have HT : Hid (rolesF (ls.take (k + 1)) s = rolesF (ls.take k) s ++ (if ls[k].2 = s then [ls[k].1] else [])) := hid (by rw [List.take_succ_eq_append_getElem hlt, rolesF_snoc])
      generalize ls[k] = q at *
      have hcA : Chg (fun _ => False) wr (wr.alloc (.cells #[.string ⟨q.1.1.toArray⟩, .string ⟨q.1.2.toArray⟩, .string ⟨q.2.toArray⟩] 52)) := (Chg.refl _ wr).alloc _
      have HO := hid (And.intro (World.ownsRow.alloc ho (.cells #[.string ⟨q.1.1.toArray⟩, .string ⟨q.1.2.toArray⟩, .string ⟨q.2.toArray⟩] 52)) (And.intro (hc1.trans hcA (fun _ _ h => h)) hc1.size))
      subst hao
      clear hcA ho hc1
      by_cases hr : q.2 = s
      · have d1 : (q.2 == s) = true := beq_iff_eq.2 hr
        have HE : Hid (out ++ [q.1] = rolesF (ls.take (k + 1)) s) := hid (by rw [HT.out, if_pos hr, hout.out])
        clear hr HT hout
        go_wp2_with (at_builtin; refine wpList_append_own_at _ rfl (.tmp 18) (.tmp 21) 40 rfl w.heap.size 24 i0 (.agg #[.string ⟨#[]⟩, .string ⟨#[]⟩]) 2 32 Tryz.underlying40 HI.out.1 HI.out.2.1 HI.out.2.2.1 HI.out.2.2.2 rfl (by decide) _ _ _ rfl (World.ownsRow.alloc HO.out.1 _) ⟨wr.heap.size + 1, 0, none⟩ 1 1 (roleCells q.1) rfl rfl ?c1 ?c2 ?c3 ?c4 ?c5 ?_)
        case c1 =>
          intro j u hj
          have hq := heap_alloc_new (wr.alloc (.cells #[.string ⟨q.1.1.toArray⟩, .string ⟨q.1.2.toArray⟩, .string ⟨q.2.toArray⟩] 52)) (.cells #[.string ⟨q.1.1.toArray⟩, .string ⟨q.1.2.toArray⟩] 24)
          rw [World.size_alloc] at hq
          rw [add_off, cell_blk hq, Nat.zero_add]
          show ((roleCells q.1)).toArray[j]? = some u
          rw [List.getElem?_toArray]
          exact hj
        case c2 => intro u hu; simp only [roleCells, List.mem_cons, List.not_mem_nil, or_false] at hu; rcases hu with rfl | rfl <;> rfl
        case c3 => unfold maxLen; omega
        case c4 => omega
        case c5 => have := HO.out.2.2; simp; omega
        intro v' w3 hown hgrow _ _
        have ho2 : OwnR w.heap.size w3 v' (out ++ [q.1]) := by
          unfold OwnR
          rw [roleRow_snoc, List.length_append, List.length_singleton]
          exact hown
        have hc7 : Chg (fun _ => False) w w3 := (HO.out.2.1.alloc _).grown hgrow (fun k e hk => by have := (ownsRow_lt HO.out.1 k e).1; omega)
        have hl : (out ++ [q.1]).length = out.length + 1 := by simp
        obtain ⟨ao5, cap5, hv5⟩ : ∃ ao5 cap5, v' = .slice ao5 (out.length + 1) cap5 := by
          rcases ho2.2 with ⟨_, h0⟩ | ⟨g, cap, cur, hv, _⟩
          · rw [hl] at h0; omega
          · exact ⟨_, _, by rw [hv, hl]⟩
        subst hv5
        have HY := hid (And.intro ho2 hc7)
        clear hown hgrow ho2 hc7 HO hl
        go_wp2
        go_roundw
        case rel => exact ⟨k + 1, _, ao5, cap5, by omega, by go_num, by simp, HE, by simp; omega, by simpa using HY.out.1, HY.out.2⟩
        case measure => simp [intOf]; omega
      · have d1 : (q.2 == s) = false := beq_eq_false_iff_ne.2 hr
        have HE : Hid (out = rolesF (ls.take (k + 1)) s) := hid (by rw [HT.out, if_neg hr, hout.out, List.append_nil])
        clear hr HT hout
        go_wp2
        go_roundw
        case rel => exact ⟨k + 1, out, ao', cap', by omega, by go_num, rfl, HE, by omega, HO.out.1, HO.out.2.1⟩
        case measure => simp [intOf]; omega
    · have hk2 : k = ls.length := by omega
      have hh : Hid (out = rolesF ls s) := hid (by have := hout.out; rwa [hk2, List.take_length] at this)
      have HC := hid hc1
      have HO := hid ho
      clear hc1 hk2 hout ho
      go_wp2
      go_ret
      rw [← hh.out]
      exact ⟨ao', cap', rfl, HO.out, HC.out⟩
end Go.Proofs.YtanompfdjfgfbaaGreat

/- How great credentials are: the contract of the law's Great. -/
namespace Go.Proofs.YtanompfdjfgfbaaGreat
open Go.RowKit

/-- How great credentials are. -/
def sizeC (c : CredB) : Nat := 20 + c.head.1.length + c.head.2.length + c.who.length + c.b.1.length + c.b.2.length + c.c.1.length + c.c.2.length + c.w2.length
def totalC : List CredB → Nat
  | [] => 0
  | c :: l => sizeC c + totalC l

theorem totalC_append (a b : List CredB) : totalC (a ++ b) = totalC a + totalC b := by
  induction a with
  | nil => simp [totalC]
  | cons x l ih => rw [List.cons_append, totalC, totalC, ih]; omega

theorem totalC_len (a : List CredB) : a.length ≤ totalC a := by
  induction a with
  | nil => simp [totalC]
  | cons x l ih => rw [totalC, List.length_cons, sizeC]; omega

theorem totalC_mem {a : List CredB} {x : CredB} (h : x ∈ a) : sizeC x ≤ totalC a := by
  induction a with
  | nil => simp at h
  | cons y l ih =>
    rw [totalC]
    rcases List.mem_cons.1 h with rfl | h
    · omega
    · have := ih h; omega

theorem totalC_take (ls : List CredB) (k : Nat) (h : k < ls.length) : totalC (ls.take (k + 1)) = totalC (ls.take k) + sizeC ls[k] := by
  rw [List.take_succ_eq_append_getElem h, totalC_append]; simp [totalC]

theorem totalC_take_le (ls : List CredB) (k : Nat) : totalC (ls.take k) ≤ totalC ls := by
  conv => rhs; rw [← List.take_append_drop k ls]
  rw [totalC_append]; omega

theorem sizeC_short {c : CredB} {n : Nat} (h : sizeC c ≤ n) : credShort c n := by
  unfold sizeC at h
  exact ⟨by omega, by omega, by omega, by omega, by omega, by omega, by omega, by omega⟩

set_option maxRecDepth 100000 in
set_option maxHeartbeats 2000000 in
theorem great_any {D : Nat → Prop} (ao : Option Addr) (cp : Nat) (ls : List CredB) (w : World) (hn : totalC ls ≤ 4503599627370496) (h : CredsAt D w ao ls) :
    Calls Tryz.prog 7 #[.slice ao ls.length cp] w fun e w' => e = .returned (.int .i64 (totalC ls)) ∧ Chg (fun _ => False) w w' := by
  have hl := totalC_len ls
  go_enter Tryz.func7, Tryz.ntmps7
  go_wp2
  go_loopw [3, 8] (fun n i wr => ∃ k m : Nat, k ≤ ls.length ∧ i = .int .i64 k ∧ n = .int .i64 m ∧ Hid (m = totalC (ls.take k)) ∧ m ≤ 4503599627370496 ∧ Chg (fun _ => False) w wr) (fun _ i _ => ls.length - (intOf i).toNat)
  case atStart => exact ⟨0, 0, Nat.zero_le _, rfl, rfl, rfl, by omega, Chg.refl _ _⟩
  case round =>
    obtain ⟨k, m, hk, rfl, rfl, hm, hml, hc⟩ := hrel
    by_cases hlt : k < ls.length
    · obtain ⟨b, off, rfl, _, hat, hs⟩ := (h.keep hc (fun _ _ => id)) k hlt
      have ht := totalC_take ls k hlt
      have hle := totalC_take_le ls (k + 1)
      rw [ht, ← hm.out] at hle
      have hx : Hid (m + sizeC ls[k] = totalC (ls.take (k + 1))) := hid (by rw [ht, hm.out])
      clear h ht
      have hsl2 : m + sizeC ls[k] ≤ 4503599627370496 := by omega
      clear hle
      generalize ls[k] = s at *
      obtain ⟨kk, ⟨ho, hw⟩, who, ⟨bo, bw⟩, ⟨co, cw⟩, w2⟩ := s
      obtain ⟨a0, a1, a2, a3, a4, a5, a6, a7, a8⟩ := hat
      obtain ⟨s1, s2, s3, s4, s5, s6, s7, s8⟩ := hs
      simp only [sizeC] at a0 a1 a2 a3 a4 a5 a6 a7 a8 s1 s2 s3 s4 s5 s6 s7 s8 hx hsl2
      have HC := hid hc
      clear hc
      go_wp2
      go_roundw
      case rel => exact ⟨k + 1, m + (20 + ho.length + hw.length + who.length + bo.length + bw.length + co.length + cw.length + w2.length), by omega, by go_num, by go_num, hx, hsl2, HC.out.alloc _⟩
      case measure => simp [intOf]; omega
    · have hk2 : k = ls.length := by omega
      have hx : m = totalC ls := by have := hm.out; rwa [List.take_of_length_le (by omega)] at this
      subst hx
      have HC := hid hc
      clear h hc
      go_wp2
      go_ret
      exact ⟨rfl, HC.out⟩

end Go.Proofs.YtanompfdjfgfbaaGreat

/- The contract of the document's Same of layer 4. -/
namespace Go.Proofs.YtanompfdjfgfbaaGreat
open Go.RowKit


set_option maxRecDepth 100000 in
theorem rsame_ref {D1 D2 : Nat → Prop} (a1 a2 : Option Addr) (c1 c2 : Nat) (l1 l2 : List RoleB) (w : World) (hn : l1.length ≤ 4611686018427387904) (hm : l2.length ≤ 4611686018427387904) (h1 : RolesAt D1 w a1 l1) (h2 : RolesAt D2 w a2 l2) :
    Calls Tryz.prog 17 #[.slice a1 l1.length c1, .slice a2 l2.length c2] w fun e w' => e = .returned (.bool (sameR l1 l2)) ∧ ∃ n, w' = w.drewN n := by
  by_cases hl : l1.length = l2.length
  · have z1 : ((l1.length : Int) != (l2.length : Int)) = false := by simp; omega
    have HL := hid hl
    have hl1 : l1.length ≤ l2.length := by omega
    have hl2 : l2.length ≤ l1.length := by omega
    clear hl
    go_enter Tryz.func17, Tryz.ntmps17
    go_wp2
    go_loopw [13] (fun i wr => ∃ k n : Nat, k ≤ l1.length ∧ i = .int .i64 k ∧ wr = w.drewN n ∧ Hid (l1.take k = l2.take k)) (fun i _ => l1.length - (intOf i).toNat)
    case atStart => exact ⟨0, 0, Nat.zero_le _, rfl, rfl, by rw [List.take_zero, List.take_zero]; rfl⟩
    case round =>
      obtain ⟨k, n, hk, rfl, rfl, hc⟩ := hrel
      by_cases hlt : k < l1.length
      · obtain ⟨b, off, rfl, _, q0, q1, _⟩ := h1 k hlt
        obtain ⟨b2, off2, rfl, _, q2, q3, _⟩ := h2 k (by omega)
        clear h1 h2
        have e0 : (0 : Int) ≤ (k : Int) := by omega
        have e1 : (k : Int) < (l1.length : Int) := by omega
        have e2 : (k : Int) < (l2.length : Int) := by omega
        have hx1 : Hid (l1[k] = l2[k]'(by omega) → l1.take (k + 1) = l2.take (k + 1)) := hid (fun he => by rw [List.take_succ_eq_append_getElem hlt, List.take_succ_eq_append_getElem (HL.out ▸ hlt), hc.out, he])
        have hx2 : Hid (l1[k] ≠ l2[k]'(by omega) → sameR l1 l2 = false) := hid (fun he => by
          simp only [sameR, beq_eq_false_iff_ne, ne_eq]
          intro h
          subst h
          exact he rfl)
        generalize l1[k] = s1 at *
        generalize l2[k]'(by omega) = s2 at *
        obtain ⟨o, x⟩ := s1
        obtain ⟨p, y⟩ := s2
        by_cases f1 : o = p
        · subst f1
          have g1 : (o == o) = true := by simp
          by_cases f2 : x = y
          · subst f2
            have g2 : (x == x) = true := by simp
            have hx := hid (hx1.out rfl)
            go_wp2
            go_quiet (fail)
            go_wp2
            go_roundw
            case rel => exact ⟨k + 1, n + nq, by omega, by go_num, rfl, hx⟩
            case measure => simp [intOf]; omega
          · have g2 : (x == y) = false := by simpa using f2
            have hx := hid (hx2.out (fun h => f2 (congrArg Prod.snd h)))
            clear f2
            go_wp2
            go_quiet (fail)
            go_wp2
            go_ret
            exact ⟨by rw [hx.out]; rfl, _, drewN_add w n nq⟩
        · have g1 : (o == p) = false := by simpa using f1
          have hx := hid (hx2.out (fun h => f1 (congrArg Prod.fst h)))
          clear f1
          go_wp2
          go_quiet (fail)
          go_wp2
          go_ret
          exact ⟨by rw [hx.out]; rfl, _, drewN_add w n nq⟩
      · have hk2 : k = l1.length := by omega
        subst hk2
        have hx : Hid (sameR l1 l2 = true) := by
          have := hc.out
          rw [List.take_of_length_le (Nat.le_refl _), List.take_of_length_le (by rw [HL.out]; omega)] at this
          exact hid (by simp [sameR, this])
        clear h1 h2
        go_wp2
        go_ret
        exact ⟨by rw [hx.out]; rfl, n, rfl⟩
  · have z1 : ((l1.length : Int) != (l2.length : Int)) = true := by simp; omega
    have hx : Hid (sameR l1 l2 = false) := by
      refine hid ?_
      simp only [sameR, beq_eq_false_iff_ne, ne_eq]
      intro h
      exact hl (congrArg List.length h)
    go_enter Tryz.func17, Tryz.ntmps17
    go_wp2
    go_ret
    exact ⟨by rw [hx.out]; rfl, 0, rfl⟩
end Go.Proofs.YtanompfdjfgfbaaGreat

/- What the laws of layer 8 ask of the program's model: its contracts, as the fields of a structure. -/
namespace Go.Proofs.YtanompfdjfgfbaaGreat
open Go.RowKit

/-- Few credentials, of short texts. -/
def SmallC (ls : List CredB) : Prop := ls.length ≤ 1000 ∧ ∀ c ∈ ls, credShort c 100000

theorem totalC_len20 (a : List CredB) : a.length * 20 ≤ totalC a := by
  induction a with
  | nil => simp [totalC]
  | cons x l ih => rw [totalC, List.length_cons, sizeC]; omega

theorem SmallC.of {ls : List CredB} (h : totalC ls ≤ 20000) : SmallC ls :=
  ⟨by have := totalC_len20 ls; omega, fun _ hc => (sizeC_short (Nat.le_trans (totalC_mem hc) h)).mono (by omega)⟩

/-- The texts of a fact that follows are short. -/
theorem ModelOf.short {ls : List CredB} {xs : List FactB} (h : ModelOf ls xs) : ∀ f ∈ xs, factShort f 16 := fun f hf => by
  have hd := (h.2 f).1 hf
  obtain ⟨c, _, hr, e⟩ := hd.head
  obtain ⟨c2, _, hr2, hk2, e2⟩ := hd.who
  have h1 := isCred_short hr
  refine ⟨?_, ?_, ?_⟩
  · rw [← e]; exact h1.1
  · rw [← e]; exact h1.2.1
  · rw [← e2]; exact (isName_len (isCred_member hr2 hk2)).2

theorem ModelOf.len {ls : List CredB} {xs : List FactB} (h : ModelOf ls xs) : xs.length ≤ ls.length * (ls.length * 4) := by
  have := facts_le (rs := ls.map (·.head)) (ns := whosOf ls) (h.1.nodup ltF_ord) (fun f hf => by
    have hd := (h.2 f).1 hf
    refine ⟨?_, ?_⟩
    · obtain ⟨c, hc, _, e⟩ := hd.head
      exact List.mem_map.2 ⟨c, hc, e⟩
    · obtain ⟨c, hc, hr, hk, e⟩ := hd.who
      rw [← e]
      exact whosOf_who hc)
  rwa [List.length_map, whosOf_len] at this

theorem ModelOf.few {ls : List CredB} {xs : List FactB} (h : ModelOf ls xs) (hs : SmallC ls) : xs.length ≤ 4000000 :=
  Nat.le_trans h.len (Nat.le_trans (Nat.mul_le_mul hs.1 (Nat.mul_le_mul_right 4 hs.1)) (by decide))

theorem membersF_len (xs : List FactB) (r : RoleB) : (membersF xs r).length ≤ xs.length := by
  unfold membersF
  rw [List.length_map]
  exact List.length_filter_le ..
theorem rolesF_len (xs : List FactB) (s : List UInt8) : (rolesF xs s).length ≤ xs.length := by
  unfold rolesF
  rw [List.length_map]
  exact List.length_filter_le ..
theorem membersF_short {ls : List CredB} {xs : List FactB} (h : ModelOf ls xs) (r : RoleB) : ∀ x ∈ membersF xs r, x.length ≤ 9223372036854775807 := fun x hx => by
  unfold membersF at hx
  obtain ⟨f, hf, rfl⟩ := List.mem_map.1 hx
  have := (h.short f (List.mem_filter.1 hf).1).2.2
  omega
theorem rolesF_short {ls : List CredB} {xs : List FactB} (h : ModelOf ls xs) (s : List UInt8) : ∀ x ∈ rolesF xs s, x.1.length ≤ 9223372036854775807 ∧ x.2.length ≤ 9223372036854775807 := fun x hx => by
  unfold rolesF at hx
  obtain ⟨f, hf, rfl⟩ := List.mem_map.1 hx
  have := h.short f (List.mem_filter.1 hf).1
  exact ⟨by have := this.1; omega, by have := this.2.1; omega⟩

/-- Lists, told. -/
def TellsF (xs : List FactB) (e : Ending) (w' : World) : Prop := ∃ ao cap, e = .returned (.slice ao xs.length cap) ∧ FactsAt (fun _ => True) w' ao xs
def TellsS (xs : List (List UInt8)) (e : Ending) (w' : World) : Prop := ∃ ao cap, e = .returned (.slice ao xs.length cap) ∧ StrsAt (fun _ => True) w' ao xs
def TellsR (xs : List RoleB) (e : Ending) (w' : World) : Prop := ∃ ao cap, e = .returned (.slice ao xs.length cap) ∧ RolesAt (fun _ => True) w' ao xs
def Tells0 (e : Ending) : Prop := ∃ ao cap, e = .returned (.slice ao 0 cap)

/-- Does a credential bring somebody by one step, if p says who is in which role? -/
def stepP (p : RoleB → List UInt8 → Bool) (c : CredB) (names : List (List UInt8)) (w : List UInt8) : Bool :=
  if c.kind = 1 then c.who == w else if c.kind = 2 then p c.b w else if c.kind = 4 then p c.b w && p c.c w else names.any (fun b => p c.b b && p (b, c.w2) w)

/-- What a credential brings by one step. -/
def HoldsOf (p : RoleB → List UInt8 → Bool) (c : CredB) (names : List (List UInt8)) (hs : List FactB) : Prop :=
  RisingG ltF hs ∧ ∀ f : FactB, f ∈ hs ↔ isCred c = true ∧ f.1 = c.head ∧ stepP p c (names.filter isName) f.2 = true ∧ (c.kind ≠ 1 → f.2 ∈ names ∧ isName f.2 = true)

/-- A function's value says who is in which role. -/
def AskAt (gf : Nat) (fi cap : Array Value) (p : RoleB → List UInt8 → Bool) (w : World) : Prop :=
  ∀ (r : RoleB) (s : List UInt8) (W : World), r.1.length ≤ 100000 → r.2.length ≤ 100000 → s.length ≤ 100000 → Chg (fun _ => False) w W → Calls Tryz.prog gf (fi ++ #[.agg #[.string ⟨r.1.toArray⟩, .string ⟨r.2.toArray⟩], .string ⟨s.toArray⟩] ++ cap) W fun e w' => e = .returned (.bool (p r s)) ∧ Chg (fun _ => False) W w'

theorem HoldsOf.len {p : RoleB → List UInt8 → Bool} {c : CredB} {names : List (List UInt8)} {hs : List FactB} (h : HoldsOf p c names hs) : hs.length ≤ names.length + 1 := by
  have := nodup_lengthG hs (pairsF [c.head] (c.who :: names)) (h.1.nodup ltF_ord) fun f hf => by
    obtain ⟨_, h1, h2, h3⟩ := (h.2 f).1 hf
    unfold pairsF
    rw [List.mem_flatMap]
    refine ⟨f.1, by rw [h1]; simp, List.mem_map.2 ⟨f.2, ?_, rfl⟩⟩
    by_cases k : c.kind = 1
    · unfold stepP at h2
      rw [if_pos k] at h2
      rw [← beq_iff_eq.1 h2]
      simp
    · exact List.mem_cons_of_mem _ (h3 k).1
  rw [pairsF_len] at this
  simpa using this

theorem HoldsOf.one {p : RoleB → List UInt8 → Bool} {c : CredB} {names : List (List UInt8)} {a b : List FactB} (ha : HoldsOf p c names a) (hb : HoldsOf p c names b) : a = b :=
  ha.1.ext ltF_ord hb.1 fun x => (ha.2 x).trans (hb.2 x).symm

theorem HoldsOf.short {p : RoleB → List UInt8 → Bool} {c : CredB} {names : List (List UInt8)} {hs : List FactB} (h : HoldsOf p c names hs) : ∀ f ∈ hs, factShort f 16 := fun f hf => by
  obtain ⟨h0, h1, h2, h3⟩ := (h.2 f).1 hf
  have hs := isCred_short h0
  refine ⟨by rw [h1]; exact hs.1, by rw [h1]; exact hs.2.1, ?_⟩
  by_cases k : c.kind = 1
  · unfold stepP at h2
    rw [if_pos k] at h2
    rw [← beq_iff_eq.1 h2]
    exact (isName_len (isCred_member h0 k)).2
  · exact (isName_len (h3 k).2).2

/-- The contracts of the program's model. MA O w g ls: at the block g lies the model of the credentials ls; it may change the blocks of O, and looks at those of D. -/
structure MK (MA : (Nat → Prop) → World → Nat → List CredB → Prop) : Prop where
  keep : ∀ {O S : Nat → Prop} {w w' : World} {g : Nat} {ls : List CredB}, MA O w g ls → Chg S w w' → (∀ i, O i → ¬ S i) → MA O w' g ls
  low : ∀ {O : Nat → Prop} {w : World} {g : Nat} {ls : List CredB}, MA O w g ls → ∀ i, O i → i < w.heap.size
  of : ∀ {D : Nat → Prop} (ao : Option Addr) (cp : Nat) (ls : List CredB) (w : World), SmallC ls → CredsAt D w ao ls → (ao = none → cp = 0) → (∀ i, D i → i < w.heap.size) → Calls Tryz.prog 8 #[.slice ao ls.length cp] w fun e w' => ∃ g O, e = .returned (.pointer (some ⟨g, 0, none⟩)) ∧ MA O w' g ls ∧ (∀ i, O i → w.heap.size ≤ i) ∧ Chg (fun _ => False) w w'
  add : ∀ {O D : Nat → Prop} (g : Nat) (ao : Option Addr) (cp : Nat) (ls ms : List CredB) (w : World), MA O w g ls → SmallC (ls ++ ms) → CredsAt D w ao ms → (ao = none → cp = 0) → (∀ i, D i → i < w.heap.size) → Calls Tryz.prog 20 #[.pointer (some ⟨g, 0, none⟩), .slice ao ms.length cp] w fun e w' => ∃ O', (∀ xs ys, ModelOf ls xs → ModelOf (ls ++ ms) ys → e = .returned (.int .i64 ((ys.length : Int) - (xs.length : Int)))) ∧ MA O' w' g (ls ++ ms) ∧ (∀ i, O' i → O i ∨ w.heap.size ≤ i) ∧ Chg O w w'
  inn : ∀ {O : Nat → Prop} (g : Nat) (ls : List CredB) (xs : List FactB) (r : RoleB) (s : List UInt8) (w : World), MA O w g ls → SmallC ls → ModelOf ls xs → r.1.length ≤ 100000 → r.2.length ≤ 100000 → s.length ≤ 100000 → Calls Tryz.prog 12 #[.pointer (some ⟨g, 0, none⟩), .agg #[.string ⟨r.1.toArray⟩, .string ⟨r.2.toArray⟩], .string ⟨s.toArray⟩] w fun e w' => e = .returned (.bool (inF xs r s)) ∧ Chg (fun _ => False) w w'
  members : ∀ {O : Nat → Prop} (g : Nat) (ls : List CredB) (xs : List FactB) (r : RoleB) (w : World), MA O w g ls → SmallC ls → ModelOf ls xs → r.1.length ≤ 100000 → r.2.length ≤ 100000 → Calls Tryz.prog 15 #[.pointer (some ⟨g, 0, none⟩), .agg #[.string ⟨r.1.toArray⟩, .string ⟨r.2.toArray⟩]] w fun e w' => TellsS (membersF xs r) e w' ∧ Chg (fun _ => False) w w'
  roles : ∀ {O : Nat → Prop} (g : Nat) (ls : List CredB) (xs : List FactB) (s : List UInt8) (w : World), MA O w g ls → SmallC ls → ModelOf ls xs → s.length ≤ 100000 → Calls Tryz.prog 18 #[.pointer (some ⟨g, 0, none⟩), .string ⟨s.toArray⟩] w fun e w' => TellsR (rolesF xs s) e w' ∧ Chg (fun _ => False) w w'
  facts : ∀ {O : Nat → Prop} (g : Nat) (ls : List CredB) (xs : List FactB) (w : World), MA O w g ls → SmallC ls → ModelOf ls xs → Calls Tryz.prog 11 #[.pointer (some ⟨g, 0, none⟩)] w fun e w' => TellsF xs e w' ∧ Chg (fun _ => False) w w'
  holds : ∀ {D : Nat → Prop} (gf : Nat) (fi cap : Array Value) (p : RoleB → List UInt8 → Bool) (c : CredB) (no : Option Addr) (np : Nat) (names : List (List UInt8)) (w : World), credShort c 100000 → names.length ≤ 10000 → (∀ x ∈ names, x.length ≤ 100000) → StrsAt D w no names → (∀ i, D i → i < w.heap.size) → (∀ args w, (callFunc gf args).run Tryz.prog w = .ok (.enter gf args) w) → AskAt gf fi cap p w → Calls Tryz.prog 23 #[credV c, .func (.func gf) fi cap, .slice no names.length np] w fun e w' => ∃ hs ao cp, e = .returned (.slice ao hs.length cp) ∧ FactsAt (fun i => w.heap.size ≤ i ∧ i < w'.heap.size) w' ao hs ∧ HoldsOf p c names hs ∧ Chg (fun _ => False) w w'
  innNil : ∀ (r : RoleB) (s : List UInt8) (w : World), Calls Tryz.prog 12 #[.pointer none, .agg #[.string ⟨r.1.toArray⟩, .string ⟨r.2.toArray⟩], .string ⟨s.toArray⟩] w fun e w' => e = .returned (.bool false) ∧ Chg (fun _ => False) w w'
  membersNil : ∀ (r : RoleB) (w : World), Calls Tryz.prog 15 #[.pointer none, .agg #[.string ⟨r.1.toArray⟩, .string ⟨r.2.toArray⟩]] w fun e w' => Tells0 e ∧ Chg (fun _ => False) w w'
  rolesNil : ∀ (s : List UInt8) (w : World), Calls Tryz.prog 18 #[.pointer none, .string ⟨s.toArray⟩] w fun e w' => Tells0 e ∧ Chg (fun _ => False) w w'
  factsNil : ∀ (w : World), Calls Tryz.prog 11 #[.pointer none] w fun e w' => Tells0 e ∧ Chg (fun _ => False) w w'
  addNil : ∀ (ao : Option Addr) (n cp : Nat) (w : World), Calls Tryz.prog 20 #[.pointer none, .slice ao n cp] w fun e w' => e = .returned (.int .i64 0) ∧ Chg (fun _ => False) w w'
end Go.Proofs.YtanompfdjfgfbaaGreat

/- The arguments of laws, opened to cells: bytes, a small array. -/
namespace Go.Proofs.YtanompfdjfgfbaaGreat
open Go.ChangeShapes Go.WideShapes Go.ChangeAt Go.RowKit Go.Deep

theorem Tryz.own : ownKnob Tryz.prog.godebug = none := by kernel_rfl
theorem Tryz.laidOut : laidOutB Tryz.prog = true := by kernel_rfl

theorem spot_none {w : World} {a : Addr} {v : Value} (h : w.cell? a = some v) : a = ⟨a.block, a.off, none⟩ := by
  obtain ⟨b, o, s⟩ := a
  cases s with
  | none => rfl
  | some x =>
    simp only [World.cell?] at h
    split at h
    · simp at h
    · cases h

theorem add_zero (a : Addr) : a.add 0 = a := by
  unfold Addr.add
  simp

theorem wf_u8 {n : Int} (h : (Lit.int .u8 n).wf = true) : 0 ≤ n ∧ n ≤ 255 := by
  have hmin : IntKind.u8.min = 0 := rfl
  have hmax : IntKind.u8.max = 255 := rfl
  simp only [Lit.wf, Bool.and_eq_true, decide_eq_true_eq] at h
  omega

theorem wf_i64 {n : Int} (h : (Lit.int .i64 n).wf = true) : -9223372036854775808 ≤ n ∧ n ≤ 9223372036854775807 := by
  have hmin : IntKind.i64.min = -9223372036854775808 := rfl
  have hmax : IntKind.i64.max = 9223372036854775807 := rfl
  simp only [Lit.wf, Bool.and_eq_true, decide_eq_true_eq] at h
  omega

section
variable {H : Type} {enc : TypeId × Value → H} {w : World} {base : Nat} {held : Bool} {fuel : Nat}

theorem open_bytes {cs : List Value} {x : DataW H × List MemPlace} (h : DataW.trod enc Tryz.prog w base (fun _ => true) held fuel 139 cs = some x) :
    ∃ (ao : Option Addr) (cap : Nat) (l : List UInt8), cs = [.slice ao l.length cap] ∧ l.length ≤ 9223372036854775807 ∧ BytesAt (fun k => k < w.heap.size) w (.slice ao l.length cap) l := by
  rcases open_ints Tryz.underlying139 Tryz.underlying5 (by kernel_rfl) h with ⟨rfl, _⟩ | ⟨a, len, cap, zs, rfl, _, hl, hm, hz, _, hcell, hwz⟩
  · exact ⟨none, 0, [], rfl, by simp, BytesAt.nil _ _⟩
  · simp only [if_true] at hz
    have hlen : ((zs.take len).map fun n => UInt8.ofNat n.toNat).length = len := by simp; omega
    refine ⟨some a, cap, (zs.take len).map fun n => UInt8.ofNat n.toNat, by rw [hlen], by rw [hlen]; unfold maxLen at hm; omega, ?_⟩
    rw [hlen]
    by_cases h0 : len = 0
    · subst h0
      exact .inl ⟨some a, cap, rfl, by simp, fun h => by cases h⟩
    · have h1 := hcell 0 (by omega)
      rw [add_zero] at h1
      have ha := spot_none h1
      have hlt := World.block_lt_of_cell? w _ h1
      refine .inr ⟨a.block, a.off, cap, by rw [hlen]; exact congrArg (fun z => Value.slice (some z) len cap) ha, by rw [hlen]; exact hl, hm, hlt, fun i hi => ?_⟩
      rw [hlen] at hi
      have h2 := hcell i (by omega)
      rw [ha, add_off] at h2
      rw [h2]
      have hget : zs.getD i 0 = zs[i]'(by omega) := by simp [List.getD, show i < zs.length by omega]
      have hb := wf_u8 (hwz _ (List.getElem_mem (show i < zs.length by omega)))
      rw [hget]
      congr 2
      simp only [List.getElem_map, List.getElem_take]
      rw [ofNat_u8 _ (by omega)]
      omega

theorem okWide_array {P : Program} {w : World} {r : Reach} {base : Nat} {t e : TypeId} {n : Nat} {v : Value} (ht : P.underlying t = some (.array n e)) (h : Value.okWide P w r base t v) : ∃ cs, v = .agg cs ∧ cs.size = P.cellsOf t := by
  simp only [Value.okWide, ht] at h
  obtain ⟨cs, h1, h2, _⟩ := h
  exact ⟨cs, h1, h2⟩

end

end Go.Proofs.YtanompfdjfgfbaaGreat
