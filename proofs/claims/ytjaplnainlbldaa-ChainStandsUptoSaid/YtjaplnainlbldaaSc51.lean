/- Texts that the proof leans on, in one: KwCheck, ChStandW, ChStands. -/
import Derived.Test.YtjaplnainlbldaaSc50
import Derived.Test.YtjaplnainlbldaaSc43
import Derived.Test.YtjaplnainlbldaaSc41
/- The contract of the program's Check. -/
namespace Go.Proofs.Ytjaplnainlbldaa
open Go.RowKit Go.Maps

def CheckPost (ls : List StepB) (cs : List CredB) (wf : FactB) (w : World) (e : Ending) (w' : World) : Prop :=
  ∃ n f, e = .returned (.tuple #[.int .i64 (n : Nat), .int .i64 f]) ∧ n ≤ ls.length ∧ CheckIs ls cs wf n f ∧ Chg (fun _ => False) w w'

theorem totalC_len9 (a : List CredB) : a.length * 20 ≤ totalC a := by
  induction a with
  | nil => simp [totalC]
  | cons x l ih => rw [totalC, List.length_cons, sizeC]; omega

set_option maxRecDepth 100000 in
set_option maxHeartbeats 8000000 in
theorem ck_check2 {D E : Nat → Prop} (ao co : Option Addr) (cp cc : Nat) (ls : List StepB) (cs : List CredB) (wf : FactB) (w : World) (hn : ls.length ≤ 4000 ∧ cs.length ≤ 4000) (hwf : factShort wf 9223372036854775807) (_ : ls.length ≤ cp) (_ : cp ≤ 9223372036854775807) (h : StepsAt D w ao ls) (hcs : CredsAt E w co cs) (hks : KindsS ls) (hkc : KindsC cs) :
    Calls Try.prog 22 #[.slice ao ls.length cp, .slice co cs.length cc, .agg #[.string ⟨wf.1.1.toArray⟩, .string ⟨wf.1.2.toArray⟩, .string ⟨wf.2.toArray⟩]] w (CheckPost ls cs wf w) := by
  have hlen : ls.length ≤ 4000 := hn.1
  have hlen2 : cs.length ≤ 4000 := hn.2
  have hb := heap_alloc_new w (.cells #[.string ⟨wf.1.1.toArray⟩, .string ⟨wf.1.2.toArray⟩, .string ⟨wf.2.toArray⟩] 26)
  have hc : Chg (fun _ => False) w (w.alloc (.cells #[.string ⟨wf.1.1.toArray⟩, .string ⟨wf.1.2.toArray⟩, .string ⟨wf.2.toArray⟩] 26)) := (Chg.refl _ w).alloc _
  have HS : Hid ((w.alloc (.cells #[.string ⟨wf.1.1.toArray⟩, .string ⟨wf.1.2.toArray⟩, .string ⟨wf.2.toArray⟩] 26)).heap[w.heap.size]? = some (.cells (factBox wf) 26 (0, 0)) ∧ factShort wf 9223372036854775807 ∧ StepsAt D (w.alloc (.cells #[.string ⟨wf.1.1.toArray⟩, .string ⟨wf.1.2.toArray⟩, .string ⟨wf.2.toArray⟩] 26)) ao ls ∧ KindsS ls ∧ Chg (fun _ => False) w (w.alloc (.cells #[.string ⟨wf.1.1.toArray⟩, .string ⟨wf.1.2.toArray⟩, .string ⟨wf.2.toArray⟩] 26))) := hid ⟨hb, hwf, h.keep hc (fun _ _ => id), hks, hc⟩
  have HSET := hid (kw_setOf co cc cs (w.alloc (.cells #[.string ⟨wf.1.1.toArray⟩, .string ⟨wf.1.2.toArray⟩, .string ⟨wf.2.toArray⟩] 26)) (by omega) (hcs.keep hc (fun _ _ => id)) hkc)
  clear hb hc hwf h hcs hks hkc hn
  go_enter Try.func22, Try.ntmps22
  go_wp2_with fail
  refine HSET.out.mono ?_
  clear HSET
  generalize (w.alloc (.cells #[.string ⟨wf.1.1.toArray⟩, .string ⟨wf.1.2.toArray⟩, .string ⟨wf.2.toArray⟩] 26)) = w1 at *
  obtain ⟨X, hX⟩ : ∃ X, w.heap.size = X := ⟨_, rfl⟩
  simp only [hX] at HS ⊢
  clear hX
  rintro e w2 ⟨mb, rfl, _, hkv, hc2⟩
  have HKV := hid hkv
  have HS2 : Hid (w2.heap[X]? = some (.cells (factBox wf) 26 (0, 0)) ∧ factShort wf 9223372036854775807 ∧ StepsAt D w2 ao ls ∧ KindsS ls ∧ Chg (fun _ => False) w w2) := hid ⟨blk_keep HS.out.1 hc2 id, HS.out.2.1, HS.out.2.2.1.keep hc2 (fun _ _ => id), HS.out.2.2.2.1, HS.out.2.2.2.2.trans hc2 (fun _ _ h => h)⟩
  have HNEW := hid (kw_new w2)
  clear HS hkv hc2
  go_wp2_with fail
  refine HNEW.out.mono ?_
  clear HNEW
  intro e w3 hnew
  obtain ⟨g, rfl, hk, hc3⟩ := KK.made hnew
  have HK := hid hk
  have HC := hid hc3
  clear hnew hk hc3
  go_wp2
  go_loopw [19] (fun i wr => ∃ j : Nat, j ≤ ls.length ∧ i = .int .i64 j ∧ Hid (KK w2 (fun _ => False) g (knownK (factsK (ls.take j))) wr) ∧ Hid (Chg (fun _ => False) w2 wr) ∧ Hid (∀ i, i < j → goodK ls cs i)) (fun i _ => ls.length - (intOf i).toNat)
  case atStart => exact ⟨0, Nat.zero_le _, rfl, HK, HC, hid (fun i hi => by omega)⟩
  case round =>
    obtain ⟨j, hj, rfl, hk, hc, hgd⟩ := hrel
    have hkl : (knownK (factsK (ls.take j))).length ≤ 4000 := by
      have h1 := knownK_len (factsK (ls.take j))
      have h2 : (ls.take j).length ≤ j := List.length_take_le _ _
      rw [factsK_len] at h1
      omega
    by_cases hlt : j < ls.length
    · obtain ⟨b, off, hao, _, ⟨⟨a0, a1, a2, a3, a4, a5, a6, a7, a8⟩, ⟨b0, b1, b2⟩⟩, hss⟩ := (HS2.out.2.2.1.keep hc.out (fun _ _ => id)) j hlt
      have hkw := HS2.out.2.2.2.1 _ (List.getElem_mem hlt)
      have htk : knownK (factsK (ls.take (j + 1))) = addK (knownK (factsK (ls.take j))) ls[j].f := by rw [List.take_succ_eq_append_getElem hlt, factsK_snoc, knownK_snoc]
      have hgood : goodK ls cs j ↔ (hasC cs ls[j].c = true ∧ followsK ls[j] (factsK (ls.take j)) = true) := ⟨fun h => h hlt, fun h _ => h⟩
      generalize hsj : ls[j] = s at *
      clear hsj
      have hal : Chg (fun _ => False) wr (wr.alloc (.cells #[.int .i64 s.c.kind, .string ⟨s.c.head.1.toArray⟩, .string ⟨s.c.head.2.toArray⟩, .string ⟨s.c.who.toArray⟩, .string ⟨s.c.b.1.toArray⟩, .string ⟨s.c.b.2.toArray⟩, .string ⟨s.c.c.1.toArray⟩, .string ⟨s.c.c.2.toArray⟩, .string ⟨s.c.w2.toArray⟩, .string ⟨s.f.1.1.toArray⟩, .string ⟨s.f.1.2.toArray⟩, .string ⟨s.f.2.toArray⟩] 43)) := (Chg.refl _ _).alloc _
      have hbx := heap_alloc_new wr (.cells #[.int .i64 s.c.kind, .string ⟨s.c.head.1.toArray⟩, .string ⟨s.c.head.2.toArray⟩, .string ⟨s.c.who.toArray⟩, .string ⟨s.c.b.1.toArray⟩, .string ⟨s.c.b.2.toArray⟩, .string ⟨s.c.c.1.toArray⟩, .string ⟨s.c.c.2.toArray⟩, .string ⟨s.c.w2.toArray⟩, .string ⟨s.f.1.1.toArray⟩, .string ⟨s.f.1.2.toArray⟩, .string ⟨s.f.2.toArray⟩] 43)
      have hw4 : Chg (fun _ => False) wr ((wr.alloc (.cells #[.int .i64 s.c.kind, .string ⟨s.c.head.1.toArray⟩, .string ⟨s.c.head.2.toArray⟩, .string ⟨s.c.who.toArray⟩, .string ⟨s.c.b.1.toArray⟩, .string ⟨s.c.b.2.toArray⟩, .string ⟨s.c.c.1.toArray⟩, .string ⟨s.c.c.2.toArray⟩, .string ⟨s.c.w2.toArray⟩, .string ⟨s.f.1.1.toArray⟩, .string ⟨s.f.1.2.toArray⟩, .string ⟨s.f.2.toArray⟩] 43)).alloc (.cells #[] 99)) := hal.alloc _
      have hlook := (HKV.out.keep (hc.out.trans hal (fun _ _ h => h)) id).look_ok (t := 101) (e := 99) Try.underlying101 (kZeroUn _) (a := s.c) ⟨hss.1, hkw⟩
      rw [inC_val, inC_some] at hlook
      have hlk : (Instr.lookup 101 (.map (some mb)) (.agg #[.int .i64 s.c.kind, .string ⟨s.c.head.1.toArray⟩, .string ⟨s.c.head.2.toArray⟩, .string ⟨s.c.who.toArray⟩, .string ⟨s.c.b.1.toArray⟩, .string ⟨s.c.b.2.toArray⟩, .string ⟨s.c.c.1.toArray⟩, .string ⟨s.c.c.2.toArray⟩, .string ⟨s.c.w2.toArray⟩]) true).run Try.prog (wr.alloc (.cells #[.int .i64 s.c.kind, .string ⟨s.c.head.1.toArray⟩, .string ⟨s.c.head.2.toArray⟩, .string ⟨s.c.who.toArray⟩, .string ⟨s.c.b.1.toArray⟩, .string ⟨s.c.b.2.toArray⟩, .string ⟨s.c.c.1.toArray⟩, .string ⟨s.c.c.2.toArray⟩, .string ⟨s.c.w2.toArray⟩, .string ⟨s.f.1.1.toArray⟩, .string ⟨s.f.1.2.toArray⟩, .string ⟨s.f.2.toArray⟩] 43)) = .ok (.tuple #[.agg #[], .bool (hasC cs s.c)]) (wr.alloc (.cells #[.int .i64 s.c.kind, .string ⟨s.c.head.1.toArray⟩, .string ⟨s.c.head.2.toArray⟩, .string ⟨s.c.who.toArray⟩, .string ⟨s.c.b.1.toArray⟩, .string ⟨s.c.b.2.toArray⟩, .string ⟨s.c.c.1.toArray⟩, .string ⟨s.c.c.2.toArray⟩, .string ⟨s.c.w2.toArray⟩, .string ⟨s.f.1.1.toArray⟩, .string ⟨s.f.1.2.toArray⟩, .string ⟨s.f.2.toArray⟩] 43)) := hlook
      obtain ⟨⟨s0, s1, s2, s3, s4, s5, s6, s7, s8⟩, ⟨t0, t1, t2⟩⟩ := step_at_blk hbx
      simp only [Nat.zero_add] at s0 s1 s2 s3 s4 s5 s6 s7 s8 t0 t1 t2
      change wr.cell? ⟨b, off + j * 12 + 10, none⟩ = _ at b1
      change wr.cell? ⟨b, off + j * 12 + 11, none⟩ = _ at b2
      have HLT := hid hlt
      have HTK := hid htk
      have HGO := hid hgood
      have HKL := hid hkl
      have HS5 := hid hss
      have HCW : Hid (Chg (fun _ => False) w ((wr.alloc (.cells #[.int .i64 s.c.kind, .string ⟨s.c.head.1.toArray⟩, .string ⟨s.c.head.2.toArray⟩, .string ⟨s.c.who.toArray⟩, .string ⟨s.c.b.1.toArray⟩, .string ⟨s.c.b.2.toArray⟩, .string ⟨s.c.c.1.toArray⟩, .string ⟨s.c.c.2.toArray⟩, .string ⟨s.c.w2.toArray⟩, .string ⟨s.f.1.1.toArray⟩, .string ⟨s.f.1.2.toArray⟩, .string ⟨s.f.2.toArray⟩] 43)).alloc (.cells #[] 99))) := hid (HS2.out.2.2.2.2.trans (hc.out.trans hw4 (fun _ _ h => h)) (fun _ _ h => h))
      have HK4 := hid (hk.out.quiet hw4)
      have HC4 := hid (hc.out.trans hw4 (fun _ _ h => h))
      have HBX : Hid (((wr.alloc (.cells #[.int .i64 s.c.kind, .string ⟨s.c.head.1.toArray⟩, .string ⟨s.c.head.2.toArray⟩, .string ⟨s.c.who.toArray⟩, .string ⟨s.c.b.1.toArray⟩, .string ⟨s.c.b.2.toArray⟩, .string ⟨s.c.c.1.toArray⟩, .string ⟨s.c.c.2.toArray⟩, .string ⟨s.c.w2.toArray⟩, .string ⟨s.f.1.1.toArray⟩, .string ⟨s.f.1.2.toArray⟩, .string ⟨s.f.2.toArray⟩] 43)).alloc (.cells #[] 99)).heap[wr.heap.size]? = some (.cells (stepBox s) 43 (0, 0))) := hid (blk_keep hbx ((Chg.refl (fun _ => False) _).alloc _) id)
      have hfl := (hk.out.quiet hw4).follows s hss (by omega)
      rw [follows_ways] at hfl
      unfold stepBox at hfl
      have HFL := hid hfl
      clear hal hbx hw4 hlook hkl hgood htk hss hk hc hfl hlt
      subst hao
      cases hcc : hasC cs s.c with
      | false =>
        rw [hcc] at hlk
        have HNO : Hid (CheckIs ls cs wf j 50) := hid (.inl ⟨HLT.out, hgd.out, (fun hg => by have := (HGO.out.1 hg).1; rw [hcc] at this; exact Bool.noConfusion this), rfl⟩)
        clear hcc
        go_wp2_with fail
        go_ret2
        exact ⟨j, 50, rfl, by have := HLT.out; omega, HNO.out, HCW.out⟩
      | true =>
        rw [hcc] at hlk
        have HCC := hid hcc
        clear hcc
        go_wp2_with fail
        refine HFL.out.mono ?_
        clear hlk HFL s0 s1 s2 s3 s4 s5 s6 s7 s8 t0 t1 t2 a0 a1 a2 a3 a4 a5 a6 a7 a8 b0 b1 b2
        rintro e w5 ⟨rfl, hc5⟩
        have HK5 := hid (HK4.out.quiet hc5)
        have HC5 := hid (HC4.out.trans hc5 (fun _ _ h => h))
        have HCW5 := hid (HCW.out.trans hc5 (fun _ _ h => h))
        obtain ⟨_, ⟨t0, t1, t2⟩⟩ := step_at_blk (blk_keep HBX.out hc5 id)
        simp only [Nat.zero_add] at t0 t1 t2
        clear hc5
        cases hff : followsK s (factsK (ls.take j)) with
        | false =>
          have HNO : Hid (CheckIs ls cs wf j 50) := hid (.inl ⟨HLT.out, hgd.out, (fun hg => by have := (HGO.out.1 hg).2; rw [hff] at this; exact Bool.noConfusion this), rfl⟩)
          clear hff
          go_wp2_with fail
          go_ret2
          exact ⟨j, 50, rfl, by have := HLT.out; omega, HNO.out, HCW5.out⟩
        | true =>
          have HG2 : Hid (goodK ls cs j) := hid (HGO.out.2 ⟨HCC.out, hff⟩)
          have HADD := hid (HK5.out.add (fun i hi => hi.elim) s.f HS5.out.2 (by have := HKL.out; omega))
          clear hff
          go_wp2_with fail
          refine HADD.out.mono ?_
          clear HADD
          rintro e w6 ⟨rfl, hk6, hc6⟩
          have HK6 := hid (HTK.out ▸ hk6)
          have HC6 := hid (HC5.out.trans hc6 (fun i hi h => by omega))
          clear hk6 hc6 HC5 HTK
          go_wp2
          go_roundw
          case rel => exact ⟨j + 1, by have := HLT.out; omega, by go_num, HK6, HC6, hid (fun i hi => by
            by_cases e : i = j
            · subst e; exact HG2.out
            · exact hgd.out i (by omega))⟩
          case measure => have := HLT.out; simp [intOf]; omega
    · have hje : j = ls.length := by omega
      have hk2 := hk.out
      rw [hje, List.take_length] at hk2
      have HHAS := hid (hk2.has wf HS2.out.2.1)
      have HC2 := hid (HS2.out.2.2.2.2.trans hc.out (fun _ _ h => h))
      have HIF : Hid (CheckIs ls cs wf ls.length (if decide (wf ∈ knownK (factsK ls)) then 0 else 42)) := hid (.inr ⟨rfl, fun i hi => hgd.out i (by omega), by
        congr 1
        rw [eq_iff_iff, decide_eq_true_eq, knownK_mem, inF_iff]⟩)
      obtain ⟨x0, x1, x2⟩ := fact_at_blk (blk_keep HS2.out.1 hc.out id)
      simp only [Nat.zero_add] at x0 x1 x2
      clear hk hk2 hc hje hgd hkl
      go_wp2_with fail
      refine HHAS.out.mono ?_
      clear HHAS
      rintro e w2 ⟨rfl, hc2⟩
      have HC3 := hid (HC2.out.trans hc2 (fun _ _ h => h))
      clear hc2 HC2 x0 x1 x2
      cases hwm : decide (wf ∈ knownK (factsK ls)) with
      | false =>
        rw [hwm] at HIF
        go_wp2_with fail
        go_ret2
        exact ⟨ls.length, 42, rfl, Nat.le_refl _, HIF.out, HC3.out⟩
      | true =>
        rw [hwm] at HIF
        go_wp2_with fail
        go_ret2
        exact ⟨ls.length, 0, rfl, Nat.le_refl _, HIF.out, HC3.out⟩
end Go.Proofs.Ytjaplnainlbldaa

/- What has been merged of chains that were found, and what a check of it tells; two rows of steps. -/
namespace Go.Proofs.Ytjaplnainlbldaa
open Go.RowKit

def StsOk (ls : List CredB) (out : List StepB) : Prop := StK out ∧ (factsK out).Nodup ∧ ∀ s ∈ out, s.c ∈ ls ∧ isCred s.c = true ∧ Der ls s.f
theorem StsOk.nil (ls : List CredB) : StsOk ls [] := ⟨fun _ h => absurd h (by simp), List.nodup_nil, fun _ h => by cases h⟩
theorem StsOk.merge {ls : List CredB} {out R : List StepB} {want : FactB} (h : StsOk ls out) (hR : FindIs ls want R true) : StsOk ls (mergeL [out, R]) := by
  rw [mergeL_two out R h.2.1]
  refine ⟨merge_two h.1 (stK_iff.1 ((hR.spec).2.2 rfl).1), addsSt_nodup R out h.2.1, fun s hs => ?_⟩
  rcases addsSt_mem out R s hs with k | k
  · exact h.2.2 s k
  · have := ((hR.spec).2.2 rfl).2.2.2 s k
    exact ⟨this.1, this.2, hR.der s k⟩
theorem StsOk.few {ls : List CredB} {out : List StepB} (h : StsOk ls out) (hl : ls.length ≤ 50) : out.length ≤ 2500 := by
  have h4 := facts_le (rs := ls.map (·.head)) (ns := ls.map (·.who)) h.2.1 (fun f hf => by
    obtain ⟨s, hs, rfl⟩ := List.mem_map.1 hf
    have hd := (h.2.2 s hs).2.2
    refine ⟨?_, ?_⟩
    · obtain ⟨c, hc, _, e⟩ := hd.head
      exact List.mem_map.2 ⟨c, hc, e⟩
    · obtain ⟨c, hc, hr, hk, e⟩ := hd.who
      exact List.mem_map.2 ⟨c, hc, e⟩)
  rw [List.length_map, List.length_map, factsK_len] at h4
  have h5 : ls.length * ls.length ≤ 50 * 50 := Nat.mul_le_mul hl hl
  omega
theorem StsOk.short {ls : List CredB} {out : List StepB} (h : StsOk ls out) : ∀ s ∈ out, stepShort s 9223372036854775807 := fun s hs => ⟨(isCred_short (h.2.2 s hs).2.1).mono' (by decide), der_short9 (h.2.2 s hs).2.2⟩
theorem cred_kindW9 {c : CredB} (h : isCred c = true) : kindW c := by
  rcases isCred_kind h with k | k | k | k <;> (unfold kindW; rw [k]; decide)
theorem StsOk.kinds {ls : List CredB} {out : List StepB} (h : StsOk ls out) : KindsS out := fun s hs => cred_kindW9 (h.2.2 s hs).2.1
theorem StsOk.checks {ls : List CredB} {out : List StepB} (h : StsOk ls out) {s : StepB} (hs : s ∈ out) : CheckIs out ls s.f out.length 0 := checks_of h.1 (fun s hs => (h.2.2 s hs).1) (List.mem_map.2 ⟨s, hs, rfl⟩)
theorem FindIs.checks2 {ls : List CredB} {want : FactB} {R : List StepB} (h : FindIs ls want R true) : CheckIs R ls want R.length 0 := by
  obtain ⟨h1, h2, ⟨R0, s, e, hf⟩, h4⟩ := (h.spec).2.2 rfl
  refine checks_of (stK_iff.1 h1) (fun s hs => (h4 s hs).1) ?_
  rw [e]
  unfold factsK
  rw [List.map_append]
  exact List.mem_append_right _ (by rw [List.map_cons, hf]; exact List.mem_cons_self)
theorem FindIs.kinds {ls : List CredB} {want : FactB} {R : List StepB} (h : FindIs ls want R true) : KindsS R := fun s hs => cred_kindW9 (((h.spec).2.2 rfl).2.2.2 s hs).2

theorem rows_pair {w : World} {b c1 c2 : Nat} {a1 a2 : Option Addr} {l1 l2 : List StepB} {ty : TypeId} {z : Nat × Nat} (hb : w.heap[b]? = some (.cells #[.slice a1 l1.length c1, .slice a2 l2.length c2] ty z)) (h1 : StepsAt (fun _ => True) w a1 l1) (h2 : StepsAt (fun _ => True) w a2 l2) (z1 : a1 = none → c1 = 0) (z2 : a2 = none → c2 = 0) : RowsAt (fun _ => True) w (some ⟨b, 0, none⟩) [l1, l2] := fun j hj => by
  match j, hj with
  | 0, _ => exact ⟨b, 0, a1, c1, rfl, trivial, cell_blk hb 0, h1, z1⟩
  | 1, _ => exact ⟨b, 0, a2, c2, rfl, trivial, cell_blk hb 1, h2, z2⟩
  | k + 2, h => exact absurd h (by simp)

theorem OwnSt.zero {B : Nat} {w : World} {R : List StepB} {av : Option Addr} {n cv : Nat} (h : OwnSt B w (.slice av n cv) R) : av = none → cv = 0 := by
  rcases h.2 with ⟨e, h0⟩ | ⟨g, cap, cur, e, _⟩
  · injection e with _ _ e
    exact fun _ => e
  · injection e with e _ _
    intro h
    rw [h] at e
    cases e
end Go.Proofs.Ytjaplnainlbldaa

/- The law ChainStands, walked. -/
namespace Go.Proofs.Ytjaplnainlbldaa
open Go.RowKit

set_option maxRecDepth 100000 in
set_option maxHeartbeats 4000000 in
theorem chstands_main {D E : Nat → Prop} (ao : Option Addr) (cp : Nat) (ls : List CredB) (bo : Option Addr) (bp : Nat) (ws : List FactB) (w : World) (hn : totalC ls ≤ 4503599627370496) (hz : ao = none → cp = 0) (h : CredsAt D w ao ls) (hD : ∀ i, D i → i < w.heap.size) (hk : KindsC ls) (hf : FactsAt E w bo ws) (hws : ∀ f ∈ ws, factShort f 4194304) (hwl : ws.length ≤ 4194304) :
    Calls Try.prog 5 #[.slice ao ls.length cp, .slice bo ws.length bp] w fun e w' => e = .returned (.bool true) ∧ Chg (fun _ => False) w w' := by
  have HF := hid (fun w => ch_first w)
  have HX := hid (And.intro h (And.intro hD (And.intro hz hk)))
  have HY := hid (And.intro hf hws)
  clear h hD hz hk hf hws
  go_enter Try.func5, Try.ntmps5
  go_wp2_with fail
  refine (HF.out _).mono ?_
  rintro e w1 ⟨rfl, hc1⟩
  have HC1 := hid hc1
  have HG := hid (great_any ao cp ls w1 hn (HX.out.1.keep HC1.out (fun _ _ => id)))
  clear hc1 HF
  go_wp2_with fail
  refine HG.out.mono ?_
  rintro e w2 ⟨rfl, hc2⟩
  have HC2 := hid (HC1.out.trans hc2 (fun _ _ h => h))
  clear hc2 HC1 HG
  by_cases hg : totalC ls ≤ 1000
  · have z1 : decide ((1000 : Int) < (totalC ls : Int)) = false := decide_eq_false (by omega)
    have hll : ls.length ≤ 50 := by have := totalC_len9 ls; omega
    by_cases hw8 : ws.length ≤ 8
    · have z2 : decide ((8 : Int) < (ws.length : Int)) = false := decide_eq_false (by omega)
      have HLL := hid hll
      clear hg
      go_wp2
      go_loopw [5, 28] (fun s i wr => ∃ (j : Nat) (o : Value) (out : List StepB), j ≤ ws.length ∧ i = .int .i64 j ∧ s = o ∧ Hid (OwnSt w.heap.size wr o out ∧ StsOk ls out ∧ Chg (fun _ => False) w wr)) (fun _ i _ => ws.length - (intOf i).toNat)
      case atStart => exact ⟨0, _, [], Nat.zero_le _, rfl, rfl, hid ⟨World.ownsRow_nil _ _ _ _, StsOk.nil ls, HC2.out⟩⟩
      case round =>
        obtain ⟨j, o, out, hj, rfl, rfl, hrel⟩ := hrel
        by_cases hlt : j < ws.length
        · obtain ⟨b, off, hao, _, ⟨b0, b1, b2⟩⟩ := (HY.out.1.keep hrel.out.2.2 (fun _ _ => id)) j hlt
          have hsw := HY.out.2 _ (List.getElem_mem hlt)
          generalize ws[j] = wf at *
          have hal : Chg (fun _ => False) wr (wr.alloc (.cells #[.string ⟨wf.1.1.toArray⟩, .string ⟨wf.1.2.toArray⟩, .string ⟨wf.2.toArray⟩] 26)) := (Chg.refl _ wr).alloc _
          have hbx := heap_alloc_new wr (.cells #[.string ⟨wf.1.1.toArray⟩, .string ⟨wf.1.2.toArray⟩, .string ⟨wf.2.toArray⟩] 26)
          obtain ⟨s0, s1, s2⟩ := fact_at_blk (f := wf) hbx
          simp only [Nat.zero_add] at s0 s1 s2
          have hcw := hrel.out.2.2.trans hal (fun _ _ h => h)
          have HCW := hid hcw
          have HOW := hid (hrel.out.1.keep hal (fun _ _ => id))
          have HOK := hid hrel.out.2.1
          have HLT := hid hlt
          have hw1 := hsw.1
          have hw2 := hsw.2.1
          have hw3 := hsw.2.2
          have HSW := hid hsw
          have hcr := HX.out.1.keep hcw (fun _ _ => id)
          have HFI := hid (ch_find ao cp ls wf (wr.alloc (.cells #[.string ⟨wf.1.1.toArray⟩, .string ⟨wf.1.2.toArray⟩, .string ⟨wf.2.toArray⟩] 26)) hll hcr (fun i hi => Nat.lt_of_lt_of_le (HX.out.2.1 i hi) hcw.size) HX.out.2.2.1 (hsw.mono (by decide)))
          have HSB := hid hbx
          clear hal hbx hrel hcw hcr hsw
          subst hao
          by_cases hg2 : wf.2.length + wf.1.1.length + wf.1.2.length ≤ 200
          · have z3 : decide ((200 : Int) < (wf.2.length : Int) + (wf.1.1.length : Int) + (wf.1.2.length : Int)) = false := decide_eq_false (by omega)
            clear hg2
            go_wp2_with fail
            refine HFI.out.mono ?_
            rintro e w3 ⟨v, R, bb, rfl, hR, hoR, hc3⟩
            have HC3 := hid (HCW.out.trans hc3 (fun _ _ h => h))
            have HO3 := hid (HOW.out.keep hc3 (fun _ _ => id))
            have hB3 := blk_keep HSB.out hc3 id
            obtain ⟨p0, p1, p2⟩ := fact_at_blk (f := wf) hB3
            simp only [Nat.zero_add] at p0 p1 p2
            have HFR := hid (And.intro hR hoR)
            clear hR hoR hc3 hB3 HFI HCW HOW HSB s0 s1 s2 b0 b1 b2
            cases bb with
            | false =>
              go_wp2
              go_roundw
              case rel => exact ⟨j + 1, _, out, HLT.out, by go_num, rfl, hid ⟨HO3.out, HOK.out, HC3.out⟩⟩
              case measure => have := HLT.out; simp [intOf]; omega
            | true =>
              obtain ⟨av, cv, hv⟩ := HFR.out.2.shape
              subst hv
              have hst := HFR.out.2.steps HFR.out.1.short
              obtain ⟨x1, x2, k1, hst, _⟩ := hst
              injection k1 with k1 _ k3
              subst k1 k3
              have hfw := HFR.out.1.few HLL.out
              have HCK := hid (ck_check2 av ao cv cp R ls wf w3 (by omega) (HSW.out.mono (by decide)) HFR.out.2.caps.1 HFR.out.2.caps.2 hst (HX.out.1.keep HC3.out (fun _ _ => id)) HFR.out.1.kinds HX.out.2.2.2)
              have HST := hid (hst.mono (fun _ _ => trivial))
              have HFW := hid hfw
              obtain ⟨n, hn9⟩ : ∃ n, n = R.length := ⟨_, rfl⟩
              rw [← hn9] at HCK ⊢
              have HNR := hid hn9
              clear hst hfw hn9
              go_wp2_with fail
              refine HCK.out.mono ?_
              rintro e w4 ⟨m, f, rfl, _, hI, hc4⟩
              obtain ⟨e1, e2⟩ := hI.one HFR.out.1.checks2
              subst e1 e2
              have HC4 := hid (HC3.out.trans hc4 (fun _ _ h => h))
              have ho4 := HO3.out.keep hc4 (fun _ _ => id)
              obtain ⟨aw, cw, hv2⟩ := ho4.shape
              have ho5 : OwnSt w.heap.size w4 (.slice aw out.length cw) out := hv2 ▸ ho4
              obtain ⟨y1, y2, l1, hso, _⟩ := ho5.steps HOK.out.short
              injection l1 with l1 _ l3
              subst l1 l3
              have hbx := heap_alloc_new w4 (.cells #[.slice aw out.length cw, .slice av R.length cv] 29)
              have hal : Chg (fun _ => False) w4 (w4.alloc (.cells #[.slice aw out.length cw, .slice av R.length cv] 29)) := (Chg.refl _ w4).alloc _
              have hro := rows_pair hbx ((hso.mono (fun _ _ => trivial)).keep hal (fun _ _ => id)) ((HST.out.keep hc4 (fun _ _ => id)).keep hal (fun _ _ => id)) ho5.zero HFR.out.2.zero
              have hfo := HOK.out.few HLL.out
              have hfw := HFW.out
              have hm := ch_merge (some ⟨w4.heap.size, 0, none⟩) 2 [out, R] _ (by simp) (by simp only [List.map_cons, List.map_nil, List.sum_cons, List.sum_nil]; omega) hro
              have HC5 := hid (HC4.out.trans hal (fun _ _ h => h))
              have HOK2 := hid (HOK.out.merge HFR.out.1)
              obtain ⟨q, hq⟩ : ∃ q, q = out.length := ⟨_, rfl⟩
              rw [← hq, ← HNR.out] at hm HC5
              rw [← hq] at hv2
              have HM := hid hm
              have HV2 := hid hv2
              clear hc4 ho4 hI ho5 hso hbx hal hro hfo hfw hm HC4 HCK hq HO3 HC3
              subst hv2
              go_wp2_with fail
              refine HM.out.mono ?_
              rintro e w6 ⟨v6, rfl, ho6, hc6⟩
              have HO6 := hid (ownsRow_lowK ho6 HC5.out.size)
              have HC6 := hid (HC5.out.trans hc6 (fun _ _ h => h))
              clear HM ho6 hc6 HC5
              go_wp2
              go_roundw
              case rel => exact ⟨j + 1, _, mergeL [out, R], HLT.out, by go_num, rfl, hid ⟨HO6.out, HOK2.out, HC6.out⟩⟩
              case measure => have := HLT.out; simp [intOf]; omega
          · have z3 : decide ((200 : Int) < (wf.2.length : Int) + (wf.1.1.length : Int) + (wf.1.2.length : Int)) = true := decide_eq_true (by omega)
            clear hg2
            go_wp2_with fail
            go_ret
            exact ⟨rfl, HCW.out⟩
        · have hje : j = ws.length := by omega
          have HREL := hid hrel.out
          obtain ⟨aw, cw, hv2⟩ := hrel.out.1.shape
          have hfo := hrel.out.2.1.few HLL.out
          obtain ⟨q, hq⟩ : ∃ q, q = out.length := ⟨_, rfl⟩
          rw [← hq] at hv2
          subst hv2
          have HQ := hid hq
          have hq25 : q ≤ 2500 := by omega
          clear hrel hje hq hfo
          go_wp2
          go_loopw [69] (fun i wr2 => ∃ j : Nat, j ≤ q ∧ i = .int .i64 j ∧ Hid (Chg (fun _ => False) wr wr2)) (fun i _ => q - (intOf i).toNat)
          case atStart => exact ⟨0, Nat.zero_le _, rfl, hid (Chg.refl _ _)⟩
          case round =>
            obtain ⟨j2, hj2, rfl, hrel⟩ := hrel
            by_cases hlt : j2 < q
            · have hlo : j2 < out.length := by have := HQ.out; omega
              have hcw := HREL.out.2.2.trans hrel.out (fun _ _ h => h)
              have ho := HREL.out.1.keep hrel.out (fun _ _ => id)
              have hcap := ho.caps
              obtain ⟨x1, x2, k1, hst, _⟩ := ho.steps HREL.out.2.1.short
              injection k1 with k1 k2 k3
              subst k1 k3
              obtain ⟨b, off, hao, _, ⟨⟨a0, a1, a2, a3, a4, a5, a6, a7, a8⟩, ⟨b0, b1, b2⟩⟩, hss⟩ := hst j2 hlo
              have hmem : out[j2] ∈ out := List.getElem_mem hlo
              generalize out[j2] = s at *
              have hbx := heap_alloc_new wr (.cells #[.int .i64 s.c.kind, .string ⟨s.c.head.1.toArray⟩, .string ⟨s.c.head.2.toArray⟩, .string ⟨s.c.who.toArray⟩, .string ⟨s.c.b.1.toArray⟩, .string ⟨s.c.b.2.toArray⟩, .string ⟨s.c.c.1.toArray⟩, .string ⟨s.c.c.2.toArray⟩, .string ⟨s.c.w2.toArray⟩, .string ⟨s.f.1.1.toArray⟩, .string ⟨s.f.1.2.toArray⟩, .string ⟨s.f.2.toArray⟩] 43)
              have hal : Chg (fun _ => False) wr (wr.alloc (.cells #[.int .i64 s.c.kind, .string ⟨s.c.head.1.toArray⟩, .string ⟨s.c.head.2.toArray⟩, .string ⟨s.c.who.toArray⟩, .string ⟨s.c.b.1.toArray⟩, .string ⟨s.c.b.2.toArray⟩, .string ⟨s.c.c.1.toArray⟩, .string ⟨s.c.c.2.toArray⟩, .string ⟨s.c.w2.toArray⟩, .string ⟨s.f.1.1.toArray⟩, .string ⟨s.f.1.2.toArray⟩, .string ⟨s.f.2.toArray⟩] 43)) := (Chg.refl _ wr).alloc _
              obtain ⟨⟨s0, s1, s2, s3, s4, s5, s6, s7, s8⟩, ⟨t0, t1, t2⟩⟩ := step_at_blk hbx
              simp only [Nat.zero_add] at s0 s1 s2 s3 s4 s5 s6 s7 s8 t0 t1 t2
              change wr.cell? ⟨b, off + j2 * 12 + 10, none⟩ = _ at b1
              change wr.cell? ⟨b, off + j2 * 12 + 11, none⟩ = _ at b2
              have hc2 := hcw.trans hal (fun _ _ h => h)
              have hck := ck_check2 aw ao cw cp out ls s.f (wr.alloc (.cells #[.int .i64 s.c.kind, .string ⟨s.c.head.1.toArray⟩, .string ⟨s.c.head.2.toArray⟩, .string ⟨s.c.who.toArray⟩, .string ⟨s.c.b.1.toArray⟩, .string ⟨s.c.b.2.toArray⟩, .string ⟨s.c.c.1.toArray⟩, .string ⟨s.c.c.2.toArray⟩, .string ⟨s.c.w2.toArray⟩, .string ⟨s.f.1.1.toArray⟩, .string ⟨s.f.1.2.toArray⟩, .string ⟨s.f.2.toArray⟩] 43)) (by have := HQ.out; omega) hss.2 hcap.1 hcap.2 (hst.keep hal (fun _ _ => id)) (HX.out.1.keep hc2 (fun _ _ => id)) HREL.out.2.1.kinds HX.out.2.2.2
              rw [← HQ.out] at hck
              have HCK := hid hck
              have HCH := hid (HREL.out.2.1.checks hmem)
              have HC9 := hid (hrel.out.trans hal (fun _ _ h => h))
              have HLT := hid hlt
              clear hbx hal hcw ho hcap hst hss hmem hc2 hck hrel hlo k2
              subst hao
              go_wp2_with fail
              refine HCK.out.mono ?_
              rintro e w4 ⟨m, f, rfl, _, hI, hc4⟩
              obtain ⟨e1, e2⟩ := hI.one HCH.out
              subst e1 e2
              have HC10 := hid (HC9.out.trans hc4 (fun _ _ h => h))
              clear HCK HCH hI hc4 HC9 s0 s1 s2 s3 s4 s5 s6 s7 s8 t0 t1 t2 a0 a1 a2 a3 a4 a5 a6 a7 a8 b0 b1 b2
              go_wp2
              go_roundw
              case rel => exact ⟨j2 + 1, HLT.out, by go_num, HC10⟩
              case measure => have := HLT.out; simp [intOf]; omega
            · have HC9 := hid (HREL.out.2.2.trans hrel.out (fun _ _ h => h))
              have hje : j2 = q := by omega
              clear hrel
              go_wp2
              go_ret
              exact ⟨rfl, HC9.out⟩
    · have z2 : decide ((8 : Int) < (ws.length : Int)) = true := decide_eq_true (by omega)
      go_wp2
      go_ret
      exact ⟨rfl, HC2.out⟩
  · have z1 : decide ((1000 : Int) < (totalC ls : Int)) = true := decide_eq_true (by omega)
    go_wp2
    go_ret
    exact ⟨rfl, HC2.out⟩
end Go.Proofs.Ytjaplnainlbldaa
