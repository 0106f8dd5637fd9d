/- Texts that the proof leans on, in one: KwSetOf, KwCheck, ShelfD. -/
import Derived.Test.YtcdjjengkdbngaaKc32
import Derived.Shelf.SlicesE.DeleteFunc
import Derived.Ground.SlgfProg
import Derived.Shelf.Slices.Turned
import Derived.Shelf.Slices.In.SortNone
import Derived.Shelf.SlicesE.IndexFunc
import Derived.Test.YtcdjjengkdbngaaProg
/- The contract of the program's Check. -/
namespace Go.Proofs.Ytcdjjengkdbngaa
open Go.RowKit Go.Maps

def inC (cs : List CredB) : CredB → Option Value := fun c => if c ∈ cs then some (.agg #[]) else none
theorem inC_snoc (cs : List CredB) (c : CredB) : putF (inC cs) c (.agg #[]) = inC (cs ++ [c]) := by
  funext d
  unfold putF inC
  by_cases e : d = c
  · rw [if_pos e, if_pos (by simp [e])]
  · rw [if_neg e]
    by_cases h : d ∈ cs
    · rw [if_pos h, if_pos (by simp [h])]
    · rw [if_neg h, if_neg (by simp [h, e])]
theorem inC_some (cs : List CredB) (c : CredB) : (inC cs c).isSome = hasC cs c := by
  unfold inC hasC
  rw [List.contains_eq_mem]
  split <;> simp_all
theorem inC_val (cs : List CredB) (c : CredB) : (inC cs c).getD (.agg #[]) = .agg #[] := by unfold inC; split <;> rfl
theorem kZeroUn (w : World) : (zeroValue 80).run Try.prog w = .ok (.agg #[]) w := by kernel_rfl

theorem run_makeMapN (n : Int) (w : World) : (Instr.makeMap 76 (some (.int .i64 n))).run Try.prog w = .ok (.map (some w.heap.size)) (w.alloc (.map #[] 0)) := by
  simp [Instr.makeMap, run_underlying Try.underlying76, asInt, asIntOf, Sem.run_bind, Result.andThen]

def SetOfPost (cs : List CredB) (w : World) (e : Ending) (w' : World) : Prop := ∃ mb, e = .returned (.map (some mb)) ∧ w.heap.size ≤ mb ∧ KV ktW w' mb cs.length (inC cs) ∧ Chg (fun _ => False) w w'

set_option maxRecDepth 100000 in
set_option maxHeartbeats 4000000 in
theorem kw_setOf {E : Nat → Prop} (co : Option Addr) (cc : Nat) (cs : List CredB) (w : World) (hn : cs.length ≤ 1000000) (h : CredsAt E w co cs) (hk : KindsC cs) : Calls Try.prog 34 #[.slice co cs.length cc] w (SetOfPost cs w) := by
  have HS := hid (And.intro h hk)
  have hmm := run_makeMapN
  have hmk := kv_made ktW w
  have hca : Chg (fun _ => False) w (w.alloc (.map #[] 0)) := (Chg.refl _ _).alloc _
  have HM := hid (And.intro (hmk.cong (F' := inC []) (fun c _ => by simp [inC])) hca)
  clear h hk hmk hca
  go_enter Try.func34, Try.ntmps34
  go_wp2
  clear hmm
  generalize w.alloc (.map #[] 0) = w1 at *
  obtain ⟨mb, hmb⟩ : ∃ mb, w.heap.size = mb := ⟨_, rfl⟩
  have HMB := hid hmb
  rw [hmb] at HM ⊢
  clear hmb
  go_loopw [11] (fun i wr => ∃ j : Nat, j ≤ cs.length ∧ i = .int .i64 j ∧ Hid (KV ktW wr mb j (inC (cs.take j))) ∧ Hid (Chg (fun _ => False) w wr)) (fun i _ => cs.length - (intOf i).toNat)
  case atStart => exact ⟨0, Nat.zero_le _, rfl, hid HM.out.1, hid HM.out.2⟩
  case round =>
    obtain ⟨j, hj, rfl, hk, hc⟩ := hrel
    by_cases hlt : j < cs.length
    · obtain ⟨b, off, hao, _, ⟨a0, a1, a2, a3, a4, a5, a6, a7, a8⟩, hsc⟩ := (HS.out.1.keep hc.out (fun _ _ => id)) j hlt
      have hkw := HS.out.2 _ (List.getElem_mem hlt)
      have htk : inC (cs.take (j + 1)) = putF (inC (cs.take j)) cs[j] (.agg #[]) := by rw [List.take_succ_eq_append_getElem hlt, inC_snoc]
      generalize cs[j] = c at *
      have hal : Chg (fun _ => False) wr (wr.alloc (.cells #[.int .i64 c.kind, .string ⟨c.head.1.toArray⟩, .string ⟨c.head.2.toArray⟩, .string ⟨c.who.toArray⟩, .string ⟨c.b.1.toArray⟩, .string ⟨c.b.2.toArray⟩, .string ⟨c.c.1.toArray⟩, .string ⟨c.c.2.toArray⟩, .string ⟨c.w2.toArray⟩] 32)) := (Chg.refl _ _).alloc _
      obtain ⟨w2, hr0, hk2, hc2, _⟩ := (hk.out.keep hal id).set (t := 76) (e := 80) Try.underlying76 (by omega) (a := c) ⟨hsc, hkw⟩ (.agg #[])
      have hr : (Instr.mapUpdate 76 (.map (some mb)) (.agg #[.int .i64 c.kind, .string ⟨c.head.1.toArray⟩, .string ⟨c.head.2.toArray⟩, .string ⟨c.who.toArray⟩, .string ⟨c.b.1.toArray⟩, .string ⟨c.b.2.toArray⟩, .string ⟨c.c.1.toArray⟩, .string ⟨c.c.2.toArray⟩, .string ⟨c.w2.toArray⟩]) (.agg #[])).run Try.prog (wr.alloc (.cells #[.int .i64 c.kind, .string ⟨c.head.1.toArray⟩, .string ⟨c.head.2.toArray⟩, .string ⟨c.who.toArray⟩, .string ⟨c.b.1.toArray⟩, .string ⟨c.b.2.toArray⟩, .string ⟨c.c.1.toArray⟩, .string ⟨c.c.2.toArray⟩, .string ⟨c.w2.toArray⟩] 32)) = .ok () w2 := hr0
      rw [← htk] at hk2
      have HK2 := hid hk2
      have HC3 : Hid (Chg (fun _ => False) w w2) := hid ((hc.out.trans hal (fun _ _ h => h)).trans hc2 (fun i hi h => by have := HMB.out; omega))
      clear hk hc hsc hkw htk hal hk2 hc2 hr0
      subst hao
      go_wp2
      clear hr a0 a1 a2 a3 a4 a5 a6 a7 a8
      go_roundw
      case rel => exact ⟨j + 1, by omega, by go_num, HK2, HC3⟩
      case measure => simp [intOf]; omega
    · have hje : j = cs.length := by omega
      have hk2 := hk.out
      rw [hje, List.take_length] at hk2
      have HP := hid (show SetOfPost cs w (.returned (.map (some mb))) wr from ⟨mb, rfl, by have := HMB.out; omega, hk2, hc.out⟩)
      clear hk hc hk2 hje
      go_wp2
      go_ret
      exact HP.out
end Go.Proofs.Ytcdjjengkdbngaa

/- The contract of the program's Check. -/
namespace Go.Proofs.Ytcdjjengkdbngaa
open Go.RowKit Go.Maps

def CheckPost (ls : List StepB) (cs : List CredB) (wf : FactB) (w : World) (e : Ending) (w' : World) : Prop :=
  ∃ n f, e = .returned (.tuple #[.int .i64 (n : Nat), .int .i64 f]) ∧ n ≤ ls.length ∧ CheckIs ls cs wf n f ∧ Chg (fun _ => False) w w'

theorem totalC_len9 (a : List CredB) : a.length * 20 ≤ totalC a := by
  induction a with
  | nil => simp [totalC]
  | cons x l ih => rw [totalC, List.length_cons, sizeC]; omega

set_option maxRecDepth 100000 in
set_option maxHeartbeats 8000000 in
theorem ck_check {D E : Nat → Prop} (ao co : Option Addr) (cp cc : Nat) (ls : List StepB) (cs : List CredB) (wf : FactB) (w : World) (hn : totalSt ls + totalC cs ≤ 2500) (hwf : factShort wf 9223372036854775807) (hcp : ls.length ≤ cp) (hcp2 : cp ≤ 9223372036854775807) (h : StepsAt D w ao ls) (hcs : CredsAt E w co cs) (hks : KindsS ls) (hkc : KindsC cs) :
    Calls Try.prog 11 #[.slice ao ls.length cp, .slice co cs.length cc, .agg #[.string ⟨wf.1.1.toArray⟩, .string ⟨wf.1.2.toArray⟩, .string ⟨wf.2.toArray⟩]] w (CheckPost ls cs wf w) := by
  have hl1 := totalSt_len ls
  have hl2 := totalC_len9 cs
  have hlen : ls.length ≤ 125 := by omega
  have hlen2 : cs.length ≤ 125 := by omega
  have hb := heap_alloc_new w (.cells #[.string ⟨wf.1.1.toArray⟩, .string ⟨wf.1.2.toArray⟩, .string ⟨wf.2.toArray⟩] 34)
  have hc : Chg (fun _ => False) w (w.alloc (.cells #[.string ⟨wf.1.1.toArray⟩, .string ⟨wf.1.2.toArray⟩, .string ⟨wf.2.toArray⟩] 34)) := (Chg.refl _ w).alloc _
  have HS : Hid ((w.alloc (.cells #[.string ⟨wf.1.1.toArray⟩, .string ⟨wf.1.2.toArray⟩, .string ⟨wf.2.toArray⟩] 34)).heap[w.heap.size]? = some (.cells (factBox wf) 34 (0, 0)) ∧ factShort wf 9223372036854775807 ∧ StepsAt D (w.alloc (.cells #[.string ⟨wf.1.1.toArray⟩, .string ⟨wf.1.2.toArray⟩, .string ⟨wf.2.toArray⟩] 34)) ao ls ∧ KindsS ls ∧ Chg (fun _ => False) w (w.alloc (.cells #[.string ⟨wf.1.1.toArray⟩, .string ⟨wf.1.2.toArray⟩, .string ⟨wf.2.toArray⟩] 34))) := hid ⟨hb, hwf, h.keep hc (fun _ _ => id), hks, hc⟩
  have HSET := hid (kw_setOf co cc cs (w.alloc (.cells #[.string ⟨wf.1.1.toArray⟩, .string ⟨wf.1.2.toArray⟩, .string ⟨wf.2.toArray⟩] 34)) (by omega) (hcs.keep hc (fun _ _ => id)) hkc)
  clear hb hc hwf h hcs hks hkc hl1 hl2 hn hcp hcp2
  go_enter Try.func11, Try.ntmps11
  go_wp2_with fail
  refine HSET.out.mono ?_
  clear HSET
  generalize (w.alloc (.cells #[.string ⟨wf.1.1.toArray⟩, .string ⟨wf.1.2.toArray⟩, .string ⟨wf.2.toArray⟩] 34)) = w1 at *
  obtain ⟨X, hX⟩ : ∃ X, w.heap.size = X := ⟨_, rfl⟩
  simp only [hX] at HS ⊢
  clear hX
  rintro e w2 ⟨mb, rfl, _, hkv, hc2⟩
  have HKV := hid hkv
  have HS2 : Hid (w2.heap[X]? = some (.cells (factBox wf) 34 (0, 0)) ∧ factShort wf 9223372036854775807 ∧ StepsAt D w2 ao ls ∧ KindsS ls ∧ Chg (fun _ => False) w w2) := hid ⟨blk_keep HS.out.1 hc2 id, HS.out.2.1, HS.out.2.2.1.keep hc2 (fun _ _ => id), HS.out.2.2.2.1, HS.out.2.2.2.2.trans hc2 (fun _ _ h => h)⟩
  have HNEW := hid (kw_new w2)
  clear HS hkv hc2
  go_wp2_with fail
  refine HNEW.out.mono ?_
  clear HNEW
  intro e w3 hnew
  obtain ⟨g, rfl, hk, hc3⟩ := KK.made hnew
  have HK := hid hk
  have HC := hid hc3
  clear hnew hk hc3
  go_wp2
  go_loopw [19] (fun i wr => ∃ j : Nat, j ≤ ls.length ∧ i = .int .i64 j ∧ Hid (KK w2 (fun _ => False) g (knownK (factsK (ls.take j))) wr) ∧ Hid (Chg (fun _ => False) w2 wr) ∧ Hid (∀ i, i < j → goodK ls cs i)) (fun i _ => ls.length - (intOf i).toNat)
  case atStart => exact ⟨0, Nat.zero_le _, rfl, HK, HC, hid (fun i hi => by omega)⟩
  case round =>
    obtain ⟨j, hj, rfl, hk, hc, hgd⟩ := hrel
    have hkl : (knownK (factsK (ls.take j))).length ≤ 125 := by
      have h1 := knownK_len (factsK (ls.take j))
      have h2 : (ls.take j).length ≤ j := List.length_take_le _ _
      rw [factsK_len] at h1
      omega
    by_cases hlt : j < ls.length
    · obtain ⟨b, off, hao, _, ⟨⟨a0, a1, a2, a3, a4, a5, a6, a7, a8⟩, ⟨b0, b1, b2⟩⟩, hss⟩ := (HS2.out.2.2.1.keep hc.out (fun _ _ => id)) j hlt
      have hkw := HS2.out.2.2.2.1 _ (List.getElem_mem hlt)
      have htk : knownK (factsK (ls.take (j + 1))) = addK (knownK (factsK (ls.take j))) ls[j].f := by rw [List.take_succ_eq_append_getElem hlt, factsK_snoc, knownK_snoc]
      have hgood : goodK ls cs j ↔ (hasC cs ls[j].c = true ∧ followsK ls[j] (factsK (ls.take j)) = true) := ⟨fun h => h hlt, fun h _ => h⟩
      generalize hsj : ls[j] = s at *
      clear hsj
      have hal : Chg (fun _ => False) wr (wr.alloc (.cells #[.int .i64 s.c.kind, .string ⟨s.c.head.1.toArray⟩, .string ⟨s.c.head.2.toArray⟩, .string ⟨s.c.who.toArray⟩, .string ⟨s.c.b.1.toArray⟩, .string ⟨s.c.b.2.toArray⟩, .string ⟨s.c.c.1.toArray⟩, .string ⟨s.c.c.2.toArray⟩, .string ⟨s.c.w2.toArray⟩, .string ⟨s.f.1.1.toArray⟩, .string ⟨s.f.1.2.toArray⟩, .string ⟨s.f.2.toArray⟩] 36)) := (Chg.refl _ _).alloc _
      have hbx := heap_alloc_new wr (.cells #[.int .i64 s.c.kind, .string ⟨s.c.head.1.toArray⟩, .string ⟨s.c.head.2.toArray⟩, .string ⟨s.c.who.toArray⟩, .string ⟨s.c.b.1.toArray⟩, .string ⟨s.c.b.2.toArray⟩, .string ⟨s.c.c.1.toArray⟩, .string ⟨s.c.c.2.toArray⟩, .string ⟨s.c.w2.toArray⟩, .string ⟨s.f.1.1.toArray⟩, .string ⟨s.f.1.2.toArray⟩, .string ⟨s.f.2.toArray⟩] 36)
      have hw4 : Chg (fun _ => False) wr ((wr.alloc (.cells #[.int .i64 s.c.kind, .string ⟨s.c.head.1.toArray⟩, .string ⟨s.c.head.2.toArray⟩, .string ⟨s.c.who.toArray⟩, .string ⟨s.c.b.1.toArray⟩, .string ⟨s.c.b.2.toArray⟩, .string ⟨s.c.c.1.toArray⟩, .string ⟨s.c.c.2.toArray⟩, .string ⟨s.c.w2.toArray⟩, .string ⟨s.f.1.1.toArray⟩, .string ⟨s.f.1.2.toArray⟩, .string ⟨s.f.2.toArray⟩] 36)).alloc (.cells #[] 80)) := hal.alloc _
      have hlook := (HKV.out.keep (hc.out.trans hal (fun _ _ h => h)) id).look_ok (t := 76) (e := 80) Try.underlying76 (kZeroUn _) (a := s.c) ⟨hss.1, hkw⟩
      rw [inC_val, inC_some] at hlook
      have hlk : (Instr.lookup 76 (.map (some mb)) (.agg #[.int .i64 s.c.kind, .string ⟨s.c.head.1.toArray⟩, .string ⟨s.c.head.2.toArray⟩, .string ⟨s.c.who.toArray⟩, .string ⟨s.c.b.1.toArray⟩, .string ⟨s.c.b.2.toArray⟩, .string ⟨s.c.c.1.toArray⟩, .string ⟨s.c.c.2.toArray⟩, .string ⟨s.c.w2.toArray⟩]) true).run Try.prog (wr.alloc (.cells #[.int .i64 s.c.kind, .string ⟨s.c.head.1.toArray⟩, .string ⟨s.c.head.2.toArray⟩, .string ⟨s.c.who.toArray⟩, .string ⟨s.c.b.1.toArray⟩, .string ⟨s.c.b.2.toArray⟩, .string ⟨s.c.c.1.toArray⟩, .string ⟨s.c.c.2.toArray⟩, .string ⟨s.c.w2.toArray⟩, .string ⟨s.f.1.1.toArray⟩, .string ⟨s.f.1.2.toArray⟩, .string ⟨s.f.2.toArray⟩] 36)) = .ok (.tuple #[.agg #[], .bool (hasC cs s.c)]) (wr.alloc (.cells #[.int .i64 s.c.kind, .string ⟨s.c.head.1.toArray⟩, .string ⟨s.c.head.2.toArray⟩, .string ⟨s.c.who.toArray⟩, .string ⟨s.c.b.1.toArray⟩, .string ⟨s.c.b.2.toArray⟩, .string ⟨s.c.c.1.toArray⟩, .string ⟨s.c.c.2.toArray⟩, .string ⟨s.c.w2.toArray⟩, .string ⟨s.f.1.1.toArray⟩, .string ⟨s.f.1.2.toArray⟩, .string ⟨s.f.2.toArray⟩] 36)) := hlook
      obtain ⟨⟨s0, s1, s2, s3, s4, s5, s6, s7, s8⟩, ⟨t0, t1, t2⟩⟩ := step_at_blk hbx
      simp only [Nat.zero_add] at s0 s1 s2 s3 s4 s5 s6 s7 s8 t0 t1 t2
      change wr.cell? ⟨b, off + j * 12 + 10, none⟩ = _ at b1
      change wr.cell? ⟨b, off + j * 12 + 11, none⟩ = _ at b2
      have HLT := hid hlt
      have HTK := hid htk
      have HGO := hid hgood
      have HKL := hid hkl
      have HS5 := hid hss
      have HCW : Hid (Chg (fun _ => False) w ((wr.alloc (.cells #[.int .i64 s.c.kind, .string ⟨s.c.head.1.toArray⟩, .string ⟨s.c.head.2.toArray⟩, .string ⟨s.c.who.toArray⟩, .string ⟨s.c.b.1.toArray⟩, .string ⟨s.c.b.2.toArray⟩, .string ⟨s.c.c.1.toArray⟩, .string ⟨s.c.c.2.toArray⟩, .string ⟨s.c.w2.toArray⟩, .string ⟨s.f.1.1.toArray⟩, .string ⟨s.f.1.2.toArray⟩, .string ⟨s.f.2.toArray⟩] 36)).alloc (.cells #[] 80))) := hid (HS2.out.2.2.2.2.trans (hc.out.trans hw4 (fun _ _ h => h)) (fun _ _ h => h))
      have HK4 := hid (hk.out.quiet hw4)
      have HC4 := hid (hc.out.trans hw4 (fun _ _ h => h))
      have HBX : Hid (((wr.alloc (.cells #[.int .i64 s.c.kind, .string ⟨s.c.head.1.toArray⟩, .string ⟨s.c.head.2.toArray⟩, .string ⟨s.c.who.toArray⟩, .string ⟨s.c.b.1.toArray⟩, .string ⟨s.c.b.2.toArray⟩, .string ⟨s.c.c.1.toArray⟩, .string ⟨s.c.c.2.toArray⟩, .string ⟨s.c.w2.toArray⟩, .string ⟨s.f.1.1.toArray⟩, .string ⟨s.f.1.2.toArray⟩, .string ⟨s.f.2.toArray⟩] 36)).alloc (.cells #[] 80)).heap[wr.heap.size]? = some (.cells (stepBox s) 36 (0, 0))) := hid (blk_keep hbx ((Chg.refl (fun _ => False) _).alloc _) id)
      have hfl := (hk.out.quiet hw4).follows s hss (by omega)
      rw [follows_ways] at hfl
      unfold stepBox at hfl
      have HFL := hid hfl
      clear hal hbx hw4 hlook hkl hgood htk hss hk hc hfl hlt
      subst hao
      cases hcc : hasC cs s.c with
      | false =>
        rw [hcc] at hlk
        have HNO : Hid (CheckIs ls cs wf j 50) := hid (.inl ⟨HLT.out, hgd.out, (fun hg => by have := (HGO.out.1 hg).1; rw [hcc] at this; exact Bool.noConfusion this), rfl⟩)
        clear hcc
        go_wp2_with fail
        go_ret2
        exact ⟨j, 50, rfl, by have := HLT.out; omega, HNO.out, HCW.out⟩
      | true =>
        rw [hcc] at hlk
        have HCC := hid hcc
        clear hcc
        go_wp2_with fail
        refine HFL.out.mono ?_
        clear hlk HFL s0 s1 s2 s3 s4 s5 s6 s7 s8 t0 t1 t2 a0 a1 a2 a3 a4 a5 a6 a7 a8 b0 b1 b2
        rintro e w5 ⟨rfl, hc5⟩
        have HK5 := hid (HK4.out.quiet hc5)
        have HC5 := hid (HC4.out.trans hc5 (fun _ _ h => h))
        have HCW5 := hid (HCW.out.trans hc5 (fun _ _ h => h))
        obtain ⟨_, ⟨t0, t1, t2⟩⟩ := step_at_blk (blk_keep HBX.out hc5 id)
        simp only [Nat.zero_add] at t0 t1 t2
        clear hc5
        cases hff : followsK s (factsK (ls.take j)) with
        | false =>
          have HNO : Hid (CheckIs ls cs wf j 50) := hid (.inl ⟨HLT.out, hgd.out, (fun hg => by have := (HGO.out.1 hg).2; rw [hff] at this; exact Bool.noConfusion this), rfl⟩)
          clear hff
          go_wp2_with fail
          go_ret2
          exact ⟨j, 50, rfl, by have := HLT.out; omega, HNO.out, HCW5.out⟩
        | true =>
          have HG2 : Hid (goodK ls cs j) := hid (HGO.out.2 ⟨HCC.out, hff⟩)
          have HADD := hid (HK5.out.add (fun i hi => hi.elim) s.f HS5.out.2 (by have := HKL.out; omega))
          clear hff
          go_wp2_with fail
          refine HADD.out.mono ?_
          clear HADD
          rintro e w6 ⟨rfl, hk6, hc6⟩
          have HK6 := hid (HTK.out ▸ hk6)
          have HC6 := hid (HC5.out.trans hc6 (fun i hi h => by omega))
          clear hk6 hc6 HC5 HTK
          go_wp2
          go_roundw
          case rel => exact ⟨j + 1, by have := HLT.out; omega, by go_num, HK6, HC6, hid (fun i hi => by
            by_cases e : i = j
            · subst e; exact HG2.out
            · exact hgd.out i (by omega))⟩
          case measure => have := HLT.out; simp [intOf]; omega
    · have hje : j = ls.length := by omega
      have hk2 := hk.out
      rw [hje, List.take_length] at hk2
      have HHAS := hid (hk2.has wf HS2.out.2.1)
      have HC2 := hid (HS2.out.2.2.2.2.trans hc.out (fun _ _ h => h))
      have HIF : Hid (CheckIs ls cs wf ls.length (if decide (wf ∈ knownK (factsK ls)) then 0 else 42)) := hid (.inr ⟨rfl, fun i hi => hgd.out i (by omega), by
        congr 1
        rw [eq_iff_iff, decide_eq_true_eq, knownK_mem, inF_iff]⟩)
      obtain ⟨x0, x1, x2⟩ := fact_at_blk (blk_keep HS2.out.1 hc.out id)
      simp only [Nat.zero_add] at x0 x1 x2
      clear hk hk2 hc hje hgd hkl
      go_wp2_with fail
      refine HHAS.out.mono ?_
      clear HHAS
      rintro e w2 ⟨rfl, hc2⟩
      have HC3 := hid (HC2.out.trans hc2 (fun _ _ h => h))
      clear hc2 HC2 x0 x1 x2
      cases hwm : decide (wf ∈ knownK (factsK ls)) with
      | false =>
        rw [hwm] at HIF
        go_wp2_with fail
        go_ret2
        exact ⟨ls.length, 42, rfl, Nat.le_refl _, HIF.out, HC3.out⟩
      | true =>
        rw [hwm] at HIF
        go_wp2_with fail
        go_ret2
        exact ⟨ls.length, 0, rfl, Nat.le_refl _, HIF.out, HC3.out⟩
end Go.Proofs.Ytcdjjengkdbngaa

/-
  DERIVED: THE SHELF's CONTRACTS AT THIS DUMP, IN PLAIN WORDS (tools/lay-plain.mjs out of 'TryShelfD.lean', which tools/lay-shelf.mjs wrote): THE SAME DECLARATIONS UNDER THE SAME NAMES: 'import', 'namespace', 'open', 'def', 'theorem' AND NOTHING ELSE: no command of the shelf's: FOR A HAND-IN. Each laying: the table of numbers ('.._ren') and one theorem, a field a fact of the dump's own or the kernel's comparison; each contract: ONE APPLICATION.
-/
namespace Go.Proofs
open Go.Shelf
def Try.lays107_ren : Go.Shelf.Ren := ⟨fun | 107 => 96 | 108 => 122 | n => n, fun | 28 => 121 | 3 => 3 | 4 => 4 | 0 => 0 | n => n, fun | n => n⟩
theorem Try.lays107 : Go.Proofs.Lays.n107 Try.prog Try.lays107_ren := {
  mixed := by kernel_rfl
  f107 := Try.func96.trans (congrArg some (by kernel_rfl))
  f108 := Try.func122.trans (congrArg some (by kernel_rfl))
  t0 := Try.underlying0
  a0 := Try.isAgg0
  z0 := Try.sizeOf0
  v0 := Try.zeroValue0
  t3 := Try.underlying3
  a3 := Try.isAgg3
  z3 := Try.sizeOf3
  v3 := Try.zeroValue3
  t4 := Try.underlying4
  a4 := Try.isAgg4
  z4 := Try.sizeOf4
  v4 := Try.zeroValue4
  t28 := Try.underlying121
  a28 := Try.isAgg121
  z28 := Try.sizeOf121
  v28 := Try.zeroValue121 }
open Go.Lib in
/-- slices.Contains at []int: "Contains reports whether v is present in s.": IT RETURNS 'elements.contains v'; the world is as it was. ITS CALLEE slices.Index IS MET BY ITS OWN CONTRACT OFF THE SHELF (lay that first): no loop is walked here. (LAID: no walk: one application.) -/
theorem Try.slices_Contains_int (b off n c : Nat) (zs : List Int) (x : Int) (w : World) (hz : n ≤ zs.length) (hbig : n ≤ 9223372036854775807) (hc : ∀ j, j < zs.length → w.cell? ⟨b, off + j, none⟩ = some (.int .i64 (zs.getD j 0))) :
    Calls Try.prog 96 #[.slice (some ⟨b, off, none⟩) n c, .int .i64 x] w fun e w' => e = .returned (.bool ((zs.take n).contains x)) ∧ w' = w := Any.slices_Contains_int Try.lays107 b off n c zs x w hz hbig hc
open Go.Lib in
/-- The same at a slice of length 0, a nil one too. (LAID: no walk: one application.) -/
theorem Try.slices_Contains_int_empty (a : Option Addr) (c : Nat) (x : Int) (w : World) :
    Calls Try.prog 96 #[.slice a 0 c, .int .i64 x] w fun e w' => e = .returned (.bool false) ∧ w' = w := Any.slices_Contains_int_empty Try.lays107 a c x w
def Try.laysSlH6_f121_ren : Go.Shelf.Ren := ⟨fun | 6 => 121 | n => n, fun | 22 => 121 | 23 => 3 | 25 => 106 | 3 => 3 | 0 => 0 | 4 => 4 | n => n, fun | n => n⟩
theorem Try.laysSlH6_f121 : Go.Proofs.SlLaysH.n6 Try.prog Try.laysSlH6_f121_ren := {
  mixed := by kernel_rfl
  f6 := ⟨Try.f121.name, by decide, Try.func121.trans (congrArg some (by kernel_rfl))⟩
  t0 := Try.underlying0
  a0 := Try.isAgg0
  z0 := Try.sizeOf0
  v0 := Try.zeroValue0
  t3 := Try.underlying3
  a3 := Try.isAgg3
  z3 := Try.sizeOf3
  v3 := Try.zeroValue3
  t4 := Try.underlying4
  a4 := Try.isAgg4
  z4 := Try.sizeOf4
  v4 := Try.zeroValue4
  t22 := Try.underlying121
  a22 := Try.isAgg121
  z22 := Try.sizeOf121
  v22 := Try.zeroValue121
  a23 := Try.isAgg3
  z23 := Try.sizeOf3
  t25 := Try.underlying106
  a25 := Try.isAgg106
  z25 := Try.sizeOf106
  v25 := Try.zeroValue106 }
open Go.RowKit Go.Lib in
/-- The same at a slice of length 0, a nil one too: the predicate is not called: nothing is asked of it. (LAID AT THE INSTANCE 'slices.IndexFunc[[]int,int]': no walk: one application.) -/
theorem Try.slices_IndexFunc_empty {α : Type} [Inhabited α] (a : Option Addr) (c : Nat) (fv : Value) (w : World) :
    Calls Try.prog 121 #[.slice a 0 c, fv] w fun e w' => e = .returned (.int .i64 (-1)) ∧ w' = w := AnyE.slices_IndexFunc_empty Try.laysSlH6_f121 a c fv w
def Try.laysSlH10_f94_ren : Go.Shelf.Ren := ⟨fun | 10 => 94 | 6 => 121 | n => n, fun | 22 => 121 | 23 => 3 | 25 => 106 | 3 => 3 | 4 => 4 | 0 => 0 | n => n, fun | n => n⟩
theorem Try.laysSlH10_f94 : Go.Proofs.SlLaysH.n10 Try.prog Try.laysSlH10_f94_ren := {
  mixed := by kernel_rfl
  f6 := ⟨Try.f121.name, by decide, Try.func121.trans (congrArg some (by kernel_rfl))⟩
  f10 := ⟨Try.f94.name, by decide, Try.func94.trans (congrArg some (by kernel_rfl))⟩
  t0 := Try.underlying0
  a0 := Try.isAgg0
  z0 := Try.sizeOf0
  v0 := Try.zeroValue0
  t3 := Try.underlying3
  a3 := Try.isAgg3
  z3 := Try.sizeOf3
  v3 := Try.zeroValue3
  t4 := Try.underlying4
  a4 := Try.isAgg4
  z4 := Try.sizeOf4
  v4 := Try.zeroValue4
  t22 := Try.underlying121
  a22 := Try.isAgg121
  z22 := Try.sizeOf121
  v22 := Try.zeroValue121
  a23 := Try.isAgg3
  z23 := Try.sizeOf3
  t25 := Try.underlying106
  a25 := Try.isAgg106
  z25 := Try.sizeOf106
  v25 := Try.zeroValue106 }
open Go.RowKit Go.Lib Go.Sort in
theorem Try.slices_DeleteFunc {α : Type} [Inhabited α] (enc : α → Value) (hO : OneCell enc) (p : α → Bool) (g : Nat) (lb : Array Value) (eg : ∀ args w, (callFunc g args).run Try.prog w = .ok (.enter g args) w) (zr : α) (v23 : ∀ w, (zeroValue 3).run Try.prog w = .ok (enc zr) w) (blk off cap : Nat) (d : Array α) (w : World) (hp : PredAt Try.prog g lb enc p w) (hpo : PredOver Try.prog g lb enc p blk off d.size w) (hH : Holds enc w blk off d) (hsz : d.size ≤ 9223372036854775807) (hcap : d.size ≤ cap) :
    Calls Try.prog 94 #[.slice (some ⟨blk, off, none⟩) d.size cap, .func (.func g) #[] lb] w fun e w' => e = .returned (.slice (some ⟨blk, off, none⟩) (d.toList.filter fun x => !p x).length cap) ∧ ∃ q, w' = putRow enc (Sort.ahead w q) blk off ((d.toList.filter fun x => !p x) ++ List.replicate (d.size - (d.toList.filter fun x => !p x).length) zr).toArray := AnyE.slices_DeleteFunc Try.laysSlH10_f94 enc hO p g lb eg zr v23 blk off cap d w hp hpo hH hsz hcap
end Go.Proofs
