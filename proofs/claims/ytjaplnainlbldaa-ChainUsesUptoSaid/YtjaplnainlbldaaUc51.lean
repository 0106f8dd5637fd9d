/- Texts that the proof leans on, in one: ChMm, ChTot, RefCredSame. -/
import Derived.Test.YtjaplnainlbldaaUc46
import Derived.Test.YtjaplnainlbldaaUc8
import Derived.Test.YtjaplnainlbldaaUc48
import Derived.Test.YtjaplnainlbldaaUc2
import Derived.Test.YtjaplnainlbldaaProg
import Derived.Test.YtjaplnainlbldaaChecked
import Derived.Deep.QuietTactic
import Derived.BigQuiet
/- Merge: the document's. -/
namespace Go.Proofs.Ytjaplnainlbldaa
open Go.RowKit
attribute [local go_sem ↓ high] run_eqg_factl run_eql_factl

set_option maxRecDepth 100000 in
set_option maxHeartbeats 2000000 in
theorem rch_merge {D : Nat → Prop} (ao : Option Addr) (cp : Nat) (lss : List (List StepB)) (w : World) (hn : lss.length ≤ 1048576) (hs : (lss.map List.length).sum ≤ 1048576) (h : RowsAt D w ao lss) :
    Calls Try.prog 21 #[.slice ao lss.length cp] w (MergePost lss w) := by
  have HX := hid h
  have HSUM := hid hs
  clear h hs
  go_enter Try.func21, Try.ntmps21
  go_wp2
  go_loopw [3, 13] (fun v i wr => ∃ (j : Nat) (o : Value), j ≤ lss.length ∧ i = .int .i64 j ∧ v = o ∧ Hid (OwnSt w.heap.size wr o (mergeL (lss.take j)) ∧ Chg (fun _ => False) w wr)) (fun _ i _ => lss.length - (intOf i).toNat)
  case atStart => exact ⟨0, _, Nat.zero_le _, rfl, rfl, hid ⟨World.ownsRow_nil _ _ _ _, Chg.refl _ _⟩⟩
  case round =>
    obtain ⟨j, o, hj, rfl, rfl, hrel⟩ := hrel
    by_cases hlt : j < lss.length
    · obtain ⟨b, off, ai, ci, hao, hD, hcell0, hst, _⟩ := HX.out j hlt
      have hcell := hrel.out.2.cell hcell0 id
      have htk : mergeL (lss.take (j + 1)) = addsSt (mergeL (lss.take j)) lss[j] := by rw [List.take_succ_eq_append_getElem hlt, mergeL_snoc]
      have hsum : (mergeL (lss.take j)).length + lss[j].length ≤ 1048576 := by
        have h1 := mergeL_len (lss.take j)
        have h2 : ((lss.take (j + 1)).map List.length).sum ≤ (lss.map List.length).sum := by
          conv => rhs; rw [← List.take_append_drop (j + 1) lss]
          rw [List.map_append, List.sum_append]
          omega
        rw [List.take_succ_eq_append_getElem hlt, List.map_append, List.sum_append] at h2
        simp only [List.map_cons, List.map_nil, List.sum_cons, List.sum_nil] at h2
        have := HSUM.out
        omega
      have hsh0 : ∀ x ∈ mergeL (lss.take j), stepShort x 9223372036854775807 := fun x hx => by
        obtain ⟨m, hm, hxm⟩ := mergeL_mem _ _ hx
        obtain ⟨q, hq, rfl⟩ := List.getElem_of_mem (List.mem_of_mem_take hm)
        obtain ⟨_, _, _, _, _, _, _, h4, _⟩ := HX.out q hq
        exact steps_short h4 x hxm
      generalize lss[j] = l at *
      have HTK := hid htk
      have HSM := hid hsum
      have HREL := hid hrel.out
      have HST := hid hst
      have HS0 := hid hsh0
      obtain ⟨O0, hO⟩ : ∃ O0, O0 = mergeL (lss.take j) := ⟨_, rfl⟩
      have HO := hid hO
      rw [← hO] at HREL HTK HSM HS0
      subst hao
      clear htk hsum hrel hst hO hcell0 hsh0
      go_wp2
      go_loopw [3, 19] (fun v i wr => ∃ (k : Nat) (o : Value), k ≤ l.length ∧ i = .int .i64 k ∧ v = o ∧ Hid (OwnSt w.heap.size wr o (addsSt O0 (l.take k)) ∧ Chg (fun _ => False) w wr)) (fun _ i _ => l.length - (intOf i).toNat)
      case atStart => exact ⟨0, _, Nat.zero_le _, rfl, rfl, hid HREL.out⟩
      case round =>
        obtain ⟨k, o2, hk, rfl, rfl, hin⟩ := hrel
        by_cases hlk : k < l.length
        · obtain ⟨b2, off2, hao2, hD2, ⟨⟨a0, a1, a2, a3, a4, a5, a6, a7, a8⟩, ⟨c0, c1, c2⟩⟩, hss⟩ := (HST.out.keep hin.out.2 (fun _ _ => id)) k hlk
          change World.cell? _ ⟨b2, off2 + k * 12 + 10, none⟩ = _ at c1
          change World.cell? _ ⟨b2, off2 + k * 12 + 11, none⟩ = _ at c2
          have HTL : Hid (addsSt O0 (l.take (k + 1)) = addSt (addsSt O0 (l.take k)) l[k]) := hid (by rw [List.take_succ_eq_append_getElem hlk, addsSt_snoc])
          generalize l[k] = s at *
          have hkb : k < 1048576 := by have := HSM.out; omega
          have hlen : (addsSt O0 (l.take k)).length ≤ 1048576 := by
            have h1 := addsSt_len O0 (l.take k)
            have h2 : (l.take k).length ≤ k := List.length_take_le _ _
            have := HSM.out
            omega
          have hshort : ∀ x ∈ addsSt O0 (l.take k), stepShort x 9223372036854775807 := fun x hx => (addsSt_mem _ _ _ hx).elim (HS0.out x) (fun h => steps_short HST.out x (List.mem_of_mem_take h))
          obtain ⟨out, hout⟩ : ∃ out, out = addsSt O0 (l.take k) := ⟨_, rfl⟩
          have hin2 := hin.out
          rw [← hout] at hlen hshort HTL hin2
          obtain ⟨ao3, cap3, rfl, hst3, _⟩ := hin2.1.steps hshort
          have hSb : (wr.alloc (.cells #[.int .i64 s.c.kind, .string ⟨s.c.head.1.toArray⟩, .string ⟨s.c.head.2.toArray⟩, .string ⟨s.c.who.toArray⟩, .string ⟨s.c.b.1.toArray⟩, .string ⟨s.c.b.2.toArray⟩, .string ⟨s.c.c.1.toArray⟩, .string ⟨s.c.c.2.toArray⟩, .string ⟨s.c.w2.toArray⟩, .string ⟨s.f.1.1.toArray⟩, .string ⟨s.f.1.2.toArray⟩, .string ⟨s.f.2.toArray⟩] 43)).heap[wr.heap.size]? = some (.cells (stepBox s) 43 (0, 0)) := heap_alloc_new wr _
          have hal : Chg (fun _ => False) wr (wr.alloc (.cells #[.int .i64 s.c.kind, .string ⟨s.c.head.1.toArray⟩, .string ⟨s.c.head.2.toArray⟩, .string ⟨s.c.who.toArray⟩, .string ⟨s.c.b.1.toArray⟩, .string ⟨s.c.b.2.toArray⟩, .string ⟨s.c.c.1.toArray⟩, .string ⟨s.c.c.2.toArray⟩, .string ⟨s.c.w2.toArray⟩, .string ⟨s.f.1.1.toArray⟩, .string ⟨s.f.1.2.toArray⟩, .string ⟨s.f.2.toArray⟩] 43)) := (Chg.refl _ _).alloc _
          have HIN := hid (And.intro hin2 (And.intro hst3 (And.intro hSb hal)))
          have HKL := hid hlk
          have HLEN := hid hlen
          clear hin hin2 hshort hst3 hSb hal hout
          subst hao2
          go_wp2
          clear a0 a1 a2 a3 a4 a5 a6 a7 a8 c0 c1 c2
          generalize hws : wr.alloc (.cells #[.int .i64 s.c.kind, .string ⟨s.c.head.1.toArray⟩, .string ⟨s.c.head.2.toArray⟩, .string ⟨s.c.who.toArray⟩, .string ⟨s.c.b.1.toArray⟩, .string ⟨s.c.b.2.toArray⟩, .string ⟨s.c.c.1.toArray⟩, .string ⟨s.c.c.2.toArray⟩, .string ⟨s.c.w2.toArray⟩, .string ⟨s.f.1.1.toArray⟩, .string ⟨s.f.1.2.toArray⟩, .string ⟨s.f.2.toArray⟩] 43) = ws at *
          have HWS := hid hws
          clear hws
          obtain ⟨sb, hsb⟩ : ∃ sb, wr.heap.size = sb := ⟨_, rfl⟩
          rw [hsb] at HIN ⊢
          clear hsb HWS
          go_loopw [8, 25] (fun v i wr => ∃ (q : Nat) (has : Bool), q ≤ out.length ∧ i = .int .i64 q ∧ v = .bool has ∧ Hid (has = decide (s.f ∈ (out.take q).map (·.f))) ∧ Hid (Chg (fun _ => False) ws wr)) (fun _ i _ => out.length - (intOf i).toNat)
          case atStart => exact ⟨0, false, Nat.zero_le _, rfl, rfl, hid (by simp), hid (Chg.refl _ _)⟩
          case round =>
            obtain ⟨q, has, hq, rfl, rfl, hhas, hcq⟩ := hrel
            by_cases hlq : q < out.length
            · obtain ⟨b4, off4, hao4, hD4, ⟨⟨a0, a1, a2, a3, a4, a5, a6, a7, a8⟩, ⟨c0, c1, c2⟩⟩, hs4⟩ := ((HIN.out.2.1.keep HIN.out.2.2.2 (fun _ _ => id)).keep hcq.out (fun _ _ => id)) q hlq
              change World.cell? _ ⟨b4, off4 + q * 12 + 10, none⟩ = _ at c1
              change World.cell? _ ⟨b4, off4 + q * 12 + 11, none⟩ = _ at c2
              have HTQ : Hid (decide (s.f ∈ (out.take (q + 1)).map (·.f)) = (decide (s.f ∈ (out.take q).map (·.f)) || decide (out[q].f = s.f))) := hid (by
                rw [List.take_succ_eq_append_getElem hlq, List.map_append, List.map_cons, List.map_nil]
                by_cases e1 : s.f ∈ (out.take q).map (·.f)
                · rw [decide_eq_true (List.mem_append_left [out[q].f] e1), decide_eq_true e1, Bool.true_or]
                · by_cases e2 : out[q].f = s.f
                  · have h3 : s.f ∈ (out.take q).map (·.f) ++ [out[q].f] := List.mem_append_right _ (by rw [e2]; exact List.mem_singleton_self _)
                    rw [decide_eq_true h3, decide_eq_true e2, Bool.or_true]
                  · have h3 : ¬ s.f ∈ (out.take q).map (·.f) ++ [out[q].f] := fun h => by
                      rcases List.mem_append.1 h with h | h
                      · exact e1 h
                      · exact e2 (List.mem_singleton.1 h).symm
                    rw [decide_eq_false h3, decide_eq_false e1, decide_eq_false e2, Bool.false_or])
              generalize out[q] = o at *
              have hOb : (wr.alloc (.cells #[.int .i64 o.c.kind, .string ⟨o.c.head.1.toArray⟩, .string ⟨o.c.head.2.toArray⟩, .string ⟨o.c.who.toArray⟩, .string ⟨o.c.b.1.toArray⟩, .string ⟨o.c.b.2.toArray⟩, .string ⟨o.c.c.1.toArray⟩, .string ⟨o.c.c.2.toArray⟩, .string ⟨o.c.w2.toArray⟩, .string ⟨o.f.1.1.toArray⟩, .string ⟨o.f.1.2.toArray⟩, .string ⟨o.f.2.toArray⟩] 43)).heap[wr.heap.size]? = some (.cells (stepBox o) 43 (0, 0)) := heap_alloc_new wr _
              have hSq : (wr.alloc (.cells #[.int .i64 o.c.kind, .string ⟨o.c.head.1.toArray⟩, .string ⟨o.c.head.2.toArray⟩, .string ⟨o.c.who.toArray⟩, .string ⟨o.c.b.1.toArray⟩, .string ⟨o.c.b.2.toArray⟩, .string ⟨o.c.c.1.toArray⟩, .string ⟨o.c.c.2.toArray⟩, .string ⟨o.c.w2.toArray⟩, .string ⟨o.f.1.1.toArray⟩, .string ⟨o.f.1.2.toArray⟩, .string ⟨o.f.2.toArray⟩] 43)).heap[sb]? = some (.cells (stepBox s) 43 (0, 0)) := blk_keep (blk_keep HIN.out.2.2.1 hcq.out id) ((Chg.refl (fun _ => False) _).alloc _) id
              have hcw : Chg (fun _ => False) ws (wr.alloc (.cells #[.int .i64 o.c.kind, .string ⟨o.c.head.1.toArray⟩, .string ⟨o.c.head.2.toArray⟩, .string ⟨o.c.who.toArray⟩, .string ⟨o.c.b.1.toArray⟩, .string ⟨o.c.b.2.toArray⟩, .string ⟨o.c.c.1.toArray⟩, .string ⟨o.c.c.2.toArray⟩, .string ⟨o.c.w2.toArray⟩, .string ⟨o.f.1.1.toArray⟩, .string ⟨o.f.1.2.toArray⟩, .string ⟨o.f.2.toArray⟩] 43)) := hcq.out.alloc _
              obtain ⟨_, ⟨r9, r10, r11⟩⟩ := step_at_blk hOb
              obtain ⟨_, ⟨q9, q10, q11⟩⟩ := step_at_blk hSq
              change World.cell? _ ⟨wr.heap.size, 0 + 10, none⟩ = _ at r10
              change World.cell? _ ⟨wr.heap.size, 0 + 11, none⟩ = _ at r11
              change World.cell? _ ⟨sb, 0 + 10, none⟩ = _ at q10
              change World.cell? _ ⟨sb, 0 + 11, none⟩ = _ at q11
              simp only [Nat.zero_add] at r9 r10 r11 q9 q10 q11
              have HCW := hid hcw
              have HLQ := hid hlq
              have hqb : q < 1048576 := by omega
              subst hao4
              clear hOb hSq hcw hcq hs4
              cases has with
              | true =>
                have HHX : Hid (true = decide (s.f ∈ (out.take (q + 1)).map (·.f))) := hid (by rw [HTQ.out, ← hhas.out]; rfl)
                go_wp2
                go_roundw
                case rel => exact ⟨q + 1, true, HLQ.out, by go_num, rfl, HHX, HCW⟩
                case measure => have := HLQ.out; simp [intOf]; omega
              | false =>
                have HHX : Hid (decide (o.f = s.f) = decide (s.f ∈ (out.take (q + 1)).map (·.f))) := hid (by rw [HTQ.out, ← hhas.out]; rfl)
                go_wp2
                go_roundw
                case rel => exact ⟨q + 1, _, HLQ.out, by go_num, rfl, HHX, HCW⟩
                case measure => have := HLQ.out; simp [intOf]; omega
            · have hqe : q = out.length := by omega
              have hh := hhas.out
              rw [hqe, List.take_length] at hh
              have HQ := hid hcq.out
              have HHAS := hid hh
              have hSq := blk_keep HIN.out.2.2.1 hcq.out id
              cases has with
              | true =>
                have hmem : s.f ∈ out.map (·.f) := by simpa using hh.symm
                have HHX : Hid (OwnSt w.heap.size wr (.slice ao3 out.length cap3) (addsSt O0 (l.take (k + 1))) ∧ Chg (fun _ => False) w wr) := hid (by
                  rw [HTL.out, addSt, if_pos hmem]
                  exact ⟨(HIN.out.1.1.keep HIN.out.2.2.2 (fun _ _ => id)).keep hcq.out (fun _ _ => id), (HIN.out.1.2.trans HIN.out.2.2.2 (fun _ _ h => h)).trans hcq.out (fun _ _ h => h)⟩)
                clear hhas hcq hh hmem hSq hqe
                go_wp2
                go_roundw
                case rel => exact ⟨k + 1, _, HKL.out, by go_num, rfl, HHX⟩
                case measure => have := HKL.out; simp [intOf]; omega
              | false =>
                have hno : ¬ s.f ∈ out.map (·.f) := by simpa using hh.symm
                have ho4 := (((HIN.out.1.1.keep HIN.out.2.2.2 (fun _ _ => id)).keep hcq.out (fun _ _ => id))).keep ((Chg.refl (fun _ => False) wr).alloc (.cells #[.int .i64 s.c.kind, .string ⟨s.c.head.1.toArray⟩, .string ⟨s.c.head.2.toArray⟩, .string ⟨s.c.who.toArray⟩, .string ⟨s.c.b.1.toArray⟩, .string ⟨s.c.b.2.toArray⟩, .string ⟨s.c.c.1.toArray⟩, .string ⟨s.c.c.2.toArray⟩, .string ⟨s.c.w2.toArray⟩, .string ⟨s.f.1.1.toArray⟩, .string ⟨s.f.1.2.toArray⟩, .string ⟨s.f.2.toArray⟩] 43)) (fun _ _ => id)
                have hc04 : Chg (fun _ => False) w (wr.alloc (.cells #[.int .i64 s.c.kind, .string ⟨s.c.head.1.toArray⟩, .string ⟨s.c.head.2.toArray⟩, .string ⟨s.c.who.toArray⟩, .string ⟨s.c.b.1.toArray⟩, .string ⟨s.c.b.2.toArray⟩, .string ⟨s.c.c.1.toArray⟩, .string ⟨s.c.c.2.toArray⟩, .string ⟨s.c.w2.toArray⟩, .string ⟨s.f.1.1.toArray⟩, .string ⟨s.f.1.2.toArray⟩, .string ⟨s.f.2.toArray⟩] 43)) := ((HIN.out.1.2.trans HIN.out.2.2.2 (fun _ _ h => h)).trans hcq.out (fun _ _ h => h)).alloc _
                obtain ⟨v5, w5, hap0, ho5, hc5, hbb⟩ := run_append_step 29 ho4 (heap_alloc_new wr (.cells #[.int .i64 s.c.kind, .string ⟨s.c.head.1.toArray⟩, .string ⟨s.c.head.2.toArray⟩, .string ⟨s.c.who.toArray⟩, .string ⟨s.c.b.1.toArray⟩, .string ⟨s.c.b.2.toArray⟩, .string ⟨s.c.c.1.toArray⟩, .string ⟨s.c.c.2.toArray⟩, .string ⟨s.c.w2.toArray⟩, .string ⟨s.f.1.1.toArray⟩, .string ⟨s.f.1.2.toArray⟩, .string ⟨s.f.2.toArray⟩] 43)) (by omega) hc04.size
                have hap : (Builtin.append_ #[29, 29] 29 #[.slice ao3 out.length cap3, .slice (some ⟨wr.heap.size, 0, none⟩) 1 1]).run Try.prog (wr.alloc (.cells #[.int .i64 s.c.kind, .string ⟨s.c.head.1.toArray⟩, .string ⟨s.c.head.2.toArray⟩, .string ⟨s.c.who.toArray⟩, .string ⟨s.c.b.1.toArray⟩, .string ⟨s.c.b.2.toArray⟩, .string ⟨s.c.c.1.toArray⟩, .string ⟨s.c.c.2.toArray⟩, .string ⟨s.c.w2.toArray⟩, .string ⟨s.f.1.1.toArray⟩, .string ⟨s.f.1.2.toArray⟩, .string ⟨s.f.2.toArray⟩] 43)) = .ok v5 w5 := hap0
                have HHX : Hid (OwnSt w.heap.size w5 v5 (addsSt O0 (l.take (k + 1))) ∧ Chg (fun _ => False) w w5) := hid (by
                  rw [HTL.out, addSt, if_neg hno]
                  exact ⟨ho5, hc04.trans hc5 (fun i hi h => by have := (ho4.blt h).1; omega)⟩)
                obtain ⟨⟨q0, q1, q2, q3, q4, q5, q6, q7, q8⟩, ⟨q9, q10, q11⟩⟩ := step_at_blk hSq
                change World.cell? _ ⟨sb, 0 + 10, none⟩ = _ at q10
                change World.cell? _ ⟨sb, 0 + 11, none⟩ = _ at q11
                simp only [Nat.zero_add] at q0 q1 q2 q3 q4 q5 q6 q7 q8 q9 q10 q11
                clear hhas hcq hh hSq hqe hap0 ho4 hc04 ho5 hc5 hbb hno
                go_wp2_with (at_builtin; refine wpList_append_run rfl (.tmp 40) (.tmp 42) 29 rfl rfl rfl hap ?_)
                go_roundw
                case rel => exact ⟨k + 1, v5, HKL.out, by go_num, rfl, HHX⟩
                case measure => have := HKL.out; simp [intOf]; omega
        · have hke : k = l.length := by omega
          have HHX : Hid (OwnSt w.heap.size wr u3 (mergeL (lss.take (j + 1))) ∧ Chg (fun _ => False) w wr) := hid (by
            have h1 := hin.out
            rw [hke, List.take_length] at h1
            rw [HTK.out]
            exact h1)
          have HLT := hid hlt
          clear hin hke
          go_wp2
          go_roundw
          case rel => exact ⟨j + 1, _, HLT.out, by go_num, rfl, HHX⟩
          case measure => have := HLT.out; simp [intOf]; omega
    · have hje : j = lss.length := by omega
      have h1 := hrel.out
      rw [hje, List.take_length] at h1
      have HP := hid (show MergePost lss w (.returned u3) wr from ⟨_, rfl, h1.1, h1.2⟩)
      clear hrel h1 hje
      go_wp2
      go_ret
      exact HP.out
end Go.Proofs.Ytjaplnainlbldaa

/- How great rows of steps are. -/
namespace Go.Proofs.Ytjaplnainlbldaa

/-- How great rows of steps are, as the law counts. -/
def totalR (lss : List (List StepB)) : Nat := (lss.map (fun l => 20 + totalSt l)).sum
theorem totalR_snoc (a : List (List StepB)) (l : List StepB) : totalR (a ++ [l]) = totalR a + (20 + totalSt l) := by simp [totalR]
theorem totalR_take (a : List (List StepB)) (k : Nat) : totalR (a.take k) ≤ totalR a := by
  have h : totalR a = totalR (a.take k) + totalR (a.drop k) := by
    unfold totalR
    rw [← List.sum_append, ← List.map_append, List.take_append_drop]
  omega
theorem totalR_len (a : List (List StepB)) : a.length * 20 ≤ totalR a ∧ (a.map List.length).sum * 20 ≤ totalR a := by
  induction a with
  | nil => exact ⟨Nat.zero_le _, Nat.zero_le _⟩
  | cons l a ih =>
    have h1 := totalSt_len l
    have h2 : totalR (l :: a) = (20 + totalSt l) + totalR a := by simp [totalR]
    rw [h2, List.length_cons, List.map_cons, List.sum_cons]
    omega
theorem flatR_len (a : List (List StepB)) : a.flatten.length = (a.map List.length).sum := List.length_flatten

end Go.Proofs.Ytjaplnainlbldaa

/- The contract of the document's Same of layer 5. -/
namespace Go.Proofs.Ytjaplnainlbldaa
open Go.RowKit

set_option maxRecDepth 100000 in
set_option maxHeartbeats 2000000 in
theorem csame_ref {D1 D2 : Nat → Prop} (a1 a2 : Option Addr) (c1 c2 : Nat) (l1 l2 : List CredB) (w : World) (hn : l1.length ≤ 4611686018427387904) (hm : l2.length ≤ 4611686018427387904) (h1 : CredsAt D1 w a1 l1) (h2 : CredsAt D2 w a2 l2) :
    Calls Try.prog 17 #[.slice a1 l1.length c1, .slice a2 l2.length c2] w fun e w' => e = .returned (.bool (sameC l1 l2)) ∧ ∃ n, w' = w.drewN n := by
  by_cases hl : l1.length = l2.length
  · have z1 : ((l1.length : Int) != (l2.length : Int)) = false := by simp; omega
    have HL := hid hl
    have hl1 : l1.length ≤ l2.length := by omega
    have hl2 : l2.length ≤ l1.length := by omega
    clear hl
    go_enter Try.func17, Try.ntmps17
    go_wp2
    go_loopw [13] (fun i wr => ∃ k n : Nat, k ≤ l1.length ∧ i = .int .i64 k ∧ wr = w.drewN n ∧ Hid (l1.take k = l2.take k)) (fun i _ => l1.length - (intOf i).toNat)
    case atStart => exact ⟨0, 0, Nat.zero_le _, rfl, rfl, by rw [List.take_zero, List.take_zero]; rfl⟩
    case round =>
      obtain ⟨k, n, hk, rfl, rfl, hc⟩ := hrel
      by_cases hlt : k < l1.length
      · obtain ⟨b, off, rfl, _, hat, _⟩ := h1 k hlt
        obtain ⟨b2, off2, rfl, _, hat2, _⟩ := h2 k (by omega)
        clear h1 h2
        have e0 : (0 : Int) ≤ (k : Int) := by omega
        have e1 : (k : Int) < (l1.length : Int) := by omega
        have e2 : (k : Int) < (l2.length : Int) := by omega
        have hx1 : Hid (l1[k] = l2[k]'(by omega) → l1.take (k + 1) = l2.take (k + 1)) := hid (fun he => by rw [List.take_succ_eq_append_getElem hlt, List.take_succ_eq_append_getElem (HL.out ▸ hlt), hc.out, he])
        have hx2 : Hid (l1[k] ≠ l2[k]'(by omega) → sameC l1 l2 = false) := hid (fun he => by
          simp only [sameC, beq_eq_false_iff_ne, ne_eq]
          intro h
          subst h
          exact he rfl)
        generalize l1[k] = s1 at *
        generalize l2[k]'(by omega) = s2 at *
        by_cases e : s1 = s2
        · subst e
          have hx := hid (hx1.out rfl)
          clear hx1 hx2
          obtain ⟨k0, ⟨ho, hw⟩, who, ⟨bo, bw⟩, ⟨co, cw⟩, w2⟩ := s1
          obtain ⟨a0, a1, a2, a3, a4, a5, a6, a7, a8⟩ := hat
          obtain ⟨b0, b1, b2, b3, b4, b5, b6, b7, b8⟩ := hat2
          dsimp only at a0 a1 a2 a3 a4 a5 a6 a7 a8 b0 b1 b2 b3 b4 b5 b6 b7 b8
          go_wp2
          go_quiet (fail)
          go_wp2
          go_roundw
          case rel => exact ⟨k + 1, n + nq, by omega, by go_num, rfl, hx⟩
          case measure => simp [intOf]; omega
        · have hx := hid (hx2.out e)
          have HE := hid e
          clear hx1 hx2 e
          obtain ⟨k0, ⟨ho, hw⟩, who, ⟨bo, bw⟩, ⟨co, cw⟩, w2⟩ := s1
          obtain ⟨k0', ⟨ho', hw'⟩, who', ⟨bo', bw'⟩, ⟨co', cw'⟩, w2'⟩ := s2
          obtain ⟨a0, a1, a2, a3, a4, a5, a6, a7, a8⟩ := hat
          obtain ⟨b0, b1, b2, b3, b4, b5, b6, b7, b8⟩ := hat2
          dsimp only at a0 a1 a2 a3 a4 a5 a6 a7 a8 b0 b1 b2 b3 b4 b5 b6 b7 b8
          by_cases f0 : k0 = k0'
          · subst f0
            have g0 : (k0 == k0) = true := by simp
            by_cases f1 : ho = ho'
            · subst f1
              have g1 : (ho == ho) = true := by simp
              by_cases f2 : hw = hw'
              · subst f2
                have g2 : (hw == hw) = true := by simp
                by_cases f3 : who = who'
                · subst f3
                  have g3 : (who == who) = true := by simp
                  by_cases f4 : bo = bo'
                  · subst f4
                    have g4 : (bo == bo) = true := by simp
                    by_cases f5 : bw = bw'
                    · subst f5
                      have g5 : (bw == bw) = true := by simp
                      by_cases f6 : co = co'
                      · subst f6
                        have g6 : (co == co) = true := by simp
                        by_cases f7 : cw = cw'
                        · subst f7
                          have g7 : (cw == cw) = true := by simp
                          by_cases f8 : w2 = w2'
                          · subst f8
                            have g8 : (w2 == w2) = true := by simp
                            exact (HE.out rfl).elim
                          · have g8 : (w2 == w2') = false := beq_eq_false_iff_ne.2 f8
                            clear f8
                            go_wp2
                            go_quiet (fail)
                            go_wp2
                            go_ret
                            exact ⟨by rw [hx.out]; rfl, _, drewN_add w n nq⟩
                        · have g7 : (cw == cw') = false := beq_eq_false_iff_ne.2 f7
                          clear f7
                          go_wp2
                          go_quiet (fail)
                          go_wp2
                          go_ret
                          exact ⟨by rw [hx.out]; rfl, _, drewN_add w n nq⟩
                      · have g6 : (co == co') = false := beq_eq_false_iff_ne.2 f6
                        clear f6
                        go_wp2
                        go_quiet (fail)
                        go_wp2
                        go_ret
                        exact ⟨by rw [hx.out]; rfl, _, drewN_add w n nq⟩
                    · have g5 : (bw == bw') = false := beq_eq_false_iff_ne.2 f5
                      clear f5
                      go_wp2
                      go_quiet (fail)
                      go_wp2
                      go_ret
                      exact ⟨by rw [hx.out]; rfl, _, drewN_add w n nq⟩
                  · have g4 : (bo == bo') = false := beq_eq_false_iff_ne.2 f4
                    clear f4
                    go_wp2
                    go_quiet (fail)
                    go_wp2
                    go_ret
                    exact ⟨by rw [hx.out]; rfl, _, drewN_add w n nq⟩
                · have g3 : (who == who') = false := beq_eq_false_iff_ne.2 f3
                  clear f3
                  go_wp2
                  go_quiet (fail)
                  go_wp2
                  go_ret
                  exact ⟨by rw [hx.out]; rfl, _, drewN_add w n nq⟩
              · have g2 : (hw == hw') = false := beq_eq_false_iff_ne.2 f2
                clear f2
                go_wp2
                go_quiet (fail)
                go_wp2
                go_ret
                exact ⟨by rw [hx.out]; rfl, _, drewN_add w n nq⟩
            · have g1 : (ho == ho') = false := beq_eq_false_iff_ne.2 f1
              clear f1
              go_wp2
              go_quiet (fail)
              go_wp2
              go_ret
              exact ⟨by rw [hx.out]; rfl, _, drewN_add w n nq⟩
          · have g0 : (k0 == k0') = false := beq_eq_false_iff_ne.2 f0
            clear f0
            go_wp2
            go_quiet (fail)
            go_wp2
            go_ret
            exact ⟨by rw [hx.out]; rfl, _, drewN_add w n nq⟩
      · have hk2 : k = l1.length := by omega
        subst hk2
        have hx : Hid (sameC l1 l2 = true) := by
          have := hc.out
          rw [List.take_of_length_le (Nat.le_refl _), List.take_of_length_le (by rw [HL.out]; omega)] at this
          exact hid (by simp [sameC, this])
        clear h1 h2
        go_wp2
        go_ret
        exact ⟨by rw [hx.out]; rfl, n, rfl⟩
  · have z1 : ((l1.length : Int) != (l2.length : Int)) = true := by simp; omega
    have hx : Hid (sameC l1 l2 = false) := hid (by
      simp only [sameC, beq_eq_false_iff_ne, ne_eq]
      intro h
      exact hl (by rw [h]))
    clear hl h1 h2
    go_enter Try.func17, Try.ntmps17
    go_wp2
    go_ret
    exact ⟨by rw [hx.out]; rfl, 0, rfl⟩
end Go.Proofs.Ytjaplnainlbldaa
