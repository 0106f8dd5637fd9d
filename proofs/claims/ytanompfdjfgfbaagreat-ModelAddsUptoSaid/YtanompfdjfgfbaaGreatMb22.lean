/- Texts that the proof leans on, in one: PmAdd, PmOf, PmTell, RoleClear, RoleComp, ShelfQ, RoleSort0, RoleSort, RoleMake. -/
import Derived.Test.YtanompfdjfgfbaaGreatMb20
import Derived.Test.YtanompfdjfgfbaaGreatMb21
import Derived.Test.YtanompfdjfgfbaaGreatMb4
import Derived.Test.YtanompfdjfgfbaaGreatMb1
import Derived.Lib.SliceRun
import Derived.Test.YtanompfdjfgfbaaGreatMb3
import Derived.Lib.SlicesCompact
import Derived.Shelf.SlSortCmp.WholeK
import Derived.Shelf.SlSortCmp.NoneTotal
import Derived.Ground.SlsfProg
import Derived.Test.YtanompfdjfgfbaaGreatProg
import Derived.Test.YtanompfdjfgfbaaGreatMb5
/- Credentials are added to a model. -/
namespace Go.Proofs.YtanompfdjfgfbaaGreat
open Go.RowKit Go.Maps

theorem padd_nil (ao : Option Addr) (n cp : Nat) (w : World) : Calls Tryz.prog 20 #[.pointer none, .slice ao n cp] w fun e w' => e = .returned (.int .i64 0) ∧ Chg (fun _ => False) w w' := by
  go_enter Tryz.func20, Tryz.ntmps20
  go_wp2
  go_ret
  exact ⟨rfl, Chg.refl _ _⟩

/-- Amid the taking. -/
def AddT (O : Nat → Prop) (g : Nat) (ls ms : List CredB) (F : List FactB) (w : World) (k : Nat) (wr : World) (v : Value) (cs : List FactB) (K1 O1 : Nat → Prop) : Prop :=
  Came w.heap.size O1 wr v cs ∧ MS K1 O1 wr g (F ++ cs) (2 * ((ls ++ ms.take k).filter isCred).length) (leanR ((ls ++ ms.take k).filter isCred)) ((ls ++ ms.take k).filter isCred).length (linkR ((ls ++ ms.take k).filter isCred)) ∧ Grew O O1 w ∧ Chg O w wr ∧ AddI (ls ++ ms) ((ls ++ ms.take k).filter isCred) (F ++ cs) F

/-- Amid the following. -/
def AddF (O : Nat → Prop) (g : Nat) (ls ms : List CredB) (F : List FactB) (w : World) (j : Nat) (wr : World) (v : Value) (cs : List FactB) (K1 O1 : Nat → Prop) : Prop :=
  Came w.heap.size O1 wr v cs ∧ MS K1 O1 wr g (F ++ cs) (2 * ((ls ++ ms).filter isCred).length) (leanR ((ls ++ ms).filter isCred)) ((ls ++ ms).filter isCred).length (linkR ((ls ++ ms).filter isCred)) ∧ Grew O O1 w ∧ Chg O w wr ∧ AddI (ls ++ ms) ((ls ++ ms).filter isCred) (F ++ cs) (F ++ cs.take j)

set_option maxRecDepth 100000 in
set_option maxHeartbeats 4000000 in
theorem padd {K O D : Nat → Prop} (g : Nat) (ao : Option Addr) (cp : Nat) (ls ms : List CredB) (F : List FactB) (w : World) (h : MS K O w g F (2 * (ls.filter isCred).length) (leanR (ls.filter isCred)) (ls.filter isCred).length (linkR (ls.filter isCred))) (hl : (ls ++ ms).length ≤ 1000) (hnd : F.Nodup) (hF : ∀ f, f ∈ F ↔ Der ls f)
    (hst : CredsAt D w ao ms) (hD : ∀ i, D i → ¬ O i) :
    Calls Tryz.prog 20 #[.pointer (some ⟨g, 0, none⟩), .slice ao ms.length cp] w (AddPostM O g ls ms w) := by
  have HM := hid (And.intro h (And.intro hl (And.intro hnd (And.intro hF (And.intro hst hD)))))
  have hlen : ms.length ≤ 1000 := by rw [List.length_append] at hl; omega
  clear h hl hnd hF hst hD
  go_enter Tryz.func20, Tryz.ntmps20
  go_wp2
  go_loopw [5, 13] (fun v i wr => ∃ (k : Nat) (cs : List FactB) (K1 O1 : Nat → Prop), k ≤ ms.length ∧ i = .int .i64 k ∧ AddT O g ls ms F w k wr v cs K1 O1) (fun _ i _ => ms.length - (intOf i).toNat)
  case atStart => exact ⟨0, [], K, O, Nat.zero_le _, rfl, Came.nil _ _ _, by rw [List.append_nil, List.take_zero, List.append_nil]; exact HM.out.1, Grew.refl _ _, Chg.refl _ _, addI_start HM.out.2.2.1 HM.out.2.2.2.1⟩
  case round =>
    obtain ⟨k, cs, K1, O1, hk, rfl, hI⟩ := hrel
    by_cases hlt : k < ms.length
    · obtain ⟨hcm, hms, hgr, hch, hA⟩ := hI
      obtain ⟨b, off, hao, hDb, ⟨a0, a1, a2, a3, a4, a5, a6, a7, a8⟩, hsh⟩ := (HM.out.2.2.2.2.1.keep hch (fun i hi => HM.out.2.2.2.2.2 i hi)) k hlt
      have hyes := filter_take_yes (ls := ls) hlt
      have hno := filter_take_no (ls := ls) hlt
      have hcm' := List.getElem_mem hlt
      generalize ms[k] = c at *
      have hw3 : Chg (fun _ => False) wr (wr.alloc (.cells #[.int .i64 c.kind, .string ⟨c.head.1.toArray⟩, .string ⟨c.head.2.toArray⟩, .string ⟨c.who.toArray⟩, .string ⟨c.b.1.toArray⟩, .string ⟨c.b.2.toArray⟩, .string ⟨c.c.1.toArray⟩, .string ⟨c.c.2.toArray⟩, .string ⟨c.w2.toArray⟩] 47)) := (Chg.refl _ wr).alloc _
      have hb3 : (wr.alloc (.cells #[.int .i64 c.kind, .string ⟨c.head.1.toArray⟩, .string ⟨c.head.2.toArray⟩, .string ⟨c.who.toArray⟩, .string ⟨c.b.1.toArray⟩, .string ⟨c.b.2.toArray⟩, .string ⟨c.c.1.toArray⟩, .string ⟨c.c.2.toArray⟩, .string ⟨c.w2.toArray⟩] 47)).heap[wr.heap.size]? = some (.cells (credBox c) 47 (0, 0)) := heap_alloc_new wr _
      obtain ⟨c0, c1, c2, c3, c4, c5, c6, c7, c8⟩ := cred_at_blk hb3
      simp only [Nat.zero_add] at c0 c1 c2 c3 c4 c5 c6 c7 c8
      have q1 := pcright c (wr.alloc (.cells #[.int .i64 c.kind, .string ⟨c.head.1.toArray⟩, .string ⟨c.head.2.toArray⟩, .string ⟨c.who.toArray⟩, .string ⟨c.b.1.toArray⟩, .string ⟨c.b.2.toArray⟩, .string ⟨c.c.1.toArray⟩, .string ⟨c.c.2.toArray⟩, .string ⟨c.w2.toArray⟩] 47)) hsh
      have HQ1 := hid q1
      have HI := hid (And.intro hcm (And.intro hms (And.intro hgr (And.intro hch hA))))
      have HK := hid (And.intro hyes (And.intro hno hcm'))
      have HW := hid (And.intro hw3 hb3)
      subst hao
      clear hcm hms hgr hch hA hyes hno hcm' hw3 hb3 q1 hDb hsh
      go_wp2_with fail
      refine HQ1.out.mono ?_
      rintro e w4 ⟨rfl, hc4⟩
      have hb4 := blk_keep HW.out.2 hc4 id
      have hw4 := HW.out.1.trans hc4 (fun _ _ h => h)
      clear a0 a1 a2 a3 a4 a5 a6 a7 a8 c0 c1 c2 c3 c4 c5 c6 c7 c8 hc4 HQ1 HW
      obtain ⟨c0, c1, c2, c3, c4, c5, c6, c7, c8⟩ := cred_at_blk hb4
      simp only [Nat.zero_add] at c0 c1 c2 c3 c4 c5 c6 c7 c8
      have HW4 := hid hw4
      clear hw4 hb4
      cases hc : isCred c with
      | false =>
        have HC := hid hc
        clear hc c0 c1 c2 c3 c4 c5 c6 c7 c8
        go_wp2
        go_roundw
        case rel =>
          obtain ⟨hcm, hms, hgr, hch, hA⟩ := HI.out
          refine ⟨k + 1, cs, K1, O1, by omega, by go_num, hcm.quiet HW4.out, ?_, hgr, hch.trans HW4.out (fun _ _ h => h.elim), ?_⟩
          · rw [HK.out.2.1 HC.out]; exact hms.quiet HW4.out
          · rw [HK.out.2.1 HC.out]; exact hA
        case measure => simp [intOf]; omega
      | true =>
        have HC := hid hc
        have HP : Hid (Calls Tryz.prog 34 #[.pointer (some ⟨g, 0, none⟩), .agg #[.int .i64 c.kind, .string ⟨c.head.1.toArray⟩, .string ⟨c.head.2.toArray⟩, .string ⟨c.who.toArray⟩, .string ⟨c.b.1.toArray⟩, .string ⟨c.b.2.toArray⟩, .string ⟨c.c.1.toArray⟩, .string ⟨c.c.2.toArray⟩, .string ⟨c.w2.toArray⟩]] w4 (TakePost (ls ++ ms) O1 g (F ++ cs) ((ls ++ ms.take k).filter isCred) c w4)) := hid (by
          obtain ⟨hcm, hms, hgr, hch, hA⟩ := HI.out
          exact ptake (ls ++ ms) g (F ++ cs) _ c w4 (hms.quiet HW4.out) HM.out.2.1 hA.nd hA.der HC.out (List.mem_append_right _ HK.out.2.2) (filter_take_len HM.out.2.1))
        clear hc
        go_wp2_with fail
        refine HP.out.mono ?_
        rintro e w5 hp
        clear c0 c1 c2 c3 c4 c5 c6 c7 c8
        obtain ⟨v9, cs2, K2, O2, rfl, hcm2, hms2, hgr2, hch2, hnd2, hder2, htk2⟩ := hp
        obtain ⟨ao2, cap2, rfl, hf2, h02⟩ := hcm2.facts
        have HF2 : Hid (Came w.heap.size O2 w5 u5 cs ∧ (∀ i, O2 i → i < w5.heap.size) ∧ w.heap.size ≤ w5.heap.size ∧ cs.length + cs2.length ≤ 4000000 ∧ FactsAt (fun k => w4.heap.size ≤ k ∧ k < w5.heap.size ∧ ¬ O2 k) w5 ao2 cs2 ∧ (ao2 = none → cap2 = 0) ∧
            ∀ v' w3, Came w.heap.size O2 w3 v' (cs ++ cs2) → Chg (fun i => w.heap.size ≤ i ∧ ¬ O2 i) w5 w3 → AddT O g ls ms F w (k + 1) w3 v' (cs ++ cs2) K2 O2) := hid (by
          obtain ⟨hcm, hms, hgr, hch, hA⟩ := HI.out
          have hfew := der_few hnd2 hder2 HM.out.2.1
          have hch4 : Chg O w w4 := hch.trans HW4.out (fun _ _ h => h.elim)
          have hch5 : Chg O w w5 := hch4.step hgr hch2
          refine ⟨(hcm.quiet HW4.out).keep hch2 hgr2, hms2.lo, hch5.size, by simp at hfew; omega, hf2, h02, fun v' w3 hv hc => ⟨hv, ?_, hgr.trans hgr2 hch4.size, hch5.trans hc (fun i hi e => by have := e.1; omega), ?_⟩⟩
          · rw [HK.out.1 HC.out, ← List.append_assoc]
            exact hms2.keep hc (fun i hi e => e.2 hi)
          · rw [HK.out.1 HC.out, ← List.append_assoc]
            exact hA.take hnd2 hder2 (fun f hf => List.mem_append_left _ hf) htk2)
        clear hcm2 hms2 hgr2 hch2 hnd2 hder2 htk2 hf2 h02 HP
        go_wp2_with (at_builtin; refine wpList_append_facts (O := O2) rfl (.tmp 19) (.tmp 22) rfl w.heap.size u5 cs rfl HF2.out.1 HF2.out.2.1 ao2 cap2 cs2 rfl HF2.out.2.2.2.2.1 HF2.out.2.2.2.2.2.1 ?c1 ?c2 ?_)
        case c1 => have := HF2.out.2.2.2.1; omega
        case c2 => exact HF2.out.2.2.1
        intro v' w3 hown hc3
        have HY := hid (HF2.out.2.2.2.2.2.2 v' w3 hown hc3)
        clear hown hc3
        go_wp2
        go_roundw
        case rel => exact ⟨k + 1, _, K2, O2, by omega, by go_num, HY.out⟩
        case measure => simp [intOf]; omega
    · have hk2 : k = ms.length := by omega
      have HI2 : Hid (AddF O g ls ms F w 0 wr u5 cs K1 O1) := hid (by
        obtain ⟨hcm, hms, hgr, hch, hA⟩ := hI
        rw [hk2, List.take_length] at hms hA
        exact ⟨hcm, hms, hgr, hch, by rw [List.take_zero, List.append_nil]; exact hA⟩)
      clear hI hk2
      go_wp2
      go_loopw [5, 8] (fun v i wr => ∃ (j : Nat) (cs : List FactB) (K1 O1 : Nat → Prop), j ≤ cs.length ∧ j ≤ 4000000 ∧ i = .int .i64 j ∧ AddF O g ls ms F w j wr v cs K1 O1) (fun _ i _ => 4000001 - (intOf i).toNat)
      case atStart => exact ⟨0, cs, K1, O1, Nat.zero_le _, Nat.zero_le _, rfl, HI2.out⟩
      case round =>
        clear HI2
        obtain ⟨j, cs, K1, O1, hj, hj4, rfl, hI⟩ := hrel
        obtain ⟨hcm, hms, hgr, hch, hA⟩ := hI
        have hfew := der_few hA.nd hA.der HM.out.2.1
        rw [List.length_append] at hfew
        have hcl : cs.length ≤ 4000000 := by omega
        obtain ⟨ao3, cap3, rfl, hf3, h03⟩ := id hcm.facts
        have HI := hid (And.intro hcm (And.intro hms (And.intro hgr (And.intro hch hA))))
        by_cases hlt : j < cs.length
        · obtain ⟨b, off, hao, hDb, ⟨a0, a1, a2⟩⟩ := hf3 j hlt
          have hmem : cs[j] ∈ F ++ cs := List.mem_append_right _ (List.getElem_mem hlt)
          have htk := List.take_succ_eq_append_getElem hlt
          generalize cs[j] = f at *
          have HP : Hid (Calls Tryz.prog 35 #[.pointer (some ⟨g, 0, none⟩), .agg #[.string ⟨f.1.1.toArray⟩, .string ⟨f.1.2.toArray⟩, .string ⟨f.2.toArray⟩]] wr (FolPost (ls ++ ms) K1 O1 g (F ++ cs) (2 * ((ls ++ ms).filter isCred).length) ((ls ++ ms).filter isCred).length ((ls ++ ms).filter isCred) f wr)) := hid (pfollow (ls ++ ms) g (F ++ cs) ((ls ++ ms).filter isCred) f wr hms HM.out.2.1 hA.nd hA.der hmem (fun c hc => (List.mem_filter.1 hc).1))
          have HK := hid (And.intro hmem htk)
          subst hao
          clear hcm hms hgr hch hA hfew hf3 h03 hDb hmem htk
          go_wp2_with fail
          refine HP.out.mono ?_
          rintro e w5 hp
          clear a0 a1 a2
          obtain ⟨v9, cs2, O2, rfl, hG, hfol⟩ := hp
          obtain ⟨ao2, cap2, rfl, hf2, h02⟩ := hG.came.facts
          have HF2 : Hid (Came w.heap.size O2 w5 (.slice (some ⟨b, off, none⟩) cs.length cap3) cs ∧ (∀ i, O2 i → i < w5.heap.size) ∧ w.heap.size ≤ w5.heap.size ∧ cs.length + cs2.length ≤ 4000000 ∧ FactsAt (fun k => wr.heap.size ≤ k ∧ k < w5.heap.size ∧ ¬ O2 k) w5 ao2 cs2 ∧ (ao2 = none → cap2 = 0) ∧
              ∀ v' w3, Came w.heap.size O2 w3 v' (cs ++ cs2) → Chg (fun i => w.heap.size ≤ i ∧ ¬ O2 i) w5 w3 → AddF O g ls ms F w (j + 1) w3 v' (cs ++ cs2) K1 O2) := hid (by
            obtain ⟨hcm, hms, hgr, hch, hA⟩ := HI.out
            have hfew := hG.few HM.out.2.1
            rw [List.length_append] at hfew
            have hch5 : Chg O w w5 := hch.step hgr hG.chg.up
            refine ⟨hcm.keep hG.chg.up hG.grew, hG.ms.lo, hch5.size, by omega, hf2, h02, fun v' w3 hv hc => ⟨hv, ?_, hgr.trans hG.grew hch.size, hch5.trans hc (fun i hi e => by have := e.1; omega), ?_⟩⟩
            · rw [← List.append_assoc]
              exact hG.ms.keep hc (fun i hi e => e.2 hi)
            · have hA2 := hA.follow HK.out.1 hG.nd hG.der (fun f hf => List.mem_append_left _ hf) hfol
              rw [List.append_assoc, List.append_assoc] at hA2
              rw [List.take_append_of_le_length (by omega), HK.out.2]
              exact hA2)
          clear hG hfol hf2 h02 HP
          go_wp2_with (at_builtin; refine wpList_append_facts (O := O2) rfl (.tmp 31) (.tmp 37) rfl w.heap.size (.slice (some ⟨b, off, none⟩) cs.length cap3) cs rfl HF2.out.1 HF2.out.2.1 ao2 cap2 cs2 rfl HF2.out.2.2.2.2.1 HF2.out.2.2.2.2.2.1 ?c1 ?c2 ?_)
          case c1 => have := HF2.out.2.2.2.1; omega
          case c2 => exact HF2.out.2.2.1
          intro v' w3 hown hc3
          have HY := hid (HF2.out.2.2.2.2.2.2 v' w3 hown hc3)
          clear hown hc3
          go_wp2
          go_roundw
          case rel => exact ⟨j + 1, _, K1, O2, by rw [List.length_append]; omega, by omega, by go_num, HY.out⟩
          case measure => simp [intOf]; omega
        · have hj2 : j = cs.length := by omega
          have HE : Hid (AddPostM O g ls ms w (.returned (.int .i64 (cs.length : Nat))) wr) := hid (by
            obtain ⟨hcm, hms, hgr, hch, hA⟩ := HI.out
            rw [hj2, List.take_length] at hA
            exact addPost_of HM.out.2.2.1 HM.out.2.2.2.1 (fun _ h => h) hms hgr hch hA)
          clear hcm hms hgr hch hA hfew hf3 h03 hj2
          go_wp2
          go_ret
          exact HE.out
end Go.Proofs.YtanompfdjfgfbaaGreat

/- The model of credentials is made. -/
namespace Go.Proofs.YtanompfdjfgfbaaGreat
open Go.RowKit Go.Maps

/-- A model that has just been made. -/
theorem ms_made (w : World) : MS (fun i => i = w.heap.size + 1 ∨ i = w.heap.size + 2 ∨ i = w.heap.size + 3) (fun i => w.heap.size ≤ i ∧ i ≤ w.heap.size + 3) ((((w.alloc (.map #[] 0)).alloc (.map #[] 0)).alloc (.map #[] 0)).alloc (.cells #[.map (some w.heap.size), .map (some (w.heap.size + 1)), .map (some (w.heap.size + 1 + 1))] 59)) (w.heap.size + 1 + 1 + 1) [] 0 (leanR []) 0 (linkR []) := by
  have s1 : (w.alloc (.map #[] 0)).heap.size = w.heap.size + 1 := by simp
  have s2 : ((w.alloc (.map #[] 0)).alloc (.map #[] 0)).heap.size = w.heap.size + 1 + 1 := by simp
  have s3 : (((w.alloc (.map #[] 0)).alloc (.map #[] 0)).alloc (.map #[] 0)).heap.size = w.heap.size + 1 + 1 + 1 := by simp
  have a1 := sets_made ktR ktS w (O := (· = w.heap.size)) rfl
  have a2 := sets_made ktR ktC (w.alloc (.map #[] 0)) (O := (· = w.heap.size + 1)) s1
  have a3 := sets_made ktS ktC ((w.alloc (.map #[] 0)).alloc (.map #[] 0)) (O := (· = w.heap.size + 1 + 1)) s2
  rw [s1] at a2
  rw [s2] at a3
  have h1 : Chg (fun _ => False) (w.alloc (.map #[] 0)) ((((w.alloc (.map #[] 0)).alloc (.map #[] 0)).alloc (.map #[] 0)).alloc (.cells #[.map (some w.heap.size), .map (some (w.heap.size + 1)), .map (some (w.heap.size + 1 + 1))] 59)) := (((Chg.refl _ _).alloc _).alloc _).alloc _
  have h2 : Chg (fun _ => False) ((w.alloc (.map #[] 0)).alloc (.map #[] 0)) ((((w.alloc (.map #[] 0)).alloc (.map #[] 0)).alloc (.map #[] 0)).alloc (.cells #[.map (some w.heap.size), .map (some (w.heap.size + 1)), .map (some (w.heap.size + 1 + 1))] 59)) := ((Chg.refl _ _).alloc _).alloc _
  have h3 : Chg (fun _ => False) (((w.alloc (.map #[] 0)).alloc (.map #[] 0)).alloc (.map #[] 0)) ((((w.alloc (.map #[] 0)).alloc (.map #[] 0)).alloc (.map #[] 0)).alloc (.cells #[.map (some w.heap.size), .map (some (w.heap.size + 1)), .map (some (w.heap.size + 1 + 1))] 59)) := (Chg.refl _ _).alloc _
  have hb := heap_alloc_new (((w.alloc (.map #[] 0)).alloc (.map #[] 0)).alloc (.map #[] 0)) (.cells #[.map (some w.heap.size), .map (some (w.heap.size + 1)), .map (some (w.heap.size + 1 + 1))] 59)
  rw [s3] at hb
  refine ⟨⟨w.heap.size, w.heap.size + 1, w.heap.size + 1 + 1, _, _, _, hb, (a1.keep h1 (fun _ _ => id)).cong (fun a x => by simp), (a2.keep h2 (fun _ _ => id)).cong (fun a x => by simp [leanR]), (a3.keep h3 (fun _ _ => id)).cong (fun a x => by simp [linkR]), fun i hi => ?_, fun i hi => ?_, fun i hi => ?_⟩, by omega, fun i hi => by omega, fun i hi => by simp; omega⟩
  · have : i = w.heap.size := hi
    omega
  · have : i = w.heap.size + 1 := hi
    refine ⟨by omega, fun e => ?_, by omega⟩
    have : i = w.heap.size + 1 + 1 := e
    omega
  · have : i = w.heap.size + 1 + 1 := hi
    omega

set_option maxRecDepth 100000 in
set_option maxHeartbeats 1000000 in
theorem pof {D : Nat → Prop} (ao : Option Addr) (cp : Nat) (ls : List CredB) (w : World) (hl : ls.length ≤ 1000) (hst : CredsAt D w ao ls) (hD : ∀ i, D i → i < w.heap.size) :
    Calls Tryz.prog 8 #[.slice ao ls.length cp] w fun e w' => ∃ g O, e = .returned (.pointer (some ⟨g, 0, none⟩)) ∧ MA O w' g ls ∧ (∀ i, O i → w.heap.size ≤ i) ∧ Chg (fun _ => False) w w' := by
  have hmm := @run_makeMap Tryz.prog
  have hc4 : Chg (fun _ => False) w ((((w.alloc (.map #[] 0)).alloc (.map #[] 0)).alloc (.map #[] 0)).alloc (.cells #[.map (some w.heap.size), .map (some (w.heap.size + 1)), .map (some (w.heap.size + 1 + 1))] 59)) := ((((Chg.refl _ _).alloc _).alloc _).alloc _).alloc _
  have HP := hid (padd (w.heap.size + 1 + 1 + 1) ao cp [] ls [] _ (ms_made w) (by simpa using hl) List.nodup_nil (fun f => ⟨fun h => (by cases h), fun h => by obtain ⟨c, hc, _⟩ := h.who; cases hc⟩) (hst.keep hc4 (fun _ _ => id)) (fun i hi e => by have := hD i hi; omega))
  have HC := hid hc4
  clear hc4 hst hD
  go_enter Tryz.func8, Tryz.ntmps8
  go_wp2_with fail
  refine HP.out.mono ?_
  rintro e w5 ⟨O', n, rfl, _, hma, hO, hch⟩
  have HR := hid (And.intro hma (And.intro hO hch))
  clear hma hO hch HP hmm
  go_wp2
  go_ret
  obtain ⟨hma, hO, hch⟩ := HR.out
  have hs := HC.out.size
  refine ⟨_, O', rfl, hma, fun i hi => ?_, HC.out.trans hch (fun i hi e => by omega)⟩
  rcases hO i hi with h | h
  · exact h.1
  · exact Nat.le_trans hs h
end Go.Proofs.YtanompfdjfgfbaaGreat

/- What a model tells, in plain words. -/
namespace Go.Proofs.YtanompfdjfgfbaaGreat
open Go.RowKit

theorem mem_membersF {xs : List FactB} {r : RoleB} {s : List UInt8} : s ∈ membersF xs r ↔ (r, s) ∈ xs := by
  unfold membersF
  rw [List.mem_map]
  constructor
  · rintro ⟨f, hf, rfl⟩
    obtain ⟨h1, h2⟩ := List.mem_filter.1 hf
    rw [← beq_iff_eq.1 h2]
    exact h1
  · intro h
    exact ⟨_, List.mem_filter.2 ⟨h, by simp⟩, rfl⟩

theorem mem_rolesF {xs : List FactB} {r : RoleB} {s : List UInt8} : r ∈ rolesF xs s ↔ (r, s) ∈ xs := by
  unfold rolesF
  rw [List.mem_map]
  constructor
  · rintro ⟨f, hf, rfl⟩
    obtain ⟨h1, h2⟩ := List.mem_filter.1 hf
    rw [← beq_iff_eq.1 h2]
    exact h1
  · intro h
    exact ⟨_, List.mem_filter.2 ⟨h, by simp⟩, rfl⟩

theorem membersF_rises (r : RoleB) : ∀ {xs : List FactB}, RisingG ltF xs → Rising (membersF xs r)
  | [], _ => trivial
  | x :: l, h => by
    have ih := membersF_rises r h.2
    unfold membersF at ih ⊢
    rw [List.filter_cons]
    split
    · rename_i hx
      refine ⟨fun y hy => ?_, ih⟩
      obtain ⟨f, hf, rfl⟩ := List.mem_map.1 hy
      obtain ⟨h1, h2⟩ := List.mem_filter.1 hf
      have h3 := h.1 f h1
      have e1 := beq_iff_eq.1 hx
      have e2 := beq_iff_eq.1 h2
      unfold ltF lexLt at h3
      rw [e1, e2, ltR_ord.irrefl] at h3
      simpa using h3
    · exact ih

theorem rolesF_rises (s : List UInt8) : ∀ {xs : List FactB}, RisingG ltF xs → RisingG ltR (rolesF xs s)
  | [], _ => trivial
  | x :: l, h => by
    have ih := rolesF_rises s h.2
    unfold rolesF at ih ⊢
    rw [List.filter_cons]
    split
    · rename_i hx
      refine ⟨fun y hy => ?_, ih⟩
      obtain ⟨f, hf, rfl⟩ := List.mem_map.1 hy
      obtain ⟨h1, h2⟩ := List.mem_filter.1 hf
      have h3 := h.1 f h1
      have e1 := beq_iff_eq.1 hx
      have e2 := beq_iff_eq.1 h2
      unfold ltF lexLt at h3
      rw [e1, e2, ltS_ord.irrefl] at h3
      simpa using h3
    · exact ih

/-- All facts, role by role. -/
def factsOf (m : RoleB → List (List UInt8)) (rs : List RoleB) : List FactB := rs.flatMap (fun r => (m r).map (fun s => (r, s)))

theorem factsOf_snoc (m : RoleB → List (List UInt8)) (rs : List RoleB) (r : RoleB) : factsOf m (rs ++ [r]) = factsOf m rs ++ (m r).map (fun s => (r, s)) := by simp [factsOf]

theorem mem_factsOf {m : RoleB → List (List UInt8)} {rs : List RoleB} {f : FactB} : f ∈ factsOf m rs ↔ f.1 ∈ rs ∧ f.2 ∈ m f.1 := by
  unfold factsOf
  rw [List.mem_flatMap]
  constructor
  · rintro ⟨r, hr, h⟩
    obtain ⟨s, hs, rfl⟩ := List.mem_map.1 h
    exact ⟨hr, hs⟩
  · rintro ⟨h1, h2⟩
    exact ⟨f.1, h1, List.mem_map.2 ⟨f.2, h2, rfl⟩⟩

theorem risingG_append {α : Type} {lt : α → α → Bool} : ∀ {a b : List α}, RisingG lt a → RisingG lt b → (∀ x ∈ a, ∀ y ∈ b, lt x y = true) → RisingG lt (a ++ b)
  | [], _, _, hb, _ => hb
  | x :: a, b, ha, hb, h => ⟨fun y hy => by
      rcases List.mem_append.1 hy with hy | hy
      · exact ha.1 y hy
      · exact h x (by simp) y hy, risingG_append ha.2 hb (fun z hz => h z (by simp [hz]))⟩

theorem factsRow_rises (r : RoleB) : ∀ {ss : List (List UInt8)}, Rising ss → RisingG ltF (ss.map (fun s => (r, s)))
  | [], _ => trivial
  | x :: l, h => ⟨fun y hy => by
      obtain ⟨s, hs, rfl⟩ := List.mem_map.1 hy
      have := h.1 s hs
      unfold ltF lexLt
      simp [this], factsRow_rises r h.2⟩

theorem factsOf_rises {m : RoleB → List (List UInt8)} (hm : ∀ r, Rising (m r)) : ∀ {rs : List RoleB}, RisingG ltR rs → RisingG ltF (factsOf m rs)
  | [], _ => trivial
  | r :: l, h => by
    have e : factsOf m (r :: l) = (m r).map (fun s => (r, s)) ++ factsOf m l := by simp [factsOf]
    rw [e]
    refine risingG_append (factsRow_rises r (hm r)) (factsOf_rises hm h.2) fun x hx y hy => ?_
    obtain ⟨s, _, rfl⟩ := List.mem_map.1 hx
    have := h.1 y.1 (mem_factsOf.1 hy).1
    unfold ltF lexLt
    simp [this]
end Go.Proofs.YtanompfdjfgfbaaGreat

/- clear over a slice of roles. -/
namespace Go.Proofs.YtanompfdjfgfbaaGreat
open Go.RowKit

/-- 'clear(s)' where every cell of the zero value is one: the cells hold it; nothing else turns. -/
theorem run_clear_all {P : Program} (w : World) (t e ty : TypeId) (z u : Value) (s : Nat) (ht : P.underlying t = some (.slice e)) (hv : ∀ w, (zeroValue e).run P w = .ok z w) (hz : z.cells = Array.replicate s u) (hs : 0 < s) (h1 : u.oneCell' = true) (b o n c : Nat) (hn : 0 < n)
    (hc : ∀ j, j < n * s → (w.cell? ⟨b, o + j, none⟩).isSome = true) (hf : ∀ j, j < n * s → w.frozen? ⟨b, o + j, none⟩ = false) :
    (Builtin.clear_ #[t] ty #[.slice (some ⟨b, o, none⟩) n c]).run P w = .ok (.tuple #[]) (w.setCells b o (List.replicate (n * s) u)) := by
  have hzc : (Builtin.zeroCells z.cells n).toList = List.replicate (n * s) u := by
    rw [hz]
    apply List.ext_getElem
    · simp [Builtin.zeroCells]
    · intro i h1 h2
      simp [Builtin.zeroCells, Nat.mod_lt i hs]
  have hst := run_storeCells_cells (P := P) b o (List.replicate (n * s) u) 0 w (by simpa using hc) (by simpa using hf) (by intro v hv'; rw [List.eq_of_mem_replicate hv']; exact h1)
  simp only [Nat.add_zero] at hst
  obtain ⟨m, rfl⟩ : ∃ m, n = m + 1 := ⟨n - 1, by omega⟩
  simp [Builtin.clear_, run_underlying ht, hv, hzc, hst]
end Go.Proofs.YtanompfdjfgfbaaGreat

/- slices.Compact at roles, of a row of the call's own. -/
namespace Go.Proofs.YtanompfdjfgfbaaGreat
open Go.RowKit Go.Lib Go.Sort

/-- The block g holds the roles d from its first cell on. -/
structure HoldR (w : World) (g cap : Nat) (d : Array RoleB) : Prop where
  blk : ∃ cur, w.heap[g]? = some (.cells cur 24 (0, 0)) ∧ cur.size = cap * 2
  at0 : ∀ j, j < d.size → w.cell? ⟨g, j * 2, none⟩ = some (.string ⟨d[j]!.1.toArray⟩)
  at1 : ∀ j, j < d.size → w.cell? ⟨g, j * 2 + 1, none⟩ = some (.string ⟨d[j]!.2.toArray⟩)

theorem HoldR.keep {S : Nat → Prop} {w w' : World} {g cap : Nat} {d : Array RoleB} (h : HoldR w g cap d) (hc : Chg S w w') (hS : ¬ S g) : HoldR w' g cap d :=
  ⟨by obtain ⟨cur, h1, h2⟩ := h.blk; exact ⟨cur, blk_keep h1 hc hS, h2⟩, fun j hj => hc.cell (h.at0 j hj) hS, fun j hj => hc.cell (h.at1 j hj) hS⟩

theorem HoldR.froz {w : World} {g cap : Nat} {d : Array RoleB} (h : HoldR w g cap d) (i : Nat) : w.frozen? ⟨g, i, none⟩ = false := by
  obtain ⟨cur, h1, _⟩ := h.blk
  exact froz_blk h1 i

theorem HoldR.set {w : World} {g cap k : Nat} {d : Array RoleB} {u : RoleB} (h : HoldR w g cap d) (hk : k < d.size) (hcap : d.size ≤ cap) :
    HoldR ((w.setCell ⟨g, k * 2, none⟩ (.string ⟨u.1.toArray⟩)).setCell ⟨g, k * 2 + 1, none⟩ (.string ⟨u.2.toArray⟩)) g cap (d.setIfInBounds k u) := by
  obtain ⟨cur, h1, h2⟩ := h.blk
  have hs := set_blk (set_blk h1 (k * 2) (.string ⟨u.1.toArray⟩)) (k * 2 + 1) (.string ⟨u.2.toArray⟩)
  refine ⟨⟨_, hs, by simp [h2]⟩, fun j hj => ?_, fun j hj => ?_⟩
  · rw [cell_blk hs]
    have hj' : j < d.size := by simpa using hj
    by_cases e : j = k
    · subst e
      rw [getElem!_set_same d j u hj']
      rw [Array.getElem?_setIfInBounds, if_neg (by omega), Array.getElem?_setIfInBounds, if_pos rfl, if_pos (by omega)]
    · rw [getElem!_set_other d k j u e, ← h.at0 j hj', cell_blk h1]
      rw [Array.getElem?_setIfInBounds, if_neg (by omega), Array.getElem?_setIfInBounds, if_neg (by omega)]
  · rw [cell_blk hs]
    have hj' : j < d.size := by simpa using hj
    by_cases e : j = k
    · subst e
      rw [getElem!_set_same d j u hj']
      rw [Array.getElem?_setIfInBounds, if_pos rfl, if_pos (by simp; omega)]
    · rw [getElem!_set_other d k j u e, ← h.at1 j hj', cell_blk h1]
      rw [Array.getElem?_setIfInBounds, if_neg (by omega), Array.getElem?_setIfInBounds, if_neg (by omega)]

theorem HoldR.above {w : World} {g cap o : Nat} {d : Array RoleB} {v : Value} (h : HoldR w g cap d) (ho : d.size * 2 ≤ o) : HoldR (w.setCell ⟨g, o, none⟩ v) g cap d := by
  obtain ⟨cur, h1, h2⟩ := h.blk
  have hs := set_blk h1 o v
  refine ⟨⟨_, hs, by simp [h2]⟩, fun j hj => ?_, fun j hj => ?_⟩
  · rw [cell_blk hs, ← h.at0 j hj, cell_blk h1, Array.getElem?_setIfInBounds, if_neg (by omega)]
  · rw [cell_blk hs, ← h.at1 j hj, cell_blk h1, Array.getElem?_setIfInBounds, if_neg (by omega)]

theorem HoldR.aboves {g cap : Nat} {d : Array RoleB} : ∀ (xs : List Value) (o : Nat) (w : World), HoldR w g cap d → d.size * 2 ≤ o → HoldR (w.setCells g o xs) g cap d ∧ Chg (fun k => k = g) w (w.setCells g o xs)
  | [], _, w, h, _ => ⟨h, Chg.refl _ _⟩
  | x :: r, o, w, h, ho => by
    obtain ⟨h1, h2⟩ := HoldR.aboves r (o + 1) (w.setCell ⟨g, o, none⟩ x) (h.above ho) (by omega)
    exact ⟨h1, (setCell_chg w g o x).trans h2 (fun _ _ h => h)⟩

theorem HoldR.low {w : World} {g cap : Nat} {d : Array RoleB} {c : List RoleB} (h : HoldR w g cap d) (hk : c.length ≤ d.size) (hl : ∀ j, j < c.length → d[j]! = c[j]!) : HoldR w g cap c.toArray :=
  ⟨h.blk, fun j hj => by
    have hj' : j < c.length := by simpa using hj
    have := hl j hj'
    rw [h.at0 j (by omega), this]; simp, fun j hj => by
    have hj' : j < c.length := by simpa using hj
    have := hl j hj'
    rw [h.at1 j (by omega), this]; simp⟩

set_option maxRecDepth 100000 in
set_option maxHeartbeats 4000000 in
theorem compact_walk (g cap : Nat) (d : Array RoleB) (w : World) (hH : HoldR w g cap d) (hsz : d.size ≤ 4194304) (hcap : d.size ≤ cap) (hcm : cap ≤ 9223372036854775807) :
    Calls Tryz.prog 53 #[.slice (some ⟨g, 0, none⟩) d.size cap] w fun e w' => e = .returned (.slice (some ⟨g, 0, none⟩) (compactUpTo d d.size).length cap) ∧ HoldR w' g cap (compactUpTo d d.size).toArray ∧ Chg (fun k => k = g) w w' := by
  have same : (∀ j, j < d.size → keeps d j = true) → (compactUpTo d d.size).length = d.size ∧ ∀ j, j < (compactUpTo d d.size).length → d[j]! = (compactUpTo d d.size)[j]! := by
    intro hall
    have e : compactUpTo d d.size = d.toList := by rw [compactUpTo_all d _ hall, range_map_get]
    rw [e]
    refine ⟨by simp, fun j hj => ?_⟩
    have hj' : j < d.size := by simpa using hj
    simp [getElem!_pos, hj']
  have HS := hid same
  clear same
  by_cases h2 : d.size < 2
  · have HH := hid hH
    clear hH
    go_enter Tryz.func53, Tryz.ntmps53
    go_wp2
    go_ret
    obtain ⟨e1, e2⟩ := HS.out (fun j hj => keeps_lt_one d j (by omega))
    exact ⟨by rw [e1]; rfl, HH.out.low (by omega) e2, Chg.refl _ _⟩
  · go_enter Tryz.func53, Tryz.ntmps53
    go_wp2
    go_loopw [3] (fun s3 wr => ∃ k : Nat, 1 ≤ k ∧ k ≤ d.size ∧ s3 = .int .i64 k ∧ HoldR wr g cap d ∧ Chg (fun k => k = g) w wr ∧ Hid (∀ j, j < k → keeps d j = true)) (fun s3 _ => d.size - (intOf s3).toNat)
    case atStart => exact ⟨1, Nat.le_refl _, by omega, rfl, hH, Chg.refl _ _, keeps_lt_one d⟩
    case round =>
      obtain ⟨k, hk1, hk, rfl, hHr, hc, A⟩ := hrel
      by_cases hlt : k < d.size
      · have c0 := hHr.at0 k hlt
        have c1 := hHr.at1 k hlt
        have p0 := hHr.at0 (k - 1) (by omega)
        have p1 := hHr.at1 (k - 1) (by omega)
        have HH := hid (And.intro hHr hc)
        clear hHr hc hH
        generalize hx : d[k]! = x at *
        generalize hy : d[k - 1]! = y at *
        have B := hid (And.intro hx hy)
        clear hx hy
        obtain ⟨xo, xw⟩ := x
        obtain ⟨yo, yw⟩ := y
        dsimp only at c0 c1 p0 p1
        by_cases hd : (xo, xw) = (yo, yw)
        · cases hd
          have f1 : (xo == xo) = true := by simp
          have f2 : (xw == xw) = true := by simp
          have hkn : keeps d k = false := keeps_neg (by omega) (by rw [B.out.1, B.out.2])
          have HK := hid hkn
          clear hkn
          go_wp2
          go_region
          go_wp2
          clear c0 c1 p0 p1 f1 f2
          go_loopw [3, 5] (fun s3 s5 wr => ∃ (kk k2 : Nat) (dk : Array RoleB), s3 = .int .i64 kk ∧ s5 = .int .i64 k2 ∧ 1 ≤ k2 ∧ k + k2 ≤ d.size ∧ Chg (fun k => k = g) w wr ∧ HoldR wr g cap dk ∧ CompInv d (k + k2) kk dk) (fun _ s5 _ => d.size - (k + (intOf s5).toNat))
          case atStart => exact ⟨k, 1, d, rfl, rfl, Nat.le_refl _, by omega, HH.out.2.drew, HH.out.1.keep ((Chg.refl (fun _ => False) _).drew) id, CompInv.start A.out HK.out⟩
          case round =>
            obtain ⟨kk, k2, dk, rfl, rfl, h1, hle, hc, hHk, hI⟩ := hrel
            have hkk := hI.lt
            have hds := hI.size
            have HK2 := hid (And.intro hHk (And.intro hc hI))
            by_cases hlt2 : k + k2 < d.size
            · have c0 := hHk.at0 (k + k2) (by omega)
              have c1 := hHk.at1 (k + k2) (by omega)
              have p0 := hHk.at0 (k + k2 - 1) (by omega)
              have p1 := hHk.at1 (k + k2 - 1) (by omega)
              rw [hI.high (k + k2) (by omega), show (k + k2) * 2 = k * 2 + k2 * 2 by omega] at c0 c1
              rw [hI.high (k + k2 - 1) (by omega), show (k + k2 - 1) * 2 = k * 2 + (k2 - 1) * 2 by omega] at p0 p1
              have q0 := hHk.at0 kk (by omega)
              have q1 := hHk.at1 kk (by omega)
              have f0 := hHk.froz (kk * 2)
              have f1 := hHk.froz (kk * 2 + 1)
              clear hHk hI hc
              generalize hu : d[k + k2]! = u at *
              generalize hv : d[k + k2 - 1]! = v at *
              have C := hid (And.intro hu hv)
              clear hu hv
              obtain ⟨xo, xw⟩ := u
              obtain ⟨yo, yw⟩ := v
              dsimp only at c0 c1 p0 p1
              by_cases hd : (xo, xw) = (yo, yw)
              · cases hd
                have g1 : (xo == xo) = true := by simp
                have g2 : (xw == xw) = true := by simp
                have HX := hid (And.intro (HK2.out.1.keep ((Chg.refl (fun _ => False) _).drew) id) (And.intro HK2.out.2.1.drew (HK2.out.2.2.skip (keeps_neg (by omega) (by rw [C.out.1, C.out.2])))))
                clear HK2
                go_wp2
                go_region
                go_wp2
                go_roundw
                case rel => exact ⟨kk, k2 + 1, dk, rfl, by go_num, by omega, by omega, HX.out.2.1, HX.out.1, HX.out.2.2⟩
                case measure => simp [intOf]; omega
              · have HX := hid (And.intro ((HK2.out.1.keep ((Chg.refl (fun _ => False) wr).drew) id).set (k := kk) (u := (xo, xw)) (by omega) (by omega)) (And.intro ((HK2.out.2.1.drew.trans (setCell_chg _ g (kk * 2) (.string ⟨xo.toArray⟩)) (fun i hi h => h)).trans (setCell_chg _ g (kk * 2 + 1) (.string ⟨xw.toArray⟩)) (fun i hi h => h)) (by have := HK2.out.2.2.keep hlt2 (keeps_pos (by rw [C.out.1, C.out.2]; exact hd)); rwa [C.out.1] at this)))
                clear HK2
                by_cases e1 : xo = yo
                · have e2 : ¬ xw = yw := fun h => hd (by rw [e1, h])
                  subst e1
                  have g1 : (xo == xo) = true := by simp
                  have g2 : (xw == yw) = false := by simpa using e2
                  clear hd e2
                  go_wp2
                  go_region
                  go_wp2
                  go_roundw
                  case rel => exact ⟨kk + 1, k2 + 1, dk.setIfInBounds kk (xo, xw), by go_num, by go_num, by omega, by omega, HX.out.2.1, HX.out.1, HX.out.2.2⟩
                  case measure => simp [intOf]; omega
                · have g1 : (xo == yo) = false := by simpa using e1
                  clear hd e1
                  go_wp2
                  go_region
                  go_wp2
                  go_roundw
                  case rel => exact ⟨kk + 1, k2 + 1, dk.setIfInBounds kk (xo, xw), by go_num, by go_num, by omega, by omega, HX.out.2.1, HX.out.1, HX.out.2.2⟩
                  case measure => simp [intOf]; omega
            · have hend : k + k2 = d.size := by omega
              have hcl : ∀ ty, (Builtin.clear_ #[40] ty #[.slice (some ⟨g, kk * 2, none⟩) (d.size - kk) (cap - kk)]).run Tryz.prog wr = .ok (.tuple #[]) (wr.setCells g (kk * 2) (List.replicate ((d.size - kk) * 2) (.string ⟨#[]⟩))) :=
                fun ty => run_clear_all wr 40 24 ty (.agg #[.string ⟨#[]⟩, .string ⟨#[]⟩]) (.string ⟨#[]⟩) 2 Tryz.underlying40 (fun w => by kernel_rfl) rfl (by decide) rfl g (kk * 2) _ _ (by omega) (fun j hj => by
                  obtain ⟨cur, b1, b2⟩ := hHk.blk
                  rw [cell_blk b1, Array.getElem?_eq_getElem (by omega)]; rfl) (fun j hj => hHk.froz _)
              rw [hend] at hI
              have hX := hHk.low (c := compactUpTo d d.size) (by rw [hI.len]; omega) (fun j hj => by
                have e := hI.low j (by rw [hI.len] at hj; exact hj)
                rw [List.getElem?_eq_getElem hj] at e
                rw [getElem!_pos (compactUpTo d d.size) j hj]
                exact (Option.some.inj e).symm)
              have hY := HoldR.aboves (List.replicate ((d.size - kk) * 2) (.string ⟨#[]⟩)) (kk * 2) wr hX (by simp [hI.len])
              have HX := hid (And.intro hI.len (And.intro hY.1 (hc.trans hY.2 (fun _ _ h => h))))
              clear hX hY hHk hI hc HK2
              go_wp2
              go_ret
              exact ⟨by rw [HX.out.1]; rfl, HX.out.2.1, HX.out.2.2⟩
        · have A2 : Hid (∀ j, j < k + 1 → keeps d j = true) := hid (fun j hj => by
            by_cases e : j = k
            · subst e
              exact keeps_pos (by rw [B.out.1, B.out.2]; exact hd)
            · exact A.out j (by omega))
          have HX := hid (And.intro (HH.out.1.keep ((Chg.refl (fun _ => False) _).drew) id) HH.out.2.drew)
          by_cases e1 : xo = yo
          · have e2 : ¬ xw = yw := fun h => hd (by rw [e1, h])
            subst e1
            have f1 : (xo == xo) = true := by simp
            have f2 : (xw == yw) = false := by simpa using e2
            clear hd e2
            go_wp2
            go_region
            go_wp2
            go_roundw
            case rel => exact ⟨k + 1, by omega, by omega, by go_num, HX.out.1, HX.out.2, A2⟩
            case measure => simp [intOf]; omega
          · have f1 : (xo == yo) = false := by simpa using e1
            clear hd e1
            go_wp2
            go_region
            go_wp2
            go_roundw
            case rel => exact ⟨k + 1, by omega, by omega, by go_num, HX.out.1, HX.out.2, A2⟩
            case measure => simp [intOf]; omega
      · have hk2 : k = d.size := by omega
        have HH := hid (And.intro hHr hc)
        clear hHr hc hH
        subst hk2
        go_wp2
        go_ret
        obtain ⟨e1, e2⟩ := HS.out A.out
        exact ⟨by rw [e1]; rfl, HH.out.1.low (by omega) e2, HH.out.2⟩

theorem comp_len (d : Array RoleB) : ∀ m, (compactUpTo d m).length ≤ m
  | 0 => by simp [compactUpTo]
  | m + 1 => by
    have := comp_len d m
    rw [compactUpTo_succ, List.length_append]
    split <;> simp <;> omega

theorem HoldR.own {B : Nat} {w : World} {g cap : Nat} {c : List RoleB} (h : HoldR w g cap c.toArray) (hg : B ≤ g) (hl : c.length ≤ cap) (hm : cap ≤ maxLen) : OwnR B w (.slice (some ⟨g, 0, none⟩) c.length cap) c := by
  obtain ⟨cur, b1, b2⟩ := h.blk
  refine ⟨by rw [roleRow_length], .inr ⟨g, cap, cur, rfl, hg, b1, hl, hm, b2, ?_⟩⟩
  apply List.ext_getElem?
  intro i
  rw [List.getElem?_take]
  by_cases hi : i < c.length * 2
  · rw [if_pos hi]
    have e1 : cur.toList[i]? = cur[i]? := by simp
    rw [e1]
    rcases (⟨i / 2, by omega⟩ : ∃ j, i = 2 * j ∨ i = 2 * j + 1) with ⟨j, rfl | rfl⟩
    · have hj : j < c.length := by omega
      have a := h.at0 j (by simpa using hj)
      rw [cell_blk b1] at a
      rw [show 2 * j = j * 2 by omega, a, (roleRow_get c j hj).1]
      simp [hj]
    · have hj : j < c.length := by omega
      have a := h.at1 j (by simpa using hj)
      rw [cell_blk b1] at a
      rw [show 2 * j + 1 = j * 2 + 1 by omega, a, (roleRow_get c j hj).2]
      simp [hj]
  · rw [if_neg hi, List.getElem?_eq_none (by rw [roleRow_length]; omega)]

theorem pcompact_own {B : Nat} {w : World} {ao : Option Addr} {cap : Nat} {ls : List RoleB} (h : OwnR B w (.slice ao ls.length cap) ls) (hl : ls.length ≤ 4194304) :
    Calls Tryz.prog 53 #[.slice ao ls.length cap] w fun e w' => (∃ ao2 cap2, e = .returned (.slice ao2 (Lib.compact ls).length cap2) ∧ OwnR B w' (.slice ao2 (Lib.compact ls).length cap2) (Lib.compact ls)) ∧ (∀ S : Nat → Prop, (∀ k, B ≤ k → S k) → Chg S w w') := by
  have hall := h
  rcases h.2 with ⟨he, h0⟩ | ⟨g, cap', cur, he, hg, hh, h1, h2, h3, h4⟩
  · have : ls = [] := List.eq_nil_of_length_eq_zero h0
    subst this
    cases he
    go_enter Tryz.func53, Tryz.ntmps53
    go_wp2
    go_ret
    exact ⟨⟨none, 0, rfl, hall⟩, fun S _ => Chg.refl _ _⟩
  · cases he
    have hH : HoldR w g cap ls.toArray := ⟨⟨cur, hh, h3⟩, fun j hj => by
      have hj' : j < ls.length := by simpa using hj
      have := hall.cells (g := g) rfl (j * 2) _ (roleRow_get ls j hj').1
      rw [add_off, Nat.zero_add] at this
      rw [this]; simp [hj'], fun j hj => by
      have hj' : j < ls.length := by simpa using hj
      have := hall.cells (g := g) rfl (j * 2 + 1) _ (roleRow_get ls j hj').2
      rw [add_off, Nat.zero_add] at this
      rw [this]; simp [hj']⟩
    have hwk := compact_walk g cap ls.toArray w hH (by simpa using hl) (by simpa using h1) (by unfold maxLen at h2; exact h2)
    have hs : ls.toArray.size = ls.length := by simp
    rw [hs] at hwk
    refine hwk.mono ?_
    rintro e w' ⟨rfl, hH', hc⟩
    exact ⟨⟨_, _, rfl, hH'.own hg (Nat.le_trans (comp_len ls.toArray ls.length) h1) h2⟩, fun S hS => hc.mono (fun k _ hk => by subst hk; exact hS _ hg)⟩
end Go.Proofs.YtanompfdjfgfbaaGreat

/-
  DERIVED: THE SHELF's CONTRACTS AT THIS DUMP, IN PLAIN WORDS (tools/lay-plain.mjs out of 'TryzShelfQ.lean', which tools/lay-shelf.mjs wrote): THE SAME DECLARATIONS UNDER THE SAME NAMES: 'import', 'namespace', 'open', 'def', 'theorem' AND NOTHING ELSE: no command of the shelf's: FOR A HAND-IN. Each laying: the table of numbers ('.._ren') and one theorem, a field a fact of the dump's own or the kernel's comparison; each contract: ONE APPLICATION.
-/
namespace Go.Proofs
open Go.Shelf
def Tryz.sortR_ren : Go.Shelf.Ren := ⟨fun | 6 => 45 | 15 => 73 | 14 => 72 | 28 => 90 | 29 => 91 | 20 => 82 | 21 => 83 | 22 => 84 | 23 => 85 | 24 => 86 | 25 => 87 | 26 => 88 | 27 => 89 | 46 => 105 | 47 => 106 | 48 => 107 | 49 => 108 | 50 => 109 | 57 => 114 | n => n, fun | 22 => 40 | 24 => 24 | 25 => 67 | 3 => 3 | 39 => 103 | 0 => 0 | 53 => 119 | 55 => 121 | 4 => 4 | 46 => 112 | 45 => 111 | 50 => 116 | 5 => 5 | 9 => 9 | 66 => 131 | 70 => 135 | 76 => 140 | 77 => 141 | n => n, fun | n => n⟩
theorem Tryz.sortR : Go.Proofs.SlLaysF0.n6 Tryz.prog Tryz.sortR_ren := {
  mixed := by kernel_rfl
  f6 := ⟨Tryz.f45.name, by decide, Tryz.func45.trans (congrArg some (by kernel_rfl))⟩
  f14 := ⟨Tryz.f72.name, by decide, Tryz.func72.trans (congrArg some (by kernel_rfl))⟩
  f15 := Tryz.func73.trans (congrArg some (by kernel_rfl))
  f20 := ⟨Tryz.f82.name, by decide, Tryz.func82.trans (congrArg some (by kernel_rfl))⟩
  f21 := ⟨Tryz.f83.name, by decide, Tryz.func83.trans (congrArg some (by kernel_rfl))⟩
  f22 := ⟨Tryz.f84.name, by decide, Tryz.func84.trans (congrArg some (by kernel_rfl))⟩
  f23 := ⟨Tryz.f85.name, by decide, Tryz.func85.trans (congrArg some (by kernel_rfl))⟩
  f24 := ⟨Tryz.f86.name, by decide, Tryz.func86.trans (congrArg some (by kernel_rfl))⟩
  f25 := ⟨Tryz.f87.name, by decide, Tryz.func87.trans (congrArg some (by kernel_rfl))⟩
  f26 := ⟨Tryz.f88.name, by decide, Tryz.func88.trans (congrArg some (by kernel_rfl))⟩
  f27 := ⟨Tryz.f89.name, by decide, Tryz.func89.trans (congrArg some (by kernel_rfl))⟩
  f28 := Tryz.func90.trans (congrArg some (by kernel_rfl))
  f29 := Tryz.func91.trans (congrArg some (by kernel_rfl))
  f46 := ⟨Tryz.f105.name, by decide, Tryz.func105.trans (congrArg some (by kernel_rfl))⟩
  f47 := Tryz.func106.trans (congrArg some (by kernel_rfl))
  f48 := Tryz.func107.trans (congrArg some (by kernel_rfl))
  f49 := ⟨Tryz.f108.name, by decide, Tryz.func108.trans (congrArg some (by kernel_rfl))⟩
  f50 := ⟨Tryz.f109.name, by decide, Tryz.func109.trans (congrArg some (by kernel_rfl))⟩
  f57 := ⟨Tryz.f114.name, by decide, Tryz.func114.trans (congrArg some (by kernel_rfl))⟩
  t0 := Tryz.underlying0
  a0 := Tryz.isAgg0
  z0 := Tryz.sizeOf0
  v0 := Tryz.zeroValue0
  t3 := Tryz.underlying3
  a3 := Tryz.isAgg3
  z3 := Tryz.sizeOf3
  v3 := Tryz.zeroValue3
  t4 := Tryz.underlying4
  a4 := Tryz.isAgg4
  z4 := Tryz.sizeOf4
  v4 := Tryz.zeroValue4
  t5 := Tryz.underlying5
  a5 := Tryz.isAgg5
  z5 := Tryz.sizeOf5
  v5 := Tryz.zeroValue5
  t9 := Tryz.underlying9
  a9 := Tryz.isAgg9
  z9 := Tryz.sizeOf9
  v9 := Tryz.zeroValue9
  t22 := Tryz.underlying40
  a22 := Tryz.isAgg40
  z22 := Tryz.sizeOf40
  v22 := Tryz.zeroValue40
  t25 := Tryz.underlying67
  a25 := Tryz.isAgg67
  z25 := Tryz.sizeOf67
  v25 := Tryz.zeroValue67
  t39 := Tryz.underlying103
  a39 := Tryz.isAgg103
  z39 := Tryz.sizeOf103
  v39 := Tryz.zeroValue103
  t45 := Tryz.underlying111
  a45 := Tryz.isAgg111
  z45 := Tryz.sizeOf111
  v45 := Tryz.zeroValue111
  t46 := Tryz.underlying112
  a46 := Tryz.isAgg112
  z46 := Tryz.sizeOf112
  v46 := Tryz.zeroValue112
  t50 := Tryz.underlying116
  a50 := Tryz.isAgg116
  z50 := Tryz.sizeOf116
  v50 := Tryz.zeroValue116
  t53 := Tryz.underlying119
  a53 := Tryz.isAgg119
  z53 := Tryz.sizeOf119
  v53 := Tryz.zeroValue119
  t55 := Tryz.underlying121
  a55 := Tryz.isAgg121
  z55 := Tryz.sizeOf121
  v55 := Tryz.zeroValue121
  t66 := Tryz.underlying131
  a66 := Tryz.isAgg131
  z66 := Tryz.sizeOf131
  v66 := Tryz.zeroValue131
  t70 := Tryz.underlying135
  a70 := Tryz.isAgg135
  z70 := Tryz.sizeOf135
  v70 := Tryz.zeroValue135
  t76 := Tryz.underlying140
  a76 := Tryz.isAgg140
  z76 := Tryz.sizeOf140
  v76 := Tryz.zeroValue140
  t77 := Tryz.underlying141
  a77 := Tryz.isAgg141
  z77 := Tryz.sizeOf141
  v77 := Tryz.zeroValue141 }
end Go.Proofs

/- A row that a sort has put in order: what its block holds, and that nothing else has turned. -/
namespace Go.Proofs.YtanompfdjfgfbaaGreat
open Go.RowKit Go.Sort Go.Lib
theorem heap_putRow {w : World} {g n : Nat} {os : Array Obj} {cur : Array Value} {e : TypeId} {fr : Nat × Nat} (F : Array Value) (hb : w.heap[g]? = some (.cells cur e fr)) :
    (grow (putRow id (Sort.ahead w n) g 0 F) os).heap[g]? = some (.cells (putCells id 0 F cur) e fr) := by
  have hg : g < w.heap.size := (Array.getElem?_eq_some_iff.1 hb).1
  rw [heap_grow_old _ _ (by simpa using hg)]
  simp [putRow, mapBlock, Sort.ahead, Array.getElem?_modify, hb, onCells]

theorem chg_putRow {w : World} {g n : Nat} {os : Array Obj} (F : Array Value) (S : Nat → Prop) (hS : S g) : Chg S w (grow (putRow id (Sort.ahead w n) g 0 F) os) := by
  refine ⟨rfl, rfl, rfl, by simp, fun k hk hs => ?_⟩
  rw [heap_grow_old _ _ (by simpa using hk)]
  have : g ≠ k := fun e => hs (e ▸ hS)
  simp [putRow, mapBlock, Sort.ahead, Array.getElem?_modify, this]

end Go.Proofs.YtanompfdjfgfbaaGreat

/- slices.SortFunc at roles by Compare, of a row of the call's own: a permutation of it, rising. -/
namespace Go.Proofs.YtanompfdjfgfbaaGreat
open Go.RowKit Go.Sort Go.Lib

theorem ltOf_cmpR (x y : RoleB) : ltOf cmpR x y = ltR x y := by
  unfold ltOf cmpR
  cases h : ltR x y with
  | true => simp
  | false => cases h2 : ltR y x <;> simp

theorem swo_cmpR : SWO (ltOf cmpR) where
  irrefl x := by rw [ltOf_cmpR]; exact ltR_ord.irrefl x
  trans x y z h1 h2 := by rw [ltOf_cmpR] at *; exact ltR_ord.trans x y z h1 h2
  ntrans x y z h1 h2 := by
    rw [ltOf_cmpR] at *
    cases h3 : ltR x z with
    | false => rfl
    | true =>
      rcases ltR_ord.tri x y with h | h | h
      · rw [h] at h1; cases h1
      · subst h; rw [h3] at h2; cases h2
      · rcases ltR_ord.tri y z with k | k | k
        · rw [k] at h2; cases h2
        · subst k; rw [h3] at h1; cases h1
        · have := ltR_ord.trans _ _ _ (ltR_ord.trans _ _ _ h3 k) h
          rw [ltR_ord.irrefl] at this; cases this

theorem psort_own {B : Nat} {w : World} {ao : Option Addr} {cap : Nat} {ls : List RoleB} (h : OwnR B w (.slice ao ls.length cap) ls) (hl : ls.length ≤ 4194304) :
    Calls Tryz.prog 45 #[.slice ao ls.length cap, .func (.func 29) #[] #[]] w fun e w' => e = .returned (.tuple #[]) ∧ (∃ ts : List RoleB, ts.Perm ls ∧ (ts.Pairwise fun x y => ltR y x = false) ∧ OwnR B w' (.slice ao ts.length cap) ts) ∧ (∀ S : Nat → Prop, (∀ k, B ≤ k → S k) → Chg S w w') := by
  have hall := h
  rcases h.2 with ⟨he, h0⟩ | ⟨g, cap', cur, he, hg, hh, h1, h2, h3, h4⟩
  · have : ls = [] := List.eq_nil_of_length_eq_zero h0
    subst this
    cases he
    have hcon := AnyF.slices_SortFunc_none Tryz.sortR none 0 (.func (.func 29) #[] #[]) w
    change Calls Tryz.prog 45 _ _ _ at hcon
    refine hcon.mono ?_
    rintro e w' ⟨rfl, rfl⟩
    exact ⟨rfl, ⟨[], List.Perm.refl _, List.Pairwise.nil, hall⟩, fun S _ => Chg.refl _ _⟩
  · cases he
    have hs : ls.toArray.size = ls.length := by simp
    have hH : HoldsK roleCells 2 w g 0 ls.toArray := by
      intro t ht
      rw [size_flatK, hs] at ht
      refine ⟨?_, by simp [World.frozen?, hh]⟩
      rw [get_flatK _ _ _ _ (by rw [hs]; exact ht)]
      have hj : t / 2 < ls.length := by omega
      rw [show ls.toArray[t / 2]! = ls[t / 2] by simp [hj]]
      rcases Nat.mod_two_eq_zero_or_one t with e | e
      · have := hall.cells (g := g) rfl (t / 2 * 2) _ (roleRow_get ls (t / 2) hj).1
        rw [add_off, Nat.zero_add, show t / 2 * 2 = t by omega] at this
        rw [Nat.zero_add, this, e]
        rfl
      · have := hall.cells (g := g) rfl (t / 2 * 2 + 1) _ (roleRow_get ls (t / 2) hj).2
        rw [add_off, Nat.zero_add, show t / 2 * 2 + 1 = t by omega] at this
        rw [Nat.zero_add, this, e]
        rfl
    have eg : ∀ args w, (callFunc 29 args).run Tryz.prog w = .ok (.enter 29 args) w := enters_of Tryz.func29 (by kernel_rfl) rfl
    have hcmp : CmpLays Tryz.prog 29 #[] roleCells 2 cmpR g 0 ls.toArray.size w := fun _ _ _ _ x y => pcompare_grows x y _
    have hcon := AnyQ.slices_SortFunc Tryz.sortR 2 Tryz.isAgg24 Tryz.sizeOf24 roleCells (fun _ => rfl) (fun x v hv => by simp [roleCells] at hv; rcases hv with rfl | rfl <;> rfl) cmpR swo_cmpR 29 #[] g 0 cap ls.toArray w eg hcmp hH (lt_blk hh) (by rw [hs]; omega)
    change Calls Tryz.prog 45 _ _ _ at hcon
    rw [hs] at hcon
    refine hcon.mono ?_
    rintro e w' ⟨rfl, d', n, os, hp, hso, rfl⟩
    have hds : d'.size = ls.length := by rw [hp.1, hs]
    have hHK : HoldsK roleCells 2 (grow (putRowK roleCells 2 (Sort.ahead w n) g 0 d') os) g 0 d' :=
      holdsK_grow _ _ _ _ _ _ _ (by show g < (putRow id (Sort.ahead w n) g 0 _).heap.size; simpa [putRow, mapBlock, Sort.ahead] using lt_blk hh) (holdsK_putRowK _ _ _ _ _ ls.toArray d' hH (by rw [hds, hs]))
    have hR : HoldR (grow (putRowK roleCells 2 (Sort.ahead w n) g 0 d') os) g cap d'.toList.toArray := by
      refine ⟨⟨_, heap_putRow _ hh, by simp [putCells, h3]⟩, fun j hj => ?_, fun j hj => ?_⟩
      · have := (hHK.cell (i := j) (c := 0) (by simpa using hj) (by decide)).1
        rw [Nat.zero_add] at this
        exact this
      · have := (hHK.cell (i := j) (c := 1) (by simpa using hj) (by decide)).1
        rw [Nat.zero_add] at this
        exact this
    refine ⟨rfl, ⟨d'.toList, ?_, ?_, ?_⟩, fun S hS => chg_putRow _ S (hS _ hg)⟩
    · have h5 := hp.2.2
      rw [← hds] at h5
      have e1 : d'.extract 0 d'.size = d' := by simp
      have e2 : ls.toArray.extract 0 d'.size = ls.toArray := by rw [hds]; simp
      rw [e1, e2] at h5
      exact h5
    · rw [List.pairwise_iff_getElem]
      intro i j hi hj hij
      have h5 := hso i j (Nat.zero_le _) hij (by simpa [hds] using hj)
      rw [ltOf_cmpR] at h5
      have hi' : i < d'.size := by simpa using hi
      have hj' : j < d'.size := by simpa using hj
      rw [getElem!_pos d' i hi', getElem!_pos d' j hj'] at h5
      simpa using h5
    · exact hR.own hg (by simpa [hds] using h1) h2
end Go.Proofs.YtanompfdjfgfbaaGreat

/- The set of the right roles of a list: append, sort, compact. -/
namespace Go.Proofs.YtanompfdjfgfbaaGreat
open Go.RowKit

set_option maxRecDepth 100000 in
set_option maxHeartbeats 2000000 in
theorem pset {D : Nat → Prop} (ao : Option Addr) (cp : Nat) (ls : List RoleB) (w : World) (hn : ls.length ≤ 4194304) (h : RolesAt D w ao ls) (_ : ∀ i, D i → i < w.heap.size) (hz : ao = none → cp = 0) :
    Calls Tryz.prog 32 #[.slice ao ls.length cp] w (SetPostR ls w) := by
  obtain ⟨i0, hi, hz0, hz1, hz2⟩ := info_parts Tryz.info24
  go_enter Tryz.func32, Tryz.ntmps32
  go_wp2
  go_loopw [3, 8] (fun v i wr => ∃ (k : Nat) (out : List RoleB) (ao' : Option Addr) (cap : Nat), i = .int .i64 k ∧ k ≤ ls.length ∧ v = .slice ao' out.length cap ∧ Hid (out = (ls.take k).filter isRole) ∧ out.length ≤ k ∧ OwnR w.heap.size wr (.slice ao' out.length cap) out ∧ Chg (fun _ => False) w wr) (fun _ i _ => ls.length - (intOf i).toNat)
  case atStart => exact ⟨0, [], none, 0, rfl, Nat.zero_le _, rfl, rfl, Nat.zero_le _, World.ownsRow_nil _ _ _ _, Chg.refl _ _⟩
  case round =>
    obtain ⟨k, out, ao', cap', rfl, hk, rfl, hout, hol, ho, hc⟩ := hrel
    by_cases hlt : k < ls.length
    · obtain ⟨b, off, rfl, hbD, c0, c1, ls1, ls2⟩ := (h.keep hc (fun _ _ => id)) k hlt
      have HF := hid (List.take_succ_eq_append_getElem hlt)
      clear h
      generalize ls[k] = s at *
      have hS := heap_alloc_new wr (.cells #[.string ⟨s.1.toArray⟩, .string ⟨s.2.toArray⟩] 24)
      have hcS : Chg (fun _ => False) wr (wr.alloc (.cells #[.string ⟨s.1.toArray⟩, .string ⟨s.2.toArray⟩] 24)) := (Chg.refl _ wr).alloc _
      have HS := hid (And.intro hS (And.intro (ho.keep hcS (fun _ _ => id)) (hc.trans hcS (fun _ _ h => h))))
      clear hS hcS ho hc
      go_wp2_with fail
      obtain ⟨hS, ho, hc⟩ := HS.out
      clear HS c0 c1
      generalize wr.alloc (.cells #[.string ⟨s.1.toArray⟩, .string ⟨s.2.toArray⟩] 24) = w3 at *
      generalize wr.heap.size = X at *
      refine (pright s w3 ls1 ls2).mono ?_
      rintro e w4 ⟨rfl, hc4⟩
      have hS4 := blk_keep hS hc4 id
      have ho4 := ho.keep hc4 (fun _ _ => id)
      have hcw4 := hc.trans hc4 (fun _ _ h => h)
      clear hS ho hc hc4
      have b0 := cell_blk hS4 0
      have b1 := cell_blk hS4 1
      simp only [List.getElem?_toArray, List.getElem?_cons_zero, List.getElem?_cons_succ] at b0 b1
      cases hx : isRole s with
      | false =>
        have hn2 : Hid (out = (ls.take (k + 1)).filter isRole) := hid (by rw [HF.out, List.filter_append, ← hout.out]; simp [hx])
        clear hS4
        go_wp2
        go_roundw
        case rel => exact ⟨k + 1, out, ao', cap', by go_num, by omega, rfl, hn2, by omega, ho4, hcw4⟩
        case measure => simp [intOf]; omega
      | true =>
        have hn2 : Hid (out ++ [s] = (ls.take (k + 1)).filter isRole) := hid (by rw [HF.out, List.filter_append, ← hout.out]; simp [hx])
        have hsq := hcw4.size
        clear hS4
        go_wp2_with (at_builtin; refine wpList_append_own_at _ rfl (.tmp 14) (.tmp 16) 40 rfl w.heap.size 24 i0 (.agg #[.string ⟨#[]⟩, .string ⟨#[]⟩]) 2 32 Tryz.underlying40 hi hz0 hz1 hz2 rfl (by decide) _ _ _ rfl (World.ownsRow.alloc ho4 _) ⟨w4.heap.size, 0, none⟩ 1 1 (roleCells s) rfl rfl ?c1 ?c2 ?c3 ?c4 ?c5 ?_)
        case c1 => exact fun j u hj => role_cells_new w4 s j u hj
        case c2 => intro u hu; simp only [roleCells, List.mem_cons, List.not_mem_nil, or_false] at hu; rcases hu with rfl | rfl <;> rfl
        case c3 => unfold maxLen; omega
        case c4 => omega
        case c5 => simp; omega
        intro v' w2 hown hgrow _ hat
        have hl : (out ++ [s]).length = out.length + 1 := by simp
        have ho2 : OwnR w.heap.size w2 v' (out ++ [s]) := by
          unfold OwnR
          rw [hl, roleRow_snoc]
          exact hown
        have hrow : ∀ k, Value.ownBlock (.slice ao' out.length cap') = some k → w.heap.size ≤ k := fun k hk => (ownsRow_lt ho4 k hk).1
        have hc2 : Chg (fun _ => False) w w2 := (hcw4.alloc _).grown hgrow (fun k e hk => by have := hrow k e; omega)
        obtain ⟨ao5, cap5, hv5⟩ := ho2.shape
        subst hv5
        clear hown hgrow hat hrow ho4 hcw4
        rw [hl]
        go_wp2
        go_roundw
        case rel => exact ⟨k + 1, out ++ [s], ao5, cap5, by go_num, by omega, by rw [hl], hn2, by rw [hl]; omega, ho2, hc2⟩
        case measure => simp [intOf]; omega
    · have hk2 : k = ls.length := by omega
      have ho2 : Hid (out = ls.filter isRole) := by
        have := hout.out
        rw [List.take_of_length_le (by omega)] at this
        exact hid this
      clear h hout
      go_wp2_with fail
      refine (psort_own ho (by omega)).mono ?_
      rintro e w2 ⟨rfl, ⟨ts, hp, hs, ho3⟩, hch3⟩
      have hc2 : Chg (fun _ => False) w w2 := hc.trans (hch3 (fun k => w.heap.size ≤ k) (fun _ h => h)) (fun i hi hk => by omega)
      have hpl := hp.length_eq
      have hso : Hid (SetR ls (Lib.compact ts)) := hid (compactG_set ltR_ord hs fun x => by rw [hp.mem_iff, ho2.out, List.mem_filter])
      clear hch3 hc ho hs hp ho2
      go_wp2_with fail
      rw [← hpl]
      refine (pcompact_own ho3 (by omega)).mono ?_
      rintro e w3 ⟨⟨ao4, cap4, rfl, ho4⟩, hch4⟩
      have hc3 : Chg (fun _ => False) w w3 := hc2.trans (hch4 (fun k => w.heap.size ≤ k) (fun _ h => h)) (fun i hi hk => by omega)
      clear hch4 hc2 ho3
      have hbd : ∀ x ∈ Lib.compact ts, x.1.length ≤ 9223372036854775807 ∧ x.2.length ≤ 9223372036854775807 := fun x hx => by
        have hx2 := ((hso.out.2 x).1 hx).2
        simp only [isRole, Bool.and_eq_true] at hx2
        have := name_len' hx2.1
        have := name_len' hx2.2
        omega
      obtain ⟨ao5, cap5, hv, hst, hz5⟩ := ho4.roles hbd
      cases hv
      go_wp2
      go_ret
      exact ⟨_, _, _, rfl, hso.out, hst, hc3, hz5⟩
end Go.Proofs.YtanompfdjfgfbaaGreat
