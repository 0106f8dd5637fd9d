/- Texts that the proof leans on, in one: KeysCheck, CondOpen. -/
import Derived.Test.YtjflmhncgkbdmaaGreatKb27
import Derived.Test.YtjflmhncgkbdmaaGreatKb28
import Derived.Test.YtjflmhncgkbdmaaGreatKc1
import Derived.Test.YtjflmhncgkbdmaaGreatKb15
import Derived.Test.YtjflmhncgkbdmaaGreatKb14
import Derived.Test.YtjflmhncgkbdmaaGreatKc3
import Derived.ChangeMaps5
import Derived.ProofKit
import Derived.OpenShut
import Derived.JoinedCond
/- The law KeysCheck, walked: which lists are a registry, and what it signs and takes. -/
namespace Go.Proofs.YtjflmhncgkbdmaaGreat
open Go.RowKit

theorem drewN_chg (w : World) (n : Nat) : Chg (fun _ => False) w (w.drewN n) := ⟨rfl, rfl, rfl, Nat.le_refl _, fun _ _ _ => rfl⟩

/-- What can be read lies below the heap's end. -/
theorem BytesAt.low {D : Nat → Prop} {w : World} {v : Value} {l : List UInt8} (h : BytesAt D w v l) : BytesAt (fun i => i < w.heap.size) w v l := by
  rcases h with h | ⟨b, off, cap, h1, h2, h3, h4, h5⟩
  · exact .inl h
  · by_cases hl : l = []
    · subst hl
      exact .inl ⟨_, _, h1, rfl, fun e => by cases e⟩
    · exact .inr ⟨b, off, cap, h1, h2, h3, World.block_lt_of_cell? w _ (h5 0 (List.length_pos_iff.2 hl)), h5⟩
theorem reg_low {D : Nat → Prop} {w : World} {g : Nat} {l : List KeyB} (h : RegAt D w g l) : RegOwn 0 w g l := by
  obtain ⟨⟨mb, h1, _, ⟨⟨M, m1, m2, m3⟩, m4⟩⟩, _⟩ := h
  exact ⟨⟨mb, h1, ⟨Nat.zero_le _, m1.lt⟩, ⟨⟨M, m1, m2, fun o ho => let ⟨v, hv, hb⟩ := m3 o ho; ⟨v, hv, hb.low.mono (fun i hi => ⟨Nat.zero_le _, hi⟩)⟩⟩, m4⟩⟩, ⟨Nat.zero_le _, lt_blk h1⟩⟩

theorem psign_at {D : Nat → Prop} (g : Nat) (l : List KeyB) (c : CredB) (w : World) (h : RegAt D w g l) (hreg : newErr l = 0) (hs : credShort c 9223372036854775807) :
    Calls Tryz.prog 12 #[.pointer (some ⟨g, 0, none⟩), credV c] w (SignPost (signed l c) (signErr l c) w) := psign (Bg := 0) g l c w (reg_low h) hreg hs

theorem pnames_at {D : Nat → Prop} (g : Nat) (l : List KeyB) (w : World) (hreg : newErr l = 0) (hn : l.length ≤ 4194304) (h : RegAt D w g l) :
    Calls Tryz.prog 10 #[.pointer (some ⟨g, 0, none⟩)] w (NamesPost l w) := pnames (B := 0) g l w hreg hn (reg_low h)

theorem setC_len {ls out : List CredB} (h : SetC ls out) : out.length ≤ ls.length := SetG.len ltC_ord h

def kcSpecs (g B1 B2 B3 cp tcap xc yc : Nat) (ao ta xa ya : Option Addr) (l : List KeyB) (c gc : CredB) (tag gt : List UInt8) (e0 ce : Int) : List Spec := [.eq (.slice ao l.length cp), .any, .any, .any, .any, .eq (.pointer (some ⟨g, 0, none⟩)), .any, .any, .any, .eq (.pointer (some ⟨B1, 0, none⟩)), .eq (.pointer (some ⟨B2, 0, none⟩)), .eq (.int .i64 e0), .eq (.pointer (some ⟨B3, 0, none⟩)), .eq (.int .i64 e0), .any, .any, .any, .any, .any, .any, .any, .any, .any, .any, .any, .any, .any, .any, .any, .any, .any, .any, .any, .any, .any, .any, .any, .any, .any, .any, .any, .any, .any, .any, .any, .any, .any, .any, .any, .any, .any, .any, .any, .any, .any, .any, .any, .any, .any, .any, .any, .any, .any, .any, .any, .any, .any, .any, .any, .any, .any, .any, .any, .any, .any, .any, .any, .any, .any, .any, .eq (.int .i64 e0), .eq (.int .i64 e0), .eq (.bool false), .eq (.bool false), .eq (signV gc (.slice xa gt.length xc)), .eq (signV gc (.slice ya gt.length yc)), .eq (.bool true), .eq (.bool false), .eq (.bool false), .eq (.bool false), .eq (.pointer (some ⟨g, 0, none⟩)), .eq (signV c (.slice ta tag.length tcap)), .eq (.int .i64 ce), .eq (.slice ao l.length cp), .eq (signV c (.slice ta tag.length tcap)), .eq (.int .i64 ce), .eq (.bool false), .eq (.bool false)]

set_option maxRecDepth 100000 in
set_option maxHeartbeats 8000000 in
theorem kcheck_main {D E : Nat → Prop} (ao : Option Addr) (cp : Nat) (l : List KeyB) (so : Option Addr) (sp : Nat) (ss : List SignB) (w : World) (hl : totalK l + totalS ss ≤ 4503599627370496) (hcp : l.length ≤ cp) (h : KeysAt D w ao l) (hss : SignsAt E w so ss) :
    Calls Tryz.prog 3 #[.slice ao l.length cp, .slice so ss.length sp] w fun e w' => e = .returned (.bool true) ∧ Chg (fun _ => False) w w' := by
  go_enter Tryz.func3, Tryz.ntmps3
  go_wp2_with fail
  refine (kfirst w).mono ?_
  rintro e w1 ⟨rfl, hc1⟩
  have hgr := kgreat_any ao so cp sp l ss w1 hl (h.keep hc1 (fun _ _ => id)) (hss.keep hc1 (fun _ _ => id))
  have HC := hid hc1
  clear hc1
  go_wp2_with fail
  refine hgr.mono ?_
  rintro e w2 ⟨rfl, hc12⟩
  have HC2 := hid (HC.out.trans hc12 (fun _ _ h => h))
  clear hgr HC hc12
  obtain ⟨tk, htk⟩ : ∃ tk : Int, ((totalK l + totalS ss : Nat) : Int) = tk := ⟨_, rfl⟩
  rw [htk]
  by_cases hbig : 3000 < totalK l + totalS ss
  · have d1 : decide (3000 < tk) = true := decide_eq_true (by omega)
    clear htk hbig h hss
    go_wp2
    go_ret
    exact ⟨rfl, HC2.out⟩
  · have d1 : decide (3000 < tk) = false := decide_eq_false (by omega)
    have hln : l.length ≤ 3000 := by have := totalK_len l; omega
    have hsn : ss.length ≤ 3000 := by have := totalS_len ss; omega
    have hll : l.length ≤ 4611686018427387904 := by omega
    have hmem : ∀ s ∈ ss, credShort s.c 1048576 := fun s hs => (sizeC_short (n := 1048576) (by have := totalS_mem hs; unfold sizeS at this; omega))
    have hnew := pnew ao cp l w2 hll (h.keep HC2.out (fun _ _ => id))
    have HM := hid hmem
    clear htk hmem
    go_wp2_with fail
    clear d1
    refine hnew.mono ?_
    rintro e w3 hN
    clear hnew
    by_cases h0 : newErr l = 0
    · obtain ⟨g, rfl, hg, hc23⟩ := hN.ok h0
      have hc3 := HC2.out.trans hc23 (fun _ _ h => h)
      have hg3 : RegAt (fun i => i < w3.heap.size) w3 g l := RegAt.mono hg (fun i hi => hi.2)
      have HR := hid h0
      have hrn := rnew_any ao cp l w3 hll hcp (h.keep hc3 (fun _ _ => id))
      have HX := hid (And.intro hg3 hc3)
      rw [h0] at hrn
      clear hN hg hc23 hc3 hg3 h0 HC2
      go_wp2_with fail
      refine hrn.mono ?_
      rintro e w4 ⟨rfl, hc34⟩
      obtain ⟨hg3, hc3⟩ := HX.out
      have hg4 := hg3.keep hc34 (fun _ _ => id)
      have hc4 := hc3.trans hc34 (fun _ _ h => h)
      clear hrn HX hg3 hc3 hc34
      have HG4 := hid (And.intro hg4 hc4)
      obtain ⟨N, hN⟩ : ∃ N, w3.heap.size = N := ⟨_, rfl⟩
      rw [hN] at hg4 HG4
      clear hN hg4 hc4
      go_wp2
      obtain ⟨hg4, hc4⟩ := HG4.out
      clear HG4
      go_loopw [62] (fun i wr => ∃ k : Nat, i = .int .i64 k ∧ k ≤ ss.length ∧ RegAt (fun i => i < N) wr g l ∧ Chg (fun _ => False) w wr) (fun i _ => ss.length - (intOf i).toNat)
      case atStart => exact ⟨0, rfl, Nat.zero_le _, hg4, hc4⟩
      case round =>
        obtain ⟨k, rfl, hk, hgr, hcr⟩ := hrel
        by_cases hlt : k < ss.length
        · obtain ⟨b, off, rfl, _, hat⟩ := (hss.keep hcr (fun _ _ => id)) k hlt
          have hmem := HM.out _ (List.getElem_mem hlt)
          obtain ⟨s, hs0⟩ : ∃ s, s = ss[k] := ⟨_, rfl⟩
          rw [← hs0] at hat hmem
          clear hs0
          obtain ⟨c, tag⟩ := s
          obtain ⟨hcc, ⟨ta, tcap, c9, hby⟩, hs, hln2⟩ := hat
          dsimp only at hcc c9 hby hs hln2 hmem
          have hs2 : credShort c 1048576 := hmem
          obtain ⟨c0, c1, c2, c3, c4, c5, c6, c7, c8⟩ := hcc
          have hB1 : (wr.alloc (.cells #[.int .i64 c.kind, .string ⟨c.head.1.toArray⟩, .string ⟨c.head.2.toArray⟩, .string ⟨c.who.toArray⟩, .string ⟨c.b.1.toArray⟩, .string ⟨c.b.2.toArray⟩, .string ⟨c.c.1.toArray⟩, .string ⟨c.c.2.toArray⟩, .string ⟨c.w2.toArray⟩, .slice ta tag.length tcap] 38)).heap[wr.heap.size]? = some (.cells (signBox c (.slice ta tag.length tcap)) 38 (0, 0)) := heap_alloc_new wr _
          have hal : Chg (fun _ => False) wr (wr.alloc (.cells #[.int .i64 c.kind, .string ⟨c.head.1.toArray⟩, .string ⟨c.head.2.toArray⟩, .string ⟨c.who.toArray⟩, .string ⟨c.b.1.toArray⟩, .string ⟨c.b.2.toArray⟩, .string ⟨c.c.1.toArray⟩, .string ⟨c.c.2.toArray⟩, .string ⟨c.w2.toArray⟩, .slice ta tag.length tcap] 38)) := (Chg.refl _ wr).alloc _
          have hgr1 := hgr.keep hal (fun _ _ => id)
          have hsg : Calls Tryz.prog 12 #[.pointer (some ⟨g, 0, none⟩), .agg #[.int .i64 c.kind, .string ⟨c.head.1.toArray⟩, .string ⟨c.head.2.toArray⟩, .string ⟨c.who.toArray⟩, .string ⟨c.b.1.toArray⟩, .string ⟨c.b.2.toArray⟩, .string ⟨c.c.1.toArray⟩, .string ⟨c.c.2.toArray⟩, .string ⟨c.w2.toArray⟩]] (wr.alloc (.cells #[.int .i64 c.kind, .string ⟨c.head.1.toArray⟩, .string ⟨c.head.2.toArray⟩, .string ⟨c.who.toArray⟩, .string ⟨c.b.1.toArray⟩, .string ⟨c.b.2.toArray⟩, .string ⟨c.c.1.toArray⟩, .string ⟨c.c.2.toArray⟩, .string ⟨c.w2.toArray⟩, .slice ta tag.length tcap] 38)) (SignPost (signed l c) (signErr l c) (wr.alloc (.cells #[.int .i64 c.kind, .string ⟨c.head.1.toArray⟩, .string ⟨c.head.2.toArray⟩, .string ⟨c.who.toArray⟩, .string ⟨c.b.1.toArray⟩, .string ⟨c.b.2.toArray⟩, .string ⟨c.c.1.toArray⟩, .string ⟨c.c.2.toArray⟩, .string ⟨c.w2.toArray⟩, .slice ta tag.length tcap] 38))) := psign_at g l c _ hgr1 HR.out hs
          have HX := hid (And.intro hsg (And.intro hB1 (And.intro hgr1 (And.intro (hcr.trans hal (fun _ _ h => h)) (hby.keep hal (fun _ _ => id))))))
          clear hsg hB1 hal hgr1 hgr hcr hby
          go_wp2_with fail
          clear c0 c1 c2 c3 c4 c5 c6 c7 c8 c9
          obtain ⟨hsg, hB1, hg1, hc1, hb1⟩ := HX.out
          clear HX
          generalize (wr.alloc (.cells #[.int .i64 c.kind, .string ⟨c.head.1.toArray⟩, .string ⟨c.head.2.toArray⟩, .string ⟨c.who.toArray⟩, .string ⟨c.b.1.toArray⟩, .string ⟨c.b.2.toArray⟩, .string ⟨c.c.1.toArray⟩, .string ⟨c.c.2.toArray⟩, .string ⟨c.w2.toArray⟩, .slice ta tag.length tcap] 38)) = w1 at *
          obtain ⟨B1, hB1e⟩ : ∃ B1, wr.heap.size = B1 := ⟨_, rfl⟩
          rw [hB1e] at hB1
          simp only [hB1e]
          clear hB1e
          refine hsg.mono ?_
          rintro e w2 ⟨xv, rfl, ⟨xa, xc, rfl, hxb⟩, hc12⟩
          have hB2 := blk_keep hB1 hc12 id
          have hg2 := hg1.keep hc12 (fun _ _ => id)
          have hb2 := hb1.keep hc12 (fun _ _ => id)
          have hc2 := hc1.trans hc12 (fun _ _ h => h)
          clear hsg hB1 hg1 hb1 hc1 hc12
          obtain ⟨e0, he0⟩ : ∃ e0 : Int, ((signErr l c : Nat) : Int) = e0 := ⟨_, rfl⟩
          have HE0 := hid he0
          obtain ⟨sg, hsge⟩ : ∃ sg, signed l c = sg := ⟨_, rfl⟩
          have HSG := hid hsge
          rw [hsge] at hxb
          rw [hsge, he0]
          clear he0 hsge
          obtain ⟨gc, gt⟩ := sg
          dsimp only at hxb
          rw [show signV (SignB.mk gc gt).c (.slice xa (SignB.mk gc gt).tag.length xc) = .agg #[.int .i64 gc.kind, .string ⟨gc.head.1.toArray⟩, .string ⟨gc.head.2.toArray⟩, .string ⟨gc.who.toArray⟩, .string ⟨gc.b.1.toArray⟩, .string ⟨gc.b.2.toArray⟩, .string ⟨gc.c.1.toArray⟩, .string ⟨gc.c.2.toArray⟩, .string ⟨gc.w2.toArray⟩, .slice xa gt.length xc] from rfl]
          have hX3 : (w2.alloc (.cells #[.int .i64 gc.kind, .string ⟨gc.head.1.toArray⟩, .string ⟨gc.head.2.toArray⟩, .string ⟨gc.who.toArray⟩, .string ⟨gc.b.1.toArray⟩, .string ⟨gc.b.2.toArray⟩, .string ⟨gc.c.1.toArray⟩, .string ⟨gc.c.2.toArray⟩, .string ⟨gc.w2.toArray⟩, .slice xa gt.length xc] 38)).heap[w2.heap.size]? = some (.cells (signBox gc (.slice xa gt.length xc)) 38 (0, 0)) := heap_alloc_new w2 _
          have hal : Chg (fun _ => False) w2 (w2.alloc (.cells #[.int .i64 gc.kind, .string ⟨gc.head.1.toArray⟩, .string ⟨gc.head.2.toArray⟩, .string ⟨gc.who.toArray⟩, .string ⟨gc.b.1.toArray⟩, .string ⟨gc.b.2.toArray⟩, .string ⟨gc.c.1.toArray⟩, .string ⟨gc.c.2.toArray⟩, .string ⟨gc.w2.toArray⟩, .slice xa gt.length xc] 38)) := (Chg.refl _ w2).alloc _
          have hc3 := hc2.trans hal (fun _ _ h => h)
          have hrs : Calls Tryz.prog 13 #[.slice ao l.length cp, .agg #[.int .i64 c.kind, .string ⟨c.head.1.toArray⟩, .string ⟨c.head.2.toArray⟩, .string ⟨c.who.toArray⟩, .string ⟨c.b.1.toArray⟩, .string ⟨c.b.2.toArray⟩, .string ⟨c.c.1.toArray⟩, .string ⟨c.c.2.toArray⟩, .string ⟨c.w2.toArray⟩]] (w2.alloc (.cells #[.int .i64 gc.kind, .string ⟨gc.head.1.toArray⟩, .string ⟨gc.head.2.toArray⟩, .string ⟨gc.who.toArray⟩, .string ⟨gc.b.1.toArray⟩, .string ⟨gc.b.2.toArray⟩, .string ⟨gc.c.1.toArray⟩, .string ⟨gc.c.2.toArray⟩, .string ⟨gc.w2.toArray⟩, .slice xa gt.length xc] 38)) (SignPost (signed l c) (signErr l c) (w2.alloc (.cells #[.int .i64 gc.kind, .string ⟨gc.head.1.toArray⟩, .string ⟨gc.head.2.toArray⟩, .string ⟨gc.who.toArray⟩, .string ⟨gc.b.1.toArray⟩, .string ⟨gc.b.2.toArray⟩, .string ⟨gc.c.1.toArray⟩, .string ⟨gc.c.2.toArray⟩, .string ⟨gc.w2.toArray⟩, .slice xa gt.length xc] 38))) := rsign_any ao cp l c _ hll (h.keep hc3 (fun _ _ => id)) HR.out hs2 short_enc
          obtain ⟨⟨d0, d1, d2, d3, d4, d5, d6, d7, d8⟩, d9⟩ := cred_at_sign hB2
          simp only [Nat.zero_add] at d0 d1 d2 d3 d4 d5 d6 d7 d8
          have hB2l := lt_blk hB2
          have HX := hid (And.intro hrs (And.intro (blk_keep hB2 hal id) (And.intro (hg2.keep hal (fun _ _ => id)) (And.intro (hb2.keep hal (fun _ _ => id)) (And.intro hc3 (And.intro hX3 (hxb.keep hal (fun _ _ => id))))))))
          clear hrs hB2 hg2 hb2 hc2 hc3 hX3 hxb hal
          go_wp2_with fail
          clear d0 d1 d2 d3 d4 d5 d6 d7 d8 d9
          obtain ⟨hrs, hB3, hg3, hb3, hc3, hX3, hxb3⟩ := HX.out
          clear HX
          generalize (w2.alloc (.cells #[.int .i64 gc.kind, .string ⟨gc.head.1.toArray⟩, .string ⟨gc.head.2.toArray⟩, .string ⟨gc.who.toArray⟩, .string ⟨gc.b.1.toArray⟩, .string ⟨gc.b.2.toArray⟩, .string ⟨gc.c.1.toArray⟩, .string ⟨gc.c.2.toArray⟩, .string ⟨gc.w2.toArray⟩, .slice xa gt.length xc] 38)) = w3 at *
          obtain ⟨B2, hB2e⟩ : ∃ B2, w2.heap.size = B2 := ⟨_, rfl⟩
          rw [hB2e] at hX3 hB2l
          simp only [hB2e]
          clear hB2e
          refine hrs.mono ?_
          rintro e w4 ⟨yv, rfl, ⟨ya, yc, rfl, hyb⟩, hc34⟩
          rw [HSG.out] at hyb
          rw [HSG.out, HE0.out]
          dsimp only at hyb
          rw [show signV (SignB.mk gc gt).c (.slice ya (SignB.mk gc gt).tag.length yc) = .agg #[.int .i64 gc.kind, .string ⟨gc.head.1.toArray⟩, .string ⟨gc.head.2.toArray⟩, .string ⟨gc.who.toArray⟩, .string ⟨gc.b.1.toArray⟩, .string ⟨gc.b.2.toArray⟩, .string ⟨gc.c.1.toArray⟩, .string ⟨gc.c.2.toArray⟩, .string ⟨gc.w2.toArray⟩, .slice ya gt.length yc] from rfl]
          have hal : Chg (fun _ => False) w4 (w4.alloc (.cells #[.int .i64 gc.kind, .string ⟨gc.head.1.toArray⟩, .string ⟨gc.head.2.toArray⟩, .string ⟨gc.who.toArray⟩, .string ⟨gc.b.1.toArray⟩, .string ⟨gc.b.2.toArray⟩, .string ⟨gc.c.1.toArray⟩, .string ⟨gc.c.2.toArray⟩, .string ⟨gc.w2.toArray⟩, .slice ya gt.length yc] 38)) := (Chg.refl _ w4).alloc _
          have hY5 : (w4.alloc (.cells #[.int .i64 gc.kind, .string ⟨gc.head.1.toArray⟩, .string ⟨gc.head.2.toArray⟩, .string ⟨gc.who.toArray⟩, .string ⟨gc.b.1.toArray⟩, .string ⟨gc.b.2.toArray⟩, .string ⟨gc.c.1.toArray⟩, .string ⟨gc.c.2.toArray⟩, .string ⟨gc.w2.toArray⟩, .slice ya gt.length yc] 38)).heap[w4.heap.size]? = some (.cells (signBox gc (.slice ya gt.length yc)) 38 (0, 0)) := heap_alloc_new w4 _
          have hc35 := hc34.trans hal (fun _ _ h => h)
          have HX := hid (And.intro (blk_keep hB3 hc35 id) (And.intro (blk_keep hX3 hc35 id) hY5))
          have hc5 := hc3.trans hc35 (fun _ _ h => h)
          have hg5 := hg3.keep hc35 (fun _ _ => id)
          have HT := hid (And.intro (hxb3.keep hc35 (fun _ _ => id)) (And.intro (hyb.keep hal (fun _ _ => id)) (And.intro (hb3.keep hc35 (fun _ _ => id)) (And.intro hg5 (h.keep hc5 (fun _ _ => id))))))
          have HC5 := hid (And.intro hg5 hc5)
          clear hrs hB3 hg3 hb3 hc3 hX3 hxb3 hyb hc34 hal hY5 hc35 hc5 hg5
          go_wp2_with fail
          generalize (w4.alloc (.cells #[.int .i64 gc.kind, .string ⟨gc.head.1.toArray⟩, .string ⟨gc.head.2.toArray⟩, .string ⟨gc.who.toArray⟩, .string ⟨gc.b.1.toArray⟩, .string ⟨gc.b.2.toArray⟩, .string ⟨gc.c.1.toArray⟩, .string ⟨gc.c.2.toArray⟩, .string ⟨gc.w2.toArray⟩, .slice ya gt.length yc] 38)) = w5 at *
          obtain ⟨B3, hB3e⟩ : ∃ B3, w4.heap.size = B3 := ⟨_, rfl⟩
          rw [hB3e] at HX
          simp only [hB3e]
          clear hB3e
          obtain ⟨ce, hce⟩ : ∃ ce : Int, ((checkErr l ⟨c, tag⟩ : Nat) : Int) = ce := ⟨_, rfl⟩
          have HCE := hid hce
          clear hce
          refine wp_region_specs (kcSpecs g B1 B2 B3 cp tcap xc yc ao ta xa ya l c gc tag gt e0 ce) [80, 81, 82, 83, 84, 85, 86, 87, 88, 89, 90, 91, 92, 93, 94, 95, 96, 97] [0, 5, 9, 10, 11, 12, 13] (by kernel_rfl) (by kernel_rfl) (by rfl) (by kernel_rfl) ?start ?obs ?fin
          case start =>
            simp only [List.forall_mem_cons]; exact ⟨⟨_, rfl, rfl⟩, ⟨_, rfl, rfl⟩, ⟨_, rfl, rfl⟩, ⟨_, rfl, rfl⟩, ⟨_, rfl, rfl⟩, ⟨_, rfl, rfl⟩, ⟨_, rfl, rfl⟩, fun _ h => by cases h⟩
          case obs =>
            clear HC5 HSG HE0 h hss
            refine Obs.cons none (by kernel_rfl) ?_ ?_
            · refine Ob.plain fun a w hR hk K k => ?_
              obtain ⟨_, e11, f11⟩ := hk 11 (by decide)
              clear hk
              go_simp
              exact k _ _ (Chg.refl _ _) f11
            refine Obs.cons none (by kernel_rfl) ?_ ?_
            · refine Ob.plain fun a w hR hk K k => ?_
              obtain ⟨_, e13, f13⟩ := hk 13 (by decide)
              clear hk
              go_simp
              exact k _ _ (Chg.refl _ _) f13
            refine Obs.cons none (by kernel_rfl) ?_ ?_
            · refine Ob.plain fun a w hR hk K k => ?_
              obtain ⟨_, e80, rfl⟩ := hk 80 (by decide)
              obtain ⟨_, e81, rfl⟩ := hk 81 (by decide)
              clear hk
              have z : (e0 == e0) = true := beq_self_eq_true _
              have z2 : (e0 != e0) = false := by rw [bne, z]; rfl
              go_simp
              exact k _ _ (Chg.refl _ _) rfl
            refine Obs.cons none (by kernel_rfl) ?_ ?_
            · refine Ob.plain fun a w hR hk K k => ?_
              obtain ⟨_, e82, f82⟩ := hk 82 (by decide)
              clear hk
              go_simp
              exact k _ _ (Chg.refl _ _) f82
            refine Obs.cons (some (83, false)) (by kernel_rfl) ?_ ?_
            · refine Ob.yes (fun _ _ h => h) fun a w hR hk K k => ?_
              obtain ⟨_, e10, rfl⟩ := hk 10 (by decide)
              clear hk
              obtain ⟨⟨q0, q1, q2, q3, q4, q5, q6, q7, q8⟩, q9⟩ := cred_at_sign (blk_keep HX.out.2.1 hR id)
              simp only [Nat.zero_add] at q0 q1 q2 q3 q4 q5 q6 q7 q8
              go_simp
              exact k _ _ (Chg.refl _ _) rfl
            refine Obs.cons (some (83, false)) (by kernel_rfl) ?_ ?_
            · refine Ob.yes (fun _ _ h => h) fun a w hR hk K k => ?_
              obtain ⟨_, e12, rfl⟩ := hk 12 (by decide)
              clear hk
              obtain ⟨⟨q0, q1, q2, q3, q4, q5, q6, q7, q8⟩, q9⟩ := cred_at_sign (blk_keep HX.out.2.2 hR id)
              simp only [Nat.zero_add] at q0 q1 q2 q3 q4 q5 q6 q7 q8
              go_simp
              exact k _ _ (Chg.refl _ _) rfl
            refine Obs.cons (some (83, false)) (by kernel_rfl) ?_ ?_
            · refine Ob.yes (fun _ _ h => h) fun a w hR hk K k => ?_
              obtain ⟨_, e84, rfl⟩ := hk 84 (by decide)
              obtain ⟨_, e85, rfl⟩ := hk 85 (by decide)
              clear hk
              have hsm := rssame_yes gc gt xa ya xc yc w (HT.out.1.keep hR (fun _ _ => id)) (HT.out.2.1.keep hR (fun _ _ => id))
              unfold signV signBox at hsm
              go_simp
              refine hsm.mono ?_
              rintro e w2 ⟨rfl, hc⟩
              exact k _ _ hc rfl
            refine Obs.cons (some (83, false)) (by kernel_rfl) ?_ ?_
            · refine Ob.yes (fun _ _ h => h) fun a w hR hk K k => ?_
              obtain ⟨_, e86, rfl⟩ := hk 86 (by decide)
              clear hk
              go_simp
              exact k _ _ (Chg.refl _ _) rfl
            refine Obs.cons none (by kernel_rfl) ?_ ?_
            · refine Ob.plain fun a w hR hk K k => ?_
              obtain ⟨_, e83, rfl⟩ := hk 83 (by decide)
              obtain ⟨_, e87, rfl⟩ := hk 87 (by decide)
              clear hk
              go_simp
              exact k _ _ (Chg.refl _ _) rfl
            refine Obs.cons none (by kernel_rfl) ?_ ?_
            · refine Ob.plain fun a w hR hk K k => ?_
              obtain ⟨_, e88, f88⟩ := hk 88 (by decide)
              clear hk
              go_simp
              exact k _ _ (Chg.refl _ _) f88
            refine Obs.cons (some (89, false)) (by kernel_rfl) ?_ ?_
            · refine Ob.yes (fun _ _ h => h) fun a w hR hk K k => ?_
              obtain ⟨_, e5, f5⟩ := hk 5 (by decide)
              clear hk
              go_simp
              exact k _ _ (Chg.refl _ _) f5
            refine Obs.cons (some (89, false)) (by kernel_rfl) ?_ ?_
            · refine Ob.yes (fun _ _ h => h) fun a w hR hk K k => ?_
              obtain ⟨_, e9, rfl⟩ := hk 9 (by decide)
              clear hk
              obtain ⟨⟨q0, q1, q2, q3, q4, q5, q6, q7, q8⟩, q9⟩ := cred_at_sign (blk_keep HX.out.1 hR id)
              simp only [Nat.zero_add] at q0 q1 q2 q3 q4 q5 q6 q7 q8
              go_simp
              exact k _ _ (Chg.refl _ _) rfl
            refine Obs.cons (some (89, false)) (by kernel_rfl) ?_ ?_
            · refine Ob.yes (fun _ _ h => h) fun a w hR hk K k => ?_
              obtain ⟨_, e90, rfl⟩ := hk 90 (by decide)
              obtain ⟨_, e91, rfl⟩ := hk 91 (by decide)
              clear hk
              have hck := pcheck g l c tag ta tcap w (HT.out.2.2.2.1.keep hR (fun _ _ => id)) HR.out hs (HT.out.2.2.1.keep hR (fun _ _ => id))
              rw [HCE.out] at hck
              unfold signV signBox at hck
              go_simp
              refine hck.mono ?_
              rintro e w2 ⟨rfl, hc⟩
              exact k _ _ hc rfl
            refine Obs.cons (some (89, false)) (by kernel_rfl) ?_ ?_
            · refine Ob.yes (fun _ _ h => h) fun a w hR hk K k => ?_
              obtain ⟨_, e0, f0⟩ := hk 0 (by decide)
              clear hk
              go_simp
              exact k _ _ (Chg.refl _ _) f0
            refine Obs.cons (some (89, false)) (by kernel_rfl) ?_ ?_
            · refine Ob.yes (fun _ _ h => h) fun a w hR hk K k => ?_
              obtain ⟨_, e9, rfl⟩ := hk 9 (by decide)
              clear hk
              obtain ⟨⟨q0, q1, q2, q3, q4, q5, q6, q7, q8⟩, q9⟩ := cred_at_sign (blk_keep HX.out.1 hR id)
              simp only [Nat.zero_add] at q0 q1 q2 q3 q4 q5 q6 q7 q8
              go_simp
              exact k _ _ (Chg.refl _ _) rfl
            refine Obs.cons (some (89, false)) (by kernel_rfl) ?_ ?_
            · refine Ob.yes (fun _ _ h => h) fun a w hR hk K k => ?_
              obtain ⟨_, e93, rfl⟩ := hk 93 (by decide)
              obtain ⟨_, e94, rfl⟩ := hk 94 (by decide)
              clear hk
              have hck := rcheck_any ao cp l c tag ta tcap w hll (HT.out.2.2.2.2.keep hR (fun _ _ => id)) HR.out hs2 short_enc (HT.out.2.2.1.keep hR (fun _ _ => id))
              rw [HCE.out] at hck
              unfold signV signBox at hck
              go_simp
              refine hck.mono ?_
              rintro e w2 ⟨rfl, hc⟩
              exact k _ _ hc rfl
            refine Obs.cons (some (89, false)) (by kernel_rfl) ?_ ?_
            · refine Ob.yes (fun _ _ h => h) fun a w hR hk K k => ?_
              obtain ⟨_, e92, rfl⟩ := hk 92 (by decide)
              obtain ⟨_, e95, rfl⟩ := hk 95 (by decide)
              clear hk
              have z : (ce == ce) = true := beq_self_eq_true _
              have z2 : (ce != ce) = false := by rw [bne, z]; rfl
              go_simp
              exact k _ _ (Chg.refl _ _) rfl
            refine Obs.cons none (by kernel_rfl) ?_ ?_
            · refine Ob.plain fun a w hR hk K k => ?_
              obtain ⟨_, e89, rfl⟩ := hk 89 (by decide)
              obtain ⟨_, e96, rfl⟩ := hk 96 (by decide)
              clear hk
              go_simp
              exact k _ _ (Chg.refl _ _) rfl
            exact Obs.nil
          case fin =>
            intro vals w9 hc9 hv
            have h97 : vals 97 = .bool false := hv 97 (by decide)
            simp only [putAll, List.setIfInBounds_toArray, List.set_cons_zero, List.set_cons_succ, h97]
            have HC9 := hid (And.intro (HC5.out.1.keep hc9 (fun _ _ => id)) (HC5.out.2.trans hc9 (fun _ _ h => h)))
            clear hc9 hv h97 HC5 HX HT HSG HE0 HCE
            go_wp2
            go_roundw
            case rel => exact ⟨k + 1, by go_num, by omega, HC9.out.1, HC9.out.2⟩
            case measure => simp [intOf]; omega
        · have hNr : ∀ i, i < N → 0 ≤ i ∧ i < N := fun i hi => ⟨Nat.zero_le _, hi⟩
          have hnm := pnames_at g l wr HR.out (by omega) hgr
          have HC := hid hcr
          have HG := hid hgr
          clear hgr hcr hg4 hc4
          go_wp2_with fail
          refine hnm.mono ?_
          rintro e w5 ⟨out1, na, nc, rfl, hso1, hlen1, hst1, hc⟩
          clear hlen1
          have HC5 := hid (HC.out.trans hc (fun _ _ h => h))
          have HG5 := hid (HG.out.keep hc (fun _ _ => id))
          have hrnm := rnames_any ao cp l w5 (by omega) (h.keep HC5.out (fun _ _ => id))
          have HS1 := hid (And.intro hso1 hst1)
          clear hnm HC HG hc hso1 hst1
          go_wp2_with fail
          refine hrnm.mono ?_
          rintro e w6 ⟨out2, ma, mc, rfl, hso2, hst2, hc⟩
          have hoe := HS1.out.1.one hso2
          subst hoe
          have HC6 := hid (HC5.out.trans hc (fun _ _ h => h))
          have HG6 := hid (HG5.out.keep hc (fun _ _ => id))
          have hol : out1.length ≤ 9223372036854775807 := by
            have h1 := nodup_length out1 (l.map (·.who)) hso2.1.nodup (fun x hx => ((hso2.2 x).1 hx).1)
            rw [List.length_map] at h1
            omega
          have hsm := refsame_any na ma nc mc out1 out1 w6 hol hol (HS1.out.2.keep hc (fun _ _ => id)) hst2
          rw [show sameS out1 out1 = true by simp [sameS]] at hsm
          clear hrnm HC5 HG5 HS1 hc hso2 hst2 hol
          go_wp2_with fail
          refine hsm.mono ?_
          rintro e w7 ⟨rfl, n7, hw7⟩
          have hc67 : Chg (fun _ => False) w6 w7 := by rw [hw7]; exact drewN_chg w6 n7
          have HC7 := hid (HC6.out.trans hc67 (fun _ _ h => h))
          have hgd := pgood g l so sp ss w7 (HG6.out.keep hc67 (fun _ _ => id)) HR.out (by omega) (hss.keep HC7.out (fun _ _ => id))
          clear hsm hc67 hw7 HC6 HG6
          go_wp2_with fail
          refine hgd.mono ?_
          rintro e w8 ⟨gs1, ga, gac, rfl, hset1, hcs1, hc, _⟩
          have HC8 := hid (HC7.out.trans hc (fun _ _ h => h))
          have hrg := rgood_any ao cp l so sp ss w8 hll (h.keep HC8.out (fun _ _ => id)) HR.out (by omega) (hss.keep HC8.out (fun _ _ => id)) HM.out (fun s _ hc => short_enc hc)
          have HS1 := hid (And.intro hset1 hcs1)
          clear hgd HC7 hc hset1 hcs1
          go_wp2_with fail
          refine hrg.mono ?_
          rintro e w9 ⟨gs2, gb, gbc, rfl, hset2, hcs2, hc, _⟩
          have hoe := HS1.out.1.one hset2
          subst hoe
          have HC9 := hid (HC8.out.trans hc (fun _ _ h => h))
          have hol : gs1.length ≤ 4611686018427387904 := by
            have h1 := setC_len hset2
            have h2 : (goodC l ss).length ≤ ss.length := by rw [goodC, List.length_map]; exact List.length_filter_le _ _
            omega
          have hsm := csame_ref ga gb gac gbc gs1 gs1 w9 hol hol (HS1.out.2.keep hc (fun _ _ => id)) hcs2
          rw [show sameC gs1 gs1 = true by simp [sameC]] at hsm
          clear hrg HC8 HS1 hc hset2 hcs2 hol
          go_wp2_with fail
          refine hsm.mono ?_
          rintro e w10 ⟨rfl, n10, hw10⟩
          have HC10 := hid (show Chg (fun _ => False) w w10 by rw [hw10]; exact HC9.out.trans (drewN_chg w9 n10) (fun _ _ h => h))
          clear hsm hw10 HC9
          go_wp2
          go_ret
          exact ⟨rfl, HC10.out⟩
    · obtain ⟨rfl, hc23⟩ := hN.bad h0
      have HC3 := hid (HC2.out.trans hc23 (fun _ _ h => h))
      have hrn := rnew_any ao cp l w3 hll hcp (h.keep HC3.out (fun _ _ => id))
      obtain ⟨e0, he0⟩ : ∃ e0 : Int, ((newErr l : Nat) : Int) = e0 := ⟨_, rfl⟩
      have hne : (e0 == 0) = false := beq_eq_false_iff_ne.2 (by omega)
      have hne2 : (e0 != 0) = true := by rw [bne, hne]; rfl
      have hee : (e0 == e0) = true := beq_self_eq_true _
      have hee2 : (e0 != e0) = false := by rw [bne, hee]; rfl
      rw [he0] at hrn ⊢
      clear hN HC2 hc23 he0 h0
      go_wp2_with fail
      refine hrn.mono ?_
      rintro e w4 ⟨rfl, hc34⟩
      have HC4 := hid (HC3.out.trans hc34 (fun _ _ h => h))
      have hck := pcheck_nil noCred 0 none 0 w4
      clear hrn HC3 hc34
      go_wp2_with fail
      refine hck.mono ?_
      rintro e w5 ⟨rfl, hc45⟩
      have HC5 := hid (HC4.out.trans hc45 (fun _ _ h => h))
      clear hck HC4 hc45
      go_wp2_with fail
      refine (pnames_nil w5).mono ?_
      rintro e w6 ⟨rfl, rfl⟩
      have hgd := pgood_nil so sp ss w5 (by omega) (hss.keep HC5.out (fun _ _ => id))
      go_wp2_with fail
      refine hgd.mono ?_
      rintro e w7 ⟨⟨ga, gc, rfl⟩, hc57⟩
      have HC7 := hid (HC5.out.trans hc57 (fun _ _ h => h))
      clear hgd HC5 hc57
      go_wp2
      go_ret
      exact ⟨rfl, HC7.out⟩
end Go.Proofs.YtjflmhncgkbdmaaGreat

/- A law that bears a condition, over worlds of the program's shape: what is to be shown of the call. (The kit's wrap for a condition throws the shape away.) -/
namespace Go.Proofs.YtjflmhncgkbdmaaGreat
open Go.ChangeShapes Go.WideShapes Go.ChangeAt Go.RowKit

theorem handed_cond_shaped {H : Type} {enc : TypeId × Value → H} {a : Assume} {C : Checked} {os : Os} {f : FuncId} {fn : Func} {s : OpenSpec} {k : (H : Type) → List (DataW H) → Bool} (hk : s.cond = some k) {F : Stop.Interp} {conds : List PathCond} {apart fresh handsOn again : Bool}
    (own : ownKnob C.prog.godebug = none) (started : os.Started) (noInit : C.prog.inits.idxOf? f = none) (hfn : C.prog.funcs[f]? = some fn)
    (witness : ∃ (w : World) (tape : Tape) (i : Input), w.os = os ∧ (w.forCall tape i).Shaped C.prog ∧ i.vars = [] ∧ Input.okWide C.prog (w.forCall tape i) .any w.heap.size f i ∧
      s.pre6 enc C.prog fn conds apart (w.forCall tape i).memory i.args ∧ a.holds C.prog (lone (Frame.enter C.prog f i.args .normal) [] (w.forCall tape i)))
    (main : ∀ (W : World) (base : Nat) (args : Array Value) (ds gs : List (DataW H)) (before : List MemPlace), W.ShapedOpen C.prog →
      (∀ (j : Nat) t v, fn.params[j]? = some t → args[j]? = some v → Value.okWide C.prog W .any base t v) →
      DataW.Whole enc C.prog fn.params.toList s.vars apart W args.toList ds gs before → k H (ds ++ gs) = true →
      Calls C.prog f args W fun e W' => ∃ v, e = .returned v ∧ (s.at F).post enc C.prog fn apart fresh handsOn again W args v W') :
    ReturnsInHanded a C os f .any (s.pre6 enc C.prog fn conds apart) ((s.at F).post enc C.prog fn apart fresh handsOn again) := by
  refine returnsInHanded_of_calls own started noInit witness fun w tape i _ hsh _ hok hpre _ => ?_
  obtain ⟨_, _, _, fn', hfn', _, _, _, _, hval⟩ := hok
  obtain rfl : fn' = fn := Option.some.inj (hfn'.symm.trans hfn)
  obtain ⟨ds, gs, before, hw, _, hkk⟩ := (OpenSpec.pre_some hk conds apart _ _).1 hpre.1
  refine (main (w.forCall tape i) w.heap.size i.args ds gs before hsh hval (DataW.Whole.of_heap (w' := w.forCall tape i) (by rfl) hw) hkk).mono ?_
  rintro e W' ⟨v, rfl, hp⟩
  exact ChangeSpec.post_blind hp
end Go.Proofs.YtjflmhncgkbdmaaGreat
