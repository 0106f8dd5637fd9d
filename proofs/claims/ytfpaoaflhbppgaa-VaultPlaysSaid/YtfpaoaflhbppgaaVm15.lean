/- Texts that the proof leans on, in one: PvGet, PvAll, PvThose, PvLists, PvK. -/
import Derived.Test.YtfpaoaflhbppgaaVm13
import Derived.RangeFuncNested
import Derived.RangeFuncBound
import Derived.RangeFuncCalls
import Derived.RangeFuncLeaves
import Derived.Shelf.Abstract
import Derived.Shelf.RegionOpen
import Derived.WalkKit
import Derived.OwnWalkIn
import Derived.TacticsInMore
import Derived.LoopNIn
import Derived.LoopIn
import Derived.Maps.AppendAt
import Derived.Test.YtfpaoaflhbppgaaVm8
import Derived.Test.YtfpaoaflhbppgaaVm7
import Derived.Test.YtfpaoaflhbppgaaVm10
import Derived.Test.YtfpaoaflhbppgaaVm14
/- The contract of the vault's Get; what a nil vault tells. -/
namespace Go.Proofs.Ytfpaoaflhbppgaa
open Go.RowKit

set_option maxRecDepth 100000 in
set_option maxHeartbeats 4000000 in
theorem pvget {O D : Nat → Prop} (w : World) (g : Nat) (es : List EntB) (m : Int) (c : CredB) (hva : VAt O D w g (es.map EntB.s) m) (hsh : credShort c 1048576) :
    Calls Try.prog 6 #[.pointer (some ⟨g, 0, none⟩), credV c] w fun e w' => GotV es c e w' ∧ Chg (fun _ => False) w w' := by
  have hs63 : credShort c 9223372036854775807 := short_more hsh (by decide)
  obtain ⟨qs, ao, cap, h1, h2, h3, h4, h5, h6, h7⟩ := id hva
  obtain ⟨n, hn⟩ : ∃ n, qs.length = n := ⟨_, rfl⟩
  rw [hn] at h2
  have hn256 : n ≤ 256 := by have := h4.most; omega
  have hAb : ((w.alloc (.cells #[.int .i64 c.kind, .string ⟨c.head.1.toArray⟩, .string ⟨c.head.2.toArray⟩, .string ⟨c.who.toArray⟩, .string ⟨c.b.1.toArray⟩, .string ⟨c.b.2.toArray⟩, .string ⟨c.c.1.toArray⟩, .string ⟨c.c.2.toArray⟩, .string ⟨c.w2.toArray⟩] 32)).alloc (.cells #[.int .i64 0, .string ⟨#[]⟩, .string ⟨#[]⟩, .string ⟨#[]⟩, .string ⟨#[]⟩, .string ⟨#[]⟩, .string ⟨#[]⟩, .string ⟨#[]⟩, .string ⟨#[]⟩, .slice none 0 0] 35)).heap[w.heap.size]? = some (.cells (credBox c) 32 (0, 0)) := by
    have := heap_alloc_new w (.cells #[.int .i64 c.kind, .string ⟨c.head.1.toArray⟩, .string ⟨c.head.2.toArray⟩, .string ⟨c.who.toArray⟩, .string ⟨c.b.1.toArray⟩, .string ⟨c.b.2.toArray⟩, .string ⟨c.c.1.toArray⟩, .string ⟨c.c.2.toArray⟩, .string ⟨c.w2.toArray⟩] 32)
    exact blk_keep this ((Chg.refl (fun _ => False) _).alloc _) id
  have hBb : ((w.alloc (.cells #[.int .i64 c.kind, .string ⟨c.head.1.toArray⟩, .string ⟨c.head.2.toArray⟩, .string ⟨c.who.toArray⟩, .string ⟨c.b.1.toArray⟩, .string ⟨c.b.2.toArray⟩, .string ⟨c.c.1.toArray⟩, .string ⟨c.c.2.toArray⟩, .string ⟨c.w2.toArray⟩] 32)).alloc (.cells #[.int .i64 0, .string ⟨#[]⟩, .string ⟨#[]⟩, .string ⟨#[]⟩, .string ⟨#[]⟩, .string ⟨#[]⟩, .string ⟨#[]⟩, .string ⟨#[]⟩, .string ⟨#[]⟩, .slice none 0 0] 35)).heap[w.heap.size + 1]? = some (.cells (signBox noCred (.slice none 0 0)) 35 (0, 0)) := by
    have := heap_alloc_new (w.alloc (.cells #[.int .i64 c.kind, .string ⟨c.head.1.toArray⟩, .string ⟨c.head.2.toArray⟩, .string ⟨c.who.toArray⟩, .string ⟨c.b.1.toArray⟩, .string ⟨c.b.2.toArray⟩, .string ⟨c.c.1.toArray⟩, .string ⟨c.c.2.toArray⟩, .string ⟨c.w2.toArray⟩] 32)) (.cells #[.int .i64 0, .string ⟨#[]⟩, .string ⟨#[]⟩, .string ⟨#[]⟩, .string ⟨#[]⟩, .string ⟨#[]⟩, .string ⟨#[]⟩, .string ⟨#[]⟩, .string ⟨#[]⟩, .slice none 0 0] 35)
    rw [show (w.alloc (.cells #[.int .i64 c.kind, .string ⟨c.head.1.toArray⟩, .string ⟨c.head.2.toArray⟩, .string ⟨c.who.toArray⟩, .string ⟨c.b.1.toArray⟩, .string ⟨c.b.2.toArray⟩, .string ⟨c.c.1.toArray⟩, .string ⟨c.c.2.toArray⟩, .string ⟨c.w2.toArray⟩] 32)).heap.size = w.heap.size + 1 by simp] at this
    exact this
  have hc1 : Chg (fun _ => False) w ((w.alloc (.cells #[.int .i64 c.kind, .string ⟨c.head.1.toArray⟩, .string ⟨c.head.2.toArray⟩, .string ⟨c.who.toArray⟩, .string ⟨c.b.1.toArray⟩, .string ⟨c.b.2.toArray⟩, .string ⟨c.c.1.toArray⟩, .string ⟨c.c.2.toArray⟩, .string ⟨c.w2.toArray⟩] 32)).alloc (.cells #[.int .i64 0, .string ⟨#[]⟩, .string ⟨#[]⟩, .string ⟨#[]⟩, .string ⟨#[]⟩, .string ⟨#[]⟩, .string ⟨#[]⟩, .string ⟨#[]⟩, .string ⟨#[]⟩, .slice none 0 0] 35)) := ((Chg.refl _ w).alloc _).alloc _
  have HV : Hid (((w.alloc (.cells #[.int .i64 c.kind, .string ⟨c.head.1.toArray⟩, .string ⟨c.head.2.toArray⟩, .string ⟨c.who.toArray⟩, .string ⟨c.b.1.toArray⟩, .string ⟨c.b.2.toArray⟩, .string ⟨c.c.1.toArray⟩, .string ⟨c.c.2.toArray⟩, .string ⟨c.w2.toArray⟩] 32)).alloc (.cells #[.int .i64 0, .string ⟨#[]⟩, .string ⟨#[]⟩, .string ⟨#[]⟩, .string ⟨#[]⟩, .string ⟨#[]⟩, .string ⟨#[]⟩, .string ⟨#[]⟩, .string ⟨#[]⟩, .slice none 0 0] 35)).heap[g]? = some (.cells #[.int .i64 m, .slice ao n cap] 65 (0, 0)) ∧ HeldAt (fun i => O i ∧ i ≠ g) ((w.alloc (.cells #[.int .i64 c.kind, .string ⟨c.head.1.toArray⟩, .string ⟨c.head.2.toArray⟩, .string ⟨c.who.toArray⟩, .string ⟨c.b.1.toArray⟩, .string ⟨c.b.2.toArray⟩, .string ⟨c.c.1.toArray⟩, .string ⟨c.c.2.toArray⟩, .string ⟨c.w2.toArray⟩] 32)).alloc (.cells #[.int .i64 0, .string ⟨#[]⟩, .string ⟨#[]⟩, .string ⟨#[]⟩, .string ⟨#[]⟩, .string ⟨#[]⟩, .string ⟨#[]⟩, .string ⟨#[]⟩, .string ⟨#[]⟩, .slice none 0 0] 35)) ao cap qs ∧ Chg (fun _ => False) w ((w.alloc (.cells #[.int .i64 c.kind, .string ⟨c.head.1.toArray⟩, .string ⟨c.head.2.toArray⟩, .string ⟨c.who.toArray⟩, .string ⟨c.b.1.toArray⟩, .string ⟨c.b.2.toArray⟩, .string ⟨c.c.1.toArray⟩, .string ⟨c.c.2.toArray⟩, .string ⟨c.w2.toArray⟩] 32)).alloc (.cells #[.int .i64 0, .string ⟨#[]⟩, .string ⟨#[]⟩, .string ⟨#[]⟩, .string ⟨#[]⟩, .string ⟨#[]⟩, .string ⟨#[]⟩, .string ⟨#[]⟩, .string ⟨#[]⟩, .slice none 0 0] 35))) := hid ⟨blk_keep h2 hc1 id, h4.keep hc1 (fun _ _ => id), hc1⟩
  have HE : Hid (qs.map EntB.s = es.map EntB.s ∧ qs.length = n ∧ (∀ i, O i → i < w.heap.size)) := hid ⟨h1, hn, h5⟩
  have HB0 := hid hBb
  have hf := pvfind c g m ao n cap qs (es.map EntB.s) ((w.alloc (.cells #[.int .i64 c.kind, .string ⟨c.head.1.toArray⟩, .string ⟨c.head.2.toArray⟩, .string ⟨c.who.toArray⟩, .string ⟨c.b.1.toArray⟩, .string ⟨c.b.2.toArray⟩, .string ⟨c.c.1.toArray⟩, .string ⟨c.c.2.toArray⟩, .string ⟨c.w2.toArray⟩] 32)).alloc (.cells #[.int .i64 0, .string ⟨#[]⟩, .string ⟨#[]⟩, .string ⟨#[]⟩, .string ⟨#[]⟩, .string ⟨#[]⟩, .string ⟨#[]⟩, .string ⟨#[]⟩, .string ⟨#[]⟩, .slice none 0 0] 35)) HV.out.1 HE.out.1.symm HE.out.2.1 HV.out.2.1.ents (by rw [← HE.out.1]; exact HV.out.2.1.ok) hn256 hs63
  have hb0 := cred_at_blk hAb
  unfold credV credBox at hf
  have HF := hid hf
  clear hs63 h1 h2 h3 h4 h5 h6 h7 hn hc1 hva hsh hf hAb hBb
  unfold credV credBox
  obtain ⟨y0, y1, y2, y3, y4, y5, y6, y7, y8⟩ := hb0
  simp only [Nat.zero_add, credBox] at y0 y1 y2 y3 y4 y5 y6 y7 y8
  go_enter Try.func6, Try.ntmps6
  go_wp2_with fail
  refine HF.out.mono ?_
  clear HF y0 y1 y2 y3 y4 y5 y6 y7 y8
  rintro e w3 ⟨kk, rfl, hcut, hc3⟩
  have HV3 : Hid (w3.heap[g]? = some (.cells #[.int .i64 m, .slice ao n cap] 65 (0, 0)) ∧ HeldAt (fun i => O i ∧ i ≠ g) w3 ao cap qs ∧ Chg (fun _ => False) w w3) := hid ⟨blk_keep HV.out.1 hc3 id, HV.out.2.1.keep hc3 (fun _ _ => id), HV.out.2.2.trans hc3 (fun _ _ h => h)⟩
  have HB : Hid (w3.heap[w.heap.size + 1]? = some (.cells (signBox noCred (.slice none 0 0)) 35 (0, 0))) := hid (blk_keep HB0.out hc3 id)
  clear HV HB0 hc3
  have HCUT := hid hcut
  clear hcut
  obtain ⟨B, hB⟩ : ∃ B, B = w.heap.size + 1 := ⟨_, rfl⟩
  rw [← hB] at HB ⊢
  have HBE := hid hB
  clear hB
  by_cases hh : hasG (es.map EntB.s) c = true
  · rw [hh]
    have hokE : HeldOk (es.map EntB.s) := by rw [← HE.out.1]; exact HV3.out.2.1.ok
    obtain ⟨hkl, hkc⟩ := HCUT.out.here hokE hh
    have hel : es.length = n := by have := congrArg List.length HE.out.1; simp at this; have := HE.out.2.1; omega
    have hke : kk < es.length := by simpa using hkl
    have hkn : kk < n := by omega
    have hkq : kk < qs.length := by rw [HE.out.2.1]; exact hkn
    have HG : Hid (getV es c = some es[kk]) := hid (getV_cut hokE hke (by simp only [List.getElem_map] at hkc; exact hkc))
    obtain ⟨b, off, hao, _, hten⟩ := HV3.out.2.1.ents.ten hkq
    obtain ⟨x, hx⟩ : ∃ x, x = qs[kk] := ⟨_, rfl⟩
    have HXE : Hid (es[kk].s = x.s) := hid (by
      have h1 : (es.map EntB.s)[kk]'(by simpa using hke) = (qs.map EntB.s)[kk]'(by simpa using hkq) := by simp only [HE.out.1]
      simp only [List.getElem_map] at h1
      rw [h1, hx])
    rw [← hx] at hten
    have hxm : x ∈ qs := by rw [hx]; exact List.getElem_mem hkq
    have hti := HV3.out.2.1.tags x hxm
    have htl : x.tag.length = 8 := by have := hti.1; unfold isSign at this; simp only [Bool.and_eq_true, decide_eq_true_eq] at this; exact this.2
    have HQ := hid (pvcopied (D := fun i => O i ∧ i ≠ g) x.c x.tag x.ta x.cap w3 (by omega) (fun i hi => by have := HE.out.2.2 i hi.1; have := HV3.out.2.2.size; omega) hti.2)
    obtain ⟨y0, y1, y2, y3, y4, y5, y6, y7, y8, y9⟩ := hten
    have a1 := cell_blk HV3.out.1 1
    simp only [List.getElem?_toArray, List.getElem?_cons_zero, List.getElem?_cons_succ] at a1
    subst hao
    clear hh hokE hkl hkc hel hx hxm hti htl hkq
    have hz := HQ.out
    unfold signV signBox at hz
    have HQ2 := hid hz
    clear hz HQ
    go_wp2_with fail
    refine HQ2.out.mono ?_
    clear HQ2 a1 y0 y1 y2 y3 y4 y5 y6 y7 y8 y9
    rintro e w4 ⟨ta, tc, rfl, hbt, hc4⟩
    have HB4 : Hid (w4.heap[B]? = some (.cells (signBox noCred (.slice none 0 0)) 35 (0, 0))) := hid (blk_keep HB.out hc4 id)
    have HBB : Hid (BytesAt (fun _ => True) (setSign w4 B x.c (.slice ta x.tag.length tc)) (.slice ta x.tag.length tc) x.tag) := hid ((hbt.keep (setSign_chg w4 B x.c _) (fun i hi e => by have := hi.1; have := lt_blk HB.out; have : i = B := e; omega)).mono (fun _ _ => trivial))
    have HSET : Hid ((setSign w4 B x.c (.slice ta x.tag.length tc)).heap[B]? = some (.cells (signBox x.c (.slice ta x.tag.length tc)) 35 (0, 0)) ∧ Chg (fun _ => False) w (setSign w4 B x.c (.slice ta x.tag.length tc))) := hid ⟨setSign_blk x.c _ HB4.out, (HV3.out.2.2.trans hc4 (fun _ _ h => h)).trans (setSign_chg w4 B x.c _) (fun i hi e => by have := HBE.out; have : i = B := e; omega)⟩
    clear hbt hc4 HB
    have HB := HB4
    clear HB4
    obtain ⟨⟨y0, y1, y2, y3, y4, y5, y6, y7, y8⟩, y9⟩ := cred_at_sign HB.out
    simp only [Nat.zero_add, noCred, noneR] at y0 y1 y2 y3 y4 y5 y6 y7 y8
    have g0 := froz_blk HB.out 0
    have g1 := froz_blk HB.out 1
    have g2 := froz_blk HB.out 2
    have g3 := froz_blk HB.out 3
    have g4 := froz_blk HB.out 4
    have g5 := froz_blk HB.out 5
    have g6 := froz_blk HB.out 6
    have g7 := froz_blk HB.out 7
    have g8 := froz_blk HB.out 8
    have g9 := froz_blk HB.out 9
    unfold signV signBox
    go_wp2
    refine bodyPost_ret (results_row_tmp rfl _ _ B _ rfl (run_loadVar_row (P := Try.prog) _ B 35 35 _ (0, 0) _ HSET.out.1 Try.underlying35 rfl (by kernel_rfl))) rfl ?_
    exact ⟨⟨⟨x.c, x.tag⟩, ta, tc, by rw [HG.out]; rfl, HBB.out, by rw [HG.out]; exact HXE.out.symm⟩, HSET.out.2⟩
  · have hhf : hasG (es.map EntB.s) c = false := by simpa using hh
    rw [hhf]
    have HG : Hid (getV es c = none) := hid (getV_none (by rw [← hasV_map]; exact hhf))
    have HSET : Hid ((setSign w3 B noCred (.slice none 0 0)).heap[B]? = some (.cells (signBox noCred (.slice none 0 0)) 35 (0, 0)) ∧ Chg (fun _ => False) w (setSign w3 B noCred (.slice none 0 0))) := hid ⟨setSign_blk noCred _ HB.out, HV3.out.2.2.trans (setSign_chg w3 B noCred _) (fun i hi e => by have := HBE.out; have : i = B := e; omega)⟩
    clear hh hhf
    obtain ⟨⟨y0, y1, y2, y3, y4, y5, y6, y7, y8⟩, y9⟩ := cred_at_sign HB.out
    simp only [Nat.zero_add, noCred, noneR] at y0 y1 y2 y3 y4 y5 y6 y7 y8
    have g0 := froz_blk HB.out 0
    have g1 := froz_blk HB.out 1
    have g2 := froz_blk HB.out 2
    have g3 := froz_blk HB.out 3
    have g4 := froz_blk HB.out 4
    have g5 := froz_blk HB.out 5
    have g6 := froz_blk HB.out 6
    have g7 := froz_blk HB.out 7
    have g8 := froz_blk HB.out 8
    have g9 := froz_blk HB.out 9
    go_wp2
    refine bodyPost_ret (results_row_tmp rfl _ _ B _ rfl (run_loadVar_row (P := Try.prog) _ B 35 35 _ (0, 0) _ HSET.out.1 Try.underlying35 rfl (by kernel_rfl))) rfl ?_
    exact ⟨⟨noSign, none, 0, by rw [HG.out]; rfl, BytesAt.nil _ _, by rw [HG.out]; rfl⟩, HSET.out.2⟩

set_option maxRecDepth 100000 in
set_option maxHeartbeats 4000000 in
theorem pvgetNil (w : World) :
    Calls Try.prog 6 #[.pointer none, credV noCred] w fun e w' => e = .returned (.tuple #[signV noCred (.slice none 0 0), .bool false]) ∧ Chg (fun _ => False) w w' := by
  obtain ⟨c, hcn⟩ : ∃ c, c = noCred := ⟨_, rfl⟩
  have hs63 : credShort c 9223372036854775807 := by rw [hcn]; exact ⟨by decide, by decide, by decide, by decide, by decide, by decide, by decide, by decide⟩
  rw [← hcn]
  have HCN := hid hcn
  clear hcn
  have hAb : ((w.alloc (.cells #[.int .i64 c.kind, .string ⟨c.head.1.toArray⟩, .string ⟨c.head.2.toArray⟩, .string ⟨c.who.toArray⟩, .string ⟨c.b.1.toArray⟩, .string ⟨c.b.2.toArray⟩, .string ⟨c.c.1.toArray⟩, .string ⟨c.c.2.toArray⟩, .string ⟨c.w2.toArray⟩] 32)).alloc (.cells #[.int .i64 0, .string ⟨#[]⟩, .string ⟨#[]⟩, .string ⟨#[]⟩, .string ⟨#[]⟩, .string ⟨#[]⟩, .string ⟨#[]⟩, .string ⟨#[]⟩, .string ⟨#[]⟩, .slice none 0 0] 35)).heap[w.heap.size]? = some (.cells (credBox c) 32 (0, 0)) := by
    have := heap_alloc_new w (.cells #[.int .i64 c.kind, .string ⟨c.head.1.toArray⟩, .string ⟨c.head.2.toArray⟩, .string ⟨c.who.toArray⟩, .string ⟨c.b.1.toArray⟩, .string ⟨c.b.2.toArray⟩, .string ⟨c.c.1.toArray⟩, .string ⟨c.c.2.toArray⟩, .string ⟨c.w2.toArray⟩] 32)
    exact blk_keep this ((Chg.refl (fun _ => False) _).alloc _) id
  have hBb : ((w.alloc (.cells #[.int .i64 c.kind, .string ⟨c.head.1.toArray⟩, .string ⟨c.head.2.toArray⟩, .string ⟨c.who.toArray⟩, .string ⟨c.b.1.toArray⟩, .string ⟨c.b.2.toArray⟩, .string ⟨c.c.1.toArray⟩, .string ⟨c.c.2.toArray⟩, .string ⟨c.w2.toArray⟩] 32)).alloc (.cells #[.int .i64 0, .string ⟨#[]⟩, .string ⟨#[]⟩, .string ⟨#[]⟩, .string ⟨#[]⟩, .string ⟨#[]⟩, .string ⟨#[]⟩, .string ⟨#[]⟩, .string ⟨#[]⟩, .slice none 0 0] 35)).heap[w.heap.size + 1]? = some (.cells (signBox noCred (.slice none 0 0)) 35 (0, 0)) := by
    have := heap_alloc_new (w.alloc (.cells #[.int .i64 c.kind, .string ⟨c.head.1.toArray⟩, .string ⟨c.head.2.toArray⟩, .string ⟨c.who.toArray⟩, .string ⟨c.b.1.toArray⟩, .string ⟨c.b.2.toArray⟩, .string ⟨c.c.1.toArray⟩, .string ⟨c.c.2.toArray⟩, .string ⟨c.w2.toArray⟩] 32)) (.cells #[.int .i64 0, .string ⟨#[]⟩, .string ⟨#[]⟩, .string ⟨#[]⟩, .string ⟨#[]⟩, .string ⟨#[]⟩, .string ⟨#[]⟩, .string ⟨#[]⟩, .string ⟨#[]⟩, .slice none 0 0] 35)
    rw [show (w.alloc (.cells #[.int .i64 c.kind, .string ⟨c.head.1.toArray⟩, .string ⟨c.head.2.toArray⟩, .string ⟨c.who.toArray⟩, .string ⟨c.b.1.toArray⟩, .string ⟨c.b.2.toArray⟩, .string ⟨c.c.1.toArray⟩, .string ⟨c.c.2.toArray⟩, .string ⟨c.w2.toArray⟩] 32)).heap.size = w.heap.size + 1 by simp] at this
    exact this
  have hc1 : Chg (fun _ => False) w ((w.alloc (.cells #[.int .i64 c.kind, .string ⟨c.head.1.toArray⟩, .string ⟨c.head.2.toArray⟩, .string ⟨c.who.toArray⟩, .string ⟨c.b.1.toArray⟩, .string ⟨c.b.2.toArray⟩, .string ⟨c.c.1.toArray⟩, .string ⟨c.c.2.toArray⟩, .string ⟨c.w2.toArray⟩] 32)).alloc (.cells #[.int .i64 0, .string ⟨#[]⟩, .string ⟨#[]⟩, .string ⟨#[]⟩, .string ⟨#[]⟩, .string ⟨#[]⟩, .string ⟨#[]⟩, .string ⟨#[]⟩, .string ⟨#[]⟩, .slice none 0 0] 35)) := ((Chg.refl _ w).alloc _).alloc _
  have HV : Hid (Chg (fun _ => False) w ((w.alloc (.cells #[.int .i64 c.kind, .string ⟨c.head.1.toArray⟩, .string ⟨c.head.2.toArray⟩, .string ⟨c.who.toArray⟩, .string ⟨c.b.1.toArray⟩, .string ⟨c.b.2.toArray⟩, .string ⟨c.c.1.toArray⟩, .string ⟨c.c.2.toArray⟩, .string ⟨c.w2.toArray⟩] 32)).alloc (.cells #[.int .i64 0, .string ⟨#[]⟩, .string ⟨#[]⟩, .string ⟨#[]⟩, .string ⟨#[]⟩, .string ⟨#[]⟩, .string ⟨#[]⟩, .string ⟨#[]⟩, .string ⟨#[]⟩, .slice none 0 0] 35))) := hid hc1
  have HB0 := hid hBb
  have hf := pvfindNil c ((w.alloc (.cells #[.int .i64 c.kind, .string ⟨c.head.1.toArray⟩, .string ⟨c.head.2.toArray⟩, .string ⟨c.who.toArray⟩, .string ⟨c.b.1.toArray⟩, .string ⟨c.b.2.toArray⟩, .string ⟨c.c.1.toArray⟩, .string ⟨c.c.2.toArray⟩, .string ⟨c.w2.toArray⟩] 32)).alloc (.cells #[.int .i64 0, .string ⟨#[]⟩, .string ⟨#[]⟩, .string ⟨#[]⟩, .string ⟨#[]⟩, .string ⟨#[]⟩, .string ⟨#[]⟩, .string ⟨#[]⟩, .string ⟨#[]⟩, .slice none 0 0] 35)) hs63
  have hb0 := cred_at_blk hAb
  unfold credV credBox at hf
  have HF := hid hf
  clear hs63 hc1 hf hAb hBb
  unfold credV credBox
  obtain ⟨y0, y1, y2, y3, y4, y5, y6, y7, y8⟩ := hb0
  simp only [Nat.zero_add, credBox] at y0 y1 y2 y3 y4 y5 y6 y7 y8
  go_enter Try.func6, Try.ntmps6
  go_wp2_with fail
  refine HF.out.mono ?_
  clear HF y0 y1 y2 y3 y4 y5 y6 y7 y8
  rintro e w3 ⟨kk, rfl, hcut, hc3⟩
  have HB : Hid (w3.heap[w.heap.size + 1]? = some (.cells (signBox noCred (.slice none 0 0)) 35 (0, 0))) := hid (blk_keep HB0.out hc3 id)
  have HV3 : Hid (Chg (fun _ => False) w w3) := hid (HV.out.trans hc3 (fun _ _ h => h))
  clear HV HB0 hc3 hcut
  obtain ⟨B, hB⟩ : ∃ B, B = w.heap.size + 1 := ⟨_, rfl⟩
  rw [← hB] at HB ⊢
  have HBE := hid hB
  clear hB
  rw [show hasG [] c = false from rfl]
  have HSET : Hid ((setSign w3 B noCred (.slice none 0 0)).heap[B]? = some (.cells (signBox noCred (.slice none 0 0)) 35 (0, 0)) ∧ Chg (fun _ => False) w (setSign w3 B noCred (.slice none 0 0))) := hid ⟨setSign_blk noCred _ HB.out, HV3.out.trans (setSign_chg w3 B noCred _) (fun i hi e => by have := HBE.out; have : i = B := e; omega)⟩
  obtain ⟨⟨y0, y1, y2, y3, y4, y5, y6, y7, y8⟩, y9⟩ := cred_at_sign HB.out
  simp only [Nat.zero_add, noCred, noneR] at y0 y1 y2 y3 y4 y5 y6 y7 y8
  have g0 := froz_blk HB.out 0
  have g1 := froz_blk HB.out 1
  have g2 := froz_blk HB.out 2
  have g3 := froz_blk HB.out 3
  have g4 := froz_blk HB.out 4
  have g5 := froz_blk HB.out 5
  have g6 := froz_blk HB.out 6
  have g7 := froz_blk HB.out 7
  have g8 := froz_blk HB.out 8
  have g9 := froz_blk HB.out 9
  go_wp2
  refine bodyPost_ret (results_row_tmp rfl _ _ B _ rfl (run_loadVar_row (P := Try.prog) _ B 35 35 _ (0, 0) _ HSET.out.1 Try.underlying35 rfl (by kernel_rfl))) rfl ?_
  exact ⟨by rw [HCN.out]; rfl, HSET.out.2⟩

set_option maxRecDepth 100000 in
theorem pvaddNil (c : CredB) (v : Value) (w : World) : Calls Try.prog 7 #[.pointer none, signV c v] w fun e w' => e = .returned (.int .i64 1) ∧ Chg (fun _ => False) w w' := by
  have HC : Hid (∀ o : Obj, Chg (fun _ => False) w (w.alloc o)) := hid (fun o => (Chg.refl _ w).alloc o)
  unfold signV signBox
  go_enter Try.func7, Try.ntmps7
  go_wp2
  go_ret
  exact ⟨rfl, HC.out _⟩

set_option maxRecDepth 100000 in
theorem pvdropNil (c : CredB) (w : World) : Calls Try.prog 8 #[.pointer none, credV c] w fun e w' => e = .returned (.int .i64 1) ∧ Chg (fun _ => False) w w' := by
  have HC : Hid (∀ o : Obj, Chg (fun _ => False) w (w.alloc o)) := hid (fun o => (Chg.refl _ w).alloc o)
  unfold credV credBox
  go_enter Try.func8, Try.ntmps8
  go_wp2
  go_ret
  exact ⟨rfl, HC.out _⟩
end Go.Proofs.Ytfpaoaflhbppgaa

/- The vault's All: the iterator that it gives, for whoever goes through it. -/
namespace Go.Proofs.Ytfpaoaflhbppgaa
open Go.RowKit
attribute [local go_sem] Oper.semAt_some

/-- What an iterator hands out: a signed credential, as a vault holds them. -/
abbrev EntS := { x : EntB // isSign x.s = true }

theorem chg_grown {w w' : World} (h : Chg (fun _ => False) w w') : w.grownBy w' none := ⟨h.os, h.tape, h.output, h.size, fun k hk _ => h.block k hk id⟩
theorem chg_below {w w' : World} {n : Nat} (h : Chg (fun _ => False) w w') (hn : n ≤ w.heap.size) : Below n w w' := h.below hn (fun _ _ => id)
theorem below_chg {w w' : World} (h : Below w.heap.size w w') : Chg (fun _ => False) w w' := ⟨h.os, h.tape, h.output, h.size, fun k hk _ => h.block k hk⟩
theorem below_lo {n : Nat} {w w' : World} (h : Below n w w') : Chg (fun i => n ≤ i) w w' := ⟨h.os, h.tape, h.output, h.size, fun k hk hn => h.block k (by omega)⟩

set_option maxHeartbeats 2000000 in
theorem pvall0 (r ao : Option Addr) (n cap : Nat) (w : World) (hlist : Calls Try.prog 31 #[.pointer r] w fun e w' => e = .returned (.slice ao n cap) ∧ w = w') :
    Calls Try.prog 25 #[.pointer r] w fun e w' => e = .returned (.func (.func 41) #[] #[.pointer (some ⟨w.heap.size, 0, none⟩)]) ∧ w' = w.alloc (.cells #[.slice ao n cap] 45) := by
  have HL := hid hlist
  clear hlist
  go_enter Try.func25, Try.ntmps25
  go_wp2_with fail
  refine HL.out.mono ?_
  rintro e w' ⟨rfl, rfl⟩
  clear HL
  go_wp2
  go_ret
  exact ⟨rfl, rfl⟩

set_option maxRecDepth 100000 in
set_option maxHeartbeats 4000000 in
theorem pvall1 (n : Nat) (hn : 1 ≤ n) (X n₀ len cap : Nat) (ao : Option Addr) (qs : List EntB) (w : World) (hX : X < w.heap.size) (hn₀ : n₀ ≤ w.heap.size) (hc : w.cell? ⟨X, 0, none⟩ = some (.slice ao len cap)) (hq : qs.length = len) (hlen : len ≤ 256)
    (hE : EntsAt (fun i => i < n₀) w ao qs) (hT : TagsIn (fun i => i < n₀) w qs) :
    SeqStopsK Fence.wide n Try.prog 41 #[.pointer (some ⟨X, 0, none⟩)] (fun x : EntS => #[.agg #[.int .i64 x.1.c.kind, .string ⟨x.1.c.head.1.toArray⟩, .string ⟨x.1.c.head.2.toArray⟩, .string ⟨x.1.c.who.toArray⟩, .string ⟨x.1.c.b.1.toArray⟩, .string ⟨x.1.c.b.2.toArray⟩, .string ⟨x.1.c.c.1.toArray⟩, .string ⟨x.1.c.c.2.toArray⟩, .string ⟨x.1.c.w2.toArray⟩, .slice x.1.ta x.1.tag.length x.1.cap]]) (Below n₀) (fun ys => ys.map (fun y => y.1.s) = qs.map EntB.s) (fun _ => True) len w := fun l J Jx W hW hJ hJx hY h0 => by
  have hcX := (hW.cell (p := ⟨X, 0, none⟩) hX).trans hc
  have hE2 := hE.keep (below_lo hW) (fun i hi h => by omega)
  have hT2 := hT.keep (below_lo hW) (fun i hi h => by omega)
  have hnW : n₀ ≤ W.heap.size := Nat.le_trans hn₀ hW.size
  have HE := hid (And.intro hE2 (And.intro hT2 (And.intro hq hnW)))
  have HY := hid hY
  have HJ := hid hJ
  clear hE2 hT2 hnW hY hJ hJx hE hT hc hX hn₀ hW hq
  refine callsIn_of_wp Try.func41 rfl trivial ?_ rfl
  simp only [Try.ntmps41, List.size_toArray, List.length_cons, List.length_nil, Nat.reduceAdd, Nat.reduceSub, Array.replicate_succ, Array.replicate_zero, List.push_toArray, List.append_toArray, List.nil_append, List.cons_append]
  gi_wp2
  clear hcX
  gi_loopw [7] (fun i wr => ∃ (k : Nat) (pre : List EntS), k ≤ len ∧ i = .int .i64 k ∧ pre.length = k ∧ Hid (pre.map (fun y => y.1.s) = (qs.take k).map EntB.s) ∧ J pre wr ∧ Below n₀ W wr)
    (fun i _ => len - (intOf i).toNat)
  case atStart => exact ⟨0, [], Nat.zero_le _, rfl, rfl, hid rfl, h0, Below.refl _ _⟩
  case round =>
    obtain ⟨k, pre, hk, rfl, hpl, hpre, hJs, hB⟩ := hrel
    have HPL := hid hpl
    clear hpl
    by_cases hlt : k < len
    · have hkq : k < qs.length := by rw [HE.out.2.2.1]; exact hlt
      have hBc := below_lo hB
      obtain ⟨b, off, hao, _, hten⟩ := (HE.out.1.keep hBc (fun i hi h => by omega)).ten hkq
      obtain ⟨x, hx⟩ : ∃ x, x = qs[k] := ⟨_, rfl⟩
      have hti := (HE.out.2.1.keep hBc (fun i hi h => by omega)) x (by rw [hx]; exact List.getElem_mem hkq)
      rw [← hx] at hten
      have HP1 : Hid (∀ y : EntS, y.1.s = x.s → (pre ++ [y]).map (fun y => y.1.s) = (qs.take (k + 1)).map EntB.s) := hid (fun y hy => by rw [List.map_append, hpre.out, List.take_succ_eq_append_getElem hkq, List.map_append, ← hx]; simp [hy])
      have htl : x.tag.length = 8 := by have := hti.1; unfold isSign at this; simp only [Bool.and_eq_true, decide_eq_true_eq] at this; exact this.2
      have hszB := Nat.le_trans HE.out.2.2.2 hB.size
      have hal : Chg (fun _ => False) wr (wr.alloc (.cells #[.int .i64 x.c.kind, .string ⟨x.c.head.1.toArray⟩, .string ⟨x.c.head.2.toArray⟩, .string ⟨x.c.who.toArray⟩, .string ⟨x.c.b.1.toArray⟩, .string ⟨x.c.b.2.toArray⟩, .string ⟨x.c.c.1.toArray⟩, .string ⟨x.c.c.2.toArray⟩, .string ⟨x.c.w2.toArray⟩, .slice x.ta x.tag.length x.cap] 35)) := (Chg.refl _ wr).alloc _
      have hcp := pvcopied (D := fun i => i < n₀) x.c x.tag x.ta x.cap (wr.alloc (.cells #[.int .i64 x.c.kind, .string ⟨x.c.head.1.toArray⟩, .string ⟨x.c.head.2.toArray⟩, .string ⟨x.c.who.toArray⟩, .string ⟨x.c.b.1.toArray⟩, .string ⟨x.c.b.2.toArray⟩, .string ⟨x.c.c.1.toArray⟩, .string ⟨x.c.c.2.toArray⟩, .string ⟨x.c.w2.toArray⟩, .slice x.ta x.tag.length x.cap] 35)) (by omega) (fun i hi => by have := hal.size; omega) (hti.2.keep hal (fun _ _ => id))
      unfold signV signBox at hcp
      have hJ2 := HJ.out pre wr (wr.alloc (.cells #[.int .i64 x.c.kind, .string ⟨x.c.head.1.toArray⟩, .string ⟨x.c.head.2.toArray⟩, .string ⟨x.c.who.toArray⟩, .string ⟨x.c.b.1.toArray⟩, .string ⟨x.c.b.2.toArray⟩, .string ⟨x.c.c.1.toArray⟩, .string ⟨x.c.c.2.toArray⟩, .string ⟨x.c.w2.toArray⟩, .slice x.ta x.tag.length x.cap] 35)) none hJs (chg_grown hal) (fun r e => by cases e)
      have HCP : Hid (Calls Try.prog 28 #[.agg #[.int .i64 x.c.kind, .string ⟨x.c.head.1.toArray⟩, .string ⟨x.c.head.2.toArray⟩, .string ⟨x.c.who.toArray⟩, .string ⟨x.c.b.1.toArray⟩, .string ⟨x.c.b.2.toArray⟩, .string ⟨x.c.c.1.toArray⟩, .string ⟨x.c.c.2.toArray⟩, .string ⟨x.c.w2.toArray⟩, .slice x.ta x.tag.length x.cap]] (wr.alloc (.cells #[.int .i64 x.c.kind, .string ⟨x.c.head.1.toArray⟩, .string ⟨x.c.head.2.toArray⟩, .string ⟨x.c.who.toArray⟩, .string ⟨x.c.b.1.toArray⟩, .string ⟨x.c.b.2.toArray⟩, .string ⟨x.c.c.1.toArray⟩, .string ⟨x.c.c.2.toArray⟩, .string ⟨x.c.w2.toArray⟩, .slice x.ta x.tag.length x.cap] 35)) (CopyPost x.c x.tag (wr.alloc (.cells #[.int .i64 x.c.kind, .string ⟨x.c.head.1.toArray⟩, .string ⟨x.c.head.2.toArray⟩, .string ⟨x.c.who.toArray⟩, .string ⟨x.c.b.1.toArray⟩, .string ⟨x.c.b.2.toArray⟩, .string ⟨x.c.c.1.toArray⟩, .string ⟨x.c.c.2.toArray⟩, .string ⟨x.c.w2.toArray⟩, .slice x.ta x.tag.length x.cap] 35))) ∧ J pre (wr.alloc (.cells #[.int .i64 x.c.kind, .string ⟨x.c.head.1.toArray⟩, .string ⟨x.c.head.2.toArray⟩, .string ⟨x.c.who.toArray⟩, .string ⟨x.c.b.1.toArray⟩, .string ⟨x.c.b.2.toArray⟩, .string ⟨x.c.c.1.toArray⟩, .string ⟨x.c.c.2.toArray⟩, .string ⟨x.c.w2.toArray⟩, .slice x.ta x.tag.length x.cap] 35)) ∧ Below n₀ W (wr.alloc (.cells #[.int .i64 x.c.kind, .string ⟨x.c.head.1.toArray⟩, .string ⟨x.c.head.2.toArray⟩, .string ⟨x.c.who.toArray⟩, .string ⟨x.c.b.1.toArray⟩, .string ⟨x.c.b.2.toArray⟩, .string ⟨x.c.c.1.toArray⟩, .string ⟨x.c.c.2.toArray⟩, .string ⟨x.c.w2.toArray⟩, .slice x.ta x.tag.length x.cap] 35)) ∧ isSign x.s = true ∧ n₀ ≤ (wr.alloc (.cells #[.int .i64 x.c.kind, .string ⟨x.c.head.1.toArray⟩, .string ⟨x.c.head.2.toArray⟩, .string ⟨x.c.who.toArray⟩, .string ⟨x.c.b.1.toArray⟩, .string ⟨x.c.b.2.toArray⟩, .string ⟨x.c.c.1.toArray⟩, .string ⟨x.c.c.2.toArray⟩, .string ⟨x.c.w2.toArray⟩, .slice x.ta x.tag.length x.cap] 35)).heap.size) := hid ⟨hcp, hJ2, hB.trans (chg_below hal hszB), hti.1, Nat.le_trans hszB hal.size⟩
      obtain ⟨y0, y1, y2, y3, y4, y5, y6, y7, y8, y9⟩ := hten
      subst hao
      clear hBc hx hti htl hszB hal hcp hJ2 hJs hB hkq hpre
      gi_wp2_with fail
      refine ⟨trivial, ?_⟩
      refine (callsIn_wide.2 HCP.out.1).mono ?_
      clear y0 y1 y2 y3 y4 y5 y6 y7 y8 y9
      rintro e w5 ⟨ta, tc, rfl, hbt, hc5⟩
      have hJ5 := HJ.out pre _ w5 none HCP.out.2.1 (chg_grown hc5) (fun r e => by cases e)
      have hB5 := HCP.out.2.2.1.trans (chg_below hc5 HCP.out.2.2.2.2)
      obtain ⟨y, hy⟩ : ∃ y : EntS, y = ⟨⟨x.c, x.tag, ta, tc⟩, HCP.out.2.2.2.1⟩ := ⟨_, rfl⟩
      have HPY := hid (HP1.out y (by rw [hy]; rfl))
      obtain ⟨fn, tmps, assign, body, hyy, hR⟩ := HY.out pre y w5 hJ5 (by rw [HPL.out]; exact hlt)
      rw [hy] at hyy
      dsimp only at hyy
      have HRR := hid hR
      have HB5 := hid hB5
      have HYE := hid hy
      clear hR hJ5 hbt hc5 hB5 hy HP1
      unfold signV signBox
      gi_wp2_with fail
      refine HRR.out.mono ?_
      clear HRR hyy
      rintro e W3 (⟨rfl, hJ3, hk3⟩ | ⟨rfl, hJx3⟩)
      · have HR3 : Hid (J (pre ++ [y]) W3 ∧ Below n₀ W W3 ∧ (pre ++ [y]).length = k + 1) := hid ⟨hJ3, HB5.out.trans hk3, by simp [HPL.out]⟩
        clear hJ3 hk3
        gi_wp2
        go_roundw
        case rel => exact ⟨k + 1, pre ++ [y], by omega, by go_num, HR3.out.2.2, HPY.out, HR3.out.1, HR3.out.2.1⟩
        case measure => simp [intOf]; omega
      · have HR3 := hid hJx3
        clear hJx3
        gi_wp2
        refine bodyPost_ret (results_none rfl _ _ _) rfl ?_
        exact ⟨⟨_, rfl⟩, .inr ⟨_, trivial, HR3.out⟩⟩
    · have hke : k = len := by omega
      have hall : pre.map (fun y => y.1.s) = qs.map EntB.s := by rw [hpre.out, hke, ← HE.out.2.2.1, List.take_length]
      have HR3 := hid (And.intro hall hJs)
      clear hall hJs hpre hke hB
      gi_wp2
      go_end0
      exact ⟨⟨_, rfl⟩, .inl ⟨_, HR3.out.1, HR3.out.2⟩⟩
end Go.Proofs.Ytfpaoaflhbppgaa

/- Those of a vault's credentials that a function takes. -/
namespace Go.Proofs.Ytfpaoaflhbppgaa
open Go.RowKit
attribute [local go_sem] Oper.semAt_some

/-- Those that have come and are taken. -/
def selS (p : CredB → Bool) (pre : List EntS) : List CredB := (pre.map (fun y => y.1.c)).filter p
theorem selS_yes {p : CredB → Bool} (pre : List EntS) {x : EntS} (h : p x.1.c = true) : selS p (pre ++ [x]) = selS p pre ++ [x.1.c] := by simp [selS, h]
theorem selS_no {p : CredB → Bool} (pre : List EntS) {x : EntS} (h : p x.1.c = false) : selS p (pre ++ [x]) = selS p pre := by simp [selS, h]
theorem selS_len (p : CredB → Bool) (pre : List EntS) : (selS p pre).length ≤ pre.length := by
  unfold selS
  exact Nat.le_trans (List.length_filter_le _ _) (by simp)

theorem cells_own {β : Type} (B : Nat) (cs : Array Value) (T : TypeId) (f : Nat × Nat) : Own (fun (_ : β) W => W.heap[B]? = some (.cells cs T f)) := by
  intro s X Y row hs hg hr
  refine (hg.block B (lt_blk hs) (fun e => ?_)).trans hs
  obtain ⟨o, ho, hc⟩ := hr B e.symm
  rw [hs] at ho; cases ho; cases hc

/-- What is asked of the function. -/
def TakeAt (gf : Nat) (lb : Array Value) (p : CredB → Bool) (w : World) : Prop :=
  ∀ (c : CredB) (W : World), credShort c 16 → Below w.heap.size w W → Calls Try.prog gf (#[credV c] ++ lb) W fun e w' => e = .returned (.bool (p c)) ∧ Chg (fun _ => False) W w'

set_option maxRecDepth 100000 in
set_option maxHeartbeats 4000000 in
theorem pvthose0 (gf : Nat) (lb : Array Value) (p : CredB → Bool) (r ao : Option Addr) (len cap : Nat) (qs : List EntB) (w : World) (hq : qs.length = len) (hlen : len ≤ 256) (hE : EntsAt (fun i => i < w.heap.size) w ao qs) (hT : TagsIn (fun i => i < w.heap.size) w qs)
    (hlist : ∀ W, Chg (fun _ => False) w W → Calls Try.prog 31 #[.pointer r] W fun e w' => e = .returned (.slice ao len cap) ∧ W = w') (eg : ∀ args w, (callFunc gf args).run Try.prog w = .ok (.enter gf args) w) (htake : TakeAt gf lb p w) :
    Calls Try.prog 32 #[.pointer r, (.func (.func gf) #[] lb)] w fun e w' => TellsC ((qs.map (·.c)).filter p) e w' ∧ Chg (fun _ => False) w w' := by
  refine (callsIn_wide (n := 10)).1 ?_
  obtain ⟨i0, hi, hz0, hz1, hz2⟩ := info_parts Try.info32
  have hcB : Chg (fun _ => False) w ((w.alloc (.cells #[(.func (.func gf) #[] lb)] 69)).alloc (.cells #[.slice none 0 0] 41)) := ((Chg.refl _ w).alloc _).alloc _
  have HL := hid (pvall0 r ao len cap ((w.alloc (.cells #[(.func (.func gf) #[] lb)] 69)).alloc (.cells #[.slice none 0 0] 41)) (hlist _ hcB))
  have HI := hid (And.intro hi (And.intro hz0 (And.intro hz1 hz2)))
  have HD := hid (And.intro hq (And.intro hE hT))
  have HTK := hid htake
  have HEG := hid eg
  clear hi hz0 hz1 hz2 hlist hcB hq hE hT htake eg
  refine callsIn_of_wp_marks Try.func32 rfl trivial ?_ rfl
  simp only [Try.ntmps32, List.size_toArray, List.length_cons, List.length_nil, Nat.reduceAdd, Nat.reduceSub, Array.replicate_succ, Array.replicate_zero, List.push_toArray, List.append_toArray, List.nil_append, List.cons_append]
  gi_wp2_with fail
  refine ⟨trivial, ?_⟩
  refine (callsIn_wide.2 HL.out).mono ?_
  clear HL
  rintro e w' ⟨rfl, rfl⟩
  gi_wp2_with fail
  have hTk : Boxed (((w.alloc (.cells #[(.func (.func gf) #[] lb)] 69)).alloc (.cells #[.slice none 0 0] 41)).alloc (.cells #[.slice ao len cap] 45)) w.heap.size 69 (.func (.func gf) #[] lb) := ((Boxed.new w 69 (.func (.func gf) #[] lb)).alloc _).alloc _
  have hLb : Boxed (((w.alloc (.cells #[(.func (.func gf) #[] lb)] 69)).alloc (.cells #[.slice none 0 0] 41)).alloc (.cells #[.slice ao len cap] 45)) (w.heap.size + 1) 41 (.slice none 0 0) := by
    have := (Boxed.new (w.alloc (.cells #[(.func (.func gf) #[] lb)] 69)) 41 (.slice none 0 0)).alloc (.cells #[.slice ao len cap] 45)
    rw [World.size_alloc] at this
    exact this
  have hXb : Boxed (((w.alloc (.cells #[(.func (.func gf) #[] lb)] 69)).alloc (.cells #[.slice none 0 0] 41)).alloc (.cells #[.slice ao len cap] 45)) (w.heap.size + 1 + 1) 45 (.slice ao len cap) := by
    have := Boxed.new ((w.alloc (.cells #[(.func (.func gf) #[] lb)] 69)).alloc (.cells #[.slice none 0 0] 41)) 45 (.slice ao len cap)
    rw [World.size_alloc, World.size_alloc] at this
    exact this
  have hcW : Chg (fun _ => False) w (((w.alloc (.cells #[(.func (.func gf) #[] lb)] 69)).alloc (.cells #[.slice none 0 0] 41)).alloc (.cells #[.slice ao len cap] 45)) := (((Chg.refl _ w).alloc _).alloc _).alloc _
  have hB0 : Below w.heap.size w (((w.alloc (.cells #[(.func (.func gf) #[] lb)] 69)).alloc (.cells #[.slice none 0 0] 41)).alloc (.cells #[.slice ao len cap] 45)) := chg_below hcW (Nat.le_refl _)
  have hsz : (((w.alloc (.cells #[(.func (.func gf) #[] lb)] 69)).alloc (.cells #[.slice none 0 0] 41)).alloc (.cells #[.slice ao len cap] 45)).heap.size = w.heap.size + 3 := by simp
  obtain ⟨W0, hW0⟩ : ∃ W0, (((w.alloc (.cells #[(.func (.func gf) #[] lb)] 69)).alloc (.cells #[.slice none 0 0] 41)).alloc (.cells #[.slice ao len cap] 45)) = W0 := ⟨_, rfl⟩
  rw [hW0] at hTk hLb hXb hcW hB0 hsz ⊢
  clear hW0
  refine wpIn_rangeFunc_ownH rfl (by omega) (gf := 41) (lb := #[.pointer (some ⟨w.heap.size + 1 + 1, 0, none⟩)]) rfl trivial (enters_of Try.func41 (by kernel_rfl) rfl)
    (pvall1 (10 - 1) (by omega) (w.heap.size + 1 + 1) w.heap.size len cap ao qs W0 (by omega) (by omega) hXb.cell HD.out.1 hlen (HD.out.2.1.keep hcW (fun _ _ => id)) (HD.out.2.2.keep hcW (fun _ _ => id))) belowK_t (belowK_b (by omega)) (Below.refl _ _) (fun _ => rfl)
    (fun pre W => ((∃ v, Boxed W (w.heap.size + 1) 41 v ∧ W.ownsRow w.heap.size 32 9 v (selS p pre).length (credRow (selS p pre)) ∧ True) ∧ Boxed W w.heap.size 69 (.func (.func gf) #[] lb)) ∧ Below w.heap.size w W)
    (fun _ _ _ => False)
    (OwnFrom.and (OwnFrom.and (Own.from (holdsRow_own w.heap.size (w.heap.size + 1) 41 32 9 (fun pre => (selS p pre).length) (fun pre => credRow (selS p pre)) (fun _ _ => True)) _) (Own.from (boxed_own _ _ _) _)) (ownFrom_below (Nat.le_refl _) (by omega)))
    (fun _ _ _ _ _ hs _ _ => hs)
    ⟨⟨⟨_, hLb, World.ownsRow_nil _ _ _ _, trivial⟩, hTk⟩, hB0⟩
    (fun x a' W => ∃ Bx, (w.heap.size < Bx ∧ w.heap.size + 1 < Bx) ∧ W.heap[Bx]? = some (.cells (signBox x.1.c (.slice x.1.ta x.1.tag.length x.1.cap)) 35 (0, 0)) ∧ a' = { tmps := #[.pointer r, (.func (.func gf) #[] lb), undef, .pointer (some ⟨w.heap.size, 0, none⟩), .slice none 0 0, .pointer (some ⟨w.heap.size + 1, 0, none⟩), .pointer (some ⟨Bx, 0, none⟩), .pointer r, .func (.func 41) #[] #[.pointer (some ⟨w.heap.size + 1 + 1, 0, none⟩)], .agg #[.int .i64 x.1.c.kind, .string ⟨x.1.c.head.1.toArray⟩, .string ⟨x.1.c.head.2.toArray⟩, .string ⟨x.1.c.who.toArray⟩, .string ⟨x.1.c.b.1.toArray⟩, .string ⟨x.1.c.b.2.toArray⟩, .string ⟨x.1.c.c.1.toArray⟩, .string ⟨x.1.c.c.2.toArray⟩, .string ⟨x.1.c.w2.toArray⟩, .slice x.1.ta x.1.tag.length x.1.cap], undef, undef, undef, undef, undef, undef, undef, undef, undef, undef], defers := [] })
    (fun x a' _ X Y row hs hg hr => by obtain ⟨Bx, h1, h2, h3⟩ := hs; exact ⟨Bx, h1, cells_own Bx _ _ _ () X Y row h2 hg (fun r e => (hr r e).2), h3⟩)
    ?assign ?body ?done ?stop
  case assign =>
    rintro l pre x W K ⟨⟨⟨v, hv, hrow, _⟩, hbT⟩, hB⟩ hK
    have HK := hid hK
    have HI2 := hid (And.intro hv (And.intro hrow (And.intro hbT hB)))
    have hlt3 : w.heap.size < W.heap.size ∧ w.heap.size + 1 < W.heap.size := ⟨hbT.lt, hv.lt⟩
    clear hK hv hrow hbT hB
    have HLT := hid hlt3
    clear hlt3
    gi_wp2
    exact HK.out _ _ ((KeepsOthers.alloc _ _).from _) ((Below.refl _ W).alloc HI2.out.2.2.2.size _) ⟨⟨⟨v, HI2.out.1.alloc _, HI2.out.2.1.alloc _, trivial⟩, HI2.out.2.2.1.alloc _⟩, HI2.out.2.2.2.alloc HI2.out.2.2.2.size _⟩ ⟨W.heap.size, HLT.out, heap_alloc_new W _, rfl⟩
  case body =>
    rintro l pre x a' W hl ⟨rr, hr⟩ ⟨⟨⟨v, hv, hrow, _⟩, hbT⟩, hB⟩ ⟨Bx, hBx, hbX, rfl⟩ hlt
    have cT := hbT.cell
    obtain ⟨⟨y0, y1, y2, y3, y4, y5, y6, y7, y8⟩, y9⟩ := cred_at_sign hbX
    simp only [Nat.zero_add] at y0 y1 y2 y3 y4 y5 y6 y7 y8
    have hsh : credShort x.1.c 16 := isCred_short (by have := x.2; unfold isSign at this; simp only [Bool.and_eq_true] at this; exact this.1)
    have HT := hid (HTK.out x.1.c W hsh hB)
    have HI2 := hid (And.intro hv (And.intro hrow (And.intro hbT (And.intro hB (And.intro hbX (And.intro hl hr))))))
    clear hv hrow hbT hB hbX hl hr hsh
    have heg := HEG.out
    gi_wp2_with fail
    refine ⟨trivial, ?_⟩
    have hq := HT.out
    unfold credV credBox at hq
    refine (CallsIn.inRound l (callsIn_wide.2 hq)).mono ?_
    clear hq HT heg cT y0 y1 y2 y3 y4 y5 y6 y7 y8 y9
    rintro e W5 ⟨rfl, hc5⟩
    obtain ⟨hv, hrow, hbT, hB, hbX, hl, hr⟩ := HI2.out
    clear HI2
    have hg5 := chg_grown hc5
    have hv5 : Boxed W5 (w.heap.size + 1) 41 v := hv.kept hg5 (by simp)
    have hbT5 : Boxed W5 w.heap.size 69 (.func (.func gf) #[] lb) := hbT.kept hg5 (by simp)
    have hrow5 := ownsRow_keep hrow hc5 (fun _ _ => id)
    have hbX5 := blk_keep hbX hc5 id
    have hB5 := hB.trans (chg_below hc5 hB.size)
    have hk5 : KeepsFrom W0.heap.size W W5 := (KeepsOthers.of_grownBy hg5 (fun j o e => by cases e)).from _
    have hb5 : Below w.heap.size W W5 := chg_below hc5 hB.size
    have hpl := selS_len p pre
    cases hp : p x.1.c with
    | false =>
      have HE := hid (And.intro hk5 (And.intro hb5 (And.intro hv5 (And.intro hrow5 (And.intro hbT5 hB5)))))
      have HP := hid hp
      clear hv hrow hbT hB hbX hl hr hc5 hg5 hv5 hbT5 hrow5 hbX5 hB5 hk5 hb5 hp
      gi_wp2
      exact ⟨HE.out.1, HE.out.2.1, ⟨⟨v, HE.out.2.2.1, by rw [selS_no pre HP.out]; exact HE.out.2.2.2.1, trivial⟩, HE.out.2.2.2.2.1⟩, HE.out.2.2.2.2.2⟩
    | true =>
      have HP := hid hp
      have cL := hv5.cell
      obtain ⟨⟨y0, y1, y2, y3, y4, y5, y6, y7, y8⟩, y9⟩ := cred_at_sign hbX5
      simp only [Nat.zero_add] at y0 y1 y2 y3 y4 y5 y6 y7 y8
      have HE := hid (And.intro hk5 (And.intro hb5 (And.intro hv5 (And.intro hrow5 (And.intro hbT5 (And.intro hB5 hpl))))))
      have hlt2 : pre.length < 256 := by omega
      clear hv hrow hbT hB hbX hl hr hc5 hg5 hv5 hbT5 hrow5 hbX5 hB5 hk5 hb5 hp hpl
      obtain ⟨hi, hz0, hz1, hz2⟩ := HI.out
      have HII := hid (And.intro hi (And.intro hz0 (And.intro hz1 hz2)))
      clear hi hz0 hz1 hz2
      gi_wp2_with (gi_at_builtin; refine wpListIn_append_own _ rfl (.tmp 14) (.tmp 17) 41 rfl w.heap.size 32 i0 (.agg #[.int .i64 0, .string ⟨#[]⟩, .string ⟨#[]⟩, .string ⟨#[]⟩, .string ⟨#[]⟩, .string ⟨#[]⟩, .string ⟨#[]⟩, .string ⟨#[]⟩, .string ⟨#[]⟩]) 9 136 Try.underlying41 HII.out.1 HII.out.2.1 HII.out.2.2.1 HII.out.2.2.2 rfl (by decide) _ _ _ rfl (HE.out.2.2.2.1.alloc _) ⟨W5.heap.size, 0, none⟩ 1 1 (credCells x.1.c) rfl rfl ?c1 ?c2 ?c3 ?c4 ?c5 ?_)
      case c1 => intro j u hj; exact cred_cells_new W5 x.1.c j u hj
      case c2 => intro u hu; simp only [credCells, List.mem_cons, List.not_mem_nil, or_false] at hu; rcases hu with rfl | rfl | rfl | rfl | rfl | rfl | rfl | rfl | rfl <;> rfl
      case c3 => have := HE.out.2.2.2.2.2.2; unfold maxLen; omega
      case c4 => have := HE.out.2.2.2.2.2.2; omega
      case c5 => have := HE.out.2.2.2.2.2.1.size; simp; omega
      intro v' w1 hown' hgrow _
      obtain ⟨g', cap', rfl⟩ := ownsRow_succ hown'
      obtain ⟨hv1, hv2, hr2, hk2, hb2⟩ := HE.out.2.2.1.appended (by decide) HE.out.2.2.2.1 HE.out.2.2.2.2.2.1.size (by omega) hown' hgrow
      have hbT6 := ((HE.out.2.2.2.2.1.alloc _).kept hgrow (HE.out.2.2.2.2.1.not_row (by decide) HE.out.2.2.2.1)).other (B' := w.heap.size + 1) (by omega) (.slice (some ⟨g', 0, none⟩) ((selS p pre).length + 1) cap')
      have c1 := hv1.cell
      have f1 := hv1.frozen
      have HF := hid (And.intro hv2 (And.intro hr2 (And.intro hk2 (And.intro hb2 hbT6))))
      clear hv1 hv2 hr2 hk2 hb2 hbT6 hown' hgrow
      gi_wp2
      exact ⟨HE.out.1.trans (HF.out.2.2.1.from _), HE.out.2.1.trans HF.out.2.2.2.1, ⟨⟨_, HF.out.1, by rw [selS_yes pre HP.out, credRow_snoc, List.length_append]; exact HF.out.2.1, trivial⟩, HF.out.2.2.2.2⟩, HE.out.2.2.2.2.2.1.trans HF.out.2.2.2.1⟩
  case done =>
    rintro D ys W hD hys ⟨⟨⟨v, hv, hrow, _⟩, hbT⟩, hB⟩ hK
    have hc := hv.cell
    gi_wp2
    refine ⟨by simp, .inl ⟨_, _, rfl, run_takeDeferred hK, ?_⟩⟩
    have hsel : selS p ys = (qs.map (·.c)).filter p := by
      have h1 : ys.map (fun y => y.1.c) = (ys.map (fun y => y.1.s)).map (·.c) := by rw [List.map_map]; rfl
      have h2 : qs.map (·.c) = (qs.map EntB.s).map (·.c) := by rw [List.map_map]; rfl
      rw [selS, h1, hys, h2]
    have hsh : ∀ c ∈ selS p ys, credShort c 9223372036854775807 := fun c hc => by
      unfold selS at hc
      obtain ⟨y, _, rfl⟩ := List.mem_map.1 (List.mem_filter.1 hc).1
      have hy := y.2
      unfold isSign at hy
      simp only [Bool.and_eq_true] at hy
      exact short_more (isCred_short hy.1) (by decide)
    have hrow2 := ownsRow_putObj hrow (.deferred none) hK rfl
    obtain ⟨ao2, cap2, rfl⟩ := OwnC.shape (show OwnC w.heap.size W v (selS p ys) from hrow)
    obtain ⟨ao3, cap3, he, hcr⟩ := own_tells hsh (show OwnC w.heap.size _ (.slice ao2 (selS p ys).length cap2) (selS p ys) from hrow2)
    refine ⟨_, results_tmp rfl _ _ _, ⟨ao3, cap3, ?_, by rw [← hsel]; exact hcr⟩, below_chg (hB.trans (belowK_b (w := w) (Nat.le_refl _) W D _ _ (by omega) hK rfl rfl))⟩
    rw [← hsel, ← he]
    rfl
  case stop =>
    rintro D c pre W _ _ h _
    exact h.elim
end Go.Proofs.Ytfpaoaflhbppgaa

/- The vault's lists: of all, of a head, an issuer, a subject, a word. -/
namespace Go.Proofs.Ytfpaoaflhbppgaa
open Go.RowKit

theorem retb9 {a b : Bool} (h : a = b) : Ending.returned (.bool a) = .returned (.bool b) := by rw [h]

theorem pvthoseV {O D : Nat → Prop} (w : World) (g : Nat) (es : List EntB) (m : Int) (h : VAt O D w g (es.map EntB.s) m) (gf : Nat) (lb : Array Value) (p : CredB → Bool) (eg : ∀ args w, (callFunc gf args).run Try.prog w = .ok (.enter gf args) w) (htake : TakeAt gf lb p w) :
    Calls Try.prog 32 #[.pointer (some ⟨g, 0, none⟩), .func (.func gf) #[] lb] w fun e w' => TellsC ((es.map (·.c)).filter p) e w' ∧ Chg (fun _ => False) w w' := by
  obtain ⟨qs, ao, cap, h1, h2, h3, h4, h5, _⟩ := h
  have hm : es.map (·.c) = qs.map (·.c) := by
    have a : es.map (·.c) = (es.map EntB.s).map (·.c) := by rw [List.map_map]; rfl
    have b : qs.map (·.c) = (qs.map EntB.s).map (·.c) := by rw [List.map_map]; rfl
    rw [a, b, h1]
  rw [hm]
  exact pvthose0 gf lb p _ ao qs.length cap qs w rfl h4.most (h4.ents.mono (fun i hi => h5 i hi.1)) (h4.tags.mono (fun i hi => h5 i hi.1)) (fun W hW => pvlist W g m ao qs.length cap (blk_keep h2 hW id)) eg htake

theorem pvthoseNil (w : World) (gf : Nat) (lb : Array Value) (p : CredB → Bool) (eg : ∀ args w, (callFunc gf args).run Try.prog w = .ok (.enter gf args) w) (htake : TakeAt gf lb p w) :
    Calls Try.prog 32 #[.pointer none, .func (.func gf) #[] lb] w fun e w' => TellsC [] e w' ∧ Chg (fun _ => False) w w' :=
  pvthose0 gf lb p none none 0 0 [] w rfl (by decide) (EntsAt.nil _ _ _) (fun _ h => (by cases h)) (fun W _ => pvlistNil W) eg htake

set_option maxRecDepth 100000 in
theorem pvcreds1 (c : CredB) (W : World) : Calls Try.prog 33 #[credV c] W fun e w' => e = .returned (.bool true) ∧ Chg (fun _ => False) W w' := by
  have HC : Hid (∀ o : Obj, Chg (fun _ => False) W (W.alloc o)) := hid (fun o => (Chg.refl _ W).alloc o)
  unfold credV credBox
  go_enter Try.func33, Try.ntmps33
  go_wp2
  go_ret
  exact ⟨rfl, HC.out _⟩

attribute [local go_sem ↓ high] run_eqgRL run_eqlRL in
set_option maxRecDepth 100000 in
set_option maxHeartbeats 2000000 in
theorem pvhead1 (A : Nat) (r : RoleB) (c : CredB) (W : World) (h : W.heap[A]? = some (.cells #[.string ⟨r.1.toArray⟩, .string ⟨r.2.toArray⟩] 30 (0, 0))) :
    Calls Try.prog 38 #[credV c, .pointer (some ⟨A, 0, none⟩)] W fun e w' => e = .returned (.bool (whichC 0 r [] c)) ∧ Chg (fun _ => False) W w' := by
  have q0 := cell_blk h 0
  have q1 := cell_blk h 1
  simp only [List.getElem?_toArray, List.getElem?_cons_zero, List.getElem?_cons_succ] at q0 q1
  have HC : Hid (∀ o : Obj, Chg (fun _ => False) W (W.alloc o)) := hid (fun o => (Chg.refl _ W).alloc o)
  have hlt : A < W.heap.size := lt_blk h
  clear h
  unfold credV credBox
  go_enter Try.func38, Try.ntmps38
  go_wp2
  go_ret
  exact ⟨rfl, HC.out _⟩


set_option maxRecDepth 100000 in
set_option maxHeartbeats 2000000 in
theorem pvissuer1 (A : Nat) (s : List UInt8) (c : CredB) (W : World) (h : Boxed W A 9 (.string ⟨s.toArray⟩)) :
    Calls Try.prog 34 #[credV c, .pointer (some ⟨A, 0, none⟩)] W fun e w' => e = .returned (.bool (whichC 1 ([], []) s c)) ∧ Chg (fun _ => False) W w' := by
  have q0 := h.cell
  have HC : Hid (∀ o : Obj, Chg (fun _ => False) W (W.alloc o)) := hid (fun o => (Chg.refl _ W).alloc o)
  have hlt : A < W.heap.size := h.lt
  clear h
  unfold credV credBox
  go_enter Try.func34, Try.ntmps34
  go_wp2
  all_goals
    go_ret
    exact ⟨retb9 (by simp_all [whichC]), HC.out _⟩


set_option maxRecDepth 100000 in
set_option maxHeartbeats 2000000 in
theorem pvsubject1 (A : Nat) (s : List UInt8) (c : CredB) (W : World) (h : Boxed W A 9 (.string ⟨s.toArray⟩)) :
    Calls Try.prog 39 #[credV c, .pointer (some ⟨A, 0, none⟩)] W fun e w' => e = .returned (.bool (whichC 2 ([], []) s c)) ∧ Chg (fun _ => False) W w' := by
  have q0 := h.cell
  have HC : Hid (∀ o : Obj, Chg (fun _ => False) W (W.alloc o)) := hid (fun o => (Chg.refl _ W).alloc o)
  have hlt : A < W.heap.size := h.lt
  clear h
  unfold credV credBox
  go_enter Try.func39, Try.ntmps39
  cases hk : (c.kind == 1) with
  | true =>
    have hk1 := hid hk
    go_wp2
    all_goals
      go_ret
      exact ⟨retb9 (by have := hk1.out; simp_all [whichC]), HC.out _⟩
  | false =>
    have hk1 := hid hk
    go_wp2
    all_goals
      go_ret
      exact ⟨retb9 (by have := hk1.out; simp_all [whichC]), HC.out _⟩


set_option maxRecDepth 100000 in
set_option maxHeartbeats 2000000 in
theorem pvword1 (A : Nat) (s : List UInt8) (c : CredB) (W : World) (h : Boxed W A 9 (.string ⟨s.toArray⟩)) :
    Calls Try.prog 40 #[credV c, .pointer (some ⟨A, 0, none⟩)] W fun e w' => e = .returned (.bool (whichC 3 ([], []) s c)) ∧ Chg (fun _ => False) W w' := by
  have q0 := h.cell
  have HC : Hid (∀ o : Obj, Chg (fun _ => False) W (W.alloc o)) := hid (fun o => (Chg.refl _ W).alloc o)
  have hlt : A < W.heap.size := h.lt
  clear h
  unfold credV credBox
  go_enter Try.func40, Try.ntmps40
  go_wp2
  all_goals
    go_ret
    exact ⟨retb9 (by simp_all [whichC]), HC.out _⟩

set_option maxRecDepth 100000 in
set_option maxHeartbeats 2000000 in
theorem pvcreds {O D : Nat → Prop} (w : World) (g : Nat) (es : List EntB) (m : Int) (h : VAt O D w g (es.map EntB.s) m) :
    Calls Try.prog 11 #[.pointer (some ⟨g, 0, none⟩)] w fun e w' => TellsC (es.map (·.c)) e w' ∧ Chg (fun _ => False) w w' := by
  have hq := pvthoseV w g es m h 33 #[] (fun _ => true) (enters_of Try.func33 (by kernel_rfl) rfl) (fun c W _ _ => pvcreds1 c W)
  rw [List.filter_eq_self.2 (fun _ _ => rfl)] at hq
  have HQ := hid hq
  have HC : Hid (Chg (fun _ => False) w w) := hid (Chg.refl _ w)
  clear hq h
  go_enter Try.func11, Try.ntmps11
  go_wp2_with fail
  refine HQ.out.mono ?_
  clear HQ
  rintro e w2 ⟨⟨ao, cap, rfl, hcr⟩, hc⟩
  have HE := hid (And.intro hcr (HC.out.trans hc (fun _ _ h => h)))
  clear hcr hc
  go_wp2
  go_ret
  exact ⟨⟨ao, cap, (by rw [List.length_map]; rfl), HE.out.1⟩, HE.out.2⟩

set_option maxRecDepth 100000 in
set_option maxHeartbeats 2000000 in
theorem pvcredsNil (w : World) :
    Calls Try.prog 11 #[.pointer none] w fun e w' => (∃ ao cap, e = .returned (.slice ao 0 cap)) ∧ Chg (fun _ => False) w w' := by
  have hq := pvthoseNil w 33 #[] (fun _ => true) (enters_of Try.func33 (by kernel_rfl) rfl) (fun c W _ _ => pvcreds1 c W)
  have HQ := hid hq
  have HC : Hid (Chg (fun _ => False) w w) := hid (Chg.refl _ w)
  clear hq
  go_enter Try.func11, Try.ntmps11
  go_wp2_with fail
  refine HQ.out.mono ?_
  clear HQ
  rintro e w2 ⟨⟨ao, cap, rfl, hcr⟩, hc⟩
  have HE := hid (And.intro hcr (HC.out.trans hc (fun _ _ h => h)))
  clear hcr hc
  go_wp2
  go_ret
  exact ⟨⟨ao, cap, rfl⟩, HE.out.2⟩

set_option maxRecDepth 100000 in
set_option maxHeartbeats 2000000 in
theorem pvhead {O D : Nat → Prop} (w : World) (g : Nat) (es : List EntB) (m : Int) (h : VAt O D w g (es.map EntB.s) m) (r : RoleB) :
    Calls Try.prog 21 #[.pointer (some ⟨g, 0, none⟩), .agg #[.string ⟨r.1.toArray⟩, .string ⟨r.2.toArray⟩]] w fun e w' => TellsC ((es.map (·.c)).filter (whichC 0 r [])) e w' ∧ Chg (fun _ => False) w w' := by
  have hq := pvthoseV (w.alloc (.cells #[.string ⟨r.1.toArray⟩, .string ⟨r.2.toArray⟩] 30)) g es m (h.keep ((Chg.refl (fun _ => False) w).alloc (.cells #[.string ⟨r.1.toArray⟩, .string ⟨r.2.toArray⟩] 30)) (fun _ _ => id)) 38 #[.pointer (some ⟨w.heap.size, 0, none⟩)] (whichC 0 r []) (enters_of Try.func38 (by kernel_rfl) rfl) (fun c W _ hB => pvhead1 w.heap.size r c W (blk_keep (heap_alloc_new w _) (below_chg hB) id))
  have HQ := hid hq
  have HC : Hid (Chg (fun _ => False) w (w.alloc (.cells #[.string ⟨r.1.toArray⟩, .string ⟨r.2.toArray⟩] 30))) := hid ((Chg.refl _ w).alloc _)
  clear hq h
  go_enter Try.func21, Try.ntmps21
  go_wp2_with fail
  refine HQ.out.mono ?_
  clear HQ
  rintro e w2 ⟨⟨ao, cap, rfl, hcr⟩, hc⟩
  have HE := hid (And.intro hcr (HC.out.trans hc (fun _ _ h => h)))
  clear hcr hc
  go_wp2
  go_ret
  exact ⟨⟨ao, cap, rfl, HE.out.1⟩, HE.out.2⟩

set_option maxRecDepth 100000 in
set_option maxHeartbeats 2000000 in
theorem pvissuer {O D : Nat → Prop} (w : World) (g : Nat) (es : List EntB) (m : Int) (h : VAt O D w g (es.map EntB.s) m) (s : List UInt8) :
    Calls Try.prog 12 #[.pointer (some ⟨g, 0, none⟩), .string ⟨s.toArray⟩] w fun e w' => TellsC ((es.map (·.c)).filter (whichC 1 ([], []) s)) e w' ∧ Chg (fun _ => False) w w' := by
  have hq := pvthoseV (w.alloc (.cells #[.string ⟨s.toArray⟩] 9)) g es m (h.keep ((Chg.refl (fun _ => False) w).alloc (.cells #[.string ⟨s.toArray⟩] 9)) (fun _ _ => id)) 34 #[.pointer (some ⟨w.heap.size, 0, none⟩)] (whichC 1 ([], []) s) (enters_of Try.func34 (by kernel_rfl) rfl) (fun c W _ hB => pvissuer1 w.heap.size s c W ((Boxed.new w _ _).kept (chg_grown (below_chg hB)) (by simp)))
  have HQ := hid hq
  have HC : Hid (Chg (fun _ => False) w (w.alloc (.cells #[.string ⟨s.toArray⟩] 9))) := hid ((Chg.refl _ w).alloc _)
  clear hq h
  go_enter Try.func12, Try.ntmps12
  go_wp2_with fail
  refine HQ.out.mono ?_
  clear HQ
  rintro e w2 ⟨⟨ao, cap, rfl, hcr⟩, hc⟩
  have HE := hid (And.intro hcr (HC.out.trans hc (fun _ _ h => h)))
  clear hcr hc
  go_wp2
  go_ret
  exact ⟨⟨ao, cap, rfl, HE.out.1⟩, HE.out.2⟩

set_option maxRecDepth 100000 in
set_option maxHeartbeats 2000000 in
theorem pvissuerNil (w : World) (s : List UInt8) :
    Calls Try.prog 12 #[.pointer none, .string ⟨s.toArray⟩] w fun e w' => (∃ ao cap, e = .returned (.slice ao 0 cap)) ∧ Chg (fun _ => False) w w' := by
  have hq := pvthoseNil (w.alloc (.cells #[.string ⟨s.toArray⟩] 9)) 34 #[.pointer (some ⟨w.heap.size, 0, none⟩)] (whichC 1 ([], []) s) (enters_of Try.func34 (by kernel_rfl) rfl) (fun c W _ hB => pvissuer1 w.heap.size s c W ((Boxed.new w _ _).kept (chg_grown (below_chg hB)) (by simp)))
  have HQ := hid hq
  have HC : Hid (Chg (fun _ => False) w (w.alloc (.cells #[.string ⟨s.toArray⟩] 9))) := hid ((Chg.refl _ w).alloc _)
  clear hq
  go_enter Try.func12, Try.ntmps12
  go_wp2_with fail
  refine HQ.out.mono ?_
  clear HQ
  rintro e w2 ⟨⟨ao, cap, rfl, hcr⟩, hc⟩
  have HE := hid (And.intro hcr (HC.out.trans hc (fun _ _ h => h)))
  clear hcr hc
  go_wp2
  go_ret
  exact ⟨⟨ao, cap, rfl⟩, HE.out.2⟩

set_option maxRecDepth 100000 in
set_option maxHeartbeats 2000000 in
theorem pvsubject {O D : Nat → Prop} (w : World) (g : Nat) (es : List EntB) (m : Int) (h : VAt O D w g (es.map EntB.s) m) (s : List UInt8) :
    Calls Try.prog 23 #[.pointer (some ⟨g, 0, none⟩), .string ⟨s.toArray⟩] w fun e w' => TellsC ((es.map (·.c)).filter (whichC 2 ([], []) s)) e w' ∧ Chg (fun _ => False) w w' := by
  have hq := pvthoseV (w.alloc (.cells #[.string ⟨s.toArray⟩] 9)) g es m (h.keep ((Chg.refl (fun _ => False) w).alloc (.cells #[.string ⟨s.toArray⟩] 9)) (fun _ _ => id)) 39 #[.pointer (some ⟨w.heap.size, 0, none⟩)] (whichC 2 ([], []) s) (enters_of Try.func39 (by kernel_rfl) rfl) (fun c W _ hB => pvsubject1 w.heap.size s c W ((Boxed.new w _ _).kept (chg_grown (below_chg hB)) (by simp)))
  have HQ := hid hq
  have HC : Hid (Chg (fun _ => False) w (w.alloc (.cells #[.string ⟨s.toArray⟩] 9))) := hid ((Chg.refl _ w).alloc _)
  clear hq h
  go_enter Try.func23, Try.ntmps23
  go_wp2_with fail
  refine HQ.out.mono ?_
  clear HQ
  rintro e w2 ⟨⟨ao, cap, rfl, hcr⟩, hc⟩
  have HE := hid (And.intro hcr (HC.out.trans hc (fun _ _ h => h)))
  clear hcr hc
  go_wp2
  go_ret
  exact ⟨⟨ao, cap, rfl, HE.out.1⟩, HE.out.2⟩

set_option maxRecDepth 100000 in
set_option maxHeartbeats 2000000 in
theorem pvword {O D : Nat → Prop} (w : World) (g : Nat) (es : List EntB) (m : Int) (h : VAt O D w g (es.map EntB.s) m) (s : List UInt8) :
    Calls Try.prog 24 #[.pointer (some ⟨g, 0, none⟩), .string ⟨s.toArray⟩] w fun e w' => TellsC ((es.map (·.c)).filter (whichC 3 ([], []) s)) e w' ∧ Chg (fun _ => False) w w' := by
  have hq := pvthoseV (w.alloc (.cells #[.string ⟨s.toArray⟩] 9)) g es m (h.keep ((Chg.refl (fun _ => False) w).alloc (.cells #[.string ⟨s.toArray⟩] 9)) (fun _ _ => id)) 40 #[.pointer (some ⟨w.heap.size, 0, none⟩)] (whichC 3 ([], []) s) (enters_of Try.func40 (by kernel_rfl) rfl) (fun c W _ hB => pvword1 w.heap.size s c W ((Boxed.new w _ _).kept (chg_grown (below_chg hB)) (by simp)))
  have HQ := hid hq
  have HC : Hid (Chg (fun _ => False) w (w.alloc (.cells #[.string ⟨s.toArray⟩] 9))) := hid ((Chg.refl _ w).alloc _)
  clear hq h
  go_enter Try.func24, Try.ntmps24
  go_wp2_with fail
  refine HQ.out.mono ?_
  clear HQ
  rintro e w2 ⟨⟨ao, cap, rfl, hcr⟩, hc⟩
  have HE := hid (And.intro hcr (HC.out.trans hc (fun _ _ h => h)))
  clear hcr hc
  go_wp2
  go_ret
  exact ⟨⟨ao, cap, rfl, HE.out.1⟩, HE.out.2⟩
end Go.Proofs.Ytfpaoaflhbppgaa

/- The landed program's vault keeps all the contracts that the law asks. -/
namespace Go.Proofs.Ytfpaoaflhbppgaa
open Go.RowKit

theorem vault_vk : VK VAt where
  keep := fun h hc hS => h.keep hc hS
  low := fun h => h.low
  new := fun D w m h1 h2 _ => pvnew (D := D) w m h1 h2
  newBad := fun w m h => pvnewBad w m h
  getNil := fun w => pvgetNil w
  addNil := fun c v w => pvaddNil c v w
  dropNil := fun c w => pvdropNil c w
  lenNil := fun w => pvlenNil w
  roomNil := fun w => pvroomNil w
  credsNil := fun w => pvcredsNil w
  issuerNil := fun s w => pvissuerNil w s
  cloneNil := fun w => pvcloneNil w
  clone := fun w g m h => pvclone w g m h
  add := fun w g es m s h hD _ hs ht hb => pvadd w g es m s h hD hs ht hb
  drop := fun w g es m c h _ _ hs => pvdrop w g es m c h hs
  get := fun w g es m c h _ hs => pvget w g es m c h hs
  len := fun w g es m h => pvlen w g es m h
  room := fun w g es m h h1 h2 h3 => pvroom w g es m h h1 h2 h3
  creds := fun w g es m h _ => pvcreds w g es m h
  head := fun w g es m r h _ _ _ => pvhead w g es m h r
  issuer := fun w g es m s h _ _ => pvissuer w g es m h s
  subject := fun w g es m s h _ _ => pvsubject w g es m h s
  word := fun w g es m s h _ _ => pvword w g es m h s
end Go.Proofs.Ytfpaoaflhbppgaa
