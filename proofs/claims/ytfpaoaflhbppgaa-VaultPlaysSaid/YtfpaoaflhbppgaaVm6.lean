/- Texts that the proof leans on, in one: RefVDrop, RefSigned, RefVAdd. -/
import Derived.Test.YtfpaoaflhbppgaaVm5
import Derived.Test.YtfpaoaflhbppgaaVm4
import Derived.Test.YtfpaoaflhbppgaaVm2
import Derived.Test.YtfpaoaflhbppgaaVm3
/- The contract of the document's Drop, of layer 7. -/
namespace Go.Proofs.Ytfpaoaflhbppgaa
open Go.RowKit
attribute [local go_sem ↓ high] run_neqgL run_neqL

theorem OwnE.low {B A : Nat} {w : World} {v : Value} {ls : List EntB} (h : OwnE B w v ls) (hA : A ≤ B) : OwnE A w v ls := by
  rcases h with ⟨h1, h2 | ⟨g, cap, cur, h3, h4, h5⟩⟩
  · exact ⟨h1, .inl h2⟩
  · exact ⟨h1, .inr ⟨g, cap, cur, h3, Nat.le_trans hA h4, h5⟩⟩

/-- The two cells of a vault, stored one by one. -/
def setVault (w : World) (b : Nat) (v : Value) (m : Int) : World := (w.setCell ⟨b, 0, none⟩ v).setCell ⟨b, 1, none⟩ (.int .i64 m)
theorem setVault_chg (w : World) (b : Nat) (v : Value) (m : Int) : Chg (· = b) w (setVault w b v m) := (setCell_chg w b 0 v).trans (setCell_chg _ b 1 _) (fun _ _ h => h)
theorem setVault_blk {w : World} {b : Nat} {x y : Value} (v : Value) (m : Int) {ty : TypeId} {f : Nat × Nat} (h : w.heap[b]? = some (.cells #[x, y] ty f)) : (setVault w b v m).heap[b]? = some (.cells #[v, .int .i64 m] ty f) := by
  have h0 := set_blk h 0 v
  have h1 := set_blk h0 1 (.int .i64 m)
  unfold setVault
  simpa using h1

set_option maxRecDepth 100000 in
set_option maxHeartbeats 4000000 in
theorem rvdrop_any {D : Nat → Prop} (ao : Option Addr) (cap : Nat) (ls : List EntB) (most : Int) (c : CredB) (w : World) (hn : ls.length ≤ 4194304) (h : EntsAt D w ao ls) (hm : ao = none → cap = 0) :
    Calls Try.prog 16 #[vaultV ao ls.length cap most, credV c] w fun e w' => ∃ ao' cap', e = .returned (.tuple #[vaultV ao' (dropV ls c).length cap' most, .int .i64 (dropErr ls c)]) ∧ EntsAt (fun b => D b ∨ w.heap.size ≤ b ∧ b < w'.heap.size) w' ao' (dropV ls c) ∧ (ao' = none → cap' = 0) ∧ Chg (fun _ => False) w w' := by
  obtain ⟨i0, hi, hz0, hz1, hz2⟩ := info_parts Try.info35
  have hA : (((w.alloc (.cells #[.slice ao ls.length cap, .int .i64 most] 47)).alloc (.cells #[.int .i64 c.kind, .string ⟨c.head.1.toArray⟩, .string ⟨c.head.2.toArray⟩, .string ⟨c.who.toArray⟩, .string ⟨c.b.1.toArray⟩, .string ⟨c.b.2.toArray⟩, .string ⟨c.c.1.toArray⟩, .string ⟨c.c.2.toArray⟩, .string ⟨c.w2.toArray⟩] 32)).alloc (.cells #[.slice none 0 0, .int .i64 0] 47)).heap[w.heap.size]? = some (.cells #[.slice ao ls.length cap, .int .i64 most] 47 (0, 0)) := blk_keep (heap_alloc_new w _) (((Chg.refl (fun _ => False) _).alloc _).alloc _) id
  have hC : (((w.alloc (.cells #[.slice ao ls.length cap, .int .i64 most] 47)).alloc (.cells #[.int .i64 c.kind, .string ⟨c.head.1.toArray⟩, .string ⟨c.head.2.toArray⟩, .string ⟨c.who.toArray⟩, .string ⟨c.b.1.toArray⟩, .string ⟨c.b.2.toArray⟩, .string ⟨c.c.1.toArray⟩, .string ⟨c.c.2.toArray⟩, .string ⟨c.w2.toArray⟩] 32)).alloc (.cells #[.slice none 0 0, .int .i64 0] 47)).heap[w.heap.size + 1]? = some (.cells (credBox c) 32 (0, 0)) := by
    have := blk_keep (heap_alloc_new (w.alloc (.cells #[.slice ao ls.length cap, .int .i64 most] 47)) (.cells #[.int .i64 c.kind, .string ⟨c.head.1.toArray⟩, .string ⟨c.head.2.toArray⟩, .string ⟨c.who.toArray⟩, .string ⟨c.b.1.toArray⟩, .string ⟨c.b.2.toArray⟩, .string ⟨c.c.1.toArray⟩, .string ⟨c.c.2.toArray⟩, .string ⟨c.w2.toArray⟩] 32)) ((Chg.refl (fun _ => False) _).alloc (.cells #[.slice none 0 0, .int .i64 0] 47)) id
    rw [World.size_alloc] at this
    exact this
  have hR : (((w.alloc (.cells #[.slice ao ls.length cap, .int .i64 most] 47)).alloc (.cells #[.int .i64 c.kind, .string ⟨c.head.1.toArray⟩, .string ⟨c.head.2.toArray⟩, .string ⟨c.who.toArray⟩, .string ⟨c.b.1.toArray⟩, .string ⟨c.b.2.toArray⟩, .string ⟨c.c.1.toArray⟩, .string ⟨c.c.2.toArray⟩, .string ⟨c.w2.toArray⟩] 32)).alloc (.cells #[.slice none 0 0, .int .i64 0] 47)).heap[w.heap.size + 1 + 1]? = some (.cells #[.slice none 0 0, .int .i64 0] 47 (0, 0)) := by
    have := heap_alloc_new ((w.alloc (.cells #[.slice ao ls.length cap, .int .i64 most] 47)).alloc (.cells #[.int .i64 c.kind, .string ⟨c.head.1.toArray⟩, .string ⟨c.head.2.toArray⟩, .string ⟨c.who.toArray⟩, .string ⟨c.b.1.toArray⟩, .string ⟨c.b.2.toArray⟩, .string ⟨c.c.1.toArray⟩, .string ⟨c.c.2.toArray⟩, .string ⟨c.w2.toArray⟩] 32)) (.cells #[.slice none 0 0, .int .i64 0] 47)
    rw [World.size_alloc, World.size_alloc] at this
    exact this
  have hc : Chg (fun _ => False) w (((w.alloc (.cells #[.slice ao ls.length cap, .int .i64 most] 47)).alloc (.cells #[.int .i64 c.kind, .string ⟨c.head.1.toArray⟩, .string ⟨c.head.2.toArray⟩, .string ⟨c.who.toArray⟩, .string ⟨c.b.1.toArray⟩, .string ⟨c.b.2.toArray⟩, .string ⟨c.c.1.toArray⟩, .string ⟨c.c.2.toArray⟩, .string ⟨c.w2.toArray⟩] 32)).alloc (.cells #[.slice none 0 0, .int .i64 0] 47)) := (((Chg.refl _ w).alloc _).alloc _).alloc _
  have h2 := h.keep hc (fun _ _ => id)
  have HH := hid (And.intro hA (And.intro hC (And.intro hR (And.intro hc h2))))
  have HQ := hid (And.intro h hm)
  clear hA hC hR hc h h2 hm
  show Calls Try.prog 16 #[.agg #[.slice ao ls.length cap, .int .i64 most], .agg #[.int .i64 c.kind, .string ⟨c.head.1.toArray⟩, .string ⟨c.head.2.toArray⟩, .string ⟨c.who.toArray⟩, .string ⟨c.b.1.toArray⟩, .string ⟨c.b.2.toArray⟩, .string ⟨c.c.1.toArray⟩, .string ⟨c.c.2.toArray⟩, .string ⟨c.w2.toArray⟩]] w _
  go_enter Try.func16, Try.ntmps16
  go_wp2
  obtain ⟨hA, hC, hR, hc, h2⟩ := HH.out
  clear HH
  generalize (((w.alloc (.cells #[.slice ao ls.length cap, .int .i64 most] 47)).alloc (.cells #[.int .i64 c.kind, .string ⟨c.head.1.toArray⟩, .string ⟨c.head.2.toArray⟩, .string ⟨c.who.toArray⟩, .string ⟨c.b.1.toArray⟩, .string ⟨c.b.2.toArray⟩, .string ⟨c.c.1.toArray⟩, .string ⟨c.c.2.toArray⟩, .string ⟨c.w2.toArray⟩] 32)).alloc (.cells #[.slice none 0 0, .int .i64 0] 47)) = w2 at *
  generalize hAw : w.heap.size = A at *
  have HB := hid hAw
  clear hAw
  have hc0 := hid hc
  go_loopw [6, 12] (fun v i wr => ∃ (k : Nat) (out : List EntB) (ao' : Option Addr) (cap' : Nat), k ≤ ls.length ∧ i = .int .i64 k ∧ v = .slice ao' out.length cap' ∧ Hid (out = offV (ls.take k) c) ∧ out.length ≤ k ∧ OwnE w2.heap.size wr (.slice ao' out.length cap') out ∧ Chg (fun _ => False) w2 wr) (fun _ i _ => ls.length - (intOf i).toNat)
  case atStart => exact ⟨0, [], none, 0, Nat.zero_le _, rfl, rfl, rfl, Nat.zero_le _, World.ownsRow_nil _ _ _ _, Chg.refl _ _⟩
  case round =>
    obtain ⟨k, out, ao', cap', hk, rfl, rfl, hout, hol, ho, hc3⟩ := hrel
    by_cases hlt : k < ls.length
    · obtain ⟨b, off, rfl, ⟨c0, c1, c2, c3, c4, c5, c6, c7, c8⟩, c9⟩ := (h2.keep hc3 (fun _ _ => id)).cells hlt
      obtain ⟨t, ht⟩ : ∃ t, t = ls[k] := ⟨_, rfl⟩
      rw [← ht] at c0 c1 c2 c3 c4 c5 c6 c7 c8 c9
      have htk : offV (ls.take (k + 1)) c = if eqC t.c c then offV (ls.take k) c else offV (ls.take k) c ++ [t] := by rw [offV_take hlt, ht]
      rw [← hout.out] at htk
      have hA3 := blk_keep hA hc3 id
      have hC3 := blk_keep hC hc3 id
      have a0 := cell_blk hA3 0
      have hS : (wr.alloc (.cells #[.int .i64 t.c.kind, .string ⟨t.c.head.1.toArray⟩, .string ⟨t.c.head.2.toArray⟩, .string ⟨t.c.who.toArray⟩, .string ⟨t.c.b.1.toArray⟩, .string ⟨t.c.b.2.toArray⟩, .string ⟨t.c.c.1.toArray⟩, .string ⟨t.c.c.2.toArray⟩, .string ⟨t.c.w2.toArray⟩, .slice t.ta t.tag.length t.cap] 35)).heap[wr.heap.size]? = some (.cells (signBox t.c (.slice t.ta t.tag.length t.cap)) 35 (0, 0)) := heap_alloc_new wr _
      have hal : Chg (fun _ => False) wr (wr.alloc (.cells #[.int .i64 t.c.kind, .string ⟨t.c.head.1.toArray⟩, .string ⟨t.c.head.2.toArray⟩, .string ⟨t.c.who.toArray⟩, .string ⟨t.c.b.1.toArray⟩, .string ⟨t.c.b.2.toArray⟩, .string ⟨t.c.c.1.toArray⟩, .string ⟨t.c.c.2.toArray⟩, .string ⟨t.c.w2.toArray⟩, .slice t.ta t.tag.length t.cap] 35)) := (Chg.refl _ wr).alloc _
      have hC4 := blk_keep hC3 hal id
      obtain ⟨d0, d1, d2, d3, d4, d5, d6, d7, d8⟩ := cred_at_blk hC4
      obtain ⟨⟨s0, s1, s2, s3, s4, s5, s6, s7, s8⟩, s9⟩ := cred_at_sign hS
      simp only [Nat.zero_add] at d0 d1 d2 d3 d4 d5 d6 d7 d8 s0 s1 s2 s3 s4 s5 s6 s7 s8 s9
      have ho4 := ho.keep hal (fun _ _ => id)
      have hszw := hc3.size
      have HX := hid (And.intro ho4 (And.intro (hc3.trans hal (fun _ _ h => h)) htk))
      clear hA hC hR hc h2 hA3 hC3 hC4 hS hal hc3 ht ho ho4 htk
      cases hq : eqC t.c c with
      | true =>
        have hn2 : Hid (out = offV (ls.take (k + 1)) c) := hid (by rw [HX.out.2.2, if_pos hq])
        go_wp2
        obtain ⟨ho4, hc3, _⟩ := HX.out
        exact ⟨⟨k + 1, out, ao', cap', by omega, by go_num, rfl, hn2, by omega, ho4, hc3⟩, by simp [intOf]; omega⟩
      | false =>
        have hn2 : Hid (out ++ [t] = offV (ls.take (k + 1)) c) := hid (by rw [HX.out.2.2, if_neg (by rw [hq]; decide)])
        go_wp2_with (at_builtin; refine wpList_append_own_at _ rfl (.tmp 20) (.tmp 22) 45 rfl w2.heap.size 35 i0 (.agg #[.int .i64 0, .string ⟨#[]⟩, .string ⟨#[]⟩, .string ⟨#[]⟩, .string ⟨#[]⟩, .string ⟨#[]⟩, .string ⟨#[]⟩, .string ⟨#[]⟩, .string ⟨#[]⟩, .slice none 0 0]) 10 160 Try.underlying45 hi hz0 hz1 hz2 rfl (by decide) _ _ _ rfl (World.ownsRow.alloc HX.out.1 _) ⟨wr.heap.size + 1, 0, none⟩ 1 1 (entCells t) rfl rfl ?c1 ?c2 ?c3 ?c4 ?c5 ?_)
        case c1 => intro j u hj; first | exact hj | (have := ent_cells_new (wr.alloc (.cells #[.int .i64 t.c.kind, .string ⟨t.c.head.1.toArray⟩, .string ⟨t.c.head.2.toArray⟩, .string ⟨t.c.who.toArray⟩, .string ⟨t.c.b.1.toArray⟩, .string ⟨t.c.b.2.toArray⟩, .string ⟨t.c.c.1.toArray⟩, .string ⟨t.c.c.2.toArray⟩, .string ⟨t.c.w2.toArray⟩, .slice t.ta t.tag.length t.cap] 35)) t j u hj; simp only [World.size_alloc] at this; exact this)
        case c2 => exact ent_one _
        case c3 => unfold maxLen; omega
        case c4 => omega
        case c5 => first | omega | (simp; omega)
        intro v' w3 hown hgrow _ hat2
        obtain ⟨ho6, hc6, _⟩ := HX.out
        have hrow : ∀ k, Value.ownBlock (.slice ao' out.length cap') = some k → w2.heap.size ≤ k := fun k hk => (ownsRow_lt ho6 k hk).1
        have ho2 : OwnE w2.heap.size w3 v' (out ++ [t]) := by
          unfold OwnE
          rw [entRow_snoc, List.length_append, List.length_singleton]
          exact hown
        have hc7 : Chg (fun _ => False) w2 w3 := (hc6.alloc _).grown hgrow (fun k e hk => by have := hrow k e; omega)
        obtain ⟨ao5, cap5, hv5⟩ := ho2.shape
        have hl : (out ++ [t]).length = out.length + 1 := by simp
        subst hv5
        have HY := hid (And.intro ho2 hc7)
        clear hown hgrow hat2 hrow ho6 hc6 ho2 hc7 HX
        rw [hl]
        go_wp2
        obtain ⟨ho2, hc7⟩ := HY.out
        go_roundw
        case rel => exact ⟨k + 1, out ++ [t], ao5, cap5, by omega, by go_num, by rw [hl], hn2, by rw [hl]; omega, ho2, hc7⟩
        case measure => simp [intOf]; omega
    · have hk2 : k = ls.length := by omega
      have hout2 : Hid (out = offV ls c) := by
        have := hout.out
        rw [List.take_of_length_le (by omega)] at this
        exact hid this
      have hA3 := blk_keep hA hc3 id
      have hR3 := blk_keep hR hc3 id
      have a0 := cell_blk hA3 0
      have a1 := cell_blk hA3 1
      have r0 := cell_blk hR3 0
      have r1 := cell_blk hR3 1
      have f0 := froz_blk hR3 0
      have f1 := froz_blk hR3 1
      have g0 := froz_blk hA3 0
      have g1 := froz_blk hA3 1
      simp only [List.getElem?_toArray, List.getElem?_cons_zero, List.getElem?_cons_succ] at a0 a1 r0 r1
      have hAw := HB.out
      have hRl := lt_blk hR
      have hwr := hc0.out.trans hc3 (fun _ _ h => h)
      by_cases he : out.length = ls.length
      · have HF : Hid (dropV ls c = ls ∧ dropErr ls c = 42) := hid (by
          rw [hout2.out] at he
          exact ⟨by rw [dropV, if_pos he], by rw [dropErr, if_pos he]⟩)
        have hset := setVault_blk (.slice ao ls.length cap) most hR3
        have hcs := setVault_chg wr (A + 1 + 1) (.slice ao ls.length cap) most
        have hc6 : Chg (fun _ => False) w (setVault wr (A + 1 + 1) (.slice ao ls.length cap) most) := hwr.trans hcs (fun i hi e => by have : i = A + 1 + 1 := e; omega)
        have HH := hid (And.intro hset hc6)
        clear hA hC hR hc h2 hA3 hR3 hc3 hout ho hwr hset hcs hc6 hAw hRl
        go_wp2
        refine bodyPost_ret (results_row_tmp rfl _ _ (A + 1 + 1) _ rfl (run_loadVar_row (P := Try.prog) _ (A + 1 + 1) 47 47 _ (0, 0) _ HH.out.1 Try.underlying47 rfl (by kernel_rfl))) rfl ?_
        rw [HF.out.1, HF.out.2]
        exact ⟨ao, cap, rfl, (HQ.out.1.keep HH.out.2 (fun _ _ => id)).mono (fun _ h => .inl h), HQ.out.2, HH.out.2⟩
      · have HF : Hid (dropV ls c = out ∧ dropErr ls c = 0) := hid (by
          rw [hout2.out] at he ⊢
          exact ⟨by rw [dropV, if_neg he], by rw [dropErr, if_neg he]⟩)
        have hsc := setCell_chg wr A 0 (.slice ao' out.length cap')
        have hA4 := set_blk hA3 0 (.slice ao' out.length cap')
        simp only [List.setIfInBounds_toArray, List.set_cons_zero] at hA4
        have hR4 := blk_keep hR3 hsc (show ¬ A + 1 + 1 = A by omega)
        have x0 := cell_blk hA4 0
        have x1 := cell_blk hA4 1
        have y0 := cell_blk hR4 0
        have y1 := cell_blk hR4 1
        have e0 := froz_blk hR4 0
        have e1 := froz_blk hR4 1
        simp only [List.getElem?_toArray, List.getElem?_cons_zero, List.getElem?_cons_succ] at x0 x1 y0 y1
        have hset := setVault_blk (.slice ao' out.length cap') most hR4
        have hcs := setVault_chg (wr.setCell ⟨A, 0, none⟩ (.slice ao' out.length cap')) (A + 1 + 1) (.slice ao' out.length cap') most
        have hc6 : Chg (fun _ => False) w (setVault (wr.setCell ⟨A, 0, none⟩ (.slice ao' out.length cap')) (A + 1 + 1) (.slice ao' out.length cap') most) := (hwr.trans hsc (fun i hi e => by have : i = A := e; omega)).trans hcs (fun i hi e => by have : i = A + 1 + 1 := e; omega)
        obtain ⟨ao9, cap9, hv9, hes, hz9⟩ := ho.ents
        cases hv9
        have hes2 := (hes.keep hsc (fun i hi e => by have h1 := hi.1; have : i = A := e; omega)).keep hcs (fun i hi e => by have h1 := hi.1; have : i = A + 1 + 1 := e; omega)
        have hszz := hcs.size
        have hszy := hsc.size
        have HH := hid (And.intro hset (And.intro hc6 (And.intro hes2 (And.intro hz9 (And.intro (Nat.le_trans hszy hszz) (show A ≤ w2.heap.size by omega))))))
        clear hA hC hR hc h2 hA3 hR3 hc3 hout ho hwr hset hcs hc6 hAw hRl hsc hA4 hR4 hes hes2 hz9 hszz hszy
        go_wp2
        refine bodyPost_ret (results_row_tmp rfl _ _ (A + 1 + 1) _ rfl (run_loadVar_row (P := Try.prog) _ (A + 1 + 1) 47 47 _ (0, 0) _ HH.out.1 Try.underlying47 rfl (by kernel_rfl))) rfl ?_
        rw [HF.out.1, HF.out.2]
        refine ⟨ao', cap', rfl, HH.out.2.2.1.mono (fun i h => .inr ⟨?_, ?_⟩), HH.out.2.2.2.1, HH.out.2.1⟩
        · have h1 := h.1; have h2 := HH.out.2.2.2.2.2; have h3 := HB.out; omega
        · exact Nat.lt_of_lt_of_le h.2 HH.out.2.2.2.2.1
end Go.Proofs.Ytfpaoaflhbppgaa

/- The contracts of the document's Right, Bytes and Same, of layer 6. -/
namespace Go.Proofs.Ytfpaoaflhbppgaa
open Go.RowKit

set_option maxRecDepth 100000 in
theorem rsright_any (c : CredB) (tag : List UInt8) (ta : Option Addr) (cap : Nat) (w : World) (hs : credShort c 9223372036854775807) (ht : tag.length ≤ 9223372036854775807) :
    Calls Try.prog 36 #[signV c (.slice ta tag.length cap)] w fun e w' => e = .returned (.bool (isSign ⟨c, tag⟩)) ∧ Chg (fun _ => False) w w' := by
  have hA1 : (w.alloc (.cells #[.int .i64 c.kind, .string ⟨c.head.1.toArray⟩, .string ⟨c.head.2.toArray⟩, .string ⟨c.who.toArray⟩, .string ⟨c.b.1.toArray⟩, .string ⟨c.b.2.toArray⟩, .string ⟨c.c.1.toArray⟩, .string ⟨c.c.2.toArray⟩, .string ⟨c.w2.toArray⟩, .slice ta tag.length cap] 35)).heap[w.heap.size]? = some (.cells (signBox c (.slice ta tag.length cap)) 35 (0, 0)) := heap_alloc_new w _
  have hc1 : Chg (fun _ => False) w (w.alloc (.cells #[.int .i64 c.kind, .string ⟨c.head.1.toArray⟩, .string ⟨c.head.2.toArray⟩, .string ⟨c.who.toArray⟩, .string ⟨c.b.1.toArray⟩, .string ⟨c.b.2.toArray⟩, .string ⟨c.c.1.toArray⟩, .string ⟨c.c.2.toArray⟩, .string ⟨c.w2.toArray⟩, .slice ta tag.length cap] 35)) := (Chg.refl _ w).alloc _
  have hrt := cright_ref c (w.alloc (.cells #[.int .i64 c.kind, .string ⟨c.head.1.toArray⟩, .string ⟨c.head.2.toArray⟩, .string ⟨c.who.toArray⟩, .string ⟨c.b.1.toArray⟩, .string ⟨c.b.2.toArray⟩, .string ⟨c.c.1.toArray⟩, .string ⟨c.c.2.toArray⟩, .string ⟨c.w2.toArray⟩, .slice ta tag.length cap] 35)) hs
  have HH := hid (And.intro hrt (And.intro hA1 hc1))
  clear hrt hA1 hc1
  show Calls Try.prog 36 #[.agg #[.int .i64 c.kind, .string ⟨c.head.1.toArray⟩, .string ⟨c.head.2.toArray⟩, .string ⟨c.who.toArray⟩, .string ⟨c.b.1.toArray⟩, .string ⟨c.b.2.toArray⟩, .string ⟨c.c.1.toArray⟩, .string ⟨c.c.2.toArray⟩, .string ⟨c.w2.toArray⟩, .slice ta tag.length cap]] w _
  go_enter Try.func36, Try.ntmps36
  go_wp2_with fail
  obtain ⟨hrt, hA1, hc1⟩ := HH.out
  clear HH
  refine hrt.mono ?_
  rintro e w2 ⟨rfl, hc12⟩
  have hA2 := blk_keep hA1 hc12 id
  have hc2 := hc1.trans hc12 (fun _ _ h => h)
  have z9 := (cred_at_sign hA2).2
  clear hrt hA1 hc1 hc12
  generalize w.heap.size = A at *
  cases hi : isCred c with
  | false =>
    have HF : Hid (isSign ⟨c, tag⟩ = false) := hid (by simp [isSign, hi])
    have HC := hid hc2
    clear hA2 hc2 hi
    go_wp2
    go_ret
    exact ⟨by rw [HF.out]; rfl, HC.out⟩
  | true =>
    by_cases h8 : tag.length = 8
    · have HF : Hid (isSign ⟨c, tag⟩ = true) := hid (by simp [isSign, hi, h8])
      have HC := hid hc2
      have z : ((tag.length : Int) == 8) = true := beq_iff_eq.2 (by omega)
      clear hA2 hc2 hi h8
      go_wp2
      go_ret
      exact ⟨by rw [HF.out]; rfl, HC.out⟩
    · have HF : Hid (isSign ⟨c, tag⟩ = false) := hid (by simp [isSign, hi, h8])
      have HC := hid hc2
      have z : ((tag.length : Int) == 8) = false := beq_eq_false_iff_ne.2 (by omega)
      clear hA2 hc2 hi h8
      go_wp2
      go_ret
      exact ⟨by rw [HF.out]; rfl, HC.out⟩

def rsbSpecs (A : Nat) (c : CredB) (tag : List UInt8) (ta : Option Addr) (cap : Nat) : List Spec := [.any, .eq (.pointer (some ⟨A, 0, none⟩)), .eq (.string ⟨(signBytes ⟨c, tag⟩).toArray⟩), .eq (.pointer (some ⟨A, 0, none⟩)), .eq (credV c), .eq (.string ⟨(credEnc c).toArray⟩), .eq (.pointer (some ⟨A, 9, none⟩)), .eq (.slice ta tag.length cap), .eq (.string ⟨tag.toArray⟩), .eq (.string ⟨(enc tag.length ++ tag).toArray⟩), .eq (.string ⟨(signBytes ⟨c, tag⟩).toArray⟩)]

set_option maxRecDepth 100000 in
set_option maxHeartbeats 2000000 in
/-- Of two that are the same. -/
theorem rssame_yes {D E : Nat → Prop} (c : CredB) (tag : List UInt8) (ta tb : Option Addr) (cap cbp : Nat) (w : World) (h1 : BytesAt D w (.slice ta tag.length cap) tag) (h2 : BytesAt E w (.slice tb tag.length cbp) tag) :
    Calls Try.prog 18 #[signV c (.slice ta tag.length cap), signV c (.slice tb tag.length cbp)] w fun e w' => e = .returned (.bool true) ∧ Chg (fun _ => False) w w' := by
  have hc : Chg (fun _ => False) w ((w.alloc (.cells #[.int .i64 c.kind, .string ⟨c.head.1.toArray⟩, .string ⟨c.head.2.toArray⟩, .string ⟨c.who.toArray⟩, .string ⟨c.b.1.toArray⟩, .string ⟨c.b.2.toArray⟩, .string ⟨c.c.1.toArray⟩, .string ⟨c.c.2.toArray⟩, .string ⟨c.w2.toArray⟩, .slice ta tag.length cap] 35)).alloc (.cells #[.int .i64 c.kind, .string ⟨c.head.1.toArray⟩, .string ⟨c.head.2.toArray⟩, .string ⟨c.who.toArray⟩, .string ⟨c.b.1.toArray⟩, .string ⟨c.b.2.toArray⟩, .string ⟨c.c.1.toArray⟩, .string ⟨c.c.2.toArray⟩, .string ⟨c.w2.toArray⟩, .slice tb tag.length cbp] 35)) := ((Chg.refl _ w).alloc _).alloc _
  have hcv1 := conv_bytes (h1.keep hc (fun _ _ => id))
  have hcv2 := conv_bytes (h2.keep hc (fun _ _ => id))
  have HC := hid hc
  clear hc h1 h2
  show Calls Try.prog 18 #[.agg #[.int .i64 c.kind, .string ⟨c.head.1.toArray⟩, .string ⟨c.head.2.toArray⟩, .string ⟨c.who.toArray⟩, .string ⟨c.b.1.toArray⟩, .string ⟨c.b.2.toArray⟩, .string ⟨c.c.1.toArray⟩, .string ⟨c.c.2.toArray⟩, .string ⟨c.w2.toArray⟩, .slice ta tag.length cap], .agg #[.int .i64 c.kind, .string ⟨c.head.1.toArray⟩, .string ⟨c.head.2.toArray⟩, .string ⟨c.who.toArray⟩, .string ⟨c.b.1.toArray⟩, .string ⟨c.b.2.toArray⟩, .string ⟨c.c.1.toArray⟩, .string ⟨c.c.2.toArray⟩, .string ⟨c.w2.toArray⟩, .slice tb tag.length cbp]] w _
  go_enter Try.func18, Try.ntmps18
  go_wp2
  go_ret
  exact ⟨rfl, HC.out⟩
end Go.Proofs.Ytfpaoaflhbppgaa

/- The contract of the document's Add, of layer 7. -/
namespace Go.Proofs.Ytfpaoaflhbppgaa
open Go.RowKit
attribute [local go_sem ↓ high] run_eqgL run_eqlL

theorem isSign_cred {t : EntB} (h : isSign t.s = true) : isCred t.c = true := by
  simp only [isSign, Bool.and_eq_true] at h
  exact h.1

set_option maxRecDepth 100000 in
set_option maxHeartbeats 8000000 in
theorem rvadd_any {D : Nat → Prop} (ao : Option Addr) (cap : Nat) (ls : List EntB) (most : Int) (s : EntB) (w : World) (hn : ls.length ≤ 4194303) (h : EntsAt D w ao ls) (hm : ao = none → cap = 0) (hall : ∀ t ∈ ls, isSign t.s = true) (hss : credShort s.c 9223372036854775807) (hst : s.tag.length ≤ 9223372036854775807) :
    Calls Try.prog 15 #[vaultV ao ls.length cap most, signV s.c (.slice s.ta s.tag.length s.cap)] w fun e w' => ∃ ao' cap', e = .returned (.tuple #[vaultV ao' (addV ls most s).length cap' most, .int .i64 (addErr ls most s)]) ∧ EntsAt (fun b => D b ∨ w.heap.size ≤ b ∧ b < w'.heap.size) w' ao' (addV ls most s) ∧ (ao' = none → cap' = 0) ∧ Chg (fun _ => False) w w' := by
  obtain ⟨i0, hi, hz0, hz1, hz2⟩ := info_parts Try.info35
  have hA : (((w.alloc (.cells #[.slice ao ls.length cap, .int .i64 most] 47)).alloc (.cells #[.int .i64 s.c.kind, .string ⟨s.c.head.1.toArray⟩, .string ⟨s.c.head.2.toArray⟩, .string ⟨s.c.who.toArray⟩, .string ⟨s.c.b.1.toArray⟩, .string ⟨s.c.b.2.toArray⟩, .string ⟨s.c.c.1.toArray⟩, .string ⟨s.c.c.2.toArray⟩, .string ⟨s.c.w2.toArray⟩, .slice s.ta s.tag.length s.cap] 35)).alloc (.cells #[.slice none 0 0, .int .i64 0] 47)).heap[w.heap.size]? = some (.cells #[.slice ao ls.length cap, .int .i64 most] 47 (0, 0)) := blk_keep (heap_alloc_new w _) (((Chg.refl (fun _ => False) _).alloc _).alloc _) id
  have hC : (((w.alloc (.cells #[.slice ao ls.length cap, .int .i64 most] 47)).alloc (.cells #[.int .i64 s.c.kind, .string ⟨s.c.head.1.toArray⟩, .string ⟨s.c.head.2.toArray⟩, .string ⟨s.c.who.toArray⟩, .string ⟨s.c.b.1.toArray⟩, .string ⟨s.c.b.2.toArray⟩, .string ⟨s.c.c.1.toArray⟩, .string ⟨s.c.c.2.toArray⟩, .string ⟨s.c.w2.toArray⟩, .slice s.ta s.tag.length s.cap] 35)).alloc (.cells #[.slice none 0 0, .int .i64 0] 47)).heap[w.heap.size + 1]? = some (.cells (signBox s.c (.slice s.ta s.tag.length s.cap)) 35 (0, 0)) := by
    have := blk_keep (heap_alloc_new (w.alloc (.cells #[.slice ao ls.length cap, .int .i64 most] 47)) (.cells #[.int .i64 s.c.kind, .string ⟨s.c.head.1.toArray⟩, .string ⟨s.c.head.2.toArray⟩, .string ⟨s.c.who.toArray⟩, .string ⟨s.c.b.1.toArray⟩, .string ⟨s.c.b.2.toArray⟩, .string ⟨s.c.c.1.toArray⟩, .string ⟨s.c.c.2.toArray⟩, .string ⟨s.c.w2.toArray⟩, .slice s.ta s.tag.length s.cap] 35)) ((Chg.refl (fun _ => False) _).alloc (.cells #[.slice none 0 0, .int .i64 0] 47)) id
    rw [World.size_alloc] at this
    exact this
  have hR : (((w.alloc (.cells #[.slice ao ls.length cap, .int .i64 most] 47)).alloc (.cells #[.int .i64 s.c.kind, .string ⟨s.c.head.1.toArray⟩, .string ⟨s.c.head.2.toArray⟩, .string ⟨s.c.who.toArray⟩, .string ⟨s.c.b.1.toArray⟩, .string ⟨s.c.b.2.toArray⟩, .string ⟨s.c.c.1.toArray⟩, .string ⟨s.c.c.2.toArray⟩, .string ⟨s.c.w2.toArray⟩, .slice s.ta s.tag.length s.cap] 35)).alloc (.cells #[.slice none 0 0, .int .i64 0] 47)).heap[w.heap.size + 1 + 1]? = some (.cells #[.slice none 0 0, .int .i64 0] 47 (0, 0)) := by
    have := heap_alloc_new ((w.alloc (.cells #[.slice ao ls.length cap, .int .i64 most] 47)).alloc (.cells #[.int .i64 s.c.kind, .string ⟨s.c.head.1.toArray⟩, .string ⟨s.c.head.2.toArray⟩, .string ⟨s.c.who.toArray⟩, .string ⟨s.c.b.1.toArray⟩, .string ⟨s.c.b.2.toArray⟩, .string ⟨s.c.c.1.toArray⟩, .string ⟨s.c.c.2.toArray⟩, .string ⟨s.c.w2.toArray⟩, .slice s.ta s.tag.length s.cap] 35)) (.cells #[.slice none 0 0, .int .i64 0] 47)
    rw [World.size_alloc, World.size_alloc] at this
    exact this
  have hc : Chg (fun _ => False) w (((w.alloc (.cells #[.slice ao ls.length cap, .int .i64 most] 47)).alloc (.cells #[.int .i64 s.c.kind, .string ⟨s.c.head.1.toArray⟩, .string ⟨s.c.head.2.toArray⟩, .string ⟨s.c.who.toArray⟩, .string ⟨s.c.b.1.toArray⟩, .string ⟨s.c.b.2.toArray⟩, .string ⟨s.c.c.1.toArray⟩, .string ⟨s.c.c.2.toArray⟩, .string ⟨s.c.w2.toArray⟩, .slice s.ta s.tag.length s.cap] 35)).alloc (.cells #[.slice none 0 0, .int .i64 0] 47)) := (((Chg.refl _ w).alloc _).alloc _).alloc _
  have hrt := rsright_any s.c s.tag s.ta s.cap (((w.alloc (.cells #[.slice ao ls.length cap, .int .i64 most] 47)).alloc (.cells #[.int .i64 s.c.kind, .string ⟨s.c.head.1.toArray⟩, .string ⟨s.c.head.2.toArray⟩, .string ⟨s.c.who.toArray⟩, .string ⟨s.c.b.1.toArray⟩, .string ⟨s.c.b.2.toArray⟩, .string ⟨s.c.c.1.toArray⟩, .string ⟨s.c.c.2.toArray⟩, .string ⟨s.c.w2.toArray⟩, .slice s.ta s.tag.length s.cap] 35)).alloc (.cells #[.slice none 0 0, .int .i64 0] 47)) hss hst
  have HH := hid (And.intro hA (And.intro hC (And.intro hR (And.intro hc hrt))))
  have HQ := hid (And.intro h hm)
  obtain ⟨⟨d0, d1, d2, d3, d4, d5, d6, d7, d8⟩, d9⟩ := cred_at_sign hC
  simp only [Nat.zero_add] at d0 d1 d2 d3 d4 d5 d6 d7 d8 d9
  clear hA hC hR hc h hm hrt hss hst
  show Calls Try.prog 15 #[.agg #[.slice ao ls.length cap, .int .i64 most], .agg #[.int .i64 s.c.kind, .string ⟨s.c.head.1.toArray⟩, .string ⟨s.c.head.2.toArray⟩, .string ⟨s.c.who.toArray⟩, .string ⟨s.c.b.1.toArray⟩, .string ⟨s.c.b.2.toArray⟩, .string ⟨s.c.c.1.toArray⟩, .string ⟨s.c.c.2.toArray⟩, .string ⟨s.c.w2.toArray⟩, .slice s.ta s.tag.length s.cap]] w _
  go_enter Try.func15, Try.ntmps15
  go_wp2_with fail
  obtain ⟨hA, hC, hR, hc, hrt⟩ := HH.out
  clear HH d0 d1 d2 d3 d4 d5 d6 d7 d8 d9
  refine hrt.mono ?_
  rintro e w2 ⟨rfl, hc2⟩
  have hA2 := blk_keep hA hc2 id
  have hC2 := blk_keep hC hc2 id
  have hR2 := blk_keep hR hc2 id
  have hcw := hc.trans hc2 (fun _ _ h => h)
  clear hA hC hR hc hrt hc2
  generalize hAw : w.heap.size = A at *
  have HB := hid hAw
  clear hAw
  rw [show isSign (⟨s.c, s.tag⟩ : SignB) = isSign s.s from rfl]
  cases hsg : isSign s.s with
  | false =>
    have HF : Hid (addV ls most s = ls ∧ addErr ls most s = 11) := hid (by
      have e : addErr ls most s = 11 := by rw [addErr, if_neg (by rw [hsg]; decide)]
      exact ⟨by rw [addV, e]; rfl, e⟩)
    have a0 := cell_blk hA2 0
    have a1 := cell_blk hA2 1
    have r0 := cell_blk hR2 0
    have r1 := cell_blk hR2 1
    have f0 := froz_blk hR2 0
    have f1 := froz_blk hR2 1
    simp only [List.getElem?_toArray, List.getElem?_cons_zero, List.getElem?_cons_succ] at a0 a1 r0 r1
    have hAw := HB.out
    have hset := setVault_blk (.slice ao ls.length cap) most hR2
    have hcs := setVault_chg w2 (A + 1 + 1) (.slice ao ls.length cap) most
    have hc6 : Chg (fun _ => False) w (setVault w2 (A + 1 + 1) (.slice ao ls.length cap) most) := hcw.trans hcs (fun i hi e => by have : i = A + 1 + 1 := e; omega)
    have HH := hid (And.intro hset hc6)
    clear hset hcs hc6 hAw hA2 hR2 hcw hC2 hsg
    go_wp2
    refine bodyPost_ret (results_row_tmp rfl _ _ (A + 1 + 1) _ rfl (run_loadVar_row (P := Try.prog) _ (A + 1 + 1) 47 47 _ (0, 0) _ HH.out.1 Try.underlying47 rfl (by kernel_rfl))) rfl ?_
    rw [HF.out.1, HF.out.2]
    exact ⟨ao, cap, rfl, (HQ.out.1.keep HH.out.2 (fun _ _ => id)).mono (fun _ h => .inl h), HQ.out.2, HH.out.2⟩
  | true =>
    have hc0 := hid hcw
    have h2 := HQ.out.1.keep hcw (fun _ _ => id)
    have HK := hid (And.intro hA2 (And.intro hR2 (And.intro hC2 h2)))
    have hHA := hid hall
    replace hsg := hid hsg
    have a0 := cell_blk hA2 0
    simp only [List.getElem?_toArray, List.getElem?_cons_zero] at a0
    clear hcw h2 hall hA2 hC2 hR2
    go_wp2
    clear a0
    go_loopw [6, 7, 17] (fun v dn i wr => ∃ (k : Nat) (out : List EntB) (d : Bool) (ao' : Option Addr) (cap' : Nat), k ≤ ls.length ∧ i = .int .i64 k ∧ v = .slice ao' out.length cap' ∧ dn = .bool d ∧ Hid ((out, d) = insSt s (ls.take k)) ∧ Hid (hasV (ls.take k) s.c = false) ∧ out.length ≤ k + 1 ∧ OwnE w2.heap.size wr (.slice ao' out.length cap') out ∧ Chg (fun _ => False) w2 wr) (fun _ _ i _ => ls.length - (intOf i).toNat)
    case atStart => exact ⟨0, [], false, none, 0, Nat.zero_le _, rfl, rfl, rfl, rfl, rfl, Nat.zero_le _, World.ownsRow_nil _ _ _ _, Chg.refl _ _⟩
    case round =>
      obtain ⟨k, out, d, ao', cap', hk, rfl, rfl, rfl, hout, hnh, hol, ho, hc3⟩ := hrel
      by_cases hlt : k < ls.length
      · obtain ⟨b, off, hao, ⟨c0, c1, c2, c3, c4, c5, c6, c7, c8⟩, c9⟩ := (HK.out.2.2.2.keep hc3 (fun _ _ => id)).cells hlt
        obtain ⟨t, ht⟩ : ∃ t, t = ls[k] := ⟨_, rfl⟩
        rw [← ht] at c0 c1 c2 c3 c4 c5 c6 c7 c8 c9
        subst hao
        have hits : Hid (isCred t.c = true) := hid (isSign_cred (by rw [ht]; exact hHA.out _ (List.getElem_mem hlt)))
        have htk := insSt_take s hlt
        rw [← ht, ← hout.out, insStep] at htk
        have htk2 : eqC t.c s.c = false → hasV (ls.take (k + 1)) s.c = false := fun hq => hasV_take hlt hnh.out (by rw [← ht]; exact hq)
        have htk3 : eqC t.c s.c = true → hasV ls s.c = true := fun hq => hasV_at hlt (by rw [← ht]; exact hq)
        have hA3 := blk_keep HK.out.1 hc3 id
        have hR3 := blk_keep HK.out.2.1 hc3 id
        have hC3 := blk_keep HK.out.2.2.1 hc3 id
        have hS : (wr.alloc (.cells #[.int .i64 t.c.kind, .string ⟨t.c.head.1.toArray⟩, .string ⟨t.c.head.2.toArray⟩, .string ⟨t.c.who.toArray⟩, .string ⟨t.c.b.1.toArray⟩, .string ⟨t.c.b.2.toArray⟩, .string ⟨t.c.c.1.toArray⟩, .string ⟨t.c.c.2.toArray⟩, .string ⟨t.c.w2.toArray⟩, .slice t.ta t.tag.length t.cap] 35)).heap[wr.heap.size]? = some (.cells (signBox t.c (.slice t.ta t.tag.length t.cap)) 35 (0, 0)) := heap_alloc_new wr _
        have hal : Chg (fun _ => False) wr (wr.alloc (.cells #[.int .i64 t.c.kind, .string ⟨t.c.head.1.toArray⟩, .string ⟨t.c.head.2.toArray⟩, .string ⟨t.c.who.toArray⟩, .string ⟨t.c.b.1.toArray⟩, .string ⟨t.c.b.2.toArray⟩, .string ⟨t.c.c.1.toArray⟩, .string ⟨t.c.c.2.toArray⟩, .string ⟨t.c.w2.toArray⟩, .slice t.ta t.tag.length t.cap] 35)) := (Chg.refl _ wr).alloc _
        have hA4 := blk_keep hA3 hal id
        have hR4 := blk_keep hR3 hal id
        have hC4 := blk_keep hC3 hal id
        obtain ⟨⟨d0, d1, d2, d3, d4, d5, d6, d7, d8⟩, d9⟩ := cred_at_sign hC4
        obtain ⟨⟨s0, s1, s2, s3, s4, s5, s6, s7, s8⟩, s9⟩ := cred_at_sign hS
        simp only [Nat.zero_add] at d0 d1 d2 d3 d4 d5 d6 d7 d8 d9 s0 s1 s2 s3 s4 s5 s6 s7 s8 s9
        have ho4 := ho.keep hal (fun _ _ => id)
        have hc4 := hc3.trans hal (fun _ _ h => h)
        have hszw := hc3.size
        have hql : Hid (∀ q, Value.ownBlock (.slice ao' out.length cap') = some q → q < wr.heap.size) := hid (fun q hq => (ownsRow_lt ho q hq).2)
        have HX := hid (And.intro ho4 (And.intro hc4 (And.intro hS (And.intro hC4 (And.intro hA4 hR4)))))
        have HT := hid (And.intro htk (And.intro htk2 htk3))
        clear hS hC4 hA4 hR4 ho4 hc4 htk htk2 htk3 hA3 hR3 hC3 hal hc3 ho ht
        cases hq : eqC t.c s.c with
        | true =>
          have HF : Hid (addV ls most s = ls ∧ addErr ls most s = 41) := hid (by
            have e : addErr ls most s = 41 := by rw [addErr, if_pos hsg.out, if_pos (HT.out.2.2 hq)]
            exact ⟨by rw [addV, e]; rfl, e⟩)
          have a0 := cell_blk HX.out.2.2.2.2.1 0
          have a1 := cell_blk HX.out.2.2.2.2.1 1
          have r0 := cell_blk HX.out.2.2.2.2.2 0
          have r1 := cell_blk HX.out.2.2.2.2.2 1
          have f0 := froz_blk HX.out.2.2.2.2.2 0
          have f1 := froz_blk HX.out.2.2.2.2.2 1
          simp only [List.getElem?_toArray, List.getElem?_cons_zero, List.getElem?_cons_succ] at a0 a1 r0 r1
          have hAw := HB.out
          have hset := setVault_blk (.slice (some ⟨b, off, none⟩) ls.length cap) most HX.out.2.2.2.2.2
          have hcs := setVault_chg (wr.alloc (.cells #[.int .i64 t.c.kind, .string ⟨t.c.head.1.toArray⟩, .string ⟨t.c.head.2.toArray⟩, .string ⟨t.c.who.toArray⟩, .string ⟨t.c.b.1.toArray⟩, .string ⟨t.c.b.2.toArray⟩, .string ⟨t.c.c.1.toArray⟩, .string ⟨t.c.c.2.toArray⟩, .string ⟨t.c.w2.toArray⟩, .slice t.ta t.tag.length t.cap] 35)) (A + 1 + 1) (.slice (some ⟨b, off, none⟩) ls.length cap) most
          have hc6 : Chg (fun _ => False) w (setVault (wr.alloc (.cells #[.int .i64 t.c.kind, .string ⟨t.c.head.1.toArray⟩, .string ⟨t.c.head.2.toArray⟩, .string ⟨t.c.who.toArray⟩, .string ⟨t.c.b.1.toArray⟩, .string ⟨t.c.b.2.toArray⟩, .string ⟨t.c.c.1.toArray⟩, .string ⟨t.c.c.2.toArray⟩, .string ⟨t.c.w2.toArray⟩, .slice t.ta t.tag.length t.cap] 35)) (A + 1 + 1) (.slice (some ⟨b, off, none⟩) ls.length cap) most) := (hc0.out.trans HX.out.2.1 (fun _ _ h => h)).trans hcs (fun i hi e => by have : i = A + 1 + 1 := e; omega)
          have HH := hid (And.intro hset hc6)
          clear hset hcs hc6 hAw HT
          go_wp2
          refine bodyPost_ret (results_row_tmp rfl _ _ (A + 1 + 1) _ rfl (run_loadVar_row (P := Try.prog) _ (A + 1 + 1) 47 47 _ (0, 0) _ HH.out.1 Try.underlying47 rfl (by kernel_rfl))) rfl ?_
          rw [HF.out.1, HF.out.2]
          exact ⟨(some ⟨b, off, none⟩), cap, rfl, (HQ.out.1.keep HH.out.2 (fun _ _ => id)).mono (fun _ h => .inl h), HQ.out.2, HH.out.2⟩
        | false =>
          have hnh2 := hid (HT.out.2.1 hq)
          cases d with
          | true =>
            have hn2 : Hid ((out ++ [t], true) = insSt s (ls.take (k + 1))) := hid (by rw [HT.out.1, if_neg (by simp)])
            clear HT
            go_wp2_with (at_builtin; refine wpList_append_own_at _ rfl (.tmp 41) (.tmp 43) 45 rfl w2.heap.size 35 i0 (.agg #[.int .i64 0, .string ⟨#[]⟩, .string ⟨#[]⟩, .string ⟨#[]⟩, .string ⟨#[]⟩, .string ⟨#[]⟩, .string ⟨#[]⟩, .string ⟨#[]⟩, .string ⟨#[]⟩, .slice none 0 0]) 10 160 Try.underlying45 hi hz0 hz1 hz2 rfl (by decide) _ _ _ rfl (World.ownsRow.alloc HX.out.1 _) ⟨wr.heap.size + 1, 0, none⟩ 1 1 (entCells t) rfl rfl ?c1d ?c2d ?c3d ?c4d ?c5d ?_)
            case c1d => intro j u hj; first | exact hj | exact ent_cells_new (wr.alloc (.cells #[.int .i64 t.c.kind, .string ⟨t.c.head.1.toArray⟩, .string ⟨t.c.head.2.toArray⟩, .string ⟨t.c.who.toArray⟩, .string ⟨t.c.b.1.toArray⟩, .string ⟨t.c.b.2.toArray⟩, .string ⟨t.c.c.1.toArray⟩, .string ⟨t.c.c.2.toArray⟩, .string ⟨t.c.w2.toArray⟩, .slice t.ta t.tag.length t.cap] 35)) t j u hj | (have := ent_cells_new (wr.alloc (.cells #[.int .i64 t.c.kind, .string ⟨t.c.head.1.toArray⟩, .string ⟨t.c.head.2.toArray⟩, .string ⟨t.c.who.toArray⟩, .string ⟨t.c.b.1.toArray⟩, .string ⟨t.c.b.2.toArray⟩, .string ⟨t.c.c.1.toArray⟩, .string ⟨t.c.c.2.toArray⟩, .string ⟨t.c.w2.toArray⟩, .slice t.ta t.tag.length t.cap] 35)) t j u hj; simp only [World.size_alloc] at this; exact this)
            case c2d => exact ent_one _
            case c3d => unfold maxLen; omega
            case c4d => omega
            case c5d => first | omega | (simp; omega)
            intro v' w7 hown hgrow _ hat2
            have hrow : ∀ k, Value.ownBlock (.slice ao' out.length cap') = some k → w2.heap.size ≤ k := fun k hk => (ownsRow_lt HX.out.1 k hk).1
            have ho_w7 : OwnE w2.heap.size w7 v' (out ++ [t]) := by
              unfold OwnE
              rw [entRow_snoc, List.length_append, List.length_singleton]
              exact hown
            have hc_w7 : Chg (fun _ => False) w2 w7 := (HX.out.2.1.alloc _).grown hgrow (fun k e hk => by have := hrow k e; omega)
            obtain ⟨ao5, cap5, hv5⟩ := ho_w7.shape
            subst hv5
            clear hown hgrow hat2 hrow
            have hl : (out ++ [t]).length = out.length + 1 := by simp
            have HY := hid (And.intro ho_w7 hc_w7)
            clear ho_w7 hc_w7 HX
            rw [hl]
            go_wp2
            obtain ⟨ho2, hc7⟩ := HY.out
            go_roundw
            case rel => exact ⟨k + 1, out ++ [t], true, ao5, cap5, by omega, by go_num, by rw [hl], by first | trivial | rfl, hn2, hnh2, by rw [hl]; omega, ho2, hc7⟩
            case measure => simp [intOf]; omega
          | false =>
            have hok : out.length ≤ k := by have := insSt_no hout.out; rw [List.length_take] at this; omega
            have hcm := fun w5 => ccompare_ref s.c t.c w5 ((isCred_short (isSign_cred hsg.out)).mono (by omega)) ((isCred_short hits.out).mono (by omega))
            have HM := hid hcm
            clear hcm
            go_wp2_with fail
            refine (HM.out _).mono ?_
            rintro e w5 ⟨rfl, hc5⟩
            obtain ⟨ho4, hc4, hS, hC4, hA4, hR4⟩ := HX.out
            have ho5 := ho4.keep hc5 (fun _ _ => id)
            have hcw5 := hc4.trans hc5 (fun _ _ h => h)
            have hS5 := blk_keep hS hc5 id
            have hC5 := blk_keep hC4 hc5 id
            have HX5 := hid (And.intro ho5 hcw5)
            have hsz5 := hcw5.size
            clear ho4 hc4 hS hC4 hA4 hR4 ho5 hcw5 hc5 HM HX d0 d1 d2 d3 d4 d5 d6 d7 d8 d9 s0 s1 s2 s3 s4 s5 s6 s7 s8 s9 c0 c1 c2 c3 c4 c5 c6 c7 c8 c9
            obtain ⟨⟨s0, s1, s2, s3, s4, s5, s6, s7, s8⟩, s9⟩ := cred_at_sign hS5
            simp only [Nat.zero_add] at s0 s1 s2 s3 s4 s5 s6 s7 s8 s9
            by_cases hlt0 : cmpC s.c t.c < 0
            · have hn2 : Hid ((out ++ [s] ++ [t], true) = insSt s (ls.take (k + 1))) := hid (by rw [HT.out.1]; simp [hlt0])
              obtain ⟨⟨d0, d1, d2, d3, d4, d5, d6, d7, d8⟩, d9⟩ := cred_at_sign hC5
              simp only [Nat.zero_add] at d0 d1 d2 d3 d4 d5 d6 d7 d8 d9
              have HS5 := hid (And.intro hS5 hC5)
              have hz : decide (cmpC s.c t.c < 0) = true := decide_eq_true hlt0
              clear HT hS5 hC5
              go_wp2_with (at_builtin; refine wpList_append_own_at _ rfl (.tmp 37) (.tmp 39) 45 rfl w2.heap.size 35 i0 (.agg #[.int .i64 0, .string ⟨#[]⟩, .string ⟨#[]⟩, .string ⟨#[]⟩, .string ⟨#[]⟩, .string ⟨#[]⟩, .string ⟨#[]⟩, .string ⟨#[]⟩, .string ⟨#[]⟩, .slice none 0 0]) 10 160 Try.underlying45 hi hz0 hz1 hz2 rfl (by decide) _ _ _ rfl (World.ownsRow.alloc HX5.out.1 _) ⟨w5.heap.size, 0, none⟩ 1 1 (entCells s) rfl rfl ?c1f ?c2f ?c3f ?c4f ?c5f ?_)
              case c1f => intro j u hj; first | exact hj | exact ent_cells_new w5 s j u hj | (have := ent_cells_new w5 s j u hj; simp only [World.size_alloc] at this; exact this)
              case c2f => exact ent_one _
              case c3f => unfold maxLen; omega
              case c4f => omega
              case c5f => first | omega | (simp; omega)
              intro v' w6 hown hgrow _ hat2
              have hrow : ∀ k, Value.ownBlock (.slice ao' out.length cap') = some k → w2.heap.size ≤ k := fun k hk => (ownsRow_lt HX5.out.1 k hk).1
              have ho_w6 : OwnE w2.heap.size w6 v' (out ++ [s]) := by
                unfold OwnE
                rw [entRow_snoc, List.length_append, List.length_singleton]
                exact hown
              have hc_w6 : Chg (fun _ => False) w2 w6 := (HX5.out.2.alloc _).grown hgrow (fun k e hk => by have := hrow k e; omega)
              have HG6 := ((Chg.refl (fun k => some k = Value.ownBlock (.slice ao' out.length cap')) _).alloc _).grown hgrow (fun k e _ => e.symm)
              obtain ⟨ao6, cap6, hv5⟩ := ho_w6.shape
              subst hv5
              clear hown hgrow hat2 hrow
              have hol6 : (out ++ [s]).length ≤ k + 1 := by simp; omega
              have hS6 := blk_keep HS5.out.1 HG6 (fun e => by have := hql.out _ e.symm; omega)
              generalize hg6 : out ++ [s] = o6 at *
              have HX6 := hid (And.intro ho_w6 hc_w6)
              have hsz6 := hc_w6.size
              clear HS5 HX5 HG6 hg6 ho_w6 hc_w6 s0 s1 s2 s3 s4 s5 s6 s7 s8 s9 d0 d1 d2 d3 d4 d5 d6 d7 d8 d9
              obtain ⟨⟨s0, s1, s2, s3, s4, s5, s6, s7, s8⟩, s9⟩ := cred_at_sign hS6
              simp only [Nat.zero_add] at s0 s1 s2 s3 s4 s5 s6 s7 s8 s9
              clear hS6
              go_wp2_with (at_builtin; refine wpList_append_own_at _ rfl (.tmp 41) (.tmp 43) 45 rfl w2.heap.size 35 i0 (.agg #[.int .i64 0, .string ⟨#[]⟩, .string ⟨#[]⟩, .string ⟨#[]⟩, .string ⟨#[]⟩, .string ⟨#[]⟩, .string ⟨#[]⟩, .string ⟨#[]⟩, .string ⟨#[]⟩, .slice none 0 0]) 10 160 Try.underlying45 hi hz0 hz1 hz2 rfl (by decide) _ _ _ rfl (World.ownsRow.alloc HX6.out.1 _) ⟨w6.heap.size, 0, none⟩ 1 1 (entCells t) rfl rfl ?c1g ?c2g ?c3g ?c4g ?c5g ?_)
              case c1g => intro j u hj; first | exact hj | exact ent_cells_new w6 t j u hj | (have := ent_cells_new w6 t j u hj; simp only [World.size_alloc] at this; exact this)
              case c2g => exact ent_one _
              case c3g => unfold maxLen; omega
              case c4g => omega
              case c5g => first | omega | (simp; omega)
              intro v' w7 hown hgrow _ hat2
              have hrow : ∀ k, Value.ownBlock (.slice ao6 o6.length cap6) = some k → w2.heap.size ≤ k := fun k hk => (ownsRow_lt HX6.out.1 k hk).1
              have ho_w7 : OwnE w2.heap.size w7 v' (o6 ++ [t]) := by
                unfold OwnE
                rw [entRow_snoc, List.length_append, List.length_singleton]
                exact hown
              have hc_w7 : Chg (fun _ => False) w2 w7 := (HX6.out.2.alloc _).grown hgrow (fun k e hk => by have := hrow k e; omega)
              obtain ⟨ao5, cap5, hv5⟩ := ho_w7.shape
              subst hv5
              clear hown hgrow hat2 hrow
              have hl : (o6 ++ [t]).length = o6.length + 1 := by simp
              have HY := hid (And.intro ho_w7 hc_w7)
              clear ho_w7 hc_w7 HX6
              rw [hl]
              go_wp2
              obtain ⟨ho2, hc7⟩ := HY.out
              go_roundw
              case rel => exact ⟨k + 1, o6 ++ [t], true, ao5, cap5, by omega, by go_num, by rw [hl], by first | trivial | rfl, hn2, hnh2, by rw [hl]; omega, ho2, hc7⟩
              case measure => simp [intOf]; omega
            · have hn2 : Hid ((out ++ [t], false) = insSt s (ls.take (k + 1))) := hid (by rw [HT.out.1, if_neg (fun h => hlt0 h.2)])
              clear HT hC5 hS5
              go_wp2_with (at_builtin; refine wpList_append_own_at _ rfl (.tmp 41) (.tmp 43) 45 rfl w2.heap.size 35 i0 (.agg #[.int .i64 0, .string ⟨#[]⟩, .string ⟨#[]⟩, .string ⟨#[]⟩, .string ⟨#[]⟩, .string ⟨#[]⟩, .string ⟨#[]⟩, .string ⟨#[]⟩, .string ⟨#[]⟩, .slice none 0 0]) 10 160 Try.underlying45 hi hz0 hz1 hz2 rfl (by decide) _ _ _ rfl (World.ownsRow.alloc HX5.out.1 _) ⟨w5.heap.size, 0, none⟩ 1 1 (entCells t) rfl rfl ?c1e ?c2e ?c3e ?c4e ?c5e ?_)
              case c1e => intro j u hj; first | exact hj | exact ent_cells_new w5 t j u hj | (have := ent_cells_new w5 t j u hj; simp only [World.size_alloc] at this; exact this)
              case c2e => exact ent_one _
              case c3e => unfold maxLen; omega
              case c4e => omega
              case c5e => first | omega | (simp; omega)
              intro v' w7 hown hgrow _ hat2
              have hrow : ∀ k, Value.ownBlock (.slice ao' out.length cap') = some k → w2.heap.size ≤ k := fun k hk => (ownsRow_lt HX5.out.1 k hk).1
              have ho_w7 : OwnE w2.heap.size w7 v' (out ++ [t]) := by
                unfold OwnE
                rw [entRow_snoc, List.length_append, List.length_singleton]
                exact hown
              have hc_w7 : Chg (fun _ => False) w2 w7 := (HX5.out.2.alloc _).grown hgrow (fun k e hk => by have := hrow k e; omega)
              obtain ⟨ao5, cap5, hv5⟩ := ho_w7.shape
              subst hv5
              clear hown hgrow hat2 hrow
              have hl : (out ++ [t]).length = out.length + 1 := by simp
              have HY := hid (And.intro ho_w7 hc_w7)
              clear ho_w7 hc_w7 HX5
              rw [hl]
              go_wp2
              obtain ⟨ho2, hc7⟩ := HY.out
              go_roundw
              case rel => exact ⟨k + 1, out ++ [t], false, ao5, cap5, by omega, by go_num, by rw [hl], by first | trivial | rfl, hn2, hnh2, by rw [hl]; omega, ho2, hc7⟩
              case measure => simp [intOf]; omega
      · have hk2 : k = ls.length := by omega
        have hls : ls.take k = ls := List.take_of_length_le (by omega)
        have hnh : Hid (hasV ls s.c = false) := hid (by have := hnh.out; rw [hls] at this; exact this)
        have hst := hout.out
        rw [hls] at hst
        clear hout
        cases d with
        | true =>
          have hins : Hid (out = insV s ls) := hid (by rw [insV, ← hst]; rfl)
          clear hst hls
          have hA3 := blk_keep HK.out.1 hc3 id
          have hR3 := blk_keep HK.out.2.1 hc3 id
          have hwr := hc0.out.trans hc3 (fun _ _ h => h)
          by_cases hm : most ≤ (ls.length : Int)
          · have HF : Hid (addV ls most s = ls ∧ addErr ls most s = 40) := hid (by
              have e : addErr ls most s = 40 := by rw [addErr, if_pos hsg.out, if_neg (by rw [hnh.out]; decide), if_pos hm]
              exact ⟨by rw [addV, e]; rfl, e⟩)
            have a0 := cell_blk hA3 0
            have a1 := cell_blk hA3 1
            have r0 := cell_blk hR3 0
            have r1 := cell_blk hR3 1
            have f0 := froz_blk hR3 0
            have f1 := froz_blk hR3 1
            simp only [List.getElem?_toArray, List.getElem?_cons_zero, List.getElem?_cons_succ] at a0 a1 r0 r1
            have hAw := HB.out
            have hset := setVault_blk (.slice ao ls.length cap) most hR3
            have hcs := setVault_chg wr (A + 1 + 1) (.slice ao ls.length cap) most
            have hc6 : Chg (fun _ => False) w (setVault wr (A + 1 + 1) (.slice ao ls.length cap) most) := hwr.trans hcs (fun i hi e => by have : i = A + 1 + 1 := e; omega)
            have HH := hid (And.intro hset hc6)
            clear hset hcs hc6 hAw hA3 hR3 hwr ho hc3 
            go_wp2
            refine bodyPost_ret (results_row_tmp rfl _ _ (A + 1 + 1) _ rfl (run_loadVar_row (P := Try.prog) _ (A + 1 + 1) 47 47 _ (0, 0) _ HH.out.1 Try.underlying47 rfl (by kernel_rfl))) rfl ?_
            rw [HF.out.1, HF.out.2]
            exact ⟨ao, cap, rfl, (HQ.out.1.keep HH.out.2 (fun _ _ => id)).mono (fun _ h => .inl h), HQ.out.2, HH.out.2⟩
          · have HF : Hid (addV ls most s = out ∧ addErr ls most s = 0) := hid (by
              have e : addErr ls most s = 0 := by rw [addErr, if_pos hsg.out, if_neg (by rw [hnh.out]; decide), if_neg hm]
              exact ⟨by rw [addV, e, if_pos rfl, ← hins.out], e⟩)
            have hRl := lt_blk HK.out.2.1
            have hAw := HB.out
            have g0 := cell_blk hA3 0
            have g1 := cell_blk hA3 1
            have q0 := froz_blk hA3 0
            have q1 := froz_blk hA3 1
            have hsc := setCell_chg wr A 0 (.slice ao' out.length cap')
            have hA4 := set_blk hA3 0 (.slice ao' out.length cap')
            simp only [List.setIfInBounds_toArray, List.set_cons_zero] at hA4
            have hR4 := blk_keep hR3 hsc (show ¬ A + 1 + 1 = A by omega)
            have x0 := cell_blk hA4 0
            have x1 := cell_blk hA4 1
            have y0 := cell_blk hR4 0
            have y1 := cell_blk hR4 1
            have e0 := froz_blk hR4 0
            have e1 := froz_blk hR4 1
            simp only [List.getElem?_toArray, List.getElem?_cons_zero, List.getElem?_cons_succ] at x0 x1 y0 y1 g0 g1
            have hset := setVault_blk (.slice ao' out.length cap') most hR4
            have hcs := setVault_chg (wr.setCell ⟨A, 0, none⟩ (.slice ao' out.length cap')) (A + 1 + 1) (.slice ao' out.length cap') most
            have hc6 : Chg (fun _ => False) w (setVault (wr.setCell ⟨A, 0, none⟩ (.slice ao' out.length cap')) (A + 1 + 1) (.slice ao' out.length cap') most) := (hwr.trans hsc (fun i hi e => by have : i = A := e; omega)).trans hcs (fun i hi e => by have : i = A + 1 + 1 := e; omega)
            obtain ⟨ao9, cap9, hv9, hes, hz9⟩ := ho.ents
            cases hv9
            have hes2 := (hes.keep hsc (fun i hi e => by have h1 := hi.1; have : i = A := e; omega)).keep hcs (fun i hi e => by have h1 := hi.1; have : i = A + 1 + 1 := e; omega)
            have hszz := hcs.size
            have hszy := hsc.size
            have HH := hid (And.intro hset (And.intro hc6 (And.intro hes2 (And.intro hz9 (And.intro (Nat.le_trans hszy hszz) (show A ≤ w2.heap.size by omega))))))
            clear hA3 hR3 hwr hset hcs hc6 hAw hRl hsc hA4 hR4 hes hes2 hz9 hszz hszy ho hc3 
            go_wp2
            refine bodyPost_ret (results_row_tmp rfl _ _ (A + 1 + 1) _ rfl (run_loadVar_row (P := Try.prog) _ (A + 1 + 1) 47 47 _ (0, 0) _ HH.out.1 Try.underlying47 rfl (by kernel_rfl))) rfl ?_
            rw [HF.out.1, HF.out.2]
            refine ⟨ao', cap', rfl, HH.out.2.2.1.mono (fun i h => .inr ⟨?_, ?_⟩), HH.out.2.2.2.1, HH.out.2.1⟩
            · have h1 := h.1; have h2 := HH.out.2.2.2.2.2; have h3 := HB.out; omega
            · exact Nat.lt_of_lt_of_le h.2 HH.out.2.2.2.2.1
        | false =>
          have hins : Hid (out ++ [s] = insV s ls) := hid (by rw [insV, ← hst]; rfl)
          clear hst hls
          have hC3 := blk_keep HK.out.2.2.1 hc3 id
          obtain ⟨⟨d0, d1, d2, d3, d4, d5, d6, d7, d8⟩, d9⟩ := cred_at_sign hC3
          simp only [Nat.zero_add] at d0 d1 d2 d3 d4 d5 d6 d7 d8 d9
          have HX := hid (And.intro ho hc3)
          have hszw := hc3.size
          clear hC3 ho hc3
          go_wp2_with (at_builtin; refine wpList_append_own_at _ rfl (.tmp 48) (.tmp 50) 45 rfl w2.heap.size 35 i0 (.agg #[.int .i64 0, .string ⟨#[]⟩, .string ⟨#[]⟩, .string ⟨#[]⟩, .string ⟨#[]⟩, .string ⟨#[]⟩, .string ⟨#[]⟩, .string ⟨#[]⟩, .string ⟨#[]⟩, .slice none 0 0]) 10 160 Try.underlying45 hi hz0 hz1 hz2 rfl (by decide) _ _ _ rfl (World.ownsRow.alloc HX.out.1 _) ⟨wr.heap.size, 0, none⟩ 1 1 (entCells s) rfl rfl ?c1h ?c2h ?c3h ?c4h ?c5h ?_)
          case c1h => intro j u hj; first | exact hj | exact ent_cells_new wr s j u hj | (have := ent_cells_new wr s j u hj; simp only [World.size_alloc] at this; exact this)
          case c2h => exact ent_one _
          case c3h => unfold maxLen; omega
          case c4h => omega
          case c5h => first | omega | (simp; omega)
          intro v' w7 hown hgrow _ hat2
          have hrow : ∀ k, Value.ownBlock (.slice ao' out.length cap') = some k → w2.heap.size ≤ k := fun k hk => (ownsRow_lt HX.out.1 k hk).1
          have ho_w7 : OwnE w2.heap.size w7 v' (out ++ [s]) := by
            unfold OwnE
            rw [entRow_snoc, List.length_append, List.length_singleton]
            exact hown
          have hc_w7 : Chg (fun _ => False) w2 w7 := (HX.out.2.alloc _).grown hgrow (fun k e hk => by have := hrow k e; omega)
          obtain ⟨ao5, cap5, hv5⟩ := ho_w7.shape
          subst hv5
          clear hown hgrow hat2 hrow
          have hol6 : (out ++ [s]).length ≤ k + 2 := by simp; omega
          clear HX d0 d1 d2 d3 d4 d5 d6 d7 d8 d9
          generalize hg6 : out ++ [s] = o6 at *
          clear hg6
          have hA3 := blk_keep HK.out.1 hc_w7 id
          have hR3 := blk_keep HK.out.2.1 hc_w7 id
          have hwr := hc0.out.trans hc_w7 (fun _ _ h => h)
          by_cases hm : most ≤ (ls.length : Int)
          · have HF : Hid (addV ls most s = ls ∧ addErr ls most s = 40) := hid (by
              have e : addErr ls most s = 40 := by rw [addErr, if_pos hsg.out, if_neg (by rw [hnh.out]; decide), if_pos hm]
              exact ⟨by rw [addV, e]; rfl, e⟩)
            have a0 := cell_blk hA3 0
            have a1 := cell_blk hA3 1
            have r0 := cell_blk hR3 0
            have r1 := cell_blk hR3 1
            have f0 := froz_blk hR3 0
            have f1 := froz_blk hR3 1
            simp only [List.getElem?_toArray, List.getElem?_cons_zero, List.getElem?_cons_succ] at a0 a1 r0 r1
            have hAw := HB.out
            have hset := setVault_blk (.slice ao ls.length cap) most hR3
            have hcs := setVault_chg w7 (A + 1 + 1) (.slice ao ls.length cap) most
            have hc6 : Chg (fun _ => False) w (setVault w7 (A + 1 + 1) (.slice ao ls.length cap) most) := hwr.trans hcs (fun i hi e => by have : i = A + 1 + 1 := e; omega)
            have HH := hid (And.intro hset hc6)
            clear hset hcs hc6 hAw hA3 hR3 hwr ho_w7 hc_w7 
            go_wp2
            refine bodyPost_ret (results_row_tmp rfl _ _ (A + 1 + 1) _ rfl (run_loadVar_row (P := Try.prog) _ (A + 1 + 1) 47 47 _ (0, 0) _ HH.out.1 Try.underlying47 rfl (by kernel_rfl))) rfl ?_
            rw [HF.out.1, HF.out.2]
            exact ⟨ao, cap, rfl, (HQ.out.1.keep HH.out.2 (fun _ _ => id)).mono (fun _ h => .inl h), HQ.out.2, HH.out.2⟩
          · have HF : Hid (addV ls most s = o6 ∧ addErr ls most s = 0) := hid (by
              have e : addErr ls most s = 0 := by rw [addErr, if_pos hsg.out, if_neg (by rw [hnh.out]; decide), if_neg hm]
              exact ⟨by rw [addV, e, if_pos rfl, ← hins.out], e⟩)
            have hRl := lt_blk HK.out.2.1
            have hAw := HB.out
            have g0 := cell_blk hA3 0
            have g1 := cell_blk hA3 1
            have q0 := froz_blk hA3 0
            have q1 := froz_blk hA3 1
            have hsc := setCell_chg w7 A 0 (.slice ao5 o6.length cap5)
            have hA4 := set_blk hA3 0 (.slice ao5 o6.length cap5)
            simp only [List.setIfInBounds_toArray, List.set_cons_zero] at hA4
            have hR4 := blk_keep hR3 hsc (show ¬ A + 1 + 1 = A by omega)
            have x0 := cell_blk hA4 0
            have x1 := cell_blk hA4 1
            have y0 := cell_blk hR4 0
            have y1 := cell_blk hR4 1
            have e0 := froz_blk hR4 0
            have e1 := froz_blk hR4 1
            simp only [List.getElem?_toArray, List.getElem?_cons_zero, List.getElem?_cons_succ] at x0 x1 y0 y1 g0 g1
            have hset := setVault_blk (.slice ao5 o6.length cap5) most hR4
            have hcs := setVault_chg (w7.setCell ⟨A, 0, none⟩ (.slice ao5 o6.length cap5)) (A + 1 + 1) (.slice ao5 o6.length cap5) most
            have hc6 : Chg (fun _ => False) w (setVault (w7.setCell ⟨A, 0, none⟩ (.slice ao5 o6.length cap5)) (A + 1 + 1) (.slice ao5 o6.length cap5) most) := (hwr.trans hsc (fun i hi e => by have : i = A := e; omega)).trans hcs (fun i hi e => by have : i = A + 1 + 1 := e; omega)
            obtain ⟨ao9, cap9, hv9, hes, hz9⟩ := ho_w7.ents
            cases hv9
            have hes2 := (hes.keep hsc (fun i hi e => by have h1 := hi.1; have : i = A := e; omega)).keep hcs (fun i hi e => by have h1 := hi.1; have : i = A + 1 + 1 := e; omega)
            have hszz := hcs.size
            have hszy := hsc.size
            have HH := hid (And.intro hset (And.intro hc6 (And.intro hes2 (And.intro hz9 (And.intro (Nat.le_trans hszy hszz) (show A ≤ w2.heap.size by omega))))))
            clear hA3 hR3 hwr hset hcs hc6 hAw hRl hsc hA4 hR4 hes hes2 hz9 hszz hszy ho_w7 hc_w7 
            go_wp2
            refine bodyPost_ret (results_row_tmp rfl _ _ (A + 1 + 1) _ rfl (run_loadVar_row (P := Try.prog) _ (A + 1 + 1) 47 47 _ (0, 0) _ HH.out.1 Try.underlying47 rfl (by kernel_rfl))) rfl ?_
            rw [HF.out.1, HF.out.2]
            refine ⟨ao5, cap5, rfl, HH.out.2.2.1.mono (fun i h => .inr ⟨?_, ?_⟩), HH.out.2.2.2.1, HH.out.2.1⟩
            · have h1 := h.1; have h2 := HH.out.2.2.2.2.2; have h3 := HB.out; omega
            · exact Nat.lt_of_lt_of_le h.2 HH.out.2.2.2.2.1
end Go.Proofs.Ytfpaoaflhbppgaa
