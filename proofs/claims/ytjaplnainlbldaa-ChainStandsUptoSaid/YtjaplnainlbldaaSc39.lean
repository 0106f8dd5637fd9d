/- cred.Set: the program's contract. -/
import Derived.Test.YtjaplnainlbldaaSc37
import Derived.Test.YtjaplnainlbldaaSc38
namespace Go.Proofs.Ytjaplnainlbldaa
open Go.RowKit

theorem credBytes_pos {c : CredB} (h : isCred c = true) : 0 < (credBytes c).length := by
  have := credEnc_ne c
  rw [credBytes, if_pos h]
  exact List.length_pos_iff.2 this

theorem credBytes_none {c : CredB} (h : isCred c = false) : credBytes c = [] := by rw [credBytes, h]; rfl

theorem OwnW.at_ {B : Nat} {w : World} {ao : Option Addr} {cap : Nat} {ls : List WrB} (h : OwnW B w (.slice ao ls.length cap) ls) {i : Nat} (hi : i < ls.length) :
    ∃ g, ao = some ⟨g, 0, none⟩ ∧ ∀ j, j < 10 → w.cell? ⟨g, i * 10 + j, none⟩ = (wrCells ls[i])[j]? := by
  have hall := h
  rcases h.2 with ⟨he, h0⟩ | ⟨g, cap', cur, he, hg, hh, h1, h2, h3, h4⟩
  · omega
  · cases he
    refine ⟨g, rfl, fun j hj => ?_⟩
    have hget := flat_get wrCells 10 wrCells_len ls i j hi hj
    have hs : j < (wrCells ls[i]).length := hj
    rw [List.getElem?_eq_getElem hs] at hget ⊢
    have := hall.cells (g := g) rfl (i * 10 + j) _ hget
    rw [add_off, Nat.zero_add] at this
    exact this

set_option maxRecDepth 100000 in
set_option maxHeartbeats 4000000 in
theorem pcset {D : Nat → Prop} (ao : Option Addr) (cp : Nat) (ls : List CredB) (w : World) (hn : ls.length ≤ 4194304) (h : CredsAt D w ao ls) (_ : ∀ i, D i → i < w.heap.size) (hz : ao = none → cp = 0) :
    Calls Try.prog 38 #[.slice ao ls.length cp] w (SetPostC ls w) := by
  obtain ⟨i0, hi, hz0, hz1, hz2⟩ := info_parts Try.info131
  obtain ⟨j0, hj, hy0, hy1, hy2⟩ := info_parts Try.info36
  have HJ := hid (And.intro hj (And.intro hy0 (And.intro hy1 hy2)))
  clear hj hy0 hy1 hy2
  go_enter Try.func38, Try.ntmps38
  go_wp2
  go_loopw [3, 12] (fun v i wr => ∃ (k : Nat) (out : List WrB) (ao' : Option Addr) (cap : Nat), i = .int .i64 k ∧ k ≤ ls.length ∧ v = .slice ao' out.length cap ∧ Hid (out.map (·.c) = (ls.take k).filter isCred) ∧ out.length ≤ k ∧ OwnW w.heap.size wr (.slice ao' out.length cap) out ∧ ReadsW w.heap.size wr (Value.ownBlock (.slice ao' out.length cap)) out ∧ Chg (fun _ => False) w wr) (fun _ i _ => ls.length - (intOf i).toNat)
  case atStart => exact ⟨0, [], none, 0, rfl, Nat.zero_le _, rfl, rfl, Nat.zero_le _, World.ownsRow_nil _ _ _ _, ReadsW.nil _ _ _, Chg.refl _ _⟩
  case round =>
    obtain ⟨k, out, ao', cap', rfl, hk, rfl, hout, hol, ho, hrd, hc⟩ := hrel
    by_cases hlt : k < ls.length
    · obtain ⟨b, off, rfl, hbD, hat, hsh⟩ := (h.keep hc (fun _ _ => id)) k hlt
      have HF := hid (List.take_succ_eq_append_getElem hlt)
      clear h
      generalize ls[k] = s at *
      obtain ⟨c0, c1, c2, c3, c4, c5, c6, c7, c8⟩ := hat
      have hS := heap_alloc_new wr (.cells (credBox s) 36)
      have hcS : Chg (fun _ => False) wr (wr.alloc (.cells (credBox s) 36)) := (Chg.refl _ wr).alloc _
      have hrd2 := hrd.keep hcS (fun _ h => h.elim)
      have HS := hid (And.intro hS (And.intro (ho.keep hcS (fun _ _ => id)) (And.intro hrd2 (hc.trans hcS (fun _ _ h => h)))))
      clear hS hcS ho hc hrd hrd2
      go_wp2_with fail
      obtain ⟨hS, ho, hrd, hc⟩ := HS.out
      clear HS c0 c1 c2 c3 c4 c5 c6 c7 c8
      generalize hw3 : wr.alloc (.cells #[.int .i64 s.kind, .string ⟨s.head.1.toArray⟩, .string ⟨s.head.2.toArray⟩, .string ⟨s.who.toArray⟩, .string ⟨s.b.1.toArray⟩, .string ⟨s.b.2.toArray⟩, .string ⟨s.c.1.toArray⟩, .string ⟨s.c.2.toArray⟩, .string ⟨s.w2.toArray⟩] 36) = w3 at *
      change wr.alloc (.cells (credBox s) 36) = w3 at hw3
      rw [hw3] at hS ho hrd hc
      clear hw3
      generalize wr.heap.size = X at *
      refine (pcbytes s w3 hsh).mono ?_
      rintro e w4 ⟨ao4, cap4, rfl, hb4, hc4⟩
      have hS4 := blk_keep hS hc4 id
      have ho4 := ho.keep hc4 (fun _ _ => id)
      have hrd4 := hrd.keep hc4 (fun _ h => h.elim)
      have hcw4 := hc.trans hc4 (fun _ _ h => h)
      have hrow3 : ∀ q, Value.ownBlock (.slice ao' out.length cap') = some q → q < w3.heap.size := fun q hq => (ownsRow_lt ho q hq).2
      have hsz3 := hc.size
      have hb5 : BytesAt (fun b => w.heap.size ≤ b ∧ b < w4.heap.size ∧ some b ≠ Value.ownBlock (.slice ao' out.length cap')) w4 (.slice ao4 (credBytes s).length cap4) (credBytes s) := hb4.mono (fun i hi => ⟨Nat.le_trans hsz3 hi.1, hi.2, fun e => by have := hrow3 i e.symm; omega⟩)
      have HR := hid (And.intro ho4 (And.intro hrd4 (And.intro hb5 hcw4)))
      obtain ⟨b0, b1, b2, b3, b4, b5, b6, b7, b8⟩ := cred_at_blk hS4
      simp only [Nat.zero_add] at b0 b1 b2 b3 b4 b5 b6 b7 b8
      clear hS ho hrd hc hc4 hb4 hrow3 hsz3 hS4 ho4 hrd4 hb5 hcw4
      cases hx : isCred s with
      | false =>
        have hn2 : Hid (out.map (·.c) = (ls.take (k + 1)).filter isCred) := hid (by rw [HF.out, List.filter_append, ← hout.out]; simp [hx])
        have hl0 : (credBytes s).length = 0 := by rw [credBytes_none hx]; rfl
        rw [hl0]
        clear hx hl0
        go_wp2
        obtain ⟨ho4, hrd4, hb5, hcw4⟩ := HR.out
        go_roundw
        case rel => exact ⟨k + 1, out, ao', cap', by go_num, by omega, rfl, hn2, by omega, ho4, hrd4, hcw4⟩
        case measure => simp [intOf]; omega
      | true =>
        have hn2 : Hid ((out ++ [(⟨s, ao4, cap4⟩ : WrB)]).map (·.c) = (ls.take (k + 1)).filter isCred) := hid (by rw [HF.out, List.filter_append, ← hout.out]; simp [hx])
        have hlp := credBytes_pos hx
        have HX := hid hx
        have hszw := HR.out.2.2.2.size
        clear hx
        go_wp2_with (at_builtin; refine wpList_append_own_at _ rfl (.tmp 21) (.tmp 25) 128 rfl w.heap.size 131 i0 (.agg #[.int .i64 0, .string ⟨#[]⟩, .string ⟨#[]⟩, .string ⟨#[]⟩, .string ⟨#[]⟩, .string ⟨#[]⟩, .string ⟨#[]⟩, .string ⟨#[]⟩, .string ⟨#[]⟩, .slice none 0 0]) 10 160 Try.underlying128 hi hz0 hz1 hz2 rfl (by decide) _ _ _ rfl (World.ownsRow.alloc HR.out.1 _) ⟨w4.heap.size, 0, none⟩ 1 1 (wrCells ⟨s, ao4, cap4⟩) rfl rfl ?c1 ?c2 ?c3 ?c4 ?c5 ?_)
        case c1 => exact fun j u hj => wr_cells_new w4 ⟨s, ao4, cap4⟩ j u hj
        case c2 => exact wr_one _
        case c3 => unfold maxLen; omega
        case c4 => omega
        case c5 => simp; omega
        intro v' w2 hown hgrow _ hat
        obtain ⟨ho4, hrd4, hb5, hcw4⟩ := HR.out
        have hcA : Chg (fun _ => False) w4 (w4.alloc (.cells (wrBox ⟨s, ao4, cap4⟩) 131)) := (Chg.refl _ w4).alloc _
        have hsa : w4.heap.size ≤ (w4.alloc (.cells (wrBox ⟨s, ao4, cap4⟩) 131)).heap.size := hcA.size
        obtain ⟨ho2, hrd2⟩ := wr_grown (x := ⟨s, ao4, cap4⟩) hown hgrow (by
          rcases hat with e | e
          · exact .inl e
          · exact .inr (by rw [e]; simp)) (hrd4.keep hcA (fun _ h => h.elim)) HX.out ((hb5.keep hcA (fun _ _ => id)).mono (fun i hi => ⟨hi.1, Nat.lt_of_lt_of_le hi.2.1 hsa, hi.2.2⟩))
        have hrow : ∀ k, Value.ownBlock (.slice ao' out.length cap') = some k → w.heap.size ≤ k := fun k hk => (ownsRow_lt ho4 k hk).1
        have hc2 : Chg (fun _ => False) w w2 := (hcw4.alloc _).grown hgrow (fun k e hk => by have := hrow k e; omega)
        obtain ⟨ao5, cap5, hv5⟩ := ho2.shape
        have hl : (out ++ [(⟨s, ao4, cap4⟩ : WrB)]).length = out.length + 1 := by simp
        subst hv5
        have HY := hid (And.intro ho2 (And.intro hrd2 hc2))
        clear hown hgrow hat hrow ho4 hrd4 hb5 hcw4 hcA hsa ho2 hrd2 hc2 HR b0 b1 b2 b3 b4 b5 b6 b7 b8
        rw [hl]
        go_wp2
        obtain ⟨ho2, hrd2, hc2⟩ := HY.out
        go_roundw
        case rel => exact ⟨k + 1, out ++ [(⟨s, ao4, cap4⟩ : WrB)], ao5, cap5, by go_num, by omega, by rw [hl], hn2, by rw [hl]; omega, ho2, hrd2, hc2⟩
        case measure => simp [intOf]; omega
    · have hk2 : k = ls.length := by omega
      have ho2 : Hid (out.map (·.c) = ls.filter isCred) := by
        have := hout.out
        rw [List.take_of_length_le (by omega)] at this
        exact hid this
      clear h hout
      go_wp2_with fail
      refine (psort_wr ho hrd (by omega)).mono ?_
      rintro e w2 ⟨rfl, ⟨ts, hp, hs, ho3⟩, hch3⟩
      have hc2 : Chg (fun _ => False) w w2 := hc.trans (hch3 (fun k => w.heap.size ≤ k) (fun _ h => h)) (fun i hi hk => by omega)
      have hpl := hp.length_eq
      have hso : Hid (SetC ls (Lib.compact (ts.map (·.c)))) := hid (compactG_set ltC_ord hs fun x => by
        rw [(hp.map (·.c)).mem_iff, ho2.out, List.mem_filter])
      have HW := hid (And.intro ho3 hc2)
      clear hch3 hc ho hs hp ho2 ho3 hc2 hrd hi hz0 hz1 hz2
      obtain ⟨hi, hz0, hz1, hz2⟩ := HJ.out
      rw [← hpl]
      have hwl := HW.out.2.size
      go_wp2
      go_loopw [7, 32] (fun v i wr => ∃ (m : Nat) (st : List CredB) (ao6 : Option Addr) (cap6 : Nat), i = .int .i64 m ∧ m ≤ ts.length ∧ v = .slice ao6 st.length cap6 ∧ Hid (st = (ts.take m).map (·.c)) ∧ st.length ≤ m ∧ OwnC w2.heap.size wr (.slice ao6 st.length cap6) st ∧ Chg (fun _ => False) w2 wr) (fun _ i _ => ts.length - (intOf i).toNat)
      case atStart => exact ⟨0, [], none, 0, rfl, Nat.zero_le _, rfl, rfl, Nat.zero_le _, World.ownsRow_nil _ _ _ _, Chg.refl _ _⟩
      case round =>
        obtain ⟨m, st, ao6, cap6, rfl, hm, rfl, hst, hsl, ho6, hc6⟩ := hrel
        by_cases hlt : m < ts.length
        · obtain ⟨g, rfl, hat⟩ := (HW.out.1.keep hc6 (fun _ _ => id)).at_ hlt
          have HF := hid (List.take_succ_eq_append_getElem hlt)
          generalize ts[m] = t at *
          obtain ⟨s, ao4, cap4⟩ := t
          have c0 := hat 0 (by decide)
          have c1 := hat 1 (by decide)
          have c2 := hat 2 (by decide)
          have c3 := hat 3 (by decide)
          have c4 := hat 4 (by decide)
          have c5 := hat 5 (by decide)
          have c6 := hat 6 (by decide)
          have c7 := hat 7 (by decide)
          have c8 := hat 8 (by decide)
          have c9 := hat 9 (by decide)
          simp only [wrCells, List.getElem?_cons_zero, List.getElem?_cons_succ, Nat.add_zero] at c0 c1 c2 c3 c4 c5 c6 c7 c8 c9
          clear hat
          have HR := hid (And.intro ho6 hc6)
          have hn2 : Hid (st ++ [s] = (ts.take (m + 1)).map (·.c)) := hid (by rw [HF.out, List.map_append, ← hst.out]; rfl)
          have hszw := HR.out.2.size
          clear ho6 hc6
          have hcA : Chg (fun _ => False) wr (wr.alloc (.cells (wrBox ⟨s, ao4, cap4⟩) 131)) := (Chg.refl _ wr).alloc _
          have HA := hid hcA
          clear hcA
          go_wp2_with (at_builtin; refine wpList_append_own_at _ rfl (.tmp 36) (.tmp 39) 22 rfl w2.heap.size 36 j0 (.agg #[.int .i64 0, .string ⟨#[]⟩, .string ⟨#[]⟩, .string ⟨#[]⟩, .string ⟨#[]⟩, .string ⟨#[]⟩, .string ⟨#[]⟩, .string ⟨#[]⟩, .string ⟨#[]⟩]) 9 136 Try.underlying22 hi hz0 hz1 hz2 rfl (by decide) _ _ _ rfl (World.ownsRow.alloc (World.ownsRow.alloc HR.out.1 _) _) ⟨wr.heap.size + 1, 0, none⟩ 1 1 (credCells s) rfl rfl ?c1 ?c2 ?c3 ?c4 ?c5 ?_)
          case c1 => exact fun j u hj => by have := cred_cells_new (wr.alloc (.cells (wrBox ⟨s, ao4, cap4⟩) 131)) s j u hj; simp only [World.size_alloc] at this; exact this
          case c2 => intro u hu; simp only [credCells, List.mem_cons, List.not_mem_nil, or_false] at hu; rcases hu with rfl | rfl | rfl | rfl | rfl | rfl | rfl | rfl | rfl <;> rfl
          case c3 => unfold maxLen; omega
          case c4 => omega
          case c5 => simp; omega
          intro v' w3 hown hgrow _ hat2
          obtain ⟨ho6, hc6⟩ := HR.out
          have hrow : ∀ k, Value.ownBlock (.slice ao6 st.length cap6) = some k → w2.heap.size ≤ k := fun k hk => (ownsRow_lt ho6 k hk).1
          have ho2 : OwnC w2.heap.size w3 v' (st ++ [s]) := by
            unfold OwnC
            rw [credRow_snoc, List.length_append, List.length_singleton]
            exact hown
          have hc2 : Chg (fun _ => False) w2 w3 := ((hc6.alloc _).alloc _).grown hgrow (fun k e hk => by have := hrow k e; omega)
          obtain ⟨ao5, cap5, hv5⟩ := ho2.shape
          have hl : (st ++ [s]).length = st.length + 1 := by simp
          subst hv5
          have HY := hid (And.intro ho2 hc2)
          clear hown hgrow hat2 hrow ho6 hc6 ho2 hc2 HR HA c0 c1 c2 c3 c4 c5 c6 c7 c8 c9
          rw [hl]
          go_wp2
          obtain ⟨ho2, hc2⟩ := HY.out
          go_roundw
          case rel => exact ⟨m + 1, st ++ [s], ao5, cap5, by go_num, by omega, by rw [hl], hn2, by rw [hl]; omega, ho2, hc2⟩
          case measure => simp [intOf]; omega
        · have hm2 : m = ts.length := by omega
          have hst2 : Hid (st = ts.map (·.c)) := by
            have := hst.out
            rw [List.take_of_length_le (by omega)] at this
            exact hid this
          have hstl : st.length ≤ 4194304 := by omega
          clear hst hsl
          have HZ := hid (And.intro hc6 HW.out.2)
          clear hc6
          go_wp2_with fail
          refine (pccompact_own ho6 hstl).mono ?_
          rintro e w3 ⟨⟨ao7, cap7, rfl, ho7⟩, hch7⟩
          have hc3 : Chg (fun _ => False) w w3 := (HZ.out.2.trans HZ.out.1 (fun _ _ h => h)).trans (hch7 (fun k => w2.heap.size ≤ k) (fun _ h => h)) (fun i hi hk => by omega)
          rw [hst2.out] at ho7
          clear hch7 ho6 HZ
          rw [hst2.out]
          have hbd : ∀ x ∈ Lib.compact (ts.map (·.c)), credShort x 9223372036854775807 := fun x hx => (isCred_short ((hso.out.2 x).1 hx).2).mono' (by decide)
          obtain ⟨ao8, cap8, hv, hst8, hz8⟩ := ho7.creds hbd
          cases hv
          have HF := hid (And.intro hst8 (And.intro hc3 hz8))
          clear hst8 hc3 hz8 ho7 hbd
          go_wp2
          go_ret
          exact ⟨_, _, _, rfl, hso.out, HF.out.1.mono (fun i hi => ⟨Nat.le_trans hwl hi.1, hi.2⟩), HF.out.2.1, HF.out.2.2⟩
end Go.Proofs.Ytjaplnainlbldaa
