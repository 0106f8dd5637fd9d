/- The law VaultPlays, walked: what a vault holds, refuses and tells, whatever is done. -/
import Derived.Test.YtfpaoaflhbppgaaVm8
namespace Go.Proofs.Ytfpaoaflhbppgaa
open Go.RowKit

set_option maxRecDepth 100000 in
set_option maxHeartbeats 8000000 in
theorem vplays_main {D : Nat → Prop} {VA : (Nat → Prop) → (Nat → Prop) → World → Nat → List SignB → Int → Prop} (hk : VK VA)
    (hfirst : ∀ w : World, Calls Try.prog 4 #[] w fun e w' => e = .returned (.bool true) ∧ Chg (fun _ => False) w w')
    (m : Int) (ao : Option Addr) (cp : Nat) (ls : List OpB) (p : List UInt8 × List UInt8) (w : World) (hD : ∀ i, D i → i < w.heap.size) (hm1 : -9223372036854775808 ≤ m) (hm2 : m ≤ 9223372036854775807) (hn : ls.length ≤ 4611686018427387904) (h : OpsAt D w ao ls) (hsz : ∀ x ∈ ls, sizeS x.s ≤ 4503599627370496) (hp1 : p.1.length ≤ 4503599627370496) (hp2 : p.2.length ≤ 4503599627370496) :
    Calls Try.prog 3 #[.int .i64 m, .slice ao ls.length cp, .agg #[.string ⟨p.1.toArray⟩, .string ⟨p.2.toArray⟩]] w fun e w' => e = .returned (.bool true) ∧ Chg (fun _ => False) w w' := by
  have hA : (w.alloc (.cells #[.string ⟨p.1.toArray⟩, .string ⟨p.2.toArray⟩] 23)).heap[w.heap.size]? = some (.cells #[.string ⟨p.1.toArray⟩, .string ⟨p.2.toArray⟩] 23 (0, 0)) := heap_alloc_new w _
  have hc : Chg (fun _ => False) w (w.alloc (.cells #[.string ⟨p.1.toArray⟩, .string ⟨p.2.toArray⟩] 23)) := (Chg.refl _ w).alloc _
  have hf := hfirst (w.alloc (.cells #[.string ⟨p.1.toArray⟩, .string ⟨p.2.toArray⟩] 23))
  have HH := hid (And.intro hA (And.intro hc hf))
  have HK := hid hk
  clear hA hc hf hfirst hk
  go_enter Try.func3, Try.ntmps3
  go_wp2_with fail
  obtain ⟨hA, hc, hf⟩ := HH.out
  clear HH
  refine hf.mono ?_
  rintro e w2 ⟨rfl, hc2⟩
  have hA2 := blk_keep hA hc2 id
  have hcw := hc.trans hc2 (fun _ _ h => h)
  clear hf hA hc hc2
  generalize hAw : w.heap.size = A at *
  have HB := hid hAw
  clear hAw
  by_cases hb : 0 ≤ m ∧ m ≤ 256
  ·
    obtain ⟨hb1, hb2⟩ := hb
    have z1 : decide (m < 0) = false := decide_eq_false (by omega)
    have z2 : decide (256 < m) = false := decide_eq_false (by omega)
    have hAl := lt_blk hA2
    have hwA := hcw.size
    have hAeq := HB.out
    have hnew := HK.out.new D w2 m hb1 hb2 (fun i hi => by have := hD i hi; omega)
    have HN := hid hnew
    have HQ := hid (And.intro hA2 (And.intro hcw h))
    clear hnew h hA2 hcw hwA hAeq
    go_wp2_with fail
    refine HN.out.mono ?_
    clear HN
    rintro e w3 ⟨g, O, rfl, hva, hO, hc3⟩
    obtain ⟨hA2, hcw, h⟩ := HQ.out
    clear HQ
    have hA3 := blk_keep hA2 hc3 id
    have hc3w := hcw.trans hc3 (fun _ _ h => h)
    have hlow := HK.out.low hva
    have hV : (w3.alloc (.cells #[.slice none 0 0, .int .i64 m] 47)).heap[w3.heap.size]? = some (.cells #[.slice none 0 0, .int .i64 m] 47 (0, 0)) := heap_alloc_new w3 _
    have hal : Chg (fun _ => False) w3 (w3.alloc (.cells #[.slice none 0 0, .int .i64 m] 47)) := (Chg.refl _ w3).alloc _
    have hA4 := blk_keep hA3 hal id
    have hva4 := HK.out.keep hva hal (fun _ _ => id)
    have hc4w := hc3w.trans hal (fun _ _ h => h)
    have hs3 := hc3w.size
    rw [HB.out] at hs3
    have hAl3 := lt_blk hA3
    have hs4 := hal.size
    have hVl := lt_blk hV
    have hcl := HK.out.clone (w3.alloc (.cells #[.slice none 0 0, .int .i64 m] 47)) g m hva4
    have hO2 : ∀ i, O i → A ≤ i ∧ i ≠ A ∧ i ≠ w3.heap.size ∧ i < (w3.alloc (.cells #[.slice none 0 0, .int .i64 m] 47)).heap.size := fun i hi => by
      have h1 := hO i hi
      have h2 := hlow i hi
      have h4 := lt_blk hA2
      exact ⟨by omega, by omega, by omega, by omega⟩
    have HQ := hid (And.intro hcl (And.intro hV (And.intro hA4 (And.intro hva4 (And.intro hc4w (And.intro hO2 (And.intro h hVl)))))))
    clear hcl hV hal hA4 hva4 hc4w hO2 h hA2 hcw hA3 hc3w hlow hva hO hc3 hVl
    go_wp2_with fail
    obtain ⟨hcl, hV, hA4, hva4, hc4w, hO2, h, hVl⟩ := HQ.out
    clear HQ z1 z2
    refine hcl.mono ?_
    rintro e w5 ⟨gc, Oc, rfl, hvc, hOc, hc5⟩
    obtain ⟨V, hVe⟩ : ∃ V, V = w3.heap.size := ⟨_, rfl⟩
    rw [← hVe] at hV hO2 hVl ⊢
    have hst : VSt VA D Oc w A V g gc p m O (fun _ => False) w5 [] none 0 := ⟨blk_keep hA4 hc5 id, blk_keep hV hc5 id, EntsAt.nil _ _ _, fun _ => rfl, (fun t ht => by cases ht), HK.out.keep hva4 hc5 (fun _ _ => id), hvc, fun i hi => ⟨(hO2 i hi).1, (hO2 i hi).2.1, (hO2 i hi).2.2.1, id, fun e => by have h1 := (hO2 i hi).2.2.2; have h2 := hOc i e; omega⟩, fun i hi => hi.elim, fun i hi => ⟨(by have := hOc i hi; omega), HK.out.low hvc i hi⟩, hc4w.trans hc5 (fun _ _ h => h)⟩
    have hAV : A < V := by omega
    have HB2 := hid (And.intro hD (And.intro h (And.intro hb1 hb2)))
    clear hcl hV hA4 hva4 hc4w hO2 h hvc hOc hc5 hs3 hs4 hVe hVl hAl hD hAl3
    go_wp2
    go_loopw [90] (fun i wr => ∃ (k : Nat) (es : List EntB) (ao' : Option Addr) (cap' : Nat) (O E : Nat → Prop), i = .int .i64 k ∧ k ≤ ls.length ∧ es.length ≤ k ∧ k ≤ 50 ∧ VSt VA D Oc w A V g gc p m O E wr es ao' cap') (fun i _ => ls.length - (intOf i).toNat)
    case atStart => exact ⟨0, [], none, 0, _, _, rfl, Nat.zero_le _, Nat.zero_le _, by omega, hst⟩
    case round =>
      clear hst
      obtain ⟨k, es, ao', cap', O, E, rfl, hk, hek, hk50, hst⟩ := hrel
      by_cases hlt : k < ls.length
      · obtain ⟨b, off, hao, _, hop⟩ := (HB2.out.2.1.keep hst.hc (fun _ _ => id)) k hlt
        subst hao
        obtain ⟨x, hx⟩ : ∃ x, x = ls[k] := ⟨_, rfl⟩
        have hszx := hsz _ (List.getElem_mem hlt)
        rw [← hx] at hop hszx
        clear hx
        obtain ⟨ck, ⟨c0, c1, c2, c3, c4, c5, c6, c7, c8⟩, ⟨ta, tcap, c9, hby⟩, hsh, hln⟩ := hop
        have hX : (wr.alloc (.cells #[.int .i64 x.kind, .int .i64 x.s.c.kind, .string ⟨x.s.c.head.1.toArray⟩, .string ⟨x.s.c.head.2.toArray⟩, .string ⟨x.s.c.who.toArray⟩, .string ⟨x.s.c.b.1.toArray⟩, .string ⟨x.s.c.b.2.toArray⟩, .string ⟨x.s.c.c.1.toArray⟩, .string ⟨x.s.c.c.2.toArray⟩, .string ⟨x.s.c.w2.toArray⟩, .slice ta x.s.tag.length tcap] 49)).heap[wr.heap.size]? = some (.cells (opBox x (.slice ta x.s.tag.length tcap)) 49 (0, 0)) := heap_alloc_new wr _
        have hal : Chg (fun _ => False) wr (wr.alloc (.cells #[.int .i64 x.kind, .int .i64 x.s.c.kind, .string ⟨x.s.c.head.1.toArray⟩, .string ⟨x.s.c.head.2.toArray⟩, .string ⟨x.s.c.who.toArray⟩, .string ⟨x.s.c.b.1.toArray⟩, .string ⟨x.s.c.b.2.toArray⟩, .string ⟨x.s.c.c.1.toArray⟩, .string ⟨x.s.c.c.2.toArray⟩, .string ⟨x.s.c.w2.toArray⟩, .slice ta x.s.tag.length tcap] 49)) := (Chg.refl _ wr).alloc _
        have hS : ((wr.alloc (.cells #[.int .i64 x.kind, .int .i64 x.s.c.kind, .string ⟨x.s.c.head.1.toArray⟩, .string ⟨x.s.c.head.2.toArray⟩, .string ⟨x.s.c.who.toArray⟩, .string ⟨x.s.c.b.1.toArray⟩, .string ⟨x.s.c.b.2.toArray⟩, .string ⟨x.s.c.c.1.toArray⟩, .string ⟨x.s.c.c.2.toArray⟩, .string ⟨x.s.c.w2.toArray⟩, .slice ta x.s.tag.length tcap] 49)).alloc (.cells #[.int .i64 x.s.c.kind, .string ⟨x.s.c.head.1.toArray⟩, .string ⟨x.s.c.head.2.toArray⟩, .string ⟨x.s.c.who.toArray⟩, .string ⟨x.s.c.b.1.toArray⟩, .string ⟨x.s.c.b.2.toArray⟩, .string ⟨x.s.c.c.1.toArray⟩, .string ⟨x.s.c.c.2.toArray⟩, .string ⟨x.s.c.w2.toArray⟩, .slice ta x.s.tag.length tcap] 35)).heap[wr.heap.size + 1]? = some (.cells (signBox x.s.c (.slice ta x.s.tag.length tcap)) 35 (0, 0)) := by
          have := heap_alloc_new (wr.alloc (.cells #[.int .i64 x.kind, .int .i64 x.s.c.kind, .string ⟨x.s.c.head.1.toArray⟩, .string ⟨x.s.c.head.2.toArray⟩, .string ⟨x.s.c.who.toArray⟩, .string ⟨x.s.c.b.1.toArray⟩, .string ⟨x.s.c.b.2.toArray⟩, .string ⟨x.s.c.c.1.toArray⟩, .string ⟨x.s.c.c.2.toArray⟩, .string ⟨x.s.c.w2.toArray⟩, .slice ta x.s.tag.length tcap] 49)) (.cells #[.int .i64 x.s.c.kind, .string ⟨x.s.c.head.1.toArray⟩, .string ⟨x.s.c.head.2.toArray⟩, .string ⟨x.s.c.who.toArray⟩, .string ⟨x.s.c.b.1.toArray⟩, .string ⟨x.s.c.b.2.toArray⟩, .string ⟨x.s.c.c.1.toArray⟩, .string ⟨x.s.c.c.2.toArray⟩, .string ⟨x.s.c.w2.toArray⟩, .slice ta x.s.tag.length tcap] 35)
          rw [World.size_alloc] at this
          exact this
        have hal2 : Chg (fun _ => False) (wr.alloc (.cells #[.int .i64 x.kind, .int .i64 x.s.c.kind, .string ⟨x.s.c.head.1.toArray⟩, .string ⟨x.s.c.head.2.toArray⟩, .string ⟨x.s.c.who.toArray⟩, .string ⟨x.s.c.b.1.toArray⟩, .string ⟨x.s.c.b.2.toArray⟩, .string ⟨x.s.c.c.1.toArray⟩, .string ⟨x.s.c.c.2.toArray⟩, .string ⟨x.s.c.w2.toArray⟩, .slice ta x.s.tag.length tcap] 49)) ((wr.alloc (.cells #[.int .i64 x.kind, .int .i64 x.s.c.kind, .string ⟨x.s.c.head.1.toArray⟩, .string ⟨x.s.c.head.2.toArray⟩, .string ⟨x.s.c.who.toArray⟩, .string ⟨x.s.c.b.1.toArray⟩, .string ⟨x.s.c.b.2.toArray⟩, .string ⟨x.s.c.c.1.toArray⟩, .string ⟨x.s.c.c.2.toArray⟩, .string ⟨x.s.c.w2.toArray⟩, .slice ta x.s.tag.length tcap] 49)).alloc (.cells #[.int .i64 x.s.c.kind, .string ⟨x.s.c.head.1.toArray⟩, .string ⟨x.s.c.head.2.toArray⟩, .string ⟨x.s.c.who.toArray⟩, .string ⟨x.s.c.b.1.toArray⟩, .string ⟨x.s.c.b.2.toArray⟩, .string ⟨x.s.c.c.1.toArray⟩, .string ⟨x.s.c.c.2.toArray⟩, .string ⟨x.s.c.w2.toArray⟩, .slice ta x.s.tag.length tcap] 35)) := (Chg.refl _ _).alloc _
        have hss := vsigns_one hS ((hby.keep hal (fun _ _ => id)).keep hal2 (fun _ _ => id)) hsh hln
        have hgr := kgreat_any (D := fun _ => True) none (some ⟨wr.heap.size + 1, 0, none⟩) 0 1 [] [x.s] ((wr.alloc (.cells #[.int .i64 x.kind, .int .i64 x.s.c.kind, .string ⟨x.s.c.head.1.toArray⟩, .string ⟨x.s.c.head.2.toArray⟩, .string ⟨x.s.c.who.toArray⟩, .string ⟨x.s.c.b.1.toArray⟩, .string ⟨x.s.c.b.2.toArray⟩, .string ⟨x.s.c.c.1.toArray⟩, .string ⟨x.s.c.c.2.toArray⟩, .string ⟨x.s.c.w2.toArray⟩, .slice ta x.s.tag.length tcap] 49)).alloc (.cells #[.int .i64 x.s.c.kind, .string ⟨x.s.c.head.1.toArray⟩, .string ⟨x.s.c.head.2.toArray⟩, .string ⟨x.s.c.who.toArray⟩, .string ⟨x.s.c.b.1.toArray⟩, .string ⟨x.s.c.b.2.toArray⟩, .string ⟨x.s.c.c.1.toArray⟩, .string ⟨x.s.c.c.2.toArray⟩, .string ⟨x.s.c.w2.toArray⟩, .slice ta x.s.tag.length tcap] 35)) (by show totalK [] + (sizeS x.s + 0) ≤ _; simp only [totalK]; omega) (KeysAt.nil _ _ _) hss
        have HG := hid hgr
        have x0 := cell_blk hX 0
        have x1 := cell_blk hX 1
        have x2 := cell_blk hX 2
        have x3 := cell_blk hX 3
        have x4 := cell_blk hX 4
        have x5 := cell_blk hX 5
        have x6 := cell_blk hX 6
        have x7 := cell_blk hX 7
        have x8 := cell_blk hX 8
        have x9 := cell_blk hX 9
        have x10 := cell_blk hX 10
        simp only [opBox, List.getElem?_toArray, List.getElem?_cons_zero, List.getElem?_cons_succ] at x0 x1 x2 x3 x4 x5 x6 x7 x8 x9 x10
        have HX := hid (And.intro hX (And.intro (hal.trans hal2 (fun _ _ h => h)) (And.intro hby (And.intro hst hal2))))
        have HCW := hid (hst.hc.trans hal (fun _ _ h => h))
        have HW : Hid (A < wr.heap.size ∧ V < wr.heap.size ∧ (∀ i, E i → i ≠ wr.heap.size) ∧ (∀ i, O i → i ≠ wr.heap.size) ∧ (∀ i, Oc i → i ≠ wr.heap.size)) := hid ⟨lt_blk hst.hA, lt_blk hst.hV, fun i hi e => by have := (hst.hE i hi).1; omega, fun i hi e => by have := HK.out.low hst.va i hi; omega, fun i hi e => by have := (hst.hOc i hi).2; omega⟩
        clear hX hal hS hal2 hss hgr hst hby
        by_cases h50 : (50 : Int) ≤ (k : Int)
        · have z1 : decide ((50 : Int) ≤ (k : Int)) = true := decide_eq_true h50
          clear HG HX h50
          go_wp2
          go_ret
          exact ⟨rfl, HCW.out⟩
        · have z1 : decide ((50 : Int) ≤ (k : Int)) = false := decide_eq_false h50
          go_wp2_with fail
          refine HG.out.mono ?_
          clear HG
          rintro e w6 ⟨rfl, hc6⟩
          obtain ⟨hX, hal, hby, hst, hal2⟩ := HX.out
          have hX6 := blk_keep hX (hal2.trans hc6 (fun _ _ h => h)) id
          have hcr := hal.trans hc6 (fun _ _ h => h)
          have hst6 := hst.keep HK.out hcr
          have hby6 := hby.keep hcr (fun _ _ => id)
          have HC6 := hid hst6.hc
          have hXlt : wr.heap.size < w6.heap.size := lt_blk hX6
          have hk49 : k < 50 := by omega
          clear HX HCW hX hal hby hst hal2 hcr hc6 x0 x1 x2 x3 x4 x5 x6 x7 x8 x9 x10 ck c0 c1 c2 c3 c4 c5 c6 c7 c8 c9 z1 h50
          have hwX : A < wr.heap.size ∧ V < wr.heap.size ∧ (∀ i, E i → i ≠ wr.heap.size) ∧ (∀ i, O i → i ≠ wr.heap.size) ∧ (∀ i, Oc i → i ≠ wr.heap.size) := HW.out
          obtain ⟨X, hXe⟩ : ∃ X, X = wr.heap.size := ⟨_, rfl⟩
          rw [← hXe] at hX6 hXlt hwX ⊢
          have HWX := hid hwX
          clear hXe HW hwX
          have a0 := cell_blk hst6.hA 0
          have a1 := cell_blk hst6.hA 1
          simp only [List.getElem?_toArray, List.getElem?_cons_zero, List.getElem?_cons_succ] at a0 a1
          have HS6 := hid (And.intro hst6 (And.intro hX6 hby6))
          clear hst6 hX6 hby6
          have hsum : totalK [] + totalS [x.s] = sizeS x.s := by simp only [totalK, totalS]; omega
          rw [hsum]
          clear hsum
          obtain ⟨tk, htk⟩ : ∃ tk : Int, ((sizeS x.s : Nat) : Int) = tk := ⟨_, rfl⟩
          rw [htk]
          by_cases hbig : 500 < sizeS x.s
          · have d1 : decide (500 < tk) = true := decide_eq_true (by omega)
            clear htk hbig HS6
            go_wp2
            go_ret
            exact ⟨rfl, HC6.out⟩
          · have d1 : decide (500 < tk) = false := decide_eq_false (by omega)
            have hcs : credShort x.s.c 1048576 := sizeC_short (by unfold sizeS at hbig; omega)
            have htl : x.s.tag.length ≤ 1048576 := by unfold sizeS at hbig; omega
            clear htk hbig hszx hsh hln
            by_cases hpp : 100 < p.1.length + p.2.length
            · have d2 : decide (100 < (p.1.length : Int) + (p.2.length : Int)) = true := decide_eq_true (by omega)
              clear HS6
              go_wp2
              go_ret
              exact ⟨rfl, HC6.out⟩
            · have d2 : decide (100 < (p.1.length : Int) + (p.2.length : Int)) = false := decide_eq_false (by omega)
              have hXX := HS6.out.2.1
              have x0 := cell_blk hXX 0
              have x1 := cell_blk hXX 1
              have x2 := cell_blk hXX 2
              have x3 := cell_blk hXX 3
              have x4 := cell_blk hXX 4
              have x5 := cell_blk hXX 5
              have x6 := cell_blk hXX 6
              have x7 := cell_blk hXX 7
              have x8 := cell_blk hXX 8
              have x9 := cell_blk hXX 9
              have x10 := cell_blk hXX 10
              simp only [opBox, List.getElem?_toArray, List.getElem?_cons_zero, List.getElem?_cons_succ] at x0 x1 x2 x3 x4 x5 x6 x7 x8 x9 x10
              have hpl : p.1.length ≤ 1048576 ∧ p.2.length ≤ 1048576 := ⟨by omega, by omega⟩
              clear hXX hpp
              have HS6' := HS6
              cases h0 : ((IntKind.u64.wrap x.kind).tmod 3 == 0) with
              | true =>
                have z0 := h0
                clear h0
                obtain ⟨hst6, hX6, hby6⟩ := HS6.out
                have v0 := cell_blk hst6.hV 0
                have v1 := cell_blk hst6.hV 1
                simp only [List.getElem?_toArray, List.getElem?_cons_zero, List.getElem?_cons_succ] at v0 v1
                have hcal := rvadd_any ao' cap' es m ⟨x.s.c, x.s.tag, ta, tcap⟩ w6 (by omega) hst6.ents hst6.cap0 (fun t ht => (hst6.tags t ht).1) (hcs.mono (by decide)) (by show x.s.tag.length ≤ _; omega)
                unfold vaultV signV signBox at hcal
                have HCAL := hid hcal
                clear hcal hst6 hX6 hby6 HS6
                go_wp2_with fail
                refine HCAL.out.mono ?_
                clear HCAL v0 v1 x0 x1 x2 x3 x4 x5 x6 x7 x8 x9 x10 z0
                rintro e w7 ⟨ao8, cap8, rfl, hes7, hz7, hc7⟩
                obtain ⟨hst6, hX6, hby6⟩ := HS6'.out
                have hst7 := hst6.keep HK.out hc7
                have hX7 := blk_keep hX6 hc7 id
                have hby7 := hby6.keep hc7 (fun _ _ => id)
                have hXlt7 := lt_blk hX7
                have hlow7 := HK.out.low hst7.va
                have hsz7 := hc7.size
                have hlow6 := HK.out.low hst6.va
                have hlen8 : (addV es m ⟨x.s.c, x.s.tag, ta, tcap⟩).length ≤ k + 1 := by have := addV_len es m ⟨x.s.c, x.s.tag, ta, tcap⟩; omega
                have htag7 : TagsIn D w7 (addV es m ⟨x.s.c, x.s.tag, ta, tcap⟩) := addV_tags hst7.tags hby7
                have hcs7 := setVault_chg w7 V (.slice ao8 (addV es m ⟨x.s.c, x.s.tag, ta, tcap⟩).length cap8) m
                have hV7 := hst7.hV
                have hset7 := setVault_blk (.slice ao8 (addV es m ⟨x.s.c, x.s.tag, ta, tcap⟩).length cap8) m hV7
                have hD := HB2.out.1
                have hXV : X ≠ V := by have := HWX.out.2.1; have h2 := hX6; intro e; rw [e] at h2; rw [hst6.hV] at h2; simp at h2
                have hX8 := blk_keep hX7 hcs7 (fun e => hXV e)
                have hva7 := HK.out.keep hst7.va hcs7 (by
                  rintro i (hi | hi) e
                  · exact (hst7.hO i hi).2.2.1 e
                  · have := hD i hi; have : i = V := e; omega)
                have hpv := HK.out.add (setVault w7 V (.slice ao8 (addV es m ⟨x.s.c, x.s.tag, ta, tcap⟩).length cap8) m) g es m ⟨x.s.c, x.s.tag, ta, tcap⟩ hva7 (fun i hi => by have := hD i hi; have := hcs7.size; have := lt_blk hst7.hA; omega) (by omega) hcs htl (hby7.keep hcs7 (fun i hi e => by have := hD i hi; have : i = V := e; omega))
                have hfull : ∀ (O' : Nat → Prop) (w5 : World), Chg O (setVault w7 V (.slice ao8 (addV es m ⟨x.s.c, x.s.tag, ta, tcap⟩).length cap8) m) w5 → VA O' D w5 g ((addV es m ⟨x.s.c, x.s.tag, ta, tcap⟩).map EntB.s) m → (∀ i, O' i → O i ∨ (setVault w7 V (.slice ao8 (addV es m ⟨x.s.c, x.s.tag, ta, tcap⟩).length cap8) m).heap.size ≤ i) → VSt VA D Oc w A V g gc p m O' (fun b => E b ∨ w6.heap.size ≤ b ∧ b < w7.heap.size) w5 (addV es m ⟨x.s.c, x.s.tag, ta, tcap⟩) ao8 cap8 ∧ w5.heap[X]? = some (.cells (opBox x (.slice ta x.s.tag.length tcap)) 49 (0, 0)) := fun O' w5 h1 h2 h3 => by
                  refine ⟨hst7.setV HK.out (by omega) (by omega) HB.out hD hes7 hz7 htag7 h1 h2 (fun i hi => ?_) ?_ (lt_blk hst7.hA) (lt_blk hst7.hV), blk_keep hX8 h1 (fun e => HWX.out.2.2.2.1 _ e rfl)⟩
                  · rcases h3 i hi with h4 | h4
                    · exact .inl h4
                    · exact .inr (by have := hcs7.size; omega)
                  · rintro i (hi | ⟨h4, h5⟩)
                    · exact ⟨Nat.lt_of_lt_of_le (hst6.hE i hi).1 hsz7, (hst6.hE i hi).2, fun e => (hst6.hO i e).2.2.2.1 hi⟩
                    · exact ⟨h5, by have := lt_blk hst6.hV; omega, fun e => by have := hlow6 i e; omega⟩
                unfold setVault at hpv hX8 hfull
                unfold signV signBox at hpv
                have x0 := cell_blk hX8 0
                have x1 := cell_blk hX8 1
                have x2 := cell_blk hX8 2
                have x3 := cell_blk hX8 3
                have x4 := cell_blk hX8 4
                have x5 := cell_blk hX8 5
                have x6 := cell_blk hX8 6
                have x7 := cell_blk hX8 7
                have x8 := cell_blk hX8 8
                have x9 := cell_blk hX8 9
                have x10 := cell_blk hX8 10
                simp only [opBox, List.getElem?_toArray, List.getElem?_cons_zero, List.getElem?_cons_succ] at x0 x1 x2 x3 x4 x5 x6 x7 x8 x9 x10
                have f0 := froz_blk hst7.hV 0
                have f1 := froz_blk hst7.hV 1
                have w0 := cell_blk hst7.hV 0
                have w1 := cell_blk hst7.hV 1
                simp only [List.getElem?_toArray, List.getElem?_cons_zero, List.getElem?_cons_succ] at w0 w1
                have HF7 := hid (And.intro hpv (And.intro hfull hlen8))
                clear hst6 hX6 hby6 hst7 hX7 hby7 hlow7 hlow6 htag7 hcs7 hV7 hset7 hX8 hva7 hpv hfull hes7 hz7 hc7 HS6' hD hlen8
                go_wp2_with fail
                refine HF7.out.1.mono ?_
                rintro e w8 ⟨O8, rfl, hva8, hO8, hc8⟩
                obtain ⟨hst8, hX8⟩ := HF7.out.2.1 O8 w8 hc8 hva8 hO8
                have hlen8 := HF7.out.2.2
                clear HF7 hva8 hO8 hc8 x0 x1 x2 x3 x4 x5 x6 x7 x8 x9 x10 f0 f1 w0 w1
                obtain ⟨es8, hes8⟩ : ∃ es8, es8 = addV es m ⟨x.s.c, x.s.tag, ta, tcap⟩ := ⟨_, rfl⟩
                obtain ⟨e0, he0⟩ : ∃ e0 : Int, e0 = ((addErr es m ⟨x.s.c, x.s.tag, ta, tcap⟩ : Nat) : Int) := ⟨_, rfl⟩
                obtain ⟨E8, hE8⟩ : ∃ E8 : Nat → Prop, E8 = (fun b => E b ∨ w6.heap.size ≤ b ∧ b < w7.heap.size) := ⟨_, rfl⟩
                rw [← hes8, ← hE8] at hst8
                rw [← hes8] at hlen8 ⊢
                rw [← he0]
                clear hes8 he0 hE8
                have he8 : es8.length ≤ 256 := by omega
                have x0 := cell_blk hX8 0
                have x1 := cell_blk hX8 1
                have x2 := cell_blk hX8 2
                have x3 := cell_blk hX8 3
                have x4 := cell_blk hX8 4
                have x5 := cell_blk hX8 5
                have x6 := cell_blk hX8 6
                have x7 := cell_blk hX8 7
                have x8 := cell_blk hX8 8
                have x9 := cell_blk hX8 9
                have x10 := cell_blk hX8 10
                simp only [opBox, List.getElem?_toArray, List.getElem?_cons_zero, List.getElem?_cons_succ] at x0 x1 x2 x3 x4 x5 x6 x7 x8 x9 x10
                have hget := HK.out.get w8 g es8 m x.s.c hst8.va he8 hcs
                unfold GotV signV signBox credV credBox at hget
                have HGT := hid hget
                have HS8 := hid (And.intro hst8 hX8)
                clear hget hst8 hX8
                go_wp2_with fail
                refine HGT.out.mono ?_
                clear HGT x0 x1 x2 x3 x4 x5 x6 x7 x8 x9 x10
                rintro e w9 ⟨⟨t, ya, yc, rfl, hyb, hte⟩, hc9⟩
                have hst9 := HS8.out.1.keep HK.out hc9
                have hX9 := blk_keep HS8.out.2 hc9 id
                have hY : (w9.alloc (.cells #[.int .i64 t.c.kind, .string ⟨t.c.head.1.toArray⟩, .string ⟨t.c.head.2.toArray⟩, .string ⟨t.c.who.toArray⟩, .string ⟨t.c.b.1.toArray⟩, .string ⟨t.c.b.2.toArray⟩, .string ⟨t.c.c.1.toArray⟩, .string ⟨t.c.c.2.toArray⟩, .string ⟨t.c.w2.toArray⟩, .slice ya t.tag.length yc] 35)).heap[w9.heap.size]? = some (.cells (signBox t.c (.slice ya t.tag.length yc)) 35 (0, 0)) := heap_alloc_new w9 _
                have halY : Chg (fun _ => False) w9 (w9.alloc (.cells #[.int .i64 t.c.kind, .string ⟨t.c.head.1.toArray⟩, .string ⟨t.c.head.2.toArray⟩, .string ⟨t.c.who.toArray⟩, .string ⟨t.c.b.1.toArray⟩, .string ⟨t.c.b.2.toArray⟩, .string ⟨t.c.c.1.toArray⟩, .string ⟨t.c.c.2.toArray⟩, .string ⟨t.c.w2.toArray⟩, .slice ya t.tag.length yc] 35)) := (Chg.refl _ w9).alloc _
                have hyb2 := hyb.keep halY (fun _ _ => id)
                have hst10 := hst9.keep HK.out halY
                have hX10 := blk_keep hX9 halY id
                have v0 := cell_blk hst10.hV 0
                have v1 := cell_blk hst10.hV 1
                simp only [List.getElem?_toArray, List.getElem?_cons_zero, List.getElem?_cons_succ] at v0 v1
                have x0 := cell_blk hX10 0
                have x1 := cell_blk hX10 1
                have x2 := cell_blk hX10 2
                have x3 := cell_blk hX10 3
                have x4 := cell_blk hX10 4
                have x5 := cell_blk hX10 5
                have x6 := cell_blk hX10 6
                have x7 := cell_blk hX10 7
                have x8 := cell_blk hX10 8
                have x9 := cell_blk hX10 9
                have x10 := cell_blk hX10 10
                simp only [opBox, List.getElem?_toArray, List.getElem?_cons_zero, List.getElem?_cons_succ] at x0 x1 x2 x3 x4 x5 x6 x7 x8 x9 x10
                have hrg := rvget_any ao8 cap8 es8 m x.s.c (w9.alloc (.cells #[.int .i64 t.c.kind, .string ⟨t.c.head.1.toArray⟩, .string ⟨t.c.head.2.toArray⟩, .string ⟨t.c.who.toArray⟩, .string ⟨t.c.b.1.toArray⟩, .string ⟨t.c.b.2.toArray⟩, .string ⟨t.c.c.1.toArray⟩, .string ⟨t.c.c.2.toArray⟩, .string ⟨t.c.w2.toArray⟩, .slice ya t.tag.length yc] 35)) (by omega) hst10.ents
                obtain ⟨za, zc, hz, hzb⟩ := getVal_at hst10.tags x.s.c
                rw [← hte] at hz hzb
                rw [hz] at hrg
                unfold vaultV signV signBox credV credBox at hrg
                obtain ⟨cs8, hcs8⟩ : ∃ cs8, cs8 = es8.map (·.c) := ⟨_, rfl⟩
                have hst9sh : Hid (∀ c ∈ cs8, credShort c 9223372036854775807) := hid (fun c hc => by
                  rw [hcs8] at hc
                  obtain ⟨q, hq, rfl⟩ := List.mem_map.1 hc
                  exact (isCred_short (isSign_cred (hst10.tags q hq).1)).mono (by decide))
                have hcl : Hid (cs8.length ≤ 256) := hid (by rw [hcs8, List.length_map]; exact he8)
                have HCS := hid hcs8
                clear hcs8
                have HRG := hid (And.intro hrg (And.intro hst10 (And.intro hX10 (And.intro hY (And.intro hyb2 hzb)))))
                clear hrg hst10 hX10 hY hyb2 hzb hz hte hst9 hX9 halY hyb hc9 HS8
                go_wp2_with fail
                obtain ⟨hrg, hst10, hX10, hY, hyb2, hzb⟩ := HRG.out
                clear HRG v0 v1 x0 x1 x2 x3 x4 x5 x6 x7 x8 x9 x10
                generalize (getV es8 x.s.c).isSome = bb at *
                refine hrg.mono ?_
                rintro e w10 ⟨rfl, hc10⟩
                have hZ : (w10.alloc (.cells #[.int .i64 t.c.kind, .string ⟨t.c.head.1.toArray⟩, .string ⟨t.c.head.2.toArray⟩, .string ⟨t.c.who.toArray⟩, .string ⟨t.c.b.1.toArray⟩, .string ⟨t.c.b.2.toArray⟩, .string ⟨t.c.c.1.toArray⟩, .string ⟨t.c.c.2.toArray⟩, .string ⟨t.c.w2.toArray⟩, .slice za t.tag.length zc] 35)).heap[w10.heap.size]? = some (.cells (signBox t.c (.slice za t.tag.length zc)) 35 (0, 0)) := heap_alloc_new w10 _
                have halZ : Chg (fun _ => False) w10 (w10.alloc (.cells #[.int .i64 t.c.kind, .string ⟨t.c.head.1.toArray⟩, .string ⟨t.c.head.2.toArray⟩, .string ⟨t.c.who.toArray⟩, .string ⟨t.c.b.1.toArray⟩, .string ⟨t.c.b.2.toArray⟩, .string ⟨t.c.c.1.toArray⟩, .string ⟨t.c.c.2.toArray⟩, .string ⟨t.c.w2.toArray⟩, .slice za t.tag.length zc] 35)) := (Chg.refl _ w10).alloc _
                have hcc := hc10.trans halZ (fun _ _ h => h)
                have HT := hid (And.intro (hst10.keep HK.out hcc) (And.intro (blk_keep hY hcc id) (And.intro hZ (And.intro (hyb2.keep hcc (fun _ _ => id)) (hzb.keep hcc (fun _ _ => id))))))
                have HX11 := hid (blk_keep hX10 hcc id)
                clear hrg hst10 hX10 hY hyb2 hzb hc10 hZ halZ hcc
                go_wp2_with fail
                generalize (w10.alloc (.cells #[.int .i64 t.c.kind, .string ⟨t.c.head.1.toArray⟩, .string ⟨t.c.head.2.toArray⟩, .string ⟨t.c.who.toArray⟩, .string ⟨t.c.b.1.toArray⟩, .string ⟨t.c.b.2.toArray⟩, .string ⟨t.c.c.1.toArray⟩, .string ⟨t.c.c.2.toArray⟩, .string ⟨t.c.w2.toArray⟩, .slice za t.tag.length zc] 35)) = w11 at *
                generalize w9.heap.size = Y at *
                generalize w10.heap.size = Z at *
                refine wp_region_specs ([.eq (.int .i64 m), .any, .any, .any, .any, .any, .any, .eq (.pointer (some ⟨g, 0, none⟩)), .any, .any, .any, .eq (.pointer (some ⟨V, 0, none⟩)), .any, .any, .any, .eq (.int .i64 e0), .eq (.int .i64 e0), .eq (.pointer (some ⟨Y, 0, none⟩)), .eq (.bool bb), .eq (.pointer (some ⟨Z, 0, none⟩)), .eq (.bool bb), .any, .any, .any, .any, .any, .any, .any, .any, .any, .any, .any, .any, .any, .any, .any, .any, .any, .any, .any, .any, .any, .any, .any, .any, .any, .any, .any, .any, .any, .any, .any, .any, .any, .any, .any, .any, .any, .any, .any, .any, .any, .any, .any, .any, .any, .any, .any, .any, .any, .any, .any, .any, .any, .any, .any, .any, .any, .any, .any, .any, .any, .any, .any, .any, .any, .any, .any, .any, .any, .any, .any, .any, .any, .any, .any, .any, .any, .any, .any, .any, .any, .any, .any, .any, .any, .any, .any, .any, .any, .any, .any, .any, .any, .any, .any, .any, .any, .any, .any, .any, .any, .any, .any, .any, .any, .any, .any, .any, .any, .any, .any, .any, .any, .any, .any, .any, .any, .any, .any, .any, .any, .any, .any, .any, .any, .any, .any, .any, .any, .any, .any, .any, .any, .any, .any, .any, .any, .any, .any, .any, .any, .eq (.int .i64 e0), .eq (.int .i64 e0), .eq (.bool false), .eq (.bool false), .eq (.bool bb), .eq (.bool bb), .eq (.bool false), .eq (.bool false), .eq (.bool false), .eq (signV t.c (.slice ya t.tag.length yc)), .eq (signV t.c (.slice za t.tag.length zc)), .eq (.bool true), .eq (.bool false), .eq (.bool false), .eq (.bool false), .eq (.pointer (some ⟨g, 0, none⟩)), .eq (.int .i64 ((es8.length : Nat) : Int)), .eq (.pointer (some ⟨V, 0, none⟩)), .eq (.slice ao8 es8.length cap8), .eq (.int .i64 ((es8.length : Nat) : Int)), .eq (.bool false), .eq (.bool false), .eq (.bool false), .eq (.pointer (some ⟨g, 0, none⟩)), .eq (.int .i64 (m - ((es8.length : Nat) : Int))), .eq (.int .i64 m), .eq (.pointer (some ⟨V, 0, none⟩)), .eq (.slice ao8 es8.length cap8), .eq (.int .i64 ((es8.length : Nat) : Int)), .eq (.int .i64 (m - ((es8.length : Nat) : Int))), .eq (.bool false), .eq (.bool false), .eq (.bool false), .eq (.pointer (some ⟨g, 0, none⟩)), .credL cs8, .eq (.agg #[.slice ao8 es8.length cap8, .int .i64 m]), .credL cs8, .eq (.bool true), .eq (.bool false), .eq (.bool false)] : List Spec) [162, 163, 164, 165, 166, 167, 168, 169, 170, 171, 172, 173, 174, 175, 176, 177, 178, 179, 180, 181, 182, 183, 184, 185, 186, 187, 188, 189, 190, 191, 192, 193, 194, 195, 196, 197, 198, 199, 200, 201] [0, 7, 11, 15, 16, 17, 18, 19, 20] (by kernel_rfl) (by kernel_rfl) (by rfl) (by kernel_rfl) ?start ?obs ?fin
                case start =>
                  simp only [List.forall_mem_cons]; exact ⟨⟨_, rfl, rfl⟩, ⟨_, rfl, rfl⟩, ⟨_, rfl, rfl⟩, ⟨_, rfl, rfl⟩, ⟨_, rfl, rfl⟩, ⟨_, rfl, rfl⟩, ⟨_, rfl, rfl⟩, ⟨_, rfl, rfl⟩, ⟨_, rfl, rfl⟩, fun _ h => by cases h⟩
                case obs =>
                  refine Obs.cons none (by kernel_rfl) ?_ ?_
                  · refine Ob.plain fun a w hR hk K k => ?_
                    obtain ⟨_, e16, f16⟩ := hk 16 (by decide)
                    clear hk
                    go_simp
                    exact k _ _ (Chg.refl _ _) f16
                  refine Obs.cons none (by kernel_rfl) ?_ ?_
                  · refine Ob.plain fun a w hR hk K k => ?_
                    obtain ⟨_, e15, f15⟩ := hk 15 (by decide)
                    clear hk
                    go_simp
                    exact k _ _ (Chg.refl _ _) f15
                  refine Obs.cons none (by kernel_rfl) ?_ ?_
                  · refine Ob.plain fun a w hR hk K k => ?_
                    obtain ⟨_, e162, rfl⟩ := hk 162 (by decide)
                    obtain ⟨_, e163, rfl⟩ := hk 163 (by decide)
                    clear hk
                    have z : ((e0 : Int) == e0) = true := beq_self_eq_true _
                    have z2 : ((e0 : Int) != e0) = false := by rw [bne, z]; rfl
                    go_simp
                    exact k _ _ (Chg.refl _ _) rfl
                  refine Obs.cons none (by kernel_rfl) ?_ ?_
                  · refine Ob.plain fun a w hR hk K k => ?_
                    obtain ⟨_, e164, f164⟩ := hk 164 (by decide)
                    clear hk
                    go_simp
                    exact k _ _ (Chg.refl _ _) f164
                  refine Obs.cons (some (165, false)) (by kernel_rfl) ?_ ?_
                  · refine Ob.yes (fun _ _ h => h) fun a w hR hk K k => ?_
                    obtain ⟨_, e18, f18⟩ := hk 18 (by decide)
                    clear hk
                    go_simp
                    exact k _ _ (Chg.refl _ _) f18
                  refine Obs.cons (some (165, false)) (by kernel_rfl) ?_ ?_
                  · refine Ob.yes (fun _ _ h => h) fun a w hR hk K k => ?_
                    obtain ⟨_, e20, f20⟩ := hk 20 (by decide)
                    clear hk
                    go_simp
                    exact k _ _ (Chg.refl _ _) f20
                  refine Obs.cons (some (165, false)) (by kernel_rfl) ?_ ?_
                  · refine Ob.yes (fun _ _ h => h) fun a w hR hk K k => ?_
                    obtain ⟨_, e166, rfl⟩ := hk 166 (by decide)
                    obtain ⟨_, e167, rfl⟩ := hk 167 (by decide)
                    clear hk
                    have z : (bb != bb) = false := by simp
                    go_simp
                    exact k _ _ (Chg.refl _ _) (by first | rfl | (show Value.bool _ = Value.bool _; simp))
                  refine Obs.cons none (by kernel_rfl) ?_ ?_
                  · refine Ob.plain fun a w hR hk K k => ?_
                    obtain ⟨_, e165, rfl⟩ := hk 165 (by decide)
                    obtain ⟨_, e168, rfl⟩ := hk 168 (by decide)
                    clear hk
                    go_simp
                    exact k _ _ (Chg.refl _ _) rfl
                  refine Obs.cons none (by kernel_rfl) ?_ ?_
                  · refine Ob.plain fun a w hR hk K k => ?_
                    obtain ⟨_, e169, f169⟩ := hk 169 (by decide)
                    clear hk
                    go_simp
                    exact k _ _ (Chg.refl _ _) f169
                  refine Obs.cons (some (170, false)) (by kernel_rfl) ?_ ?_
                  · refine Ob.yes (fun _ _ h => h) fun a w hR hk K k => ?_
                    obtain ⟨_, e17, rfl⟩ := hk 17 (by decide)
                    clear hk
                    obtain ⟨⟨q0, q1, q2, q3, q4, q5, q6, q7, q8⟩, q9⟩ := cred_at_sign (blk_keep HT.out.2.1 hR id)
                    simp only [Nat.zero_add] at q0 q1 q2 q3 q4 q5 q6 q7 q8 q9
                    go_simp
                    exact k _ _ (Chg.refl _ _) rfl
                  refine Obs.cons (some (170, false)) (by kernel_rfl) ?_ ?_
                  · refine Ob.yes (fun _ _ h => h) fun a w hR hk K k => ?_
                    obtain ⟨_, e19, rfl⟩ := hk 19 (by decide)
                    clear hk
                    obtain ⟨⟨q0, q1, q2, q3, q4, q5, q6, q7, q8⟩, q9⟩ := cred_at_sign (blk_keep HT.out.2.2.1 hR id)
                    simp only [Nat.zero_add] at q0 q1 q2 q3 q4 q5 q6 q7 q8 q9
                    go_simp
                    exact k _ _ (Chg.refl _ _) rfl
                  refine Obs.cons (some (170, false)) (by kernel_rfl) ?_ ?_
                  · refine Ob.yes (fun _ _ h => h) fun a w hR hk K k => ?_
                    obtain ⟨_, e171, rfl⟩ := hk 171 (by decide)
                    obtain ⟨_, e172, rfl⟩ := hk 172 (by decide)
                    clear hk
                    have hsm := rssame_yes t.c t.tag ya za yc zc w (HT.out.2.2.2.1.keep hR (fun _ _ => id)) (HT.out.2.2.2.2.keep hR (fun _ _ => id))
                    unfold signV signBox at hsm
                    go_simp
                    refine hsm.mono ?_
                    rintro e w2 ⟨rfl, hc⟩
                    exact k _ _ hc rfl
                  refine Obs.cons (some (170, false)) (by kernel_rfl) ?_ ?_
                  · refine Ob.yes (fun _ _ h => h) fun a w hR hk K k => ?_
                    obtain ⟨_, e173, rfl⟩ := hk 173 (by decide)
                    clear hk
                    go_simp
                    exact k _ _ (Chg.refl _ _) rfl
                  refine Obs.cons none (by kernel_rfl) ?_ ?_
                  · refine Ob.plain fun a w hR hk K k => ?_
                    obtain ⟨_, e170, rfl⟩ := hk 170 (by decide)
                    obtain ⟨_, e174, rfl⟩ := hk 174 (by decide)
                    clear hk
                    go_simp
                    exact k _ _ (Chg.refl _ _) rfl
                  refine Obs.cons none (by kernel_rfl) ?_ ?_
                  · refine Ob.plain fun a w hR hk K k => ?_
                    obtain ⟨_, e175, f175⟩ := hk 175 (by decide)
                    clear hk
                    go_simp
                    exact k _ _ (Chg.refl _ _) f175
                  refine Obs.cons (some (176, false)) (by kernel_rfl) ?_ ?_
                  · refine Ob.yes (fun _ _ h => h) fun a w hR hk K k => ?_
                    obtain ⟨_, e7, f7⟩ := hk 7 (by decide)
                    clear hk
                    go_simp
                    exact k _ _ (Chg.refl _ _) f7
                  refine Obs.cons (some (176, false)) (by kernel_rfl) ?_ ?_
                  · refine Ob.yes (fun _ _ h => h) fun a w hR hk K k => ?_
                    obtain ⟨_, e177, rfl⟩ := hk 177 (by decide)
                    clear hk
                    have hq := HK.out.len w g es8 m (HK.out.keep HT.out.1.va hR (fun _ _ => id))
                    go_simp
                    refine hq.mono ?_
                    rintro e w2 ⟨rfl, hc⟩
                    exact k _ _ hc rfl
                  refine Obs.cons (some (176, false)) (by kernel_rfl) ?_ ?_
                  · refine Ob.yes (fun _ _ h => h) fun a w hR hk K k => ?_
                    obtain ⟨_, e11, rfl⟩ := hk 11 (by decide)
                    clear hk
                    go_simp
                    exact k _ _ (Chg.refl _ _) rfl
                  refine Obs.cons (some (176, false)) (by kernel_rfl) ?_ ?_
                  · refine Ob.yes (fun _ _ h => h) fun a w hR hk K k => ?_
                    obtain ⟨_, e179, rfl⟩ := hk 179 (by decide)
                    clear hk
                    have q0 := cell_blk (blk_keep HT.out.1.hV hR id) 0
                    have q1 := cell_blk (blk_keep HT.out.1.hV hR id) 1
                    simp only [List.getElem?_toArray, List.getElem?_cons_zero, List.getElem?_cons_succ] at q0 q1
                    go_simp
                    exact k _ _ (Chg.refl _ _) rfl
                  refine Obs.cons (some (176, false)) (by kernel_rfl) ?_ ?_
                  · refine Ob.yes (fun _ _ h => h) fun a w hR hk K k => ?_
                    obtain ⟨_, e180, rfl⟩ := hk 180 (by decide)
                    clear hk
                    go_simp
                    exact k _ _ (Chg.refl _ _) rfl
                  refine Obs.cons (some (176, false)) (by kernel_rfl) ?_ ?_
                  · refine Ob.yes (fun _ _ h => h) fun a w hR hk K k => ?_
                    obtain ⟨_, e178, rfl⟩ := hk 178 (by decide)
                    obtain ⟨_, e181, rfl⟩ := hk 181 (by decide)
                    clear hk
                    have z : (((es8.length : Nat) : Int) != ((es8.length : Nat) : Int)) = false := by simp
                    go_simp
                    exact k _ _ (Chg.refl _ _) (by first | rfl | (show Value.bool _ = Value.bool _; simp))
                  refine Obs.cons none (by kernel_rfl) ?_ ?_
                  · refine Ob.plain fun a w hR hk K k => ?_
                    obtain ⟨_, e176, rfl⟩ := hk 176 (by decide)
                    obtain ⟨_, e182, rfl⟩ := hk 182 (by decide)
                    clear hk
                    go_simp
                    exact k _ _ (Chg.refl _ _) rfl
                  refine Obs.cons none (by kernel_rfl) ?_ ?_
                  · refine Ob.plain fun a w hR hk K k => ?_
                    obtain ⟨_, e183, f183⟩ := hk 183 (by decide)
                    clear hk
                    go_simp
                    exact k _ _ (Chg.refl _ _) f183
                  refine Obs.cons (some (184, false)) (by kernel_rfl) ?_ ?_
                  · refine Ob.yes (fun _ _ h => h) fun a w hR hk K k => ?_
                    obtain ⟨_, e7, f7⟩ := hk 7 (by decide)
                    clear hk
                    go_simp
                    exact k _ _ (Chg.refl _ _) f7
                  refine Obs.cons (some (184, false)) (by kernel_rfl) ?_ ?_
                  · refine Ob.yes (fun _ _ h => h) fun a w hR hk K k => ?_
                    obtain ⟨_, e185, rfl⟩ := hk 185 (by decide)
                    clear hk
                    have hq := HK.out.room w g es8 m (HK.out.keep HT.out.1.va hR (fun _ _ => id)) hb1 hb2 he8
                    go_simp
                    refine hq.mono ?_
                    rintro e w2 ⟨rfl, hc⟩
                    exact k _ _ hc rfl
                  refine Obs.cons (some (184, false)) (by kernel_rfl) ?_ ?_
                  · refine Ob.yes (fun _ _ h => h) fun a w hR hk K k => ?_
                    obtain ⟨_, e0, f0⟩ := hk 0 (by decide)
                    clear hk
                    go_simp
                    exact k _ _ (Chg.refl _ _) f0
                  refine Obs.cons (some (184, false)) (by kernel_rfl) ?_ ?_
                  · refine Ob.yes (fun _ _ h => h) fun a w hR hk K k => ?_
                    obtain ⟨_, e11, rfl⟩ := hk 11 (by decide)
                    clear hk
                    go_simp
                    exact k _ _ (Chg.refl _ _) rfl
                  refine Obs.cons (some (184, false)) (by kernel_rfl) ?_ ?_
                  · refine Ob.yes (fun _ _ h => h) fun a w hR hk K k => ?_
                    obtain ⟨_, e188, rfl⟩ := hk 188 (by decide)
                    clear hk
                    have q0 := cell_blk (blk_keep HT.out.1.hV hR id) 0
                    have q1 := cell_blk (blk_keep HT.out.1.hV hR id) 1
                    simp only [List.getElem?_toArray, List.getElem?_cons_zero, List.getElem?_cons_succ] at q0 q1
                    go_simp
                    exact k _ _ (Chg.refl _ _) rfl
                  refine Obs.cons (some (184, false)) (by kernel_rfl) ?_ ?_
                  · refine Ob.yes (fun _ _ h => h) fun a w hR hk K k => ?_
                    obtain ⟨_, e189, rfl⟩ := hk 189 (by decide)
                    clear hk
                    go_simp
                    exact k _ _ (Chg.refl _ _) rfl
                  refine Obs.cons (some (184, false)) (by kernel_rfl) ?_ ?_
                  · refine Ob.yes (fun _ _ h => h) fun a w hR hk K k => ?_
                    obtain ⟨_, e187, rfl⟩ := hk 187 (by decide)
                    obtain ⟨_, e190, rfl⟩ := hk 190 (by decide)
                    clear hk
                    have z : IntKind.i64.wrap (m - ((es8.length : Nat) : Int)) = m - ((es8.length : Nat) : Int) := by rw [IntKind.wrap_i64]; omega
                    go_simp
                    exact k _ _ (Chg.refl _ _) rfl
                  refine Obs.cons (some (184, false)) (by kernel_rfl) ?_ ?_
                  · refine Ob.yes (fun _ _ h => h) fun a w hR hk K k => ?_
                    obtain ⟨_, e186, rfl⟩ := hk 186 (by decide)
                    obtain ⟨_, e191, rfl⟩ := hk 191 (by decide)
                    clear hk
                    have z : ((m - ((es8.length : Nat) : Int)) != (m - ((es8.length : Nat) : Int))) = false := by simp
                    go_simp
                    exact k _ _ (Chg.refl _ _) (by first | rfl | (show Value.bool _ = Value.bool _; simp))
                  refine Obs.cons none (by kernel_rfl) ?_ ?_
                  · refine Ob.plain fun a w hR hk K k => ?_
                    obtain ⟨_, e184, rfl⟩ := hk 184 (by decide)
                    obtain ⟨_, e192, rfl⟩ := hk 192 (by decide)
                    clear hk
                    go_simp
                    exact k _ _ (Chg.refl _ _) rfl
                  refine Obs.cons none (by kernel_rfl) ?_ ?_
                  · refine Ob.plain fun a w hR hk K k => ?_
                    obtain ⟨_, e193, f193⟩ := hk 193 (by decide)
                    clear hk
                    go_simp
                    exact k _ _ (Chg.refl _ _) f193
                  refine Obs.cons (some (194, false)) (by kernel_rfl) ?_ ?_
                  · refine Ob.yes (fun _ _ h => h) fun a w hR hk K k => ?_
                    obtain ⟨_, e7, f7⟩ := hk 7 (by decide)
                    clear hk
                    go_simp
                    exact k _ _ (Chg.refl _ _) f7
                  refine Obs.cons (some (194, false)) (by kernel_rfl) ?_ ?_
                  · refine Ob.yes (fun _ _ h => h) fun a w hR hk K k => ?_
                    obtain ⟨_, e195, rfl⟩ := hk 195 (by decide)
                    clear hk
                    have hq := HK.out.creds w g es8 m (HK.out.keep HT.out.1.va hR (fun _ _ => id)) he8
                    go_simp
                    refine hq.mono ?_
                    rintro e w2 ⟨⟨a9, c9, rfl, hcs9⟩, hc⟩
                    rw [← HCS.out] at hcs9 ⊢
                    exact k _ _ hc ⟨a9, c9, rfl, hcs9⟩
                  refine Obs.cons (some (194, false)) (by kernel_rfl) ?_ ?_
                  · refine Ob.yes (fun _ _ h => h) fun a w hR hk K k => ?_
                    obtain ⟨_, e11, rfl⟩ := hk 11 (by decide)
                    clear hk
                    have q0 := cell_blk (blk_keep HT.out.1.hV hR id) 0
                    have q1 := cell_blk (blk_keep HT.out.1.hV hR id) 1
                    simp only [List.getElem?_toArray, List.getElem?_cons_zero, List.getElem?_cons_succ] at q0 q1
                    go_simp
                    exact k _ _ (Chg.refl _ _) rfl
                  refine Obs.cons (some (194, false)) (by kernel_rfl) ?_ ?_
                  · refine Ob.yes (fun _ _ h => h) fun a w hR hk K k => ?_
                    obtain ⟨_, e197, rfl⟩ := hk 197 (by decide)
                    clear hk
                    have hq := rvcreds_any ao8 cap8 es8 m w (by omega) (HT.out.1.ents.keep hR (fun _ _ => id))
                    unfold vaultV at hq
                    go_simp
                    refine hq.mono ?_
                    rintro e w2 ⟨a9, c9, rfl, hown, hc⟩
                    rw [← HCS.out] at hown
                    exact k _ _ hc (own_tells hst9sh.out hown)
                  refine Obs.cons (some (194, false)) (by kernel_rfl) ?_ ?_
                  · refine Ob.yes (fun _ _ h => h) fun a w hR hk K k => ?_
                    obtain ⟨_, e196, f196⟩ := hk 196 (by decide)
                    obtain ⟨_, e198, f198⟩ := hk 198 (by decide)
                    clear hk
                    obtain ⟨a1, p1, rfl, h1⟩ := f196
                    obtain ⟨a2, p2, rfl, h2⟩ := f198
                    have hq := csame_ref a1 a2 p1 p2 cs8 cs8 w (Nat.le_trans hcl.out (by decide)) (Nat.le_trans hcl.out (by decide)) h1 h2
                    go_simp
                    refine hq.mono ?_
                    rintro e w2 ⟨rfl, n, rfl⟩
                    exact k _ _ (drewN_chg7 w n) (by first | (simp only [sameC, beq_self_eq_true]; done) | (simp only [sameC, beq_self_eq_true]; rfl))
                  refine Obs.cons (some (194, false)) (by kernel_rfl) ?_ ?_
                  · refine Ob.yes (fun _ _ h => h) fun a w hR hk K k => ?_
                    obtain ⟨_, e199, rfl⟩ := hk 199 (by decide)
                    clear hk
                    go_simp
                    exact k _ _ (Chg.refl _ _) rfl
                  refine Obs.cons none (by kernel_rfl) ?_ ?_
                  · refine Ob.plain fun a w hR hk K k => ?_
                    obtain ⟨_, e194, rfl⟩ := hk 194 (by decide)
                    obtain ⟨_, e200, rfl⟩ := hk 200 (by decide)
                    clear hk
                    go_simp
                    exact k _ _ (Chg.refl _ _) rfl
                  exact Obs.nil
                case fin =>
                  intro vals w12 hc12 hv
                  have h201 : vals 201 = .bool false := hv 201 (by decide)
                  simp only [putAll, List.setIfInBounds_toArray, List.set_cons_zero, List.set_cons_succ, h201]
                  clear hv h201
                  obtain ⟨y0, hy0⟩ : ∃ y, y = (es8.map (·.c)).filter (whichC 0 x.s.c.head []) := ⟨_, rfl⟩
                  have HY0 : Hid (y0 = (es8.map (·.c)).filter (whichC 0 x.s.c.head []) ∧ y0.length ≤ 256 ∧ ∀ c ∈ y0, credShort c 9223372036854775807) := hid ⟨hy0, by rw [hy0]; exact Nat.le_trans (List.length_filter_le _ _) (by rw [List.length_map]; exact he8), fun c hc => hst9sh.out c (by rw [hy0] at hc; rw [HCS.out]; exact (List.mem_filter.1 hc).1)⟩
                  clear hy0
                  obtain ⟨y1, hy1⟩ : ∃ y, y = (es8.map (·.c)).filter (whichC 0 p []) := ⟨_, rfl⟩
                  have HY1 : Hid (y1 = (es8.map (·.c)).filter (whichC 0 p []) ∧ y1.length ≤ 256 ∧ ∀ c ∈ y1, credShort c 9223372036854775807) := hid ⟨hy1, by rw [hy1]; exact Nat.le_trans (List.length_filter_le _ _) (by rw [List.length_map]; exact he8), fun c hc => hst9sh.out c (by rw [hy1] at hc; rw [HCS.out]; exact (List.mem_filter.1 hc).1)⟩
                  clear hy1
                  obtain ⟨y2, hy2⟩ : ∃ y, y = (es8.map (·.c)).filter (whichC 1 ([], []) p.1) := ⟨_, rfl⟩
                  have HY2 : Hid (y2 = (es8.map (·.c)).filter (whichC 1 ([], []) p.1) ∧ y2.length ≤ 256 ∧ ∀ c ∈ y2, credShort c 9223372036854775807) := hid ⟨hy2, by rw [hy2]; exact Nat.le_trans (List.length_filter_le _ _) (by rw [List.length_map]; exact he8), fun c hc => hst9sh.out c (by rw [hy2] at hc; rw [HCS.out]; exact (List.mem_filter.1 hc).1)⟩
                  clear hy2
                  obtain ⟨y3, hy3⟩ : ∃ y, y = (es8.map (·.c)).filter (whichC 2 ([], []) p.1) := ⟨_, rfl⟩
                  have HY3 : Hid (y3 = (es8.map (·.c)).filter (whichC 2 ([], []) p.1) ∧ y3.length ≤ 256 ∧ ∀ c ∈ y3, credShort c 9223372036854775807) := hid ⟨hy3, by rw [hy3]; exact Nat.le_trans (List.length_filter_le _ _) (by rw [List.length_map]; exact he8), fun c hc => hst9sh.out c (by rw [hy3] at hc; rw [HCS.out]; exact (List.mem_filter.1 hc).1)⟩
                  clear hy3
                  obtain ⟨y4, hy4⟩ : ∃ y, y = (es8.map (·.c)).filter (whichC 3 ([], []) p.2) := ⟨_, rfl⟩
                  have HY4 : Hid (y4 = (es8.map (·.c)).filter (whichC 3 ([], []) p.2) ∧ y4.length ≤ 256 ∧ ∀ c ∈ y4, credShort c 9223372036854775807) := hid ⟨hy4, by rw [hy4]; exact Nat.le_trans (List.length_filter_le _ _) (by rw [List.length_map]; exact he8), fun c hc => hst9sh.out c (by rw [hy4] at hc; rw [HCS.out]; exact (List.mem_filter.1 hc).1)⟩
                  clear hy4
                  have hst12 := HT.out.1.keep HK.out hc12
                  have hX12 := blk_keep HX11.out hc12 id
                  have b0 := cell_blk hst12.hA 0
                  have b1 := cell_blk hst12.hA 1
                  simp only [List.getElem?_toArray, List.getElem?_cons_zero, List.getElem?_cons_succ] at b0 b1
                  have hRr : (w12.alloc (.cells #[.string ⟨p.1.toArray⟩, .string ⟨p.2.toArray⟩] 30)).heap[w12.heap.size]? = some (.cells #[.string ⟨p.1.toArray⟩, .string ⟨p.2.toArray⟩] 30 (0, 0)) := heap_alloc_new w12 _
                  have halR : Chg (fun _ => False) w12 (w12.alloc (.cells #[.string ⟨p.1.toArray⟩, .string ⟨p.2.toArray⟩] 30)) := (Chg.refl _ w12).alloc _
                  have HU := hid (And.intro (hst12.keep HK.out halR) (And.intro (blk_keep hX12 halR id) hRr))
                  clear hst12 hX12 hRr halR hc12 HT HX11
                  go_wp2_with fail
                  clear b0 b1
                  generalize (w12.alloc (.cells #[.string ⟨p.1.toArray⟩, .string ⟨p.2.toArray⟩] 30)) = w13 at *
                  generalize w12.heap.size = RR at *
                  refine wp_region_specs ([.any, .any, .any, .any, .any, .eq (.pointer (some ⟨A, 0, none⟩)), .any, .eq (.pointer (some ⟨g, 0, none⟩)), .any, .any, .any, .eq (.pointer (some ⟨V, 0, none⟩)), .any, .any, .eq (.pointer (some ⟨X, 0, none⟩)), .any, .any, .any, .any, .any, .any, .eq (.pointer (some ⟨RR, 0, none⟩)), .any, .any, .any, .any, .any, .any, .any, .any, .any, .any, .any, .any, .any, .any, .any, .any, .any, .any, .any, .any, .any, .any, .any, .any, .any, .any, .any, .any, .any, .any, .any, .any, .any, .any, .any, .any, .any, .any, .any, .any, .any, .any, .any, .any, .any, .any, .any, .any, .any, .any, .any, .any, .any, .any, .any, .any, .any, .any, .any, .any, .any, .any, .any, .any, .any, .any, .any, .any, .any, .any, .any, .any, .any, .any, .any, .any, .any, .any, .any, .any, .any, .any, .any, .any, .any, .any, .any, .any, .any, .any, .any, .any, .any, .any, .any, .any, .any, .any, .any, .any, .any, .any, .any, .any, .any, .any, .any, .any, .any, .any, .any, .any, .any, .any, .any, .any, .any, .any, .any, .any, .any, .any, .any, .any, .any, .any, .any, .any, .any, .any, .any, .any, .any, .any, .any, .any, .any, .any, .any, .any, .any, .any, .any, .any, .any, .any, .any, .any, .any, .any, .any, .any, .any, .any, .any, .any, .any, .any, .any, .any, .any, .any, .any, .any, .any, .any, .any, .any, .any, .any, .any, .any, .any, .any, .any, .any, .any, .any, .any, .any, .any, .any, .any, .any, .any, .eq (.pointer (some ⟨g, 0, none⟩)), .eq (.pointer (some ⟨X, 1, none⟩)), .eq (.pointer (some ⟨X, 1, none⟩)), .eq (.pointer (some ⟨X, 2, none⟩)), .eq (.agg #[.string ⟨x.s.c.head.1.toArray⟩, .string ⟨x.s.c.head.2.toArray⟩]), .credL y0, .eq (.agg #[.slice ao8 es8.length cap8, .int .i64 m]), .eq (.pointer (some ⟨X, 1, none⟩)), .eq (.pointer (some ⟨X, 1, none⟩)), .eq (.pointer (some ⟨X, 2, none⟩)), .eq (.agg #[.string ⟨x.s.c.head.1.toArray⟩, .string ⟨x.s.c.head.2.toArray⟩]), .credL y0, .eq (.bool true), .eq (.bool false), .eq (.bool false), .eq (.pointer (some ⟨g, 0, none⟩)), .eq (.agg #[.string ⟨p.1.toArray⟩, .string ⟨p.2.toArray⟩]), .credL y1, .eq (.agg #[.slice ao8 es8.length cap8, .int .i64 m]), .eq (.agg #[.string ⟨p.1.toArray⟩, .string ⟨p.2.toArray⟩]), .credL y1, .eq (.bool true), .eq (.bool false), .eq (.bool false), .eq (.bool false), .eq (.pointer (some ⟨g, 0, none⟩)), .eq (.pointer (some ⟨A, 0, none⟩)), .eq (.string ⟨p.1.toArray⟩), .credL y2, .eq (.agg #[.slice ao8 es8.length cap8, .int .i64 m]), .eq (.agg #[.string ⟨p.1.toArray⟩, .string ⟨p.2.toArray⟩]), .eq (.pointer (some ⟨A, 0, none⟩)), .eq (.string ⟨p.1.toArray⟩), .credL y2, .eq (.bool true), .eq (.bool false), .eq (.bool false), .eq (.bool false), .eq (.pointer (some ⟨g, 0, none⟩)), .eq (.pointer (some ⟨A, 0, none⟩)), .eq (.string ⟨p.1.toArray⟩), .credL y3, .eq (.agg #[.slice ao8 es8.length cap8, .int .i64 m]), .eq (.agg #[.string ⟨p.1.toArray⟩, .string ⟨p.2.toArray⟩]), .eq (.pointer (some ⟨A, 0, none⟩)), .eq (.string ⟨p.1.toArray⟩), .credL y3, .eq (.bool true), .eq (.bool false), .eq (.bool false), .eq (.bool false), .eq (.pointer (some ⟨g, 0, none⟩)), .eq (.pointer (some ⟨A, 1, none⟩)), .eq (.string ⟨p.2.toArray⟩), .credL y4, .eq (.agg #[.slice ao8 es8.length cap8, .int .i64 m]), .eq (.agg #[.string ⟨p.1.toArray⟩, .string ⟨p.2.toArray⟩]), .eq (.pointer (some ⟨A, 1, none⟩)), .eq (.string ⟨p.2.toArray⟩), .credL y4, .eq (.bool true), .eq (.bool false), .eq (.bool false)] : List Spec) [207, 208, 209, 210, 211, 212, 213, 214, 215, 216, 217, 218, 219, 220, 221, 222, 223, 224, 225, 226, 227, 228, 229, 230, 231, 232, 233, 234, 235, 236, 237, 238, 239, 240, 241, 242, 243, 244, 245, 246, 247, 248, 249, 250, 251, 252, 253, 254, 255, 256, 257, 258, 259, 260, 261, 262, 263, 264, 265, 266, 267, 268, 269] [5, 7, 11, 14, 21] (by kernel_rfl) (by kernel_rfl) (by rfl) (by kernel_rfl) ?start2 ?obs2 ?fin2
                  case start2 =>
                    simp only [List.forall_mem_cons]; exact ⟨⟨_, rfl, rfl⟩, ⟨_, rfl, rfl⟩, ⟨_, rfl, rfl⟩, ⟨_, rfl, rfl⟩, ⟨_, rfl, rfl⟩, fun _ h => by cases h⟩
                  case obs2 =>
                    refine Obs.cons none (by kernel_rfl) ?_ ?_
                    · refine Ob.plain fun a w hR hk K k => ?_
                      obtain ⟨_, e7, f7⟩ := hk 7 (by decide)
                      clear hk
                      go_simp
                      exact k _ _ (Chg.refl _ _) f7
                    refine Obs.cons none (by kernel_rfl) ?_ ?_
                    · refine Ob.plain fun a w hR hk K k => ?_
                      obtain ⟨_, e14, rfl⟩ := hk 14 (by decide)
                      clear hk
                      go_simp
                      exact k _ _ (Chg.refl _ _) rfl
                    refine Obs.cons none (by kernel_rfl) ?_ ?_
                    · refine Ob.plain fun a w hR hk K k => ?_
                      obtain ⟨_, e208, rfl⟩ := hk 208 (by decide)
                      clear hk
                      go_simp
                      exact k _ _ (Chg.refl _ _) rfl
                    refine Obs.cons none (by kernel_rfl) ?_ ?_
                    · refine Ob.plain fun a w hR hk K k => ?_
                      obtain ⟨_, e209, rfl⟩ := hk 209 (by decide)
                      clear hk
                      go_simp
                      exact k _ _ (Chg.refl _ _) rfl
                    refine Obs.cons none (by kernel_rfl) ?_ ?_
                    · refine Ob.plain fun a w hR hk K k => ?_
                      obtain ⟨_, e210, rfl⟩ := hk 210 (by decide)
                      clear hk
                      have q2 := cell_blk (blk_keep HU.out.2.1 hR id) 2
                      have q3 := cell_blk (blk_keep HU.out.2.1 hR id) 3
                      simp only [opBox, List.getElem?_toArray, List.getElem?_cons_zero, List.getElem?_cons_succ] at q2 q3
                      go_simp
                      exact k _ _ (Chg.refl _ _) rfl
                    refine Obs.cons none (by kernel_rfl) ?_ ?_
                    · refine Ob.plain fun a w hR hk K k => ?_
                      obtain ⟨_, e207, rfl⟩ := hk 207 (by decide)
                      obtain ⟨_, e211, rfl⟩ := hk 211 (by decide)
                      clear hk
                      have hq := HK.out.head w g es8 m x.s.c.head (HK.out.keep HU.out.1.va hR (fun _ _ => id)) he8 hcs.1 hcs.2.1
                      rw [← HY0.out.1] at hq
                      go_simp
                      refine hq.mono ?_
                      rintro e w2 ⟨⟨a9, c9, rfl, hcs9⟩, hc⟩
                      exact k _ _ hc ⟨a9, c9, rfl, hcs9⟩
                    refine Obs.cons none (by kernel_rfl) ?_ ?_
                    · refine Ob.plain fun a w hR hk K k => ?_
                      obtain ⟨_, e11, rfl⟩ := hk 11 (by decide)
                      clear hk
                      have q0 := cell_blk (blk_keep HU.out.1.hV hR id) 0
                      have q1 := cell_blk (blk_keep HU.out.1.hV hR id) 1
                      simp only [List.getElem?_toArray, List.getElem?_cons_zero, List.getElem?_cons_succ] at q0 q1
                      go_simp
                      exact k _ _ (Chg.refl _ _) rfl
                    refine Obs.cons none (by kernel_rfl) ?_ ?_
                    · refine Ob.plain fun a w hR hk K k => ?_
                      obtain ⟨_, e14, rfl⟩ := hk 14 (by decide)
                      clear hk
                      go_simp
                      exact k _ _ (Chg.refl _ _) rfl
                    refine Obs.cons none (by kernel_rfl) ?_ ?_
                    · refine Ob.plain fun a w hR hk K k => ?_
                      obtain ⟨_, e214, rfl⟩ := hk 214 (by decide)
                      clear hk
                      go_simp
                      exact k _ _ (Chg.refl _ _) rfl
                    refine Obs.cons none (by kernel_rfl) ?_ ?_
                    · refine Ob.plain fun a w hR hk K k => ?_
                      obtain ⟨_, e215, rfl⟩ := hk 215 (by decide)
                      clear hk
                      go_simp
                      exact k _ _ (Chg.refl _ _) rfl
                    refine Obs.cons none (by kernel_rfl) ?_ ?_
                    · refine Ob.plain fun a w hR hk K k => ?_
                      obtain ⟨_, e216, rfl⟩ := hk 216 (by decide)
                      clear hk
                      have q2 := cell_blk (blk_keep HU.out.2.1 hR id) 2
                      have q3 := cell_blk (blk_keep HU.out.2.1 hR id) 3
                      simp only [opBox, List.getElem?_toArray, List.getElem?_cons_zero, List.getElem?_cons_succ] at q2 q3
                      go_simp
                      exact k _ _ (Chg.refl _ _) rfl
                    refine Obs.cons none (by kernel_rfl) ?_ ?_
                    · refine Ob.plain fun a w hR hk K k => ?_
                      obtain ⟨_, e213, rfl⟩ := hk 213 (by decide)
                      obtain ⟨_, e217, rfl⟩ := hk 217 (by decide)
                      clear hk
                      have hq := rvwhich0 ao8 cap8 es8 m x.s.c.head [] w (by omega) (HU.out.1.ents.keep hR (fun _ _ => id))
                      unfold vaultV WhichPost at hq
                      go_simp
                      refine hq.mono ?_
                      rintro e w2 ⟨o9, a9, c9, ho9, rfl, hown, hc⟩
                      have he9 : o9 = y0 := by first | (rw [ho9, HY0.out.1]; done) | (rw [ho9, HY0.out.1]; rfl)
                      rw [he9] at hown ⊢
                      exact k _ _ hc (own_tells HY0.out.2.2 hown)
                    refine Obs.cons none (by kernel_rfl) ?_ ?_
                    · refine Ob.plain fun a w hR hk K k => ?_
                      obtain ⟨_, e212, f212⟩ := hk 212 (by decide)
                      obtain ⟨_, e218, f218⟩ := hk 218 (by decide)
                      clear hk
                      obtain ⟨a1, p1, rfl, h1⟩ := f212
                      obtain ⟨a2, p2, rfl, h2⟩ := f218
                      have hq := csame_ref a1 a2 p1 p2 y0 y0 w (Nat.le_trans HY0.out.2.1 (by decide)) (Nat.le_trans HY0.out.2.1 (by decide)) h1 h2
                      go_simp
                      refine hq.mono ?_
                      rintro e w2 ⟨rfl, n, rfl⟩
                      exact k _ _ (drewN_chg7 w n) (by first | (simp only [sameC, beq_self_eq_true]; done) | (simp only [sameC, beq_self_eq_true]; rfl))
                    refine Obs.cons none (by kernel_rfl) ?_ ?_
                    · refine Ob.plain fun a w hR hk K k => ?_
                      obtain ⟨_, e219, rfl⟩ := hk 219 (by decide)
                      clear hk
                      go_simp
                      exact k _ _ (Chg.refl _ _) rfl
                    refine Obs.cons none (by kernel_rfl) ?_ ?_
                    · refine Ob.plain fun a w hR hk K k => ?_
                      obtain ⟨_, e220, f220⟩ := hk 220 (by decide)
                      clear hk
                      go_simp
                      exact k _ _ (Chg.refl _ _) f220
                    refine Obs.cons (some (221, false)) (by kernel_rfl) ?_ ?_
                    · refine Ob.yes (fun _ _ h => h) fun a w hR hk K k => ?_
                      obtain ⟨_, e7, f7⟩ := hk 7 (by decide)
                      clear hk
                      go_simp
                      exact k _ _ (Chg.refl _ _) f7
                    refine Obs.cons (some (221, false)) (by kernel_rfl) ?_ ?_
                    · refine Ob.yes (fun _ _ h => h) fun a w hR hk K k => ?_
                      obtain ⟨_, e21, rfl⟩ := hk 21 (by decide)
                      clear hk
                      have q0 := cell_blk (blk_keep HU.out.2.2 hR id) 0
                      have q1 := cell_blk (blk_keep HU.out.2.2 hR id) 1
                      simp only [List.getElem?_toArray, List.getElem?_cons_zero, List.getElem?_cons_succ] at q0 q1
                      go_simp
                      exact k _ _ (Chg.refl _ _) rfl
                    refine Obs.cons (some (221, false)) (by kernel_rfl) ?_ ?_
                    · refine Ob.yes (fun _ _ h => h) fun a w hR hk K k => ?_
                      obtain ⟨_, e222, rfl⟩ := hk 222 (by decide)
                      obtain ⟨_, e223, rfl⟩ := hk 223 (by decide)
                      clear hk
                      have hq := HK.out.head w g es8 m p (HK.out.keep HU.out.1.va hR (fun _ _ => id)) he8 hpl.1 hpl.2
                      rw [← HY1.out.1] at hq
                      go_simp
                      refine hq.mono ?_
                      rintro e w2 ⟨⟨a9, c9, rfl, hcs9⟩, hc⟩
                      exact k _ _ hc ⟨a9, c9, rfl, hcs9⟩
                    refine Obs.cons (some (221, false)) (by kernel_rfl) ?_ ?_
                    · refine Ob.yes (fun _ _ h => h) fun a w hR hk K k => ?_
                      obtain ⟨_, e11, rfl⟩ := hk 11 (by decide)
                      clear hk
                      have q0 := cell_blk (blk_keep HU.out.1.hV hR id) 0
                      have q1 := cell_blk (blk_keep HU.out.1.hV hR id) 1
                      simp only [List.getElem?_toArray, List.getElem?_cons_zero, List.getElem?_cons_succ] at q0 q1
                      go_simp
                      exact k _ _ (Chg.refl _ _) rfl
                    refine Obs.cons (some (221, false)) (by kernel_rfl) ?_ ?_
                    · refine Ob.yes (fun _ _ h => h) fun a w hR hk K k => ?_
                      obtain ⟨_, e21, rfl⟩ := hk 21 (by decide)
                      clear hk
                      have q0 := cell_blk (blk_keep HU.out.2.2 hR id) 0
                      have q1 := cell_blk (blk_keep HU.out.2.2 hR id) 1
                      simp only [List.getElem?_toArray, List.getElem?_cons_zero, List.getElem?_cons_succ] at q0 q1
                      go_simp
                      exact k _ _ (Chg.refl _ _) rfl
                    refine Obs.cons (some (221, false)) (by kernel_rfl) ?_ ?_
                    · refine Ob.yes (fun _ _ h => h) fun a w hR hk K k => ?_
                      obtain ⟨_, e225, rfl⟩ := hk 225 (by decide)
                      obtain ⟨_, e226, rfl⟩ := hk 226 (by decide)
                      clear hk
                      have hq := rvwhich0 ao8 cap8 es8 m p [] w (by omega) (HU.out.1.ents.keep hR (fun _ _ => id))
                      unfold vaultV WhichPost at hq
                      go_simp
                      refine hq.mono ?_
                      rintro e w2 ⟨o9, a9, c9, ho9, rfl, hown, hc⟩
                      have he9 : o9 = y1 := by first | (rw [ho9, HY1.out.1]; done) | (rw [ho9, HY1.out.1]; rfl)
                      rw [he9] at hown ⊢
                      exact k _ _ hc (own_tells HY1.out.2.2 hown)
                    refine Obs.cons (some (221, false)) (by kernel_rfl) ?_ ?_
                    · refine Ob.yes (fun _ _ h => h) fun a w hR hk K k => ?_
                      obtain ⟨_, e224, f224⟩ := hk 224 (by decide)
                      obtain ⟨_, e227, f227⟩ := hk 227 (by decide)
                      clear hk
                      obtain ⟨a1, p1, rfl, h1⟩ := f224
                      obtain ⟨a2, p2, rfl, h2⟩ := f227
                      have hq := csame_ref a1 a2 p1 p2 y1 y1 w (Nat.le_trans HY1.out.2.1 (by decide)) (Nat.le_trans HY1.out.2.1 (by decide)) h1 h2
                      go_simp
                      refine hq.mono ?_
                      rintro e w2 ⟨rfl, n, rfl⟩
                      exact k _ _ (drewN_chg7 w n) (by first | (simp only [sameC, beq_self_eq_true]; done) | (simp only [sameC, beq_self_eq_true]; rfl))
                    refine Obs.cons (some (221, false)) (by kernel_rfl) ?_ ?_
                    · refine Ob.yes (fun _ _ h => h) fun a w hR hk K k => ?_
                      obtain ⟨_, e228, rfl⟩ := hk 228 (by decide)
                      clear hk
                      go_simp
                      exact k _ _ (Chg.refl _ _) rfl
                    refine Obs.cons none (by kernel_rfl) ?_ ?_
                    · refine Ob.plain fun a w hR hk K k => ?_
                      obtain ⟨_, e221, rfl⟩ := hk 221 (by decide)
                      obtain ⟨_, e229, rfl⟩ := hk 229 (by decide)
                      clear hk
                      go_simp
                      exact k _ _ (Chg.refl _ _) rfl
                    refine Obs.cons none (by kernel_rfl) ?_ ?_
                    · refine Ob.plain fun a w hR hk K k => ?_
                      obtain ⟨_, e230, f230⟩ := hk 230 (by decide)
                      clear hk
                      go_simp
                      exact k _ _ (Chg.refl _ _) f230
                    refine Obs.cons (some (231, false)) (by kernel_rfl) ?_ ?_
                    · refine Ob.yes (fun _ _ h => h) fun a w hR hk K k => ?_
                      obtain ⟨_, e7, f7⟩ := hk 7 (by decide)
                      clear hk
                      go_simp
                      exact k _ _ (Chg.refl _ _) f7
                    refine Obs.cons (some (231, false)) (by kernel_rfl) ?_ ?_
                    · refine Ob.yes (fun _ _ h => h) fun a w hR hk K k => ?_
                      obtain ⟨_, e5, rfl⟩ := hk 5 (by decide)
                      clear hk
                      go_simp
                      exact k _ _ (Chg.refl _ _) rfl
                    refine Obs.cons (some (231, false)) (by kernel_rfl) ?_ ?_
                    · refine Ob.yes (fun _ _ h => h) fun a w hR hk K k => ?_
                      obtain ⟨_, e233, rfl⟩ := hk 233 (by decide)
                      clear hk
                      have q0 := cell_blk (blk_keep HU.out.1.hA hR id) 0
                      have q1 := cell_blk (blk_keep HU.out.1.hA hR id) 1
                      simp only [List.getElem?_toArray, List.getElem?_cons_zero, List.getElem?_cons_succ] at q0 q1
                      go_simp
                      exact k _ _ (Chg.refl _ _) rfl
                    refine Obs.cons (some (231, false)) (by kernel_rfl) ?_ ?_
                    · refine Ob.yes (fun _ _ h => h) fun a w hR hk K k => ?_
                      obtain ⟨_, e232, rfl⟩ := hk 232 (by decide)
                      obtain ⟨_, e234, rfl⟩ := hk 234 (by decide)
                      clear hk
                      have hq := HK.out.issuer w g es8 m p.1 (HK.out.keep HU.out.1.va hR (fun _ _ => id)) he8 hpl.1
                      rw [← HY2.out.1] at hq
                      go_simp
                      refine hq.mono ?_
                      rintro e w2 ⟨⟨a9, c9, rfl, hcs9⟩, hc⟩
                      exact k _ _ hc ⟨a9, c9, rfl, hcs9⟩
                    refine Obs.cons (some (231, false)) (by kernel_rfl) ?_ ?_
                    · refine Ob.yes (fun _ _ h => h) fun a w hR hk K k => ?_
                      obtain ⟨_, e11, rfl⟩ := hk 11 (by decide)
                      clear hk
                      have q0 := cell_blk (blk_keep HU.out.1.hV hR id) 0
                      have q1 := cell_blk (blk_keep HU.out.1.hV hR id) 1
                      simp only [List.getElem?_toArray, List.getElem?_cons_zero, List.getElem?_cons_succ] at q0 q1
                      go_simp
                      exact k _ _ (Chg.refl _ _) rfl
                    refine Obs.cons (some (231, false)) (by kernel_rfl) ?_ ?_
                    · refine Ob.yes (fun _ _ h => h) fun a w hR hk K k => ?_
                      obtain ⟨_, e21, rfl⟩ := hk 21 (by decide)
                      clear hk
                      have q0 := cell_blk (blk_keep HU.out.2.2 hR id) 0
                      have q1 := cell_blk (blk_keep HU.out.2.2 hR id) 1
                      simp only [List.getElem?_toArray, List.getElem?_cons_zero, List.getElem?_cons_succ] at q0 q1
                      go_simp
                      exact k _ _ (Chg.refl _ _) rfl
                    refine Obs.cons (some (231, false)) (by kernel_rfl) ?_ ?_
                    · refine Ob.yes (fun _ _ h => h) fun a w hR hk K k => ?_
                      obtain ⟨_, e5, rfl⟩ := hk 5 (by decide)
                      clear hk
                      go_simp
                      exact k _ _ (Chg.refl _ _) rfl
                    refine Obs.cons (some (231, false)) (by kernel_rfl) ?_ ?_
                    · refine Ob.yes (fun _ _ h => h) fun a w hR hk K k => ?_
                      obtain ⟨_, e238, rfl⟩ := hk 238 (by decide)
                      clear hk
                      have q0 := cell_blk (blk_keep HU.out.1.hA hR id) 0
                      have q1 := cell_blk (blk_keep HU.out.1.hA hR id) 1
                      simp only [List.getElem?_toArray, List.getElem?_cons_zero, List.getElem?_cons_succ] at q0 q1
                      go_simp
                      exact k _ _ (Chg.refl _ _) rfl
                    refine Obs.cons (some (231, false)) (by kernel_rfl) ?_ ?_
                    · refine Ob.yes (fun _ _ h => h) fun a w hR hk K k => ?_
                      obtain ⟨_, e236, rfl⟩ := hk 236 (by decide)
                      obtain ⟨_, e237, rfl⟩ := hk 237 (by decide)
                      obtain ⟨_, e239, rfl⟩ := hk 239 (by decide)
                      clear hk
                      have hq := rvwhich1 ao8 cap8 es8 m p p.1 w (by omega) (HU.out.1.ents.keep hR (fun _ _ => id))
                      unfold vaultV WhichPost at hq
                      go_simp
                      refine hq.mono ?_
                      rintro e w2 ⟨o9, a9, c9, ho9, rfl, hown, hc⟩
                      have he9 : o9 = y2 := by first | (rw [ho9, HY2.out.1]; done) | (rw [ho9, HY2.out.1]; rfl)
                      rw [he9] at hown ⊢
                      exact k _ _ hc (own_tells HY2.out.2.2 hown)
                    refine Obs.cons (some (231, false)) (by kernel_rfl) ?_ ?_
                    · refine Ob.yes (fun _ _ h => h) fun a w hR hk K k => ?_
                      obtain ⟨_, e235, f235⟩ := hk 235 (by decide)
                      obtain ⟨_, e240, f240⟩ := hk 240 (by decide)
                      clear hk
                      obtain ⟨a1, p1, rfl, h1⟩ := f235
                      obtain ⟨a2, p2, rfl, h2⟩ := f240
                      have hq := csame_ref a1 a2 p1 p2 y2 y2 w (Nat.le_trans HY2.out.2.1 (by decide)) (Nat.le_trans HY2.out.2.1 (by decide)) h1 h2
                      go_simp
                      refine hq.mono ?_
                      rintro e w2 ⟨rfl, n, rfl⟩
                      exact k _ _ (drewN_chg7 w n) (by first | (simp only [sameC, beq_self_eq_true]; done) | (simp only [sameC, beq_self_eq_true]; rfl))
                    refine Obs.cons (some (231, false)) (by kernel_rfl) ?_ ?_
                    · refine Ob.yes (fun _ _ h => h) fun a w hR hk K k => ?_
                      obtain ⟨_, e241, rfl⟩ := hk 241 (by decide)
                      clear hk
                      go_simp
                      exact k _ _ (Chg.refl _ _) rfl
                    refine Obs.cons none (by kernel_rfl) ?_ ?_
                    · refine Ob.plain fun a w hR hk K k => ?_
                      obtain ⟨_, e231, rfl⟩ := hk 231 (by decide)
                      obtain ⟨_, e242, rfl⟩ := hk 242 (by decide)
                      clear hk
                      go_simp
                      exact k _ _ (Chg.refl _ _) rfl
                    refine Obs.cons none (by kernel_rfl) ?_ ?_
                    · refine Ob.plain fun a w hR hk K k => ?_
                      obtain ⟨_, e243, f243⟩ := hk 243 (by decide)
                      clear hk
                      go_simp
                      exact k _ _ (Chg.refl _ _) f243
                    refine Obs.cons (some (244, false)) (by kernel_rfl) ?_ ?_
                    · refine Ob.yes (fun _ _ h => h) fun a w hR hk K k => ?_
                      obtain ⟨_, e7, f7⟩ := hk 7 (by decide)
                      clear hk
                      go_simp
                      exact k _ _ (Chg.refl _ _) f7
                    refine Obs.cons (some (244, false)) (by kernel_rfl) ?_ ?_
                    · refine Ob.yes (fun _ _ h => h) fun a w hR hk K k => ?_
                      obtain ⟨_, e5, rfl⟩ := hk 5 (by decide)
                      clear hk
                      go_simp
                      exact k _ _ (Chg.refl _ _) rfl
                    refine Obs.cons (some (244, false)) (by kernel_rfl) ?_ ?_
                    · refine Ob.yes (fun _ _ h => h) fun a w hR hk K k => ?_
                      obtain ⟨_, e246, rfl⟩ := hk 246 (by decide)
                      clear hk
                      have q0 := cell_blk (blk_keep HU.out.1.hA hR id) 0
                      have q1 := cell_blk (blk_keep HU.out.1.hA hR id) 1
                      simp only [List.getElem?_toArray, List.getElem?_cons_zero, List.getElem?_cons_succ] at q0 q1
                      go_simp
                      exact k _ _ (Chg.refl _ _) rfl
                    refine Obs.cons (some (244, false)) (by kernel_rfl) ?_ ?_
                    · refine Ob.yes (fun _ _ h => h) fun a w hR hk K k => ?_
                      obtain ⟨_, e245, rfl⟩ := hk 245 (by decide)
                      obtain ⟨_, e247, rfl⟩ := hk 247 (by decide)
                      clear hk
                      have hq := HK.out.subject w g es8 m p.1 (HK.out.keep HU.out.1.va hR (fun _ _ => id)) he8 hpl.1
                      rw [← HY3.out.1] at hq
                      go_simp
                      refine hq.mono ?_
                      rintro e w2 ⟨⟨a9, c9, rfl, hcs9⟩, hc⟩
                      exact k _ _ hc ⟨a9, c9, rfl, hcs9⟩
                    refine Obs.cons (some (244, false)) (by kernel_rfl) ?_ ?_
                    · refine Ob.yes (fun _ _ h => h) fun a w hR hk K k => ?_
                      obtain ⟨_, e11, rfl⟩ := hk 11 (by decide)
                      clear hk
                      have q0 := cell_blk (blk_keep HU.out.1.hV hR id) 0
                      have q1 := cell_blk (blk_keep HU.out.1.hV hR id) 1
                      simp only [List.getElem?_toArray, List.getElem?_cons_zero, List.getElem?_cons_succ] at q0 q1
                      go_simp
                      exact k _ _ (Chg.refl _ _) rfl
                    refine Obs.cons (some (244, false)) (by kernel_rfl) ?_ ?_
                    · refine Ob.yes (fun _ _ h => h) fun a w hR hk K k => ?_
                      obtain ⟨_, e21, rfl⟩ := hk 21 (by decide)
                      clear hk
                      have q0 := cell_blk (blk_keep HU.out.2.2 hR id) 0
                      have q1 := cell_blk (blk_keep HU.out.2.2 hR id) 1
                      simp only [List.getElem?_toArray, List.getElem?_cons_zero, List.getElem?_cons_succ] at q0 q1
                      go_simp
                      exact k _ _ (Chg.refl _ _) rfl
                    refine Obs.cons (some (244, false)) (by kernel_rfl) ?_ ?_
                    · refine Ob.yes (fun _ _ h => h) fun a w hR hk K k => ?_
                      obtain ⟨_, e5, rfl⟩ := hk 5 (by decide)
                      clear hk
                      go_simp
                      exact k _ _ (Chg.refl _ _) rfl
                    refine Obs.cons (some (244, false)) (by kernel_rfl) ?_ ?_
                    · refine Ob.yes (fun _ _ h => h) fun a w hR hk K k => ?_
                      obtain ⟨_, e251, rfl⟩ := hk 251 (by decide)
                      clear hk
                      have q0 := cell_blk (blk_keep HU.out.1.hA hR id) 0
                      have q1 := cell_blk (blk_keep HU.out.1.hA hR id) 1
                      simp only [List.getElem?_toArray, List.getElem?_cons_zero, List.getElem?_cons_succ] at q0 q1
                      go_simp
                      exact k _ _ (Chg.refl _ _) rfl
                    refine Obs.cons (some (244, false)) (by kernel_rfl) ?_ ?_
                    · refine Ob.yes (fun _ _ h => h) fun a w hR hk K k => ?_
                      obtain ⟨_, e249, rfl⟩ := hk 249 (by decide)
                      obtain ⟨_, e250, rfl⟩ := hk 250 (by decide)
                      obtain ⟨_, e252, rfl⟩ := hk 252 (by decide)
                      clear hk
                      have hq := rvwhich2 ao8 cap8 es8 m p p.1 w (by omega) (HU.out.1.ents.keep hR (fun _ _ => id))
                      unfold vaultV WhichPost at hq
                      go_simp
                      refine hq.mono ?_
                      rintro e w2 ⟨o9, a9, c9, ho9, rfl, hown, hc⟩
                      have he9 : o9 = y3 := by first | (rw [ho9, HY3.out.1]; done) | (rw [ho9, HY3.out.1]; rfl)
                      rw [he9] at hown ⊢
                      exact k _ _ hc (own_tells HY3.out.2.2 hown)
                    refine Obs.cons (some (244, false)) (by kernel_rfl) ?_ ?_
                    · refine Ob.yes (fun _ _ h => h) fun a w hR hk K k => ?_
                      obtain ⟨_, e248, f248⟩ := hk 248 (by decide)
                      obtain ⟨_, e253, f253⟩ := hk 253 (by decide)
                      clear hk
                      obtain ⟨a1, p1, rfl, h1⟩ := f248
                      obtain ⟨a2, p2, rfl, h2⟩ := f253
                      have hq := csame_ref a1 a2 p1 p2 y3 y3 w (Nat.le_trans HY3.out.2.1 (by decide)) (Nat.le_trans HY3.out.2.1 (by decide)) h1 h2
                      go_simp
                      refine hq.mono ?_
                      rintro e w2 ⟨rfl, n, rfl⟩
                      exact k _ _ (drewN_chg7 w n) (by first | (simp only [sameC, beq_self_eq_true]; done) | (simp only [sameC, beq_self_eq_true]; rfl))
                    refine Obs.cons (some (244, false)) (by kernel_rfl) ?_ ?_
                    · refine Ob.yes (fun _ _ h => h) fun a w hR hk K k => ?_
                      obtain ⟨_, e254, rfl⟩ := hk 254 (by decide)
                      clear hk
                      go_simp
                      exact k _ _ (Chg.refl _ _) rfl
                    refine Obs.cons none (by kernel_rfl) ?_ ?_
                    · refine Ob.plain fun a w hR hk K k => ?_
                      obtain ⟨_, e244, rfl⟩ := hk 244 (by decide)
                      obtain ⟨_, e255, rfl⟩ := hk 255 (by decide)
                      clear hk
                      go_simp
                      exact k _ _ (Chg.refl _ _) rfl
                    refine Obs.cons none (by kernel_rfl) ?_ ?_
                    · refine Ob.plain fun a w hR hk K k => ?_
                      obtain ⟨_, e256, f256⟩ := hk 256 (by decide)
                      clear hk
                      go_simp
                      exact k _ _ (Chg.refl _ _) f256
                    refine Obs.cons (some (257, false)) (by kernel_rfl) ?_ ?_
                    · refine Ob.yes (fun _ _ h => h) fun a w hR hk K k => ?_
                      obtain ⟨_, e7, f7⟩ := hk 7 (by decide)
                      clear hk
                      go_simp
                      exact k _ _ (Chg.refl _ _) f7
                    refine Obs.cons (some (257, false)) (by kernel_rfl) ?_ ?_
                    · refine Ob.yes (fun _ _ h => h) fun a w hR hk K k => ?_
                      obtain ⟨_, e5, rfl⟩ := hk 5 (by decide)
                      clear hk
                      go_simp
                      exact k _ _ (Chg.refl _ _) rfl
                    refine Obs.cons (some (257, false)) (by kernel_rfl) ?_ ?_
                    · refine Ob.yes (fun _ _ h => h) fun a w hR hk K k => ?_
                      obtain ⟨_, e259, rfl⟩ := hk 259 (by decide)
                      clear hk
                      have q0 := cell_blk (blk_keep HU.out.1.hA hR id) 0
                      have q1 := cell_blk (blk_keep HU.out.1.hA hR id) 1
                      simp only [List.getElem?_toArray, List.getElem?_cons_zero, List.getElem?_cons_succ] at q0 q1
                      go_simp
                      exact k _ _ (Chg.refl _ _) rfl
                    refine Obs.cons (some (257, false)) (by kernel_rfl) ?_ ?_
                    · refine Ob.yes (fun _ _ h => h) fun a w hR hk K k => ?_
                      obtain ⟨_, e258, rfl⟩ := hk 258 (by decide)
                      obtain ⟨_, e260, rfl⟩ := hk 260 (by decide)
                      clear hk
                      have hq := HK.out.word w g es8 m p.2 (HK.out.keep HU.out.1.va hR (fun _ _ => id)) he8 hpl.2
                      rw [← HY4.out.1] at hq
                      go_simp
                      refine hq.mono ?_
                      rintro e w2 ⟨⟨a9, c9, rfl, hcs9⟩, hc⟩
                      exact k _ _ hc ⟨a9, c9, rfl, hcs9⟩
                    refine Obs.cons (some (257, false)) (by kernel_rfl) ?_ ?_
                    · refine Ob.yes (fun _ _ h => h) fun a w hR hk K k => ?_
                      obtain ⟨_, e11, rfl⟩ := hk 11 (by decide)
                      clear hk
                      have q0 := cell_blk (blk_keep HU.out.1.hV hR id) 0
                      have q1 := cell_blk (blk_keep HU.out.1.hV hR id) 1
                      simp only [List.getElem?_toArray, List.getElem?_cons_zero, List.getElem?_cons_succ] at q0 q1
                      go_simp
                      exact k _ _ (Chg.refl _ _) rfl
                    refine Obs.cons (some (257, false)) (by kernel_rfl) ?_ ?_
                    · refine Ob.yes (fun _ _ h => h) fun a w hR hk K k => ?_
                      obtain ⟨_, e21, rfl⟩ := hk 21 (by decide)
                      clear hk
                      have q0 := cell_blk (blk_keep HU.out.2.2 hR id) 0
                      have q1 := cell_blk (blk_keep HU.out.2.2 hR id) 1
                      simp only [List.getElem?_toArray, List.getElem?_cons_zero, List.getElem?_cons_succ] at q0 q1
                      go_simp
                      exact k _ _ (Chg.refl _ _) rfl
                    refine Obs.cons (some (257, false)) (by kernel_rfl) ?_ ?_
                    · refine Ob.yes (fun _ _ h => h) fun a w hR hk K k => ?_
                      obtain ⟨_, e5, rfl⟩ := hk 5 (by decide)
                      clear hk
                      go_simp
                      exact k _ _ (Chg.refl _ _) rfl
                    refine Obs.cons (some (257, false)) (by kernel_rfl) ?_ ?_
                    · refine Ob.yes (fun _ _ h => h) fun a w hR hk K k => ?_
                      obtain ⟨_, e264, rfl⟩ := hk 264 (by decide)
                      clear hk
                      have q0 := cell_blk (blk_keep HU.out.1.hA hR id) 0
                      have q1 := cell_blk (blk_keep HU.out.1.hA hR id) 1
                      simp only [List.getElem?_toArray, List.getElem?_cons_zero, List.getElem?_cons_succ] at q0 q1
                      go_simp
                      exact k _ _ (Chg.refl _ _) rfl
                    refine Obs.cons (some (257, false)) (by kernel_rfl) ?_ ?_
                    · refine Ob.yes (fun _ _ h => h) fun a w hR hk K k => ?_
                      obtain ⟨_, e262, rfl⟩ := hk 262 (by decide)
                      obtain ⟨_, e263, rfl⟩ := hk 263 (by decide)
                      obtain ⟨_, e265, rfl⟩ := hk 265 (by decide)
                      clear hk
                      have hq := rvwhich3 ao8 cap8 es8 m p p.2 w (by omega) (HU.out.1.ents.keep hR (fun _ _ => id))
                      unfold vaultV WhichPost at hq
                      go_simp
                      refine hq.mono ?_
                      rintro e w2 ⟨o9, a9, c9, ho9, rfl, hown, hc⟩
                      have he9 : o9 = y4 := by first | (rw [ho9, HY4.out.1]; done) | (rw [ho9, HY4.out.1]; rfl)
                      rw [he9] at hown ⊢
                      exact k _ _ hc (own_tells HY4.out.2.2 hown)
                    refine Obs.cons (some (257, false)) (by kernel_rfl) ?_ ?_
                    · refine Ob.yes (fun _ _ h => h) fun a w hR hk K k => ?_
                      obtain ⟨_, e261, f261⟩ := hk 261 (by decide)
                      obtain ⟨_, e266, f266⟩ := hk 266 (by decide)
                      clear hk
                      obtain ⟨a1, p1, rfl, h1⟩ := f261
                      obtain ⟨a2, p2, rfl, h2⟩ := f266
                      have hq := csame_ref a1 a2 p1 p2 y4 y4 w (Nat.le_trans HY4.out.2.1 (by decide)) (Nat.le_trans HY4.out.2.1 (by decide)) h1 h2
                      go_simp
                      refine hq.mono ?_
                      rintro e w2 ⟨rfl, n, rfl⟩
                      exact k _ _ (drewN_chg7 w n) (by first | (simp only [sameC, beq_self_eq_true]; done) | (simp only [sameC, beq_self_eq_true]; rfl))
                    refine Obs.cons (some (257, false)) (by kernel_rfl) ?_ ?_
                    · refine Ob.yes (fun _ _ h => h) fun a w hR hk K k => ?_
                      obtain ⟨_, e267, rfl⟩ := hk 267 (by decide)
                      clear hk
                      go_simp
                      exact k _ _ (Chg.refl _ _) rfl
                    refine Obs.cons none (by kernel_rfl) ?_ ?_
                    · refine Ob.plain fun a w hR hk K k => ?_
                      obtain ⟨_, e257, rfl⟩ := hk 257 (by decide)
                      obtain ⟨_, e268, rfl⟩ := hk 268 (by decide)
                      clear hk
                      go_simp
                      exact k _ _ (Chg.refl _ _) rfl
                    exact Obs.nil
                  case fin2 =>
                    intro vals w14 hc14 hv
                    have h269 : vals 269 = .bool false := hv 269 (by decide)
                    simp only [putAll, List.setIfInBounds_toArray, List.set_cons_zero, List.set_cons_succ, h269]
                    clear hv h269
                    have HE := hid (HU.out.1.keep HK.out hc14)
                    clear HU hc14
                    go_wp2
                    go_roundw
                    case rel => exact ⟨k + 1, es8, ao8, cap8, O8, E8, by go_num, by omega, by omega, by omega, HE.out⟩
                    case measure => simp [intOf]; omega
              | false =>
                have z0 := h0
                clear h0
                cases h1 : ((IntKind.u64.wrap x.kind).tmod 3 == 1) with
                | true =>
                  have z1 := h1
                  clear h1
                  obtain ⟨hst6, hX6, hby6⟩ := HS6.out
                  have v0 := cell_blk hst6.hV 0
                  have v1 := cell_blk hst6.hV 1
                  simp only [List.getElem?_toArray, List.getElem?_cons_zero, List.getElem?_cons_succ] at v0 v1
                  have hcal := rvdrop_any ao' cap' es m x.s.c w6 (by omega) hst6.ents hst6.cap0
                  unfold vaultV credV credBox at hcal
                  have HCAL := hid hcal
                  clear hcal hst6 hX6 hby6 HS6
                  go_wp2_with fail
                  refine HCAL.out.mono ?_
                  clear HCAL v0 v1 x0 x1 x2 x3 x4 x5 x6 x7 x8 x9 x10 z0 z1
                  rintro e w7 ⟨ao8, cap8, rfl, hes7, hz7, hc7⟩
                  obtain ⟨hst6, hX6, hby6⟩ := HS6'.out
                  have hst7 := hst6.keep HK.out hc7
                  have hX7 := blk_keep hX6 hc7 id
                  have hby7 := hby6.keep hc7 (fun _ _ => id)
                  have hXlt7 := lt_blk hX7
                  have hlow7 := HK.out.low hst7.va
                  have hsz7 := hc7.size
                  have hlow6 := HK.out.low hst6.va
                  have hlen8 : (dropV es x.s.c).length ≤ k + 1 := by have := dropV_len es x.s.c; omega
                  have htag7 : TagsIn D w7 (dropV es x.s.c) := dropV_tags hst7.tags
                  have hcs7 := setVault_chg w7 V (.slice ao8 (dropV es x.s.c).length cap8) m
                  have hV7 := hst7.hV
                  have hset7 := setVault_blk (.slice ao8 (dropV es x.s.c).length cap8) m hV7
                  have hD := HB2.out.1
                  have hXV : X ≠ V := by have := HWX.out.2.1; have h2 := hX6; intro e; rw [e] at h2; rw [hst6.hV] at h2; simp at h2
                  have hX8 := blk_keep hX7 hcs7 (fun e => hXV e)
                  have hva7 := HK.out.keep hst7.va hcs7 (by
                    rintro i (hi | hi) e
                    · exact (hst7.hO i hi).2.2.1 e
                    · have := hD i hi; have : i = V := e; omega)
                  have hpv := HK.out.drop (setVault w7 V (.slice ao8 (dropV es x.s.c).length cap8) m) g es m x.s.c hva7 (fun i hi => by have := hD i hi; have := hcs7.size; have := lt_blk hst7.hA; omega) (by omega) hcs
                  have hfull : ∀ (O' : Nat → Prop) (w5 : World), Chg O (setVault w7 V (.slice ao8 (dropV es x.s.c).length cap8) m) w5 → VA O' D w5 g ((dropV es x.s.c).map EntB.s) m → (∀ i, O' i → O i ∨ (setVault w7 V (.slice ao8 (dropV es x.s.c).length cap8) m).heap.size ≤ i) → VSt VA D Oc w A V g gc p m O' (fun b => E b ∨ w6.heap.size ≤ b ∧ b < w7.heap.size) w5 (dropV es x.s.c) ao8 cap8 ∧ w5.heap[X]? = some (.cells (opBox x (.slice ta x.s.tag.length tcap)) 49 (0, 0)) := fun O' w5 h1 h2 h3 => by
                    refine ⟨hst7.setV HK.out (by omega) (by omega) HB.out hD hes7 hz7 htag7 h1 h2 (fun i hi => ?_) ?_ (lt_blk hst7.hA) (lt_blk hst7.hV), blk_keep hX8 h1 (fun e => HWX.out.2.2.2.1 _ e rfl)⟩
                    · rcases h3 i hi with h4 | h4
                      · exact .inl h4
                      · exact .inr (by have := hcs7.size; omega)
                    · rintro i (hi | ⟨h4, h5⟩)
                      · exact ⟨Nat.lt_of_lt_of_le (hst6.hE i hi).1 hsz7, (hst6.hE i hi).2, fun e => (hst6.hO i e).2.2.2.1 hi⟩
                      · exact ⟨h5, by have := lt_blk hst6.hV; omega, fun e => by have := hlow6 i e; omega⟩
                  unfold setVault at hpv hX8 hfull
                  unfold credV credBox at hpv
                  have x0 := cell_blk hX8 0
                  have x1 := cell_blk hX8 1
                  have x2 := cell_blk hX8 2
                  have x3 := cell_blk hX8 3
                  have x4 := cell_blk hX8 4
                  have x5 := cell_blk hX8 5
                  have x6 := cell_blk hX8 6
                  have x7 := cell_blk hX8 7
                  have x8 := cell_blk hX8 8
                  have x9 := cell_blk hX8 9
                  have x10 := cell_blk hX8 10
                  simp only [opBox, List.getElem?_toArray, List.getElem?_cons_zero, List.getElem?_cons_succ] at x0 x1 x2 x3 x4 x5 x6 x7 x8 x9 x10
                  have f0 := froz_blk hst7.hV 0
                  have f1 := froz_blk hst7.hV 1
                  have w0 := cell_blk hst7.hV 0
                  have w1 := cell_blk hst7.hV 1
                  simp only [List.getElem?_toArray, List.getElem?_cons_zero, List.getElem?_cons_succ] at w0 w1
                  have HF7 := hid (And.intro hpv (And.intro hfull hlen8))
                  clear hst6 hX6 hby6 hst7 hX7 hby7 hlow7 hlow6 htag7 hcs7 hV7 hset7 hX8 hva7 hpv hfull hes7 hz7 hc7 HS6' hD hlen8
                  go_wp2_with fail
                  refine HF7.out.1.mono ?_
                  rintro e w8 ⟨O8, rfl, hva8, hO8, hc8⟩
                  obtain ⟨hst8, hX8⟩ := HF7.out.2.1 O8 w8 hc8 hva8 hO8
                  have hlen8 := HF7.out.2.2
                  clear HF7 hva8 hO8 hc8 x0 x1 x2 x3 x4 x5 x6 x7 x8 x9 x10 f0 f1 w0 w1
                  obtain ⟨es8, hes8⟩ : ∃ es8, es8 = dropV es x.s.c := ⟨_, rfl⟩
                  obtain ⟨e0, he0⟩ : ∃ e0 : Int, e0 = ((dropErr es x.s.c : Nat) : Int) := ⟨_, rfl⟩
                  obtain ⟨E8, hE8⟩ : ∃ E8 : Nat → Prop, E8 = (fun b => E b ∨ w6.heap.size ≤ b ∧ b < w7.heap.size) := ⟨_, rfl⟩
                  rw [← hes8, ← hE8] at hst8
                  rw [← hes8] at hlen8 ⊢
                  rw [← he0]
                  clear hes8 he0 hE8
                  have he8 : es8.length ≤ 256 := by omega
                  have x0 := cell_blk hX8 0
                  have x1 := cell_blk hX8 1
                  have x2 := cell_blk hX8 2
                  have x3 := cell_blk hX8 3
                  have x4 := cell_blk hX8 4
                  have x5 := cell_blk hX8 5
                  have x6 := cell_blk hX8 6
                  have x7 := cell_blk hX8 7
                  have x8 := cell_blk hX8 8
                  have x9 := cell_blk hX8 9
                  have x10 := cell_blk hX8 10
                  simp only [opBox, List.getElem?_toArray, List.getElem?_cons_zero, List.getElem?_cons_succ] at x0 x1 x2 x3 x4 x5 x6 x7 x8 x9 x10
                  have hget := HK.out.get w8 g es8 m x.s.c hst8.va he8 hcs
                  unfold GotV signV signBox credV credBox at hget
                  have HGT := hid hget
                  have HS8 := hid (And.intro hst8 hX8)
                  clear hget hst8 hX8
                  go_wp2_with fail
                  refine HGT.out.mono ?_
                  clear HGT x0 x1 x2 x3 x4 x5 x6 x7 x8 x9 x10
                  rintro e w9 ⟨⟨t, ya, yc, rfl, hyb, hte⟩, hc9⟩
                  have hst9 := HS8.out.1.keep HK.out hc9
                  have hX9 := blk_keep HS8.out.2 hc9 id
                  have hY : (w9.alloc (.cells #[.int .i64 t.c.kind, .string ⟨t.c.head.1.toArray⟩, .string ⟨t.c.head.2.toArray⟩, .string ⟨t.c.who.toArray⟩, .string ⟨t.c.b.1.toArray⟩, .string ⟨t.c.b.2.toArray⟩, .string ⟨t.c.c.1.toArray⟩, .string ⟨t.c.c.2.toArray⟩, .string ⟨t.c.w2.toArray⟩, .slice ya t.tag.length yc] 35)).heap[w9.heap.size]? = some (.cells (signBox t.c (.slice ya t.tag.length yc)) 35 (0, 0)) := heap_alloc_new w9 _
                  have halY : Chg (fun _ => False) w9 (w9.alloc (.cells #[.int .i64 t.c.kind, .string ⟨t.c.head.1.toArray⟩, .string ⟨t.c.head.2.toArray⟩, .string ⟨t.c.who.toArray⟩, .string ⟨t.c.b.1.toArray⟩, .string ⟨t.c.b.2.toArray⟩, .string ⟨t.c.c.1.toArray⟩, .string ⟨t.c.c.2.toArray⟩, .string ⟨t.c.w2.toArray⟩, .slice ya t.tag.length yc] 35)) := (Chg.refl _ w9).alloc _
                  have hyb2 := hyb.keep halY (fun _ _ => id)
                  have hst10 := hst9.keep HK.out halY
                  have hX10 := blk_keep hX9 halY id
                  have v0 := cell_blk hst10.hV 0
                  have v1 := cell_blk hst10.hV 1
                  simp only [List.getElem?_toArray, List.getElem?_cons_zero, List.getElem?_cons_succ] at v0 v1
                  have x0 := cell_blk hX10 0
                  have x1 := cell_blk hX10 1
                  have x2 := cell_blk hX10 2
                  have x3 := cell_blk hX10 3
                  have x4 := cell_blk hX10 4
                  have x5 := cell_blk hX10 5
                  have x6 := cell_blk hX10 6
                  have x7 := cell_blk hX10 7
                  have x8 := cell_blk hX10 8
                  have x9 := cell_blk hX10 9
                  have x10 := cell_blk hX10 10
                  simp only [opBox, List.getElem?_toArray, List.getElem?_cons_zero, List.getElem?_cons_succ] at x0 x1 x2 x3 x4 x5 x6 x7 x8 x9 x10
                  have hrg := rvget_any ao8 cap8 es8 m x.s.c (w9.alloc (.cells #[.int .i64 t.c.kind, .string ⟨t.c.head.1.toArray⟩, .string ⟨t.c.head.2.toArray⟩, .string ⟨t.c.who.toArray⟩, .string ⟨t.c.b.1.toArray⟩, .string ⟨t.c.b.2.toArray⟩, .string ⟨t.c.c.1.toArray⟩, .string ⟨t.c.c.2.toArray⟩, .string ⟨t.c.w2.toArray⟩, .slice ya t.tag.length yc] 35)) (by omega) hst10.ents
                  obtain ⟨za, zc, hz, hzb⟩ := getVal_at hst10.tags x.s.c
                  rw [← hte] at hz hzb
                  rw [hz] at hrg
                  unfold vaultV signV signBox credV credBox at hrg
                  obtain ⟨cs8, hcs8⟩ : ∃ cs8, cs8 = es8.map (·.c) := ⟨_, rfl⟩
                  have hst9sh : Hid (∀ c ∈ cs8, credShort c 9223372036854775807) := hid (fun c hc => by
                    rw [hcs8] at hc
                    obtain ⟨q, hq, rfl⟩ := List.mem_map.1 hc
                    exact (isCred_short (isSign_cred (hst10.tags q hq).1)).mono (by decide))
                  have hcl : Hid (cs8.length ≤ 256) := hid (by rw [hcs8, List.length_map]; exact he8)
                  have HCS := hid hcs8
                  clear hcs8
                  have HRG := hid (And.intro hrg (And.intro hst10 (And.intro hX10 (And.intro hY (And.intro hyb2 hzb)))))
                  clear hrg hst10 hX10 hY hyb2 hzb hz hte hst9 hX9 halY hyb hc9 HS8
                  go_wp2_with fail
                  obtain ⟨hrg, hst10, hX10, hY, hyb2, hzb⟩ := HRG.out
                  clear HRG v0 v1 x0 x1 x2 x3 x4 x5 x6 x7 x8 x9 x10
                  generalize (getV es8 x.s.c).isSome = bb at *
                  refine hrg.mono ?_
                  rintro e w10 ⟨rfl, hc10⟩
                  have hZ : (w10.alloc (.cells #[.int .i64 t.c.kind, .string ⟨t.c.head.1.toArray⟩, .string ⟨t.c.head.2.toArray⟩, .string ⟨t.c.who.toArray⟩, .string ⟨t.c.b.1.toArray⟩, .string ⟨t.c.b.2.toArray⟩, .string ⟨t.c.c.1.toArray⟩, .string ⟨t.c.c.2.toArray⟩, .string ⟨t.c.w2.toArray⟩, .slice za t.tag.length zc] 35)).heap[w10.heap.size]? = some (.cells (signBox t.c (.slice za t.tag.length zc)) 35 (0, 0)) := heap_alloc_new w10 _
                  have halZ : Chg (fun _ => False) w10 (w10.alloc (.cells #[.int .i64 t.c.kind, .string ⟨t.c.head.1.toArray⟩, .string ⟨t.c.head.2.toArray⟩, .string ⟨t.c.who.toArray⟩, .string ⟨t.c.b.1.toArray⟩, .string ⟨t.c.b.2.toArray⟩, .string ⟨t.c.c.1.toArray⟩, .string ⟨t.c.c.2.toArray⟩, .string ⟨t.c.w2.toArray⟩, .slice za t.tag.length zc] 35)) := (Chg.refl _ w10).alloc _
                  have hcc := hc10.trans halZ (fun _ _ h => h)
                  have HT := hid (And.intro (hst10.keep HK.out hcc) (And.intro (blk_keep hY hcc id) (And.intro hZ (And.intro (hyb2.keep hcc (fun _ _ => id)) (hzb.keep hcc (fun _ _ => id))))))
                  have HX11 := hid (blk_keep hX10 hcc id)
                  clear hrg hst10 hX10 hY hyb2 hzb hc10 hZ halZ hcc
                  go_wp2_with fail
                  generalize (w10.alloc (.cells #[.int .i64 t.c.kind, .string ⟨t.c.head.1.toArray⟩, .string ⟨t.c.head.2.toArray⟩, .string ⟨t.c.who.toArray⟩, .string ⟨t.c.b.1.toArray⟩, .string ⟨t.c.b.2.toArray⟩, .string ⟨t.c.c.1.toArray⟩, .string ⟨t.c.c.2.toArray⟩, .string ⟨t.c.w2.toArray⟩, .slice za t.tag.length zc] 35)) = w11 at *
                  generalize w9.heap.size = Y at *
                  generalize w10.heap.size = Z at *
                  refine wp_region_specs ([.eq (.int .i64 m), .any, .any, .any, .any, .any, .any, .eq (.pointer (some ⟨g, 0, none⟩)), .any, .any, .any, .eq (.pointer (some ⟨V, 0, none⟩)), .any, .any, .any, .eq (.int .i64 e0), .eq (.int .i64 e0), .eq (.pointer (some ⟨Y, 0, none⟩)), .eq (.bool bb), .eq (.pointer (some ⟨Z, 0, none⟩)), .eq (.bool bb), .any, .any, .any, .any, .any, .any, .any, .any, .any, .any, .any, .any, .any, .any, .any, .any, .any, .any, .any, .any, .any, .any, .any, .any, .any, .any, .any, .any, .any, .any, .any, .any, .any, .any, .any, .any, .any, .any, .any, .any, .any, .any, .any, .any, .any, .any, .any, .any, .any, .any, .any, .any, .any, .any, .any, .any, .any, .any, .any, .any, .any, .any, .any, .any, .any, .any, .any, .any, .any, .any, .any, .any, .any, .any, .any, .any, .any, .any, .any, .any, .any, .any, .any, .any, .any, .any, .any, .any, .any, .any, .any, .any, .any, .any, .any, .any, .any, .any, .any, .any, .any, .any, .any, .any, .any, .any, .any, .any, .any, .any, .any, .any, .any, .any, .any, .any, .any, .any, .any, .any, .any, .any, .any, .any, .any, .any, .any, .any, .any, .any, .any, .any, .any, .any, .any, .any, .any, .any, .any, .any, .any, .eq (.int .i64 e0), .eq (.int .i64 e0), .eq (.bool false), .eq (.bool false), .eq (.bool bb), .eq (.bool bb), .eq (.bool false), .eq (.bool false), .eq (.bool false), .eq (signV t.c (.slice ya t.tag.length yc)), .eq (signV t.c (.slice za t.tag.length zc)), .eq (.bool true), .eq (.bool false), .eq (.bool false), .eq (.bool false), .eq (.pointer (some ⟨g, 0, none⟩)), .eq (.int .i64 ((es8.length : Nat) : Int)), .eq (.pointer (some ⟨V, 0, none⟩)), .eq (.slice ao8 es8.length cap8), .eq (.int .i64 ((es8.length : Nat) : Int)), .eq (.bool false), .eq (.bool false), .eq (.bool false), .eq (.pointer (some ⟨g, 0, none⟩)), .eq (.int .i64 (m - ((es8.length : Nat) : Int))), .eq (.int .i64 m), .eq (.pointer (some ⟨V, 0, none⟩)), .eq (.slice ao8 es8.length cap8), .eq (.int .i64 ((es8.length : Nat) : Int)), .eq (.int .i64 (m - ((es8.length : Nat) : Int))), .eq (.bool false), .eq (.bool false), .eq (.bool false), .eq (.pointer (some ⟨g, 0, none⟩)), .credL cs8, .eq (.agg #[.slice ao8 es8.length cap8, .int .i64 m]), .credL cs8, .eq (.bool true), .eq (.bool false), .eq (.bool false)] : List Spec) [162, 163, 164, 165, 166, 167, 168, 169, 170, 171, 172, 173, 174, 175, 176, 177, 178, 179, 180, 181, 182, 183, 184, 185, 186, 187, 188, 189, 190, 191, 192, 193, 194, 195, 196, 197, 198, 199, 200, 201] [0, 7, 11, 15, 16, 17, 18, 19, 20] (by kernel_rfl) (by kernel_rfl) (by rfl) (by kernel_rfl) ?start ?obs ?fin
                  case start =>
                    simp only [List.forall_mem_cons]; exact ⟨⟨_, rfl, rfl⟩, ⟨_, rfl, rfl⟩, ⟨_, rfl, rfl⟩, ⟨_, rfl, rfl⟩, ⟨_, rfl, rfl⟩, ⟨_, rfl, rfl⟩, ⟨_, rfl, rfl⟩, ⟨_, rfl, rfl⟩, ⟨_, rfl, rfl⟩, fun _ h => by cases h⟩
                  case obs =>
                    refine Obs.cons none (by kernel_rfl) ?_ ?_
                    · refine Ob.plain fun a w hR hk K k => ?_
                      obtain ⟨_, e16, f16⟩ := hk 16 (by decide)
                      clear hk
                      go_simp
                      exact k _ _ (Chg.refl _ _) f16
                    refine Obs.cons none (by kernel_rfl) ?_ ?_
                    · refine Ob.plain fun a w hR hk K k => ?_
                      obtain ⟨_, e15, f15⟩ := hk 15 (by decide)
                      clear hk
                      go_simp
                      exact k _ _ (Chg.refl _ _) f15
                    refine Obs.cons none (by kernel_rfl) ?_ ?_
                    · refine Ob.plain fun a w hR hk K k => ?_
                      obtain ⟨_, e162, rfl⟩ := hk 162 (by decide)
                      obtain ⟨_, e163, rfl⟩ := hk 163 (by decide)
                      clear hk
                      have z : ((e0 : Int) == e0) = true := beq_self_eq_true _
                      have z2 : ((e0 : Int) != e0) = false := by rw [bne, z]; rfl
                      go_simp
                      exact k _ _ (Chg.refl _ _) rfl
                    refine Obs.cons none (by kernel_rfl) ?_ ?_
                    · refine Ob.plain fun a w hR hk K k => ?_
                      obtain ⟨_, e164, f164⟩ := hk 164 (by decide)
                      clear hk
                      go_simp
                      exact k _ _ (Chg.refl _ _) f164
                    refine Obs.cons (some (165, false)) (by kernel_rfl) ?_ ?_
                    · refine Ob.yes (fun _ _ h => h) fun a w hR hk K k => ?_
                      obtain ⟨_, e18, f18⟩ := hk 18 (by decide)
                      clear hk
                      go_simp
                      exact k _ _ (Chg.refl _ _) f18
                    refine Obs.cons (some (165, false)) (by kernel_rfl) ?_ ?_
                    · refine Ob.yes (fun _ _ h => h) fun a w hR hk K k => ?_
                      obtain ⟨_, e20, f20⟩ := hk 20 (by decide)
                      clear hk
                      go_simp
                      exact k _ _ (Chg.refl _ _) f20
                    refine Obs.cons (some (165, false)) (by kernel_rfl) ?_ ?_
                    · refine Ob.yes (fun _ _ h => h) fun a w hR hk K k => ?_
                      obtain ⟨_, e166, rfl⟩ := hk 166 (by decide)
                      obtain ⟨_, e167, rfl⟩ := hk 167 (by decide)
                      clear hk
                      have z : (bb != bb) = false := by simp
                      go_simp
                      exact k _ _ (Chg.refl _ _) (by first | rfl | (show Value.bool _ = Value.bool _; simp))
                    refine Obs.cons none (by kernel_rfl) ?_ ?_
                    · refine Ob.plain fun a w hR hk K k => ?_
                      obtain ⟨_, e165, rfl⟩ := hk 165 (by decide)
                      obtain ⟨_, e168, rfl⟩ := hk 168 (by decide)
                      clear hk
                      go_simp
                      exact k _ _ (Chg.refl _ _) rfl
                    refine Obs.cons none (by kernel_rfl) ?_ ?_
                    · refine Ob.plain fun a w hR hk K k => ?_
                      obtain ⟨_, e169, f169⟩ := hk 169 (by decide)
                      clear hk
                      go_simp
                      exact k _ _ (Chg.refl _ _) f169
                    refine Obs.cons (some (170, false)) (by kernel_rfl) ?_ ?_
                    · refine Ob.yes (fun _ _ h => h) fun a w hR hk K k => ?_
                      obtain ⟨_, e17, rfl⟩ := hk 17 (by decide)
                      clear hk
                      obtain ⟨⟨q0, q1, q2, q3, q4, q5, q6, q7, q8⟩, q9⟩ := cred_at_sign (blk_keep HT.out.2.1 hR id)
                      simp only [Nat.zero_add] at q0 q1 q2 q3 q4 q5 q6 q7 q8 q9
                      go_simp
                      exact k _ _ (Chg.refl _ _) rfl
                    refine Obs.cons (some (170, false)) (by kernel_rfl) ?_ ?_
                    · refine Ob.yes (fun _ _ h => h) fun a w hR hk K k => ?_
                      obtain ⟨_, e19, rfl⟩ := hk 19 (by decide)
                      clear hk
                      obtain ⟨⟨q0, q1, q2, q3, q4, q5, q6, q7, q8⟩, q9⟩ := cred_at_sign (blk_keep HT.out.2.2.1 hR id)
                      simp only [Nat.zero_add] at q0 q1 q2 q3 q4 q5 q6 q7 q8 q9
                      go_simp
                      exact k _ _ (Chg.refl _ _) rfl
                    refine Obs.cons (some (170, false)) (by kernel_rfl) ?_ ?_
                    · refine Ob.yes (fun _ _ h => h) fun a w hR hk K k => ?_
                      obtain ⟨_, e171, rfl⟩ := hk 171 (by decide)
                      obtain ⟨_, e172, rfl⟩ := hk 172 (by decide)
                      clear hk
                      have hsm := rssame_yes t.c t.tag ya za yc zc w (HT.out.2.2.2.1.keep hR (fun _ _ => id)) (HT.out.2.2.2.2.keep hR (fun _ _ => id))
                      unfold signV signBox at hsm
                      go_simp
                      refine hsm.mono ?_
                      rintro e w2 ⟨rfl, hc⟩
                      exact k _ _ hc rfl
                    refine Obs.cons (some (170, false)) (by kernel_rfl) ?_ ?_
                    · refine Ob.yes (fun _ _ h => h) fun a w hR hk K k => ?_
                      obtain ⟨_, e173, rfl⟩ := hk 173 (by decide)
                      clear hk
                      go_simp
                      exact k _ _ (Chg.refl _ _) rfl
                    refine Obs.cons none (by kernel_rfl) ?_ ?_
                    · refine Ob.plain fun a w hR hk K k => ?_
                      obtain ⟨_, e170, rfl⟩ := hk 170 (by decide)
                      obtain ⟨_, e174, rfl⟩ := hk 174 (by decide)
                      clear hk
                      go_simp
                      exact k _ _ (Chg.refl _ _) rfl
                    refine Obs.cons none (by kernel_rfl) ?_ ?_
                    · refine Ob.plain fun a w hR hk K k => ?_
                      obtain ⟨_, e175, f175⟩ := hk 175 (by decide)
                      clear hk
                      go_simp
                      exact k _ _ (Chg.refl _ _) f175
                    refine Obs.cons (some (176, false)) (by kernel_rfl) ?_ ?_
                    · refine Ob.yes (fun _ _ h => h) fun a w hR hk K k => ?_
                      obtain ⟨_, e7, f7⟩ := hk 7 (by decide)
                      clear hk
                      go_simp
                      exact k _ _ (Chg.refl _ _) f7
                    refine Obs.cons (some (176, false)) (by kernel_rfl) ?_ ?_
                    · refine Ob.yes (fun _ _ h => h) fun a w hR hk K k => ?_
                      obtain ⟨_, e177, rfl⟩ := hk 177 (by decide)
                      clear hk
                      have hq := HK.out.len w g es8 m (HK.out.keep HT.out.1.va hR (fun _ _ => id))
                      go_simp
                      refine hq.mono ?_
                      rintro e w2 ⟨rfl, hc⟩
                      exact k _ _ hc rfl
                    refine Obs.cons (some (176, false)) (by kernel_rfl) ?_ ?_
                    · refine Ob.yes (fun _ _ h => h) fun a w hR hk K k => ?_
                      obtain ⟨_, e11, rfl⟩ := hk 11 (by decide)
                      clear hk
                      go_simp
                      exact k _ _ (Chg.refl _ _) rfl
                    refine Obs.cons (some (176, false)) (by kernel_rfl) ?_ ?_
                    · refine Ob.yes (fun _ _ h => h) fun a w hR hk K k => ?_
                      obtain ⟨_, e179, rfl⟩ := hk 179 (by decide)
                      clear hk
                      have q0 := cell_blk (blk_keep HT.out.1.hV hR id) 0
                      have q1 := cell_blk (blk_keep HT.out.1.hV hR id) 1
                      simp only [List.getElem?_toArray, List.getElem?_cons_zero, List.getElem?_cons_succ] at q0 q1
                      go_simp
                      exact k _ _ (Chg.refl _ _) rfl
                    refine Obs.cons (some (176, false)) (by kernel_rfl) ?_ ?_
                    · refine Ob.yes (fun _ _ h => h) fun a w hR hk K k => ?_
                      obtain ⟨_, e180, rfl⟩ := hk 180 (by decide)
                      clear hk
                      go_simp
                      exact k _ _ (Chg.refl _ _) rfl
                    refine Obs.cons (some (176, false)) (by kernel_rfl) ?_ ?_
                    · refine Ob.yes (fun _ _ h => h) fun a w hR hk K k => ?_
                      obtain ⟨_, e178, rfl⟩ := hk 178 (by decide)
                      obtain ⟨_, e181, rfl⟩ := hk 181 (by decide)
                      clear hk
                      have z : (((es8.length : Nat) : Int) != ((es8.length : Nat) : Int)) = false := by simp
                      go_simp
                      exact k _ _ (Chg.refl _ _) (by first | rfl | (show Value.bool _ = Value.bool _; simp))
                    refine Obs.cons none (by kernel_rfl) ?_ ?_
                    · refine Ob.plain fun a w hR hk K k => ?_
                      obtain ⟨_, e176, rfl⟩ := hk 176 (by decide)
                      obtain ⟨_, e182, rfl⟩ := hk 182 (by decide)
                      clear hk
                      go_simp
                      exact k _ _ (Chg.refl _ _) rfl
                    refine Obs.cons none (by kernel_rfl) ?_ ?_
                    · refine Ob.plain fun a w hR hk K k => ?_
                      obtain ⟨_, e183, f183⟩ := hk 183 (by decide)
                      clear hk
                      go_simp
                      exact k _ _ (Chg.refl _ _) f183
                    refine Obs.cons (some (184, false)) (by kernel_rfl) ?_ ?_
                    · refine Ob.yes (fun _ _ h => h) fun a w hR hk K k => ?_
                      obtain ⟨_, e7, f7⟩ := hk 7 (by decide)
                      clear hk
                      go_simp
                      exact k _ _ (Chg.refl _ _) f7
                    refine Obs.cons (some (184, false)) (by kernel_rfl) ?_ ?_
                    · refine Ob.yes (fun _ _ h => h) fun a w hR hk K k => ?_
                      obtain ⟨_, e185, rfl⟩ := hk 185 (by decide)
                      clear hk
                      have hq := HK.out.room w g es8 m (HK.out.keep HT.out.1.va hR (fun _ _ => id)) hb1 hb2 he8
                      go_simp
                      refine hq.mono ?_
                      rintro e w2 ⟨rfl, hc⟩
                      exact k _ _ hc rfl
                    refine Obs.cons (some (184, false)) (by kernel_rfl) ?_ ?_
                    · refine Ob.yes (fun _ _ h => h) fun a w hR hk K k => ?_
                      obtain ⟨_, e0, f0⟩ := hk 0 (by decide)
                      clear hk
                      go_simp
                      exact k _ _ (Chg.refl _ _) f0
                    refine Obs.cons (some (184, false)) (by kernel_rfl) ?_ ?_
                    · refine Ob.yes (fun _ _ h => h) fun a w hR hk K k => ?_
                      obtain ⟨_, e11, rfl⟩ := hk 11 (by decide)
                      clear hk
                      go_simp
                      exact k _ _ (Chg.refl _ _) rfl
                    refine Obs.cons (some (184, false)) (by kernel_rfl) ?_ ?_
                    · refine Ob.yes (fun _ _ h => h) fun a w hR hk K k => ?_
                      obtain ⟨_, e188, rfl⟩ := hk 188 (by decide)
                      clear hk
                      have q0 := cell_blk (blk_keep HT.out.1.hV hR id) 0
                      have q1 := cell_blk (blk_keep HT.out.1.hV hR id) 1
                      simp only [List.getElem?_toArray, List.getElem?_cons_zero, List.getElem?_cons_succ] at q0 q1
                      go_simp
                      exact k _ _ (Chg.refl _ _) rfl
                    refine Obs.cons (some (184, false)) (by kernel_rfl) ?_ ?_
                    · refine Ob.yes (fun _ _ h => h) fun a w hR hk K k => ?_
                      obtain ⟨_, e189, rfl⟩ := hk 189 (by decide)
                      clear hk
                      go_simp
                      exact k _ _ (Chg.refl _ _) rfl
                    refine Obs.cons (some (184, false)) (by kernel_rfl) ?_ ?_
                    · refine Ob.yes (fun _ _ h => h) fun a w hR hk K k => ?_
                      obtain ⟨_, e187, rfl⟩ := hk 187 (by decide)
                      obtain ⟨_, e190, rfl⟩ := hk 190 (by decide)
                      clear hk
                      have z : IntKind.i64.wrap (m - ((es8.length : Nat) : Int)) = m - ((es8.length : Nat) : Int) := by rw [IntKind.wrap_i64]; omega
                      go_simp
                      exact k _ _ (Chg.refl _ _) rfl
                    refine Obs.cons (some (184, false)) (by kernel_rfl) ?_ ?_
                    · refine Ob.yes (fun _ _ h => h) fun a w hR hk K k => ?_
                      obtain ⟨_, e186, rfl⟩ := hk 186 (by decide)
                      obtain ⟨_, e191, rfl⟩ := hk 191 (by decide)
                      clear hk
                      have z : ((m - ((es8.length : Nat) : Int)) != (m - ((es8.length : Nat) : Int))) = false := by simp
                      go_simp
                      exact k _ _ (Chg.refl _ _) (by first | rfl | (show Value.bool _ = Value.bool _; simp))
                    refine Obs.cons none (by kernel_rfl) ?_ ?_
                    · refine Ob.plain fun a w hR hk K k => ?_
                      obtain ⟨_, e184, rfl⟩ := hk 184 (by decide)
                      obtain ⟨_, e192, rfl⟩ := hk 192 (by decide)
                      clear hk
                      go_simp
                      exact k _ _ (Chg.refl _ _) rfl
                    refine Obs.cons none (by kernel_rfl) ?_ ?_
                    · refine Ob.plain fun a w hR hk K k => ?_
                      obtain ⟨_, e193, f193⟩ := hk 193 (by decide)
                      clear hk
                      go_simp
                      exact k _ _ (Chg.refl _ _) f193
                    refine Obs.cons (some (194, false)) (by kernel_rfl) ?_ ?_
                    · refine Ob.yes (fun _ _ h => h) fun a w hR hk K k => ?_
                      obtain ⟨_, e7, f7⟩ := hk 7 (by decide)
                      clear hk
                      go_simp
                      exact k _ _ (Chg.refl _ _) f7
                    refine Obs.cons (some (194, false)) (by kernel_rfl) ?_ ?_
                    · refine Ob.yes (fun _ _ h => h) fun a w hR hk K k => ?_
                      obtain ⟨_, e195, rfl⟩ := hk 195 (by decide)
                      clear hk
                      have hq := HK.out.creds w g es8 m (HK.out.keep HT.out.1.va hR (fun _ _ => id)) he8
                      go_simp
                      refine hq.mono ?_
                      rintro e w2 ⟨⟨a9, c9, rfl, hcs9⟩, hc⟩
                      rw [← HCS.out] at hcs9 ⊢
                      exact k _ _ hc ⟨a9, c9, rfl, hcs9⟩
                    refine Obs.cons (some (194, false)) (by kernel_rfl) ?_ ?_
                    · refine Ob.yes (fun _ _ h => h) fun a w hR hk K k => ?_
                      obtain ⟨_, e11, rfl⟩ := hk 11 (by decide)
                      clear hk
                      have q0 := cell_blk (blk_keep HT.out.1.hV hR id) 0
                      have q1 := cell_blk (blk_keep HT.out.1.hV hR id) 1
                      simp only [List.getElem?_toArray, List.getElem?_cons_zero, List.getElem?_cons_succ] at q0 q1
                      go_simp
                      exact k _ _ (Chg.refl _ _) rfl
                    refine Obs.cons (some (194, false)) (by kernel_rfl) ?_ ?_
                    · refine Ob.yes (fun _ _ h => h) fun a w hR hk K k => ?_
                      obtain ⟨_, e197, rfl⟩ := hk 197 (by decide)
                      clear hk
                      have hq := rvcreds_any ao8 cap8 es8 m w (by omega) (HT.out.1.ents.keep hR (fun _ _ => id))
                      unfold vaultV at hq
                      go_simp
                      refine hq.mono ?_
                      rintro e w2 ⟨a9, c9, rfl, hown, hc⟩
                      rw [← HCS.out] at hown
                      exact k _ _ hc (own_tells hst9sh.out hown)
                    refine Obs.cons (some (194, false)) (by kernel_rfl) ?_ ?_
                    · refine Ob.yes (fun _ _ h => h) fun a w hR hk K k => ?_
                      obtain ⟨_, e196, f196⟩ := hk 196 (by decide)
                      obtain ⟨_, e198, f198⟩ := hk 198 (by decide)
                      clear hk
                      obtain ⟨a1, p1, rfl, h1⟩ := f196
                      obtain ⟨a2, p2, rfl, h2⟩ := f198
                      have hq := csame_ref a1 a2 p1 p2 cs8 cs8 w (Nat.le_trans hcl.out (by decide)) (Nat.le_trans hcl.out (by decide)) h1 h2
                      go_simp
                      refine hq.mono ?_
                      rintro e w2 ⟨rfl, n, rfl⟩
                      exact k _ _ (drewN_chg7 w n) (by first | (simp only [sameC, beq_self_eq_true]; done) | (simp only [sameC, beq_self_eq_true]; rfl))
                    refine Obs.cons (some (194, false)) (by kernel_rfl) ?_ ?_
                    · refine Ob.yes (fun _ _ h => h) fun a w hR hk K k => ?_
                      obtain ⟨_, e199, rfl⟩ := hk 199 (by decide)
                      clear hk
                      go_simp
                      exact k _ _ (Chg.refl _ _) rfl
                    refine Obs.cons none (by kernel_rfl) ?_ ?_
                    · refine Ob.plain fun a w hR hk K k => ?_
                      obtain ⟨_, e194, rfl⟩ := hk 194 (by decide)
                      obtain ⟨_, e200, rfl⟩ := hk 200 (by decide)
                      clear hk
                      go_simp
                      exact k _ _ (Chg.refl _ _) rfl
                    exact Obs.nil
                  case fin =>
                    intro vals w12 hc12 hv
                    have h201 : vals 201 = .bool false := hv 201 (by decide)
                    simp only [putAll, List.setIfInBounds_toArray, List.set_cons_zero, List.set_cons_succ, h201]
                    clear hv h201
                    obtain ⟨y0, hy0⟩ : ∃ y, y = (es8.map (·.c)).filter (whichC 0 x.s.c.head []) := ⟨_, rfl⟩
                    have HY0 : Hid (y0 = (es8.map (·.c)).filter (whichC 0 x.s.c.head []) ∧ y0.length ≤ 256 ∧ ∀ c ∈ y0, credShort c 9223372036854775807) := hid ⟨hy0, by rw [hy0]; exact Nat.le_trans (List.length_filter_le _ _) (by rw [List.length_map]; exact he8), fun c hc => hst9sh.out c (by rw [hy0] at hc; rw [HCS.out]; exact (List.mem_filter.1 hc).1)⟩
                    clear hy0
                    obtain ⟨y1, hy1⟩ : ∃ y, y = (es8.map (·.c)).filter (whichC 0 p []) := ⟨_, rfl⟩
                    have HY1 : Hid (y1 = (es8.map (·.c)).filter (whichC 0 p []) ∧ y1.length ≤ 256 ∧ ∀ c ∈ y1, credShort c 9223372036854775807) := hid ⟨hy1, by rw [hy1]; exact Nat.le_trans (List.length_filter_le _ _) (by rw [List.length_map]; exact he8), fun c hc => hst9sh.out c (by rw [hy1] at hc; rw [HCS.out]; exact (List.mem_filter.1 hc).1)⟩
                    clear hy1
                    obtain ⟨y2, hy2⟩ : ∃ y, y = (es8.map (·.c)).filter (whichC 1 ([], []) p.1) := ⟨_, rfl⟩
                    have HY2 : Hid (y2 = (es8.map (·.c)).filter (whichC 1 ([], []) p.1) ∧ y2.length ≤ 256 ∧ ∀ c ∈ y2, credShort c 9223372036854775807) := hid ⟨hy2, by rw [hy2]; exact Nat.le_trans (List.length_filter_le _ _) (by rw [List.length_map]; exact he8), fun c hc => hst9sh.out c (by rw [hy2] at hc; rw [HCS.out]; exact (List.mem_filter.1 hc).1)⟩
                    clear hy2
                    obtain ⟨y3, hy3⟩ : ∃ y, y = (es8.map (·.c)).filter (whichC 2 ([], []) p.1) := ⟨_, rfl⟩
                    have HY3 : Hid (y3 = (es8.map (·.c)).filter (whichC 2 ([], []) p.1) ∧ y3.length ≤ 256 ∧ ∀ c ∈ y3, credShort c 9223372036854775807) := hid ⟨hy3, by rw [hy3]; exact Nat.le_trans (List.length_filter_le _ _) (by rw [List.length_map]; exact he8), fun c hc => hst9sh.out c (by rw [hy3] at hc; rw [HCS.out]; exact (List.mem_filter.1 hc).1)⟩
                    clear hy3
                    obtain ⟨y4, hy4⟩ : ∃ y, y = (es8.map (·.c)).filter (whichC 3 ([], []) p.2) := ⟨_, rfl⟩
                    have HY4 : Hid (y4 = (es8.map (·.c)).filter (whichC 3 ([], []) p.2) ∧ y4.length ≤ 256 ∧ ∀ c ∈ y4, credShort c 9223372036854775807) := hid ⟨hy4, by rw [hy4]; exact Nat.le_trans (List.length_filter_le _ _) (by rw [List.length_map]; exact he8), fun c hc => hst9sh.out c (by rw [hy4] at hc; rw [HCS.out]; exact (List.mem_filter.1 hc).1)⟩
                    clear hy4
                    have hst12 := HT.out.1.keep HK.out hc12
                    have hX12 := blk_keep HX11.out hc12 id
                    have b0 := cell_blk hst12.hA 0
                    have b1 := cell_blk hst12.hA 1
                    simp only [List.getElem?_toArray, List.getElem?_cons_zero, List.getElem?_cons_succ] at b0 b1
                    have hRr : (w12.alloc (.cells #[.string ⟨p.1.toArray⟩, .string ⟨p.2.toArray⟩] 30)).heap[w12.heap.size]? = some (.cells #[.string ⟨p.1.toArray⟩, .string ⟨p.2.toArray⟩] 30 (0, 0)) := heap_alloc_new w12 _
                    have halR : Chg (fun _ => False) w12 (w12.alloc (.cells #[.string ⟨p.1.toArray⟩, .string ⟨p.2.toArray⟩] 30)) := (Chg.refl _ w12).alloc _
                    have HU := hid (And.intro (hst12.keep HK.out halR) (And.intro (blk_keep hX12 halR id) hRr))
                    clear hst12 hX12 hRr halR hc12 HT HX11
                    go_wp2_with fail
                    clear b0 b1
                    generalize (w12.alloc (.cells #[.string ⟨p.1.toArray⟩, .string ⟨p.2.toArray⟩] 30)) = w13 at *
                    generalize w12.heap.size = RR at *
                    refine wp_region_specs ([.any, .any, .any, .any, .any, .eq (.pointer (some ⟨A, 0, none⟩)), .any, .eq (.pointer (some ⟨g, 0, none⟩)), .any, .any, .any, .eq (.pointer (some ⟨V, 0, none⟩)), .any, .any, .eq (.pointer (some ⟨X, 0, none⟩)), .any, .any, .any, .any, .any, .any, .eq (.pointer (some ⟨RR, 0, none⟩)), .any, .any, .any, .any, .any, .any, .any, .any, .any, .any, .any, .any, .any, .any, .any, .any, .any, .any, .any, .any, .any, .any, .any, .any, .any, .any, .any, .any, .any, .any, .any, .any, .any, .any, .any, .any, .any, .any, .any, .any, .any, .any, .any, .any, .any, .any, .any, .any, .any, .any, .any, .any, .any, .any, .any, .any, .any, .any, .any, .any, .any, .any, .any, .any, .any, .any, .any, .any, .any, .any, .any, .any, .any, .any, .any, .any, .any, .any, .any, .any, .any, .any, .any, .any, .any, .any, .any, .any, .any, .any, .any, .any, .any, .any, .any, .any, .any, .any, .any, .any, .any, .any, .any, .any, .any, .any, .any, .any, .any, .any, .any, .any, .any, .any, .any, .any, .any, .any, .any, .any, .any, .any, .any, .any, .any, .any, .any, .any, .any, .any, .any, .any, .any, .any, .any, .any, .any, .any, .any, .any, .any, .any, .any, .any, .any, .any, .any, .any, .any, .any, .any, .any, .any, .any, .any, .any, .any, .any, .any, .any, .any, .any, .any, .any, .any, .any, .any, .any, .any, .any, .any, .any, .any, .any, .any, .any, .any, .any, .any, .any, .any, .any, .any, .any, .any, .eq (.pointer (some ⟨g, 0, none⟩)), .eq (.pointer (some ⟨X, 1, none⟩)), .eq (.pointer (some ⟨X, 1, none⟩)), .eq (.pointer (some ⟨X, 2, none⟩)), .eq (.agg #[.string ⟨x.s.c.head.1.toArray⟩, .string ⟨x.s.c.head.2.toArray⟩]), .credL y0, .eq (.agg #[.slice ao8 es8.length cap8, .int .i64 m]), .eq (.pointer (some ⟨X, 1, none⟩)), .eq (.pointer (some ⟨X, 1, none⟩)), .eq (.pointer (some ⟨X, 2, none⟩)), .eq (.agg #[.string ⟨x.s.c.head.1.toArray⟩, .string ⟨x.s.c.head.2.toArray⟩]), .credL y0, .eq (.bool true), .eq (.bool false), .eq (.bool false), .eq (.pointer (some ⟨g, 0, none⟩)), .eq (.agg #[.string ⟨p.1.toArray⟩, .string ⟨p.2.toArray⟩]), .credL y1, .eq (.agg #[.slice ao8 es8.length cap8, .int .i64 m]), .eq (.agg #[.string ⟨p.1.toArray⟩, .string ⟨p.2.toArray⟩]), .credL y1, .eq (.bool true), .eq (.bool false), .eq (.bool false), .eq (.bool false), .eq (.pointer (some ⟨g, 0, none⟩)), .eq (.pointer (some ⟨A, 0, none⟩)), .eq (.string ⟨p.1.toArray⟩), .credL y2, .eq (.agg #[.slice ao8 es8.length cap8, .int .i64 m]), .eq (.agg #[.string ⟨p.1.toArray⟩, .string ⟨p.2.toArray⟩]), .eq (.pointer (some ⟨A, 0, none⟩)), .eq (.string ⟨p.1.toArray⟩), .credL y2, .eq (.bool true), .eq (.bool false), .eq (.bool false), .eq (.bool false), .eq (.pointer (some ⟨g, 0, none⟩)), .eq (.pointer (some ⟨A, 0, none⟩)), .eq (.string ⟨p.1.toArray⟩), .credL y3, .eq (.agg #[.slice ao8 es8.length cap8, .int .i64 m]), .eq (.agg #[.string ⟨p.1.toArray⟩, .string ⟨p.2.toArray⟩]), .eq (.pointer (some ⟨A, 0, none⟩)), .eq (.string ⟨p.1.toArray⟩), .credL y3, .eq (.bool true), .eq (.bool false), .eq (.bool false), .eq (.bool false), .eq (.pointer (some ⟨g, 0, none⟩)), .eq (.pointer (some ⟨A, 1, none⟩)), .eq (.string ⟨p.2.toArray⟩), .credL y4, .eq (.agg #[.slice ao8 es8.length cap8, .int .i64 m]), .eq (.agg #[.string ⟨p.1.toArray⟩, .string ⟨p.2.toArray⟩]), .eq (.pointer (some ⟨A, 1, none⟩)), .eq (.string ⟨p.2.toArray⟩), .credL y4, .eq (.bool true), .eq (.bool false), .eq (.bool false)] : List Spec) [207, 208, 209, 210, 211, 212, 213, 214, 215, 216, 217, 218, 219, 220, 221, 222, 223, 224, 225, 226, 227, 228, 229, 230, 231, 232, 233, 234, 235, 236, 237, 238, 239, 240, 241, 242, 243, 244, 245, 246, 247, 248, 249, 250, 251, 252, 253, 254, 255, 256, 257, 258, 259, 260, 261, 262, 263, 264, 265, 266, 267, 268, 269] [5, 7, 11, 14, 21] (by kernel_rfl) (by kernel_rfl) (by rfl) (by kernel_rfl) ?start2 ?obs2 ?fin2
                    case start2 =>
                      simp only [List.forall_mem_cons]; exact ⟨⟨_, rfl, rfl⟩, ⟨_, rfl, rfl⟩, ⟨_, rfl, rfl⟩, ⟨_, rfl, rfl⟩, ⟨_, rfl, rfl⟩, fun _ h => by cases h⟩
                    case obs2 =>
                      refine Obs.cons none (by kernel_rfl) ?_ ?_
                      · refine Ob.plain fun a w hR hk K k => ?_
                        obtain ⟨_, e7, f7⟩ := hk 7 (by decide)
                        clear hk
                        go_simp
                        exact k _ _ (Chg.refl _ _) f7
                      refine Obs.cons none (by kernel_rfl) ?_ ?_
                      · refine Ob.plain fun a w hR hk K k => ?_
                        obtain ⟨_, e14, rfl⟩ := hk 14 (by decide)
                        clear hk
                        go_simp
                        exact k _ _ (Chg.refl _ _) rfl
                      refine Obs.cons none (by kernel_rfl) ?_ ?_
                      · refine Ob.plain fun a w hR hk K k => ?_
                        obtain ⟨_, e208, rfl⟩ := hk 208 (by decide)
                        clear hk
                        go_simp
                        exact k _ _ (Chg.refl _ _) rfl
                      refine Obs.cons none (by kernel_rfl) ?_ ?_
                      · refine Ob.plain fun a w hR hk K k => ?_
                        obtain ⟨_, e209, rfl⟩ := hk 209 (by decide)
                        clear hk
                        go_simp
                        exact k _ _ (Chg.refl _ _) rfl
                      refine Obs.cons none (by kernel_rfl) ?_ ?_
                      · refine Ob.plain fun a w hR hk K k => ?_
                        obtain ⟨_, e210, rfl⟩ := hk 210 (by decide)
                        clear hk
                        have q2 := cell_blk (blk_keep HU.out.2.1 hR id) 2
                        have q3 := cell_blk (blk_keep HU.out.2.1 hR id) 3
                        simp only [opBox, List.getElem?_toArray, List.getElem?_cons_zero, List.getElem?_cons_succ] at q2 q3
                        go_simp
                        exact k _ _ (Chg.refl _ _) rfl
                      refine Obs.cons none (by kernel_rfl) ?_ ?_
                      · refine Ob.plain fun a w hR hk K k => ?_
                        obtain ⟨_, e207, rfl⟩ := hk 207 (by decide)
                        obtain ⟨_, e211, rfl⟩ := hk 211 (by decide)
                        clear hk
                        have hq := HK.out.head w g es8 m x.s.c.head (HK.out.keep HU.out.1.va hR (fun _ _ => id)) he8 hcs.1 hcs.2.1
                        rw [← HY0.out.1] at hq
                        go_simp
                        refine hq.mono ?_
                        rintro e w2 ⟨⟨a9, c9, rfl, hcs9⟩, hc⟩
                        exact k _ _ hc ⟨a9, c9, rfl, hcs9⟩
                      refine Obs.cons none (by kernel_rfl) ?_ ?_
                      · refine Ob.plain fun a w hR hk K k => ?_
                        obtain ⟨_, e11, rfl⟩ := hk 11 (by decide)
                        clear hk
                        have q0 := cell_blk (blk_keep HU.out.1.hV hR id) 0
                        have q1 := cell_blk (blk_keep HU.out.1.hV hR id) 1
                        simp only [List.getElem?_toArray, List.getElem?_cons_zero, List.getElem?_cons_succ] at q0 q1
                        go_simp
                        exact k _ _ (Chg.refl _ _) rfl
                      refine Obs.cons none (by kernel_rfl) ?_ ?_
                      · refine Ob.plain fun a w hR hk K k => ?_
                        obtain ⟨_, e14, rfl⟩ := hk 14 (by decide)
                        clear hk
                        go_simp
                        exact k _ _ (Chg.refl _ _) rfl
                      refine Obs.cons none (by kernel_rfl) ?_ ?_
                      · refine Ob.plain fun a w hR hk K k => ?_
                        obtain ⟨_, e214, rfl⟩ := hk 214 (by decide)
                        clear hk
                        go_simp
                        exact k _ _ (Chg.refl _ _) rfl
                      refine Obs.cons none (by kernel_rfl) ?_ ?_
                      · refine Ob.plain fun a w hR hk K k => ?_
                        obtain ⟨_, e215, rfl⟩ := hk 215 (by decide)
                        clear hk
                        go_simp
                        exact k _ _ (Chg.refl _ _) rfl
                      refine Obs.cons none (by kernel_rfl) ?_ ?_
                      · refine Ob.plain fun a w hR hk K k => ?_
                        obtain ⟨_, e216, rfl⟩ := hk 216 (by decide)
                        clear hk
                        have q2 := cell_blk (blk_keep HU.out.2.1 hR id) 2
                        have q3 := cell_blk (blk_keep HU.out.2.1 hR id) 3
                        simp only [opBox, List.getElem?_toArray, List.getElem?_cons_zero, List.getElem?_cons_succ] at q2 q3
                        go_simp
                        exact k _ _ (Chg.refl _ _) rfl
                      refine Obs.cons none (by kernel_rfl) ?_ ?_
                      · refine Ob.plain fun a w hR hk K k => ?_
                        obtain ⟨_, e213, rfl⟩ := hk 213 (by decide)
                        obtain ⟨_, e217, rfl⟩ := hk 217 (by decide)
                        clear hk
                        have hq := rvwhich0 ao8 cap8 es8 m x.s.c.head [] w (by omega) (HU.out.1.ents.keep hR (fun _ _ => id))
                        unfold vaultV WhichPost at hq
                        go_simp
                        refine hq.mono ?_
                        rintro e w2 ⟨o9, a9, c9, ho9, rfl, hown, hc⟩
                        have he9 : o9 = y0 := by first | (rw [ho9, HY0.out.1]; done) | (rw [ho9, HY0.out.1]; rfl)
                        rw [he9] at hown ⊢
                        exact k _ _ hc (own_tells HY0.out.2.2 hown)
                      refine Obs.cons none (by kernel_rfl) ?_ ?_
                      · refine Ob.plain fun a w hR hk K k => ?_
                        obtain ⟨_, e212, f212⟩ := hk 212 (by decide)
                        obtain ⟨_, e218, f218⟩ := hk 218 (by decide)
                        clear hk
                        obtain ⟨a1, p1, rfl, h1⟩ := f212
                        obtain ⟨a2, p2, rfl, h2⟩ := f218
                        have hq := csame_ref a1 a2 p1 p2 y0 y0 w (Nat.le_trans HY0.out.2.1 (by decide)) (Nat.le_trans HY0.out.2.1 (by decide)) h1 h2
                        go_simp
                        refine hq.mono ?_
                        rintro e w2 ⟨rfl, n, rfl⟩
                        exact k _ _ (drewN_chg7 w n) (by first | (simp only [sameC, beq_self_eq_true]; done) | (simp only [sameC, beq_self_eq_true]; rfl))
                      refine Obs.cons none (by kernel_rfl) ?_ ?_
                      · refine Ob.plain fun a w hR hk K k => ?_
                        obtain ⟨_, e219, rfl⟩ := hk 219 (by decide)
                        clear hk
                        go_simp
                        exact k _ _ (Chg.refl _ _) rfl
                      refine Obs.cons none (by kernel_rfl) ?_ ?_
                      · refine Ob.plain fun a w hR hk K k => ?_
                        obtain ⟨_, e220, f220⟩ := hk 220 (by decide)
                        clear hk
                        go_simp
                        exact k _ _ (Chg.refl _ _) f220
                      refine Obs.cons (some (221, false)) (by kernel_rfl) ?_ ?_
                      · refine Ob.yes (fun _ _ h => h) fun a w hR hk K k => ?_
                        obtain ⟨_, e7, f7⟩ := hk 7 (by decide)
                        clear hk
                        go_simp
                        exact k _ _ (Chg.refl _ _) f7
                      refine Obs.cons (some (221, false)) (by kernel_rfl) ?_ ?_
                      · refine Ob.yes (fun _ _ h => h) fun a w hR hk K k => ?_
                        obtain ⟨_, e21, rfl⟩ := hk 21 (by decide)
                        clear hk
                        have q0 := cell_blk (blk_keep HU.out.2.2 hR id) 0
                        have q1 := cell_blk (blk_keep HU.out.2.2 hR id) 1
                        simp only [List.getElem?_toArray, List.getElem?_cons_zero, List.getElem?_cons_succ] at q0 q1
                        go_simp
                        exact k _ _ (Chg.refl _ _) rfl
                      refine Obs.cons (some (221, false)) (by kernel_rfl) ?_ ?_
                      · refine Ob.yes (fun _ _ h => h) fun a w hR hk K k => ?_
                        obtain ⟨_, e222, rfl⟩ := hk 222 (by decide)
                        obtain ⟨_, e223, rfl⟩ := hk 223 (by decide)
                        clear hk
                        have hq := HK.out.head w g es8 m p (HK.out.keep HU.out.1.va hR (fun _ _ => id)) he8 hpl.1 hpl.2
                        rw [← HY1.out.1] at hq
                        go_simp
                        refine hq.mono ?_
                        rintro e w2 ⟨⟨a9, c9, rfl, hcs9⟩, hc⟩
                        exact k _ _ hc ⟨a9, c9, rfl, hcs9⟩
                      refine Obs.cons (some (221, false)) (by kernel_rfl) ?_ ?_
                      · refine Ob.yes (fun _ _ h => h) fun a w hR hk K k => ?_
                        obtain ⟨_, e11, rfl⟩ := hk 11 (by decide)
                        clear hk
                        have q0 := cell_blk (blk_keep HU.out.1.hV hR id) 0
                        have q1 := cell_blk (blk_keep HU.out.1.hV hR id) 1
                        simp only [List.getElem?_toArray, List.getElem?_cons_zero, List.getElem?_cons_succ] at q0 q1
                        go_simp
                        exact k _ _ (Chg.refl _ _) rfl
                      refine Obs.cons (some (221, false)) (by kernel_rfl) ?_ ?_
                      · refine Ob.yes (fun _ _ h => h) fun a w hR hk K k => ?_
                        obtain ⟨_, e21, rfl⟩ := hk 21 (by decide)
                        clear hk
                        have q0 := cell_blk (blk_keep HU.out.2.2 hR id) 0
                        have q1 := cell_blk (blk_keep HU.out.2.2 hR id) 1
                        simp only [List.getElem?_toArray, List.getElem?_cons_zero, List.getElem?_cons_succ] at q0 q1
                        go_simp
                        exact k _ _ (Chg.refl _ _) rfl
                      refine Obs.cons (some (221, false)) (by kernel_rfl) ?_ ?_
                      · refine Ob.yes (fun _ _ h => h) fun a w hR hk K k => ?_
                        obtain ⟨_, e225, rfl⟩ := hk 225 (by decide)
                        obtain ⟨_, e226, rfl⟩ := hk 226 (by decide)
                        clear hk
                        have hq := rvwhich0 ao8 cap8 es8 m p [] w (by omega) (HU.out.1.ents.keep hR (fun _ _ => id))
                        unfold vaultV WhichPost at hq
                        go_simp
                        refine hq.mono ?_
                        rintro e w2 ⟨o9, a9, c9, ho9, rfl, hown, hc⟩
                        have he9 : o9 = y1 := by first | (rw [ho9, HY1.out.1]; done) | (rw [ho9, HY1.out.1]; rfl)
                        rw [he9] at hown ⊢
                        exact k _ _ hc (own_tells HY1.out.2.2 hown)
                      refine Obs.cons (some (221, false)) (by kernel_rfl) ?_ ?_
                      · refine Ob.yes (fun _ _ h => h) fun a w hR hk K k => ?_
                        obtain ⟨_, e224, f224⟩ := hk 224 (by decide)
                        obtain ⟨_, e227, f227⟩ := hk 227 (by decide)
                        clear hk
                        obtain ⟨a1, p1, rfl, h1⟩ := f224
                        obtain ⟨a2, p2, rfl, h2⟩ := f227
                        have hq := csame_ref a1 a2 p1 p2 y1 y1 w (Nat.le_trans HY1.out.2.1 (by decide)) (Nat.le_trans HY1.out.2.1 (by decide)) h1 h2
                        go_simp
                        refine hq.mono ?_
                        rintro e w2 ⟨rfl, n, rfl⟩
                        exact k _ _ (drewN_chg7 w n) (by first | (simp only [sameC, beq_self_eq_true]; done) | (simp only [sameC, beq_self_eq_true]; rfl))
                      refine Obs.cons (some (221, false)) (by kernel_rfl) ?_ ?_
                      · refine Ob.yes (fun _ _ h => h) fun a w hR hk K k => ?_
                        obtain ⟨_, e228, rfl⟩ := hk 228 (by decide)
                        clear hk
                        go_simp
                        exact k _ _ (Chg.refl _ _) rfl
                      refine Obs.cons none (by kernel_rfl) ?_ ?_
                      · refine Ob.plain fun a w hR hk K k => ?_
                        obtain ⟨_, e221, rfl⟩ := hk 221 (by decide)
                        obtain ⟨_, e229, rfl⟩ := hk 229 (by decide)
                        clear hk
                        go_simp
                        exact k _ _ (Chg.refl _ _) rfl
                      refine Obs.cons none (by kernel_rfl) ?_ ?_
                      · refine Ob.plain fun a w hR hk K k => ?_
                        obtain ⟨_, e230, f230⟩ := hk 230 (by decide)
                        clear hk
                        go_simp
                        exact k _ _ (Chg.refl _ _) f230
                      refine Obs.cons (some (231, false)) (by kernel_rfl) ?_ ?_
                      · refine Ob.yes (fun _ _ h => h) fun a w hR hk K k => ?_
                        obtain ⟨_, e7, f7⟩ := hk 7 (by decide)
                        clear hk
                        go_simp
                        exact k _ _ (Chg.refl _ _) f7
                      refine Obs.cons (some (231, false)) (by kernel_rfl) ?_ ?_
                      · refine Ob.yes (fun _ _ h => h) fun a w hR hk K k => ?_
                        obtain ⟨_, e5, rfl⟩ := hk 5 (by decide)
                        clear hk
                        go_simp
                        exact k _ _ (Chg.refl _ _) rfl
                      refine Obs.cons (some (231, false)) (by kernel_rfl) ?_ ?_
                      · refine Ob.yes (fun _ _ h => h) fun a w hR hk K k => ?_
                        obtain ⟨_, e233, rfl⟩ := hk 233 (by decide)
                        clear hk
                        have q0 := cell_blk (blk_keep HU.out.1.hA hR id) 0
                        have q1 := cell_blk (blk_keep HU.out.1.hA hR id) 1
                        simp only [List.getElem?_toArray, List.getElem?_cons_zero, List.getElem?_cons_succ] at q0 q1
                        go_simp
                        exact k _ _ (Chg.refl _ _) rfl
                      refine Obs.cons (some (231, false)) (by kernel_rfl) ?_ ?_
                      · refine Ob.yes (fun _ _ h => h) fun a w hR hk K k => ?_
                        obtain ⟨_, e232, rfl⟩ := hk 232 (by decide)
                        obtain ⟨_, e234, rfl⟩ := hk 234 (by decide)
                        clear hk
                        have hq := HK.out.issuer w g es8 m p.1 (HK.out.keep HU.out.1.va hR (fun _ _ => id)) he8 hpl.1
                        rw [← HY2.out.1] at hq
                        go_simp
                        refine hq.mono ?_
                        rintro e w2 ⟨⟨a9, c9, rfl, hcs9⟩, hc⟩
                        exact k _ _ hc ⟨a9, c9, rfl, hcs9⟩
                      refine Obs.cons (some (231, false)) (by kernel_rfl) ?_ ?_
                      · refine Ob.yes (fun _ _ h => h) fun a w hR hk K k => ?_
                        obtain ⟨_, e11, rfl⟩ := hk 11 (by decide)
                        clear hk
                        have q0 := cell_blk (blk_keep HU.out.1.hV hR id) 0
                        have q1 := cell_blk (blk_keep HU.out.1.hV hR id) 1
                        simp only [List.getElem?_toArray, List.getElem?_cons_zero, List.getElem?_cons_succ] at q0 q1
                        go_simp
                        exact k _ _ (Chg.refl _ _) rfl
                      refine Obs.cons (some (231, false)) (by kernel_rfl) ?_ ?_
                      · refine Ob.yes (fun _ _ h => h) fun a w hR hk K k => ?_
                        obtain ⟨_, e21, rfl⟩ := hk 21 (by decide)
                        clear hk
                        have q0 := cell_blk (blk_keep HU.out.2.2 hR id) 0
                        have q1 := cell_blk (blk_keep HU.out.2.2 hR id) 1
                        simp only [List.getElem?_toArray, List.getElem?_cons_zero, List.getElem?_cons_succ] at q0 q1
                        go_simp
                        exact k _ _ (Chg.refl _ _) rfl
                      refine Obs.cons (some (231, false)) (by kernel_rfl) ?_ ?_
                      · refine Ob.yes (fun _ _ h => h) fun a w hR hk K k => ?_
                        obtain ⟨_, e5, rfl⟩ := hk 5 (by decide)
                        clear hk
                        go_simp
                        exact k _ _ (Chg.refl _ _) rfl
                      refine Obs.cons (some (231, false)) (by kernel_rfl) ?_ ?_
                      · refine Ob.yes (fun _ _ h => h) fun a w hR hk K k => ?_
                        obtain ⟨_, e238, rfl⟩ := hk 238 (by decide)
                        clear hk
                        have q0 := cell_blk (blk_keep HU.out.1.hA hR id) 0
                        have q1 := cell_blk (blk_keep HU.out.1.hA hR id) 1
                        simp only [List.getElem?_toArray, List.getElem?_cons_zero, List.getElem?_cons_succ] at q0 q1
                        go_simp
                        exact k _ _ (Chg.refl _ _) rfl
                      refine Obs.cons (some (231, false)) (by kernel_rfl) ?_ ?_
                      · refine Ob.yes (fun _ _ h => h) fun a w hR hk K k => ?_
                        obtain ⟨_, e236, rfl⟩ := hk 236 (by decide)
                        obtain ⟨_, e237, rfl⟩ := hk 237 (by decide)
                        obtain ⟨_, e239, rfl⟩ := hk 239 (by decide)
                        clear hk
                        have hq := rvwhich1 ao8 cap8 es8 m p p.1 w (by omega) (HU.out.1.ents.keep hR (fun _ _ => id))
                        unfold vaultV WhichPost at hq
                        go_simp
                        refine hq.mono ?_
                        rintro e w2 ⟨o9, a9, c9, ho9, rfl, hown, hc⟩
                        have he9 : o9 = y2 := by first | (rw [ho9, HY2.out.1]; done) | (rw [ho9, HY2.out.1]; rfl)
                        rw [he9] at hown ⊢
                        exact k _ _ hc (own_tells HY2.out.2.2 hown)
                      refine Obs.cons (some (231, false)) (by kernel_rfl) ?_ ?_
                      · refine Ob.yes (fun _ _ h => h) fun a w hR hk K k => ?_
                        obtain ⟨_, e235, f235⟩ := hk 235 (by decide)
                        obtain ⟨_, e240, f240⟩ := hk 240 (by decide)
                        clear hk
                        obtain ⟨a1, p1, rfl, h1⟩ := f235
                        obtain ⟨a2, p2, rfl, h2⟩ := f240
                        have hq := csame_ref a1 a2 p1 p2 y2 y2 w (Nat.le_trans HY2.out.2.1 (by decide)) (Nat.le_trans HY2.out.2.1 (by decide)) h1 h2
                        go_simp
                        refine hq.mono ?_
                        rintro e w2 ⟨rfl, n, rfl⟩
                        exact k _ _ (drewN_chg7 w n) (by first | (simp only [sameC, beq_self_eq_true]; done) | (simp only [sameC, beq_self_eq_true]; rfl))
                      refine Obs.cons (some (231, false)) (by kernel_rfl) ?_ ?_
                      · refine Ob.yes (fun _ _ h => h) fun a w hR hk K k => ?_
                        obtain ⟨_, e241, rfl⟩ := hk 241 (by decide)
                        clear hk
                        go_simp
                        exact k _ _ (Chg.refl _ _) rfl
                      refine Obs.cons none (by kernel_rfl) ?_ ?_
                      · refine Ob.plain fun a w hR hk K k => ?_
                        obtain ⟨_, e231, rfl⟩ := hk 231 (by decide)
                        obtain ⟨_, e242, rfl⟩ := hk 242 (by decide)
                        clear hk
                        go_simp
                        exact k _ _ (Chg.refl _ _) rfl
                      refine Obs.cons none (by kernel_rfl) ?_ ?_
                      · refine Ob.plain fun a w hR hk K k => ?_
                        obtain ⟨_, e243, f243⟩ := hk 243 (by decide)
                        clear hk
                        go_simp
                        exact k _ _ (Chg.refl _ _) f243
                      refine Obs.cons (some (244, false)) (by kernel_rfl) ?_ ?_
                      · refine Ob.yes (fun _ _ h => h) fun a w hR hk K k => ?_
                        obtain ⟨_, e7, f7⟩ := hk 7 (by decide)
                        clear hk
                        go_simp
                        exact k _ _ (Chg.refl _ _) f7
                      refine Obs.cons (some (244, false)) (by kernel_rfl) ?_ ?_
                      · refine Ob.yes (fun _ _ h => h) fun a w hR hk K k => ?_
                        obtain ⟨_, e5, rfl⟩ := hk 5 (by decide)
                        clear hk
                        go_simp
                        exact k _ _ (Chg.refl _ _) rfl
                      refine Obs.cons (some (244, false)) (by kernel_rfl) ?_ ?_
                      · refine Ob.yes (fun _ _ h => h) fun a w hR hk K k => ?_
                        obtain ⟨_, e246, rfl⟩ := hk 246 (by decide)
                        clear hk
                        have q0 := cell_blk (blk_keep HU.out.1.hA hR id) 0
                        have q1 := cell_blk (blk_keep HU.out.1.hA hR id) 1
                        simp only [List.getElem?_toArray, List.getElem?_cons_zero, List.getElem?_cons_succ] at q0 q1
                        go_simp
                        exact k _ _ (Chg.refl _ _) rfl
                      refine Obs.cons (some (244, false)) (by kernel_rfl) ?_ ?_
                      · refine Ob.yes (fun _ _ h => h) fun a w hR hk K k => ?_
                        obtain ⟨_, e245, rfl⟩ := hk 245 (by decide)
                        obtain ⟨_, e247, rfl⟩ := hk 247 (by decide)
                        clear hk
                        have hq := HK.out.subject w g es8 m p.1 (HK.out.keep HU.out.1.va hR (fun _ _ => id)) he8 hpl.1
                        rw [← HY3.out.1] at hq
                        go_simp
                        refine hq.mono ?_
                        rintro e w2 ⟨⟨a9, c9, rfl, hcs9⟩, hc⟩
                        exact k _ _ hc ⟨a9, c9, rfl, hcs9⟩
                      refine Obs.cons (some (244, false)) (by kernel_rfl) ?_ ?_
                      · refine Ob.yes (fun _ _ h => h) fun a w hR hk K k => ?_
                        obtain ⟨_, e11, rfl⟩ := hk 11 (by decide)
                        clear hk
                        have q0 := cell_blk (blk_keep HU.out.1.hV hR id) 0
                        have q1 := cell_blk (blk_keep HU.out.1.hV hR id) 1
                        simp only [List.getElem?_toArray, List.getElem?_cons_zero, List.getElem?_cons_succ] at q0 q1
                        go_simp
                        exact k _ _ (Chg.refl _ _) rfl
                      refine Obs.cons (some (244, false)) (by kernel_rfl) ?_ ?_
                      · refine Ob.yes (fun _ _ h => h) fun a w hR hk K k => ?_
                        obtain ⟨_, e21, rfl⟩ := hk 21 (by decide)
                        clear hk
                        have q0 := cell_blk (blk_keep HU.out.2.2 hR id) 0
                        have q1 := cell_blk (blk_keep HU.out.2.2 hR id) 1
                        simp only [List.getElem?_toArray, List.getElem?_cons_zero, List.getElem?_cons_succ] at q0 q1
                        go_simp
                        exact k _ _ (Chg.refl _ _) rfl
                      refine Obs.cons (some (244, false)) (by kernel_rfl) ?_ ?_
                      · refine Ob.yes (fun _ _ h => h) fun a w hR hk K k => ?_
                        obtain ⟨_, e5, rfl⟩ := hk 5 (by decide)
                        clear hk
                        go_simp
                        exact k _ _ (Chg.refl _ _) rfl
                      refine Obs.cons (some (244, false)) (by kernel_rfl) ?_ ?_
                      · refine Ob.yes (fun _ _ h => h) fun a w hR hk K k => ?_
                        obtain ⟨_, e251, rfl⟩ := hk 251 (by decide)
                        clear hk
                        have q0 := cell_blk (blk_keep HU.out.1.hA hR id) 0
                        have q1 := cell_blk (blk_keep HU.out.1.hA hR id) 1
                        simp only [List.getElem?_toArray, List.getElem?_cons_zero, List.getElem?_cons_succ] at q0 q1
                        go_simp
                        exact k _ _ (Chg.refl _ _) rfl
                      refine Obs.cons (some (244, false)) (by kernel_rfl) ?_ ?_
                      · refine Ob.yes (fun _ _ h => h) fun a w hR hk K k => ?_
                        obtain ⟨_, e249, rfl⟩ := hk 249 (by decide)
                        obtain ⟨_, e250, rfl⟩ := hk 250 (by decide)
                        obtain ⟨_, e252, rfl⟩ := hk 252 (by decide)
                        clear hk
                        have hq := rvwhich2 ao8 cap8 es8 m p p.1 w (by omega) (HU.out.1.ents.keep hR (fun _ _ => id))
                        unfold vaultV WhichPost at hq
                        go_simp
                        refine hq.mono ?_
                        rintro e w2 ⟨o9, a9, c9, ho9, rfl, hown, hc⟩
                        have he9 : o9 = y3 := by first | (rw [ho9, HY3.out.1]; done) | (rw [ho9, HY3.out.1]; rfl)
                        rw [he9] at hown ⊢
                        exact k _ _ hc (own_tells HY3.out.2.2 hown)
                      refine Obs.cons (some (244, false)) (by kernel_rfl) ?_ ?_
                      · refine Ob.yes (fun _ _ h => h) fun a w hR hk K k => ?_
                        obtain ⟨_, e248, f248⟩ := hk 248 (by decide)
                        obtain ⟨_, e253, f253⟩ := hk 253 (by decide)
                        clear hk
                        obtain ⟨a1, p1, rfl, h1⟩ := f248
                        obtain ⟨a2, p2, rfl, h2⟩ := f253
                        have hq := csame_ref a1 a2 p1 p2 y3 y3 w (Nat.le_trans HY3.out.2.1 (by decide)) (Nat.le_trans HY3.out.2.1 (by decide)) h1 h2
                        go_simp
                        refine hq.mono ?_
                        rintro e w2 ⟨rfl, n, rfl⟩
                        exact k _ _ (drewN_chg7 w n) (by first | (simp only [sameC, beq_self_eq_true]; done) | (simp only [sameC, beq_self_eq_true]; rfl))
                      refine Obs.cons (some (244, false)) (by kernel_rfl) ?_ ?_
                      · refine Ob.yes (fun _ _ h => h) fun a w hR hk K k => ?_
                        obtain ⟨_, e254, rfl⟩ := hk 254 (by decide)
                        clear hk
                        go_simp
                        exact k _ _ (Chg.refl _ _) rfl
                      refine Obs.cons none (by kernel_rfl) ?_ ?_
                      · refine Ob.plain fun a w hR hk K k => ?_
                        obtain ⟨_, e244, rfl⟩ := hk 244 (by decide)
                        obtain ⟨_, e255, rfl⟩ := hk 255 (by decide)
                        clear hk
                        go_simp
                        exact k _ _ (Chg.refl _ _) rfl
                      refine Obs.cons none (by kernel_rfl) ?_ ?_
                      · refine Ob.plain fun a w hR hk K k => ?_
                        obtain ⟨_, e256, f256⟩ := hk 256 (by decide)
                        clear hk
                        go_simp
                        exact k _ _ (Chg.refl _ _) f256
                      refine Obs.cons (some (257, false)) (by kernel_rfl) ?_ ?_
                      · refine Ob.yes (fun _ _ h => h) fun a w hR hk K k => ?_
                        obtain ⟨_, e7, f7⟩ := hk 7 (by decide)
                        clear hk
                        go_simp
                        exact k _ _ (Chg.refl _ _) f7
                      refine Obs.cons (some (257, false)) (by kernel_rfl) ?_ ?_
                      · refine Ob.yes (fun _ _ h => h) fun a w hR hk K k => ?_
                        obtain ⟨_, e5, rfl⟩ := hk 5 (by decide)
                        clear hk
                        go_simp
                        exact k _ _ (Chg.refl _ _) rfl
                      refine Obs.cons (some (257, false)) (by kernel_rfl) ?_ ?_
                      · refine Ob.yes (fun _ _ h => h) fun a w hR hk K k => ?_
                        obtain ⟨_, e259, rfl⟩ := hk 259 (by decide)
                        clear hk
                        have q0 := cell_blk (blk_keep HU.out.1.hA hR id) 0
                        have q1 := cell_blk (blk_keep HU.out.1.hA hR id) 1
                        simp only [List.getElem?_toArray, List.getElem?_cons_zero, List.getElem?_cons_succ] at q0 q1
                        go_simp
                        exact k _ _ (Chg.refl _ _) rfl
                      refine Obs.cons (some (257, false)) (by kernel_rfl) ?_ ?_
                      · refine Ob.yes (fun _ _ h => h) fun a w hR hk K k => ?_
                        obtain ⟨_, e258, rfl⟩ := hk 258 (by decide)
                        obtain ⟨_, e260, rfl⟩ := hk 260 (by decide)
                        clear hk
                        have hq := HK.out.word w g es8 m p.2 (HK.out.keep HU.out.1.va hR (fun _ _ => id)) he8 hpl.2
                        rw [← HY4.out.1] at hq
                        go_simp
                        refine hq.mono ?_
                        rintro e w2 ⟨⟨a9, c9, rfl, hcs9⟩, hc⟩
                        exact k _ _ hc ⟨a9, c9, rfl, hcs9⟩
                      refine Obs.cons (some (257, false)) (by kernel_rfl) ?_ ?_
                      · refine Ob.yes (fun _ _ h => h) fun a w hR hk K k => ?_
                        obtain ⟨_, e11, rfl⟩ := hk 11 (by decide)
                        clear hk
                        have q0 := cell_blk (blk_keep HU.out.1.hV hR id) 0
                        have q1 := cell_blk (blk_keep HU.out.1.hV hR id) 1
                        simp only [List.getElem?_toArray, List.getElem?_cons_zero, List.getElem?_cons_succ] at q0 q1
                        go_simp
                        exact k _ _ (Chg.refl _ _) rfl
                      refine Obs.cons (some (257, false)) (by kernel_rfl) ?_ ?_
                      · refine Ob.yes (fun _ _ h => h) fun a w hR hk K k => ?_
                        obtain ⟨_, e21, rfl⟩ := hk 21 (by decide)
                        clear hk
                        have q0 := cell_blk (blk_keep HU.out.2.2 hR id) 0
                        have q1 := cell_blk (blk_keep HU.out.2.2 hR id) 1
                        simp only [List.getElem?_toArray, List.getElem?_cons_zero, List.getElem?_cons_succ] at q0 q1
                        go_simp
                        exact k _ _ (Chg.refl _ _) rfl
                      refine Obs.cons (some (257, false)) (by kernel_rfl) ?_ ?_
                      · refine Ob.yes (fun _ _ h => h) fun a w hR hk K k => ?_
                        obtain ⟨_, e5, rfl⟩ := hk 5 (by decide)
                        clear hk
                        go_simp
                        exact k _ _ (Chg.refl _ _) rfl
                      refine Obs.cons (some (257, false)) (by kernel_rfl) ?_ ?_
                      · refine Ob.yes (fun _ _ h => h) fun a w hR hk K k => ?_
                        obtain ⟨_, e264, rfl⟩ := hk 264 (by decide)
                        clear hk
                        have q0 := cell_blk (blk_keep HU.out.1.hA hR id) 0
                        have q1 := cell_blk (blk_keep HU.out.1.hA hR id) 1
                        simp only [List.getElem?_toArray, List.getElem?_cons_zero, List.getElem?_cons_succ] at q0 q1
                        go_simp
                        exact k _ _ (Chg.refl _ _) rfl
                      refine Obs.cons (some (257, false)) (by kernel_rfl) ?_ ?_
                      · refine Ob.yes (fun _ _ h => h) fun a w hR hk K k => ?_
                        obtain ⟨_, e262, rfl⟩ := hk 262 (by decide)
                        obtain ⟨_, e263, rfl⟩ := hk 263 (by decide)
                        obtain ⟨_, e265, rfl⟩ := hk 265 (by decide)
                        clear hk
                        have hq := rvwhich3 ao8 cap8 es8 m p p.2 w (by omega) (HU.out.1.ents.keep hR (fun _ _ => id))
                        unfold vaultV WhichPost at hq
                        go_simp
                        refine hq.mono ?_
                        rintro e w2 ⟨o9, a9, c9, ho9, rfl, hown, hc⟩
                        have he9 : o9 = y4 := by first | (rw [ho9, HY4.out.1]; done) | (rw [ho9, HY4.out.1]; rfl)
                        rw [he9] at hown ⊢
                        exact k _ _ hc (own_tells HY4.out.2.2 hown)
                      refine Obs.cons (some (257, false)) (by kernel_rfl) ?_ ?_
                      · refine Ob.yes (fun _ _ h => h) fun a w hR hk K k => ?_
                        obtain ⟨_, e261, f261⟩ := hk 261 (by decide)
                        obtain ⟨_, e266, f266⟩ := hk 266 (by decide)
                        clear hk
                        obtain ⟨a1, p1, rfl, h1⟩ := f261
                        obtain ⟨a2, p2, rfl, h2⟩ := f266
                        have hq := csame_ref a1 a2 p1 p2 y4 y4 w (Nat.le_trans HY4.out.2.1 (by decide)) (Nat.le_trans HY4.out.2.1 (by decide)) h1 h2
                        go_simp
                        refine hq.mono ?_
                        rintro e w2 ⟨rfl, n, rfl⟩
                        exact k _ _ (drewN_chg7 w n) (by first | (simp only [sameC, beq_self_eq_true]; done) | (simp only [sameC, beq_self_eq_true]; rfl))
                      refine Obs.cons (some (257, false)) (by kernel_rfl) ?_ ?_
                      · refine Ob.yes (fun _ _ h => h) fun a w hR hk K k => ?_
                        obtain ⟨_, e267, rfl⟩ := hk 267 (by decide)
                        clear hk
                        go_simp
                        exact k _ _ (Chg.refl _ _) rfl
                      refine Obs.cons none (by kernel_rfl) ?_ ?_
                      · refine Ob.plain fun a w hR hk K k => ?_
                        obtain ⟨_, e257, rfl⟩ := hk 257 (by decide)
                        obtain ⟨_, e268, rfl⟩ := hk 268 (by decide)
                        clear hk
                        go_simp
                        exact k _ _ (Chg.refl _ _) rfl
                      exact Obs.nil
                    case fin2 =>
                      intro vals w14 hc14 hv
                      have h269 : vals 269 = .bool false := hv 269 (by decide)
                      simp only [putAll, List.setIfInBounds_toArray, List.set_cons_zero, List.set_cons_succ, h269]
                      clear hv h269
                      have HE := hid (HU.out.1.keep HK.out hc14)
                      clear HU hc14
                      go_wp2
                      go_roundw
                      case rel => exact ⟨k + 1, es8, ao8, cap8, O8, E8, by go_num, by omega, by omega, by omega, HE.out⟩
                      case measure => simp [intOf]; omega
                | false =>
                  have z1 := h1
                  clear h1
                  obtain ⟨hst8, hX8, _⟩ := HS6.out
                  have hlen8 : es.length ≤ k + 1 := by omega
                  clear HS6 HS6' x0 x1 x2 x3 x4 x5 x6 x7 x8 x9 x10
                  obtain ⟨es8, hes8⟩ : ∃ q, q = es := ⟨_, rfl⟩
                  obtain ⟨ao8, hao8⟩ : ∃ q, q = ao' := ⟨_, rfl⟩
                  obtain ⟨cap8, hcap8⟩ : ∃ q, q = cap' := ⟨_, rfl⟩
                  obtain ⟨O8, hO8⟩ : ∃ q, q = O := ⟨_, rfl⟩
                  obtain ⟨E8, hE8⟩ : ∃ q, q = E := ⟨_, rfl⟩
                  rw [← hes8, ← hao8, ← hcap8, ← hO8, ← hE8] at hst8
                  rw [← hes8] at hlen8
                  clear hes8 hao8 hcap8 hO8 hE8
                  have he8 : es8.length ≤ 256 := by omega
                  have x0 := cell_blk hX8 0
                  have x1 := cell_blk hX8 1
                  have x2 := cell_blk hX8 2
                  have x3 := cell_blk hX8 3
                  have x4 := cell_blk hX8 4
                  have x5 := cell_blk hX8 5
                  have x6 := cell_blk hX8 6
                  have x7 := cell_blk hX8 7
                  have x8 := cell_blk hX8 8
                  have x9 := cell_blk hX8 9
                  have x10 := cell_blk hX8 10
                  simp only [opBox, List.getElem?_toArray, List.getElem?_cons_zero, List.getElem?_cons_succ] at x0 x1 x2 x3 x4 x5 x6 x7 x8 x9 x10
                  have hget := HK.out.get w6 g es8 m x.s.c hst8.va he8 hcs
                  unfold GotV signV signBox credV credBox at hget
                  have HGT := hid hget
                  have HS8 := hid (And.intro hst8 hX8)
                  clear hget hst8 hX8
                  go_wp2_with fail
                  refine HGT.out.mono ?_
                  clear HGT x0 x1 x2 x3 x4 x5 x6 x7 x8 x9 x10
                  rintro e w9 ⟨⟨t, ya, yc, rfl, hyb, hte⟩, hc9⟩
                  have hst9 := HS8.out.1.keep HK.out hc9
                  have hX9 := blk_keep HS8.out.2 hc9 id
                  have hY : (w9.alloc (.cells #[.int .i64 t.c.kind, .string ⟨t.c.head.1.toArray⟩, .string ⟨t.c.head.2.toArray⟩, .string ⟨t.c.who.toArray⟩, .string ⟨t.c.b.1.toArray⟩, .string ⟨t.c.b.2.toArray⟩, .string ⟨t.c.c.1.toArray⟩, .string ⟨t.c.c.2.toArray⟩, .string ⟨t.c.w2.toArray⟩, .slice ya t.tag.length yc] 35)).heap[w9.heap.size]? = some (.cells (signBox t.c (.slice ya t.tag.length yc)) 35 (0, 0)) := heap_alloc_new w9 _
                  have halY : Chg (fun _ => False) w9 (w9.alloc (.cells #[.int .i64 t.c.kind, .string ⟨t.c.head.1.toArray⟩, .string ⟨t.c.head.2.toArray⟩, .string ⟨t.c.who.toArray⟩, .string ⟨t.c.b.1.toArray⟩, .string ⟨t.c.b.2.toArray⟩, .string ⟨t.c.c.1.toArray⟩, .string ⟨t.c.c.2.toArray⟩, .string ⟨t.c.w2.toArray⟩, .slice ya t.tag.length yc] 35)) := (Chg.refl _ w9).alloc _
                  have hyb2 := hyb.keep halY (fun _ _ => id)
                  have hst10 := hst9.keep HK.out halY
                  have hX10 := blk_keep hX9 halY id
                  have v0 := cell_blk hst10.hV 0
                  have v1 := cell_blk hst10.hV 1
                  simp only [List.getElem?_toArray, List.getElem?_cons_zero, List.getElem?_cons_succ] at v0 v1
                  have x0 := cell_blk hX10 0
                  have x1 := cell_blk hX10 1
                  have x2 := cell_blk hX10 2
                  have x3 := cell_blk hX10 3
                  have x4 := cell_blk hX10 4
                  have x5 := cell_blk hX10 5
                  have x6 := cell_blk hX10 6
                  have x7 := cell_blk hX10 7
                  have x8 := cell_blk hX10 8
                  have x9 := cell_blk hX10 9
                  have x10 := cell_blk hX10 10
                  simp only [opBox, List.getElem?_toArray, List.getElem?_cons_zero, List.getElem?_cons_succ] at x0 x1 x2 x3 x4 x5 x6 x7 x8 x9 x10
                  have hrg := rvget_any ao8 cap8 es8 m x.s.c (w9.alloc (.cells #[.int .i64 t.c.kind, .string ⟨t.c.head.1.toArray⟩, .string ⟨t.c.head.2.toArray⟩, .string ⟨t.c.who.toArray⟩, .string ⟨t.c.b.1.toArray⟩, .string ⟨t.c.b.2.toArray⟩, .string ⟨t.c.c.1.toArray⟩, .string ⟨t.c.c.2.toArray⟩, .string ⟨t.c.w2.toArray⟩, .slice ya t.tag.length yc] 35)) (by omega) hst10.ents
                  obtain ⟨za, zc, hz, hzb⟩ := getVal_at hst10.tags x.s.c
                  rw [← hte] at hz hzb
                  rw [hz] at hrg
                  unfold vaultV signV signBox credV credBox at hrg
                  obtain ⟨cs8, hcs8⟩ : ∃ cs8, cs8 = es8.map (·.c) := ⟨_, rfl⟩
                  have hst9sh : Hid (∀ c ∈ cs8, credShort c 9223372036854775807) := hid (fun c hc => by
                    rw [hcs8] at hc
                    obtain ⟨q, hq, rfl⟩ := List.mem_map.1 hc
                    exact (isCred_short (isSign_cred (hst10.tags q hq).1)).mono (by decide))
                  have hcl : Hid (cs8.length ≤ 256) := hid (by rw [hcs8, List.length_map]; exact he8)
                  have HCS := hid hcs8
                  clear hcs8
                  have HRG := hid (And.intro hrg (And.intro hst10 (And.intro hX10 (And.intro hY (And.intro hyb2 hzb)))))
                  clear hrg hst10 hX10 hY hyb2 hzb hz hte hst9 hX9 halY hyb hc9 HS8
                  go_wp2_with fail
                  obtain ⟨hrg, hst10, hX10, hY, hyb2, hzb⟩ := HRG.out
                  clear HRG v0 v1 x0 x1 x2 x3 x4 x5 x6 x7 x8 x9 x10
                  generalize (getV es8 x.s.c).isSome = bb at *
                  refine hrg.mono ?_
                  rintro e w10 ⟨rfl, hc10⟩
                  have hZ : (w10.alloc (.cells #[.int .i64 t.c.kind, .string ⟨t.c.head.1.toArray⟩, .string ⟨t.c.head.2.toArray⟩, .string ⟨t.c.who.toArray⟩, .string ⟨t.c.b.1.toArray⟩, .string ⟨t.c.b.2.toArray⟩, .string ⟨t.c.c.1.toArray⟩, .string ⟨t.c.c.2.toArray⟩, .string ⟨t.c.w2.toArray⟩, .slice za t.tag.length zc] 35)).heap[w10.heap.size]? = some (.cells (signBox t.c (.slice za t.tag.length zc)) 35 (0, 0)) := heap_alloc_new w10 _
                  have halZ : Chg (fun _ => False) w10 (w10.alloc (.cells #[.int .i64 t.c.kind, .string ⟨t.c.head.1.toArray⟩, .string ⟨t.c.head.2.toArray⟩, .string ⟨t.c.who.toArray⟩, .string ⟨t.c.b.1.toArray⟩, .string ⟨t.c.b.2.toArray⟩, .string ⟨t.c.c.1.toArray⟩, .string ⟨t.c.c.2.toArray⟩, .string ⟨t.c.w2.toArray⟩, .slice za t.tag.length zc] 35)) := (Chg.refl _ w10).alloc _
                  have hcc := hc10.trans halZ (fun _ _ h => h)
                  have HT := hid (And.intro (hst10.keep HK.out hcc) (And.intro (blk_keep hY hcc id) (And.intro hZ (And.intro (hyb2.keep hcc (fun _ _ => id)) (hzb.keep hcc (fun _ _ => id))))))
                  have HX11 := hid (blk_keep hX10 hcc id)
                  clear hrg hst10 hX10 hY hyb2 hzb hc10 hZ halZ hcc
                  go_wp2_with fail
                  generalize (w10.alloc (.cells #[.int .i64 t.c.kind, .string ⟨t.c.head.1.toArray⟩, .string ⟨t.c.head.2.toArray⟩, .string ⟨t.c.who.toArray⟩, .string ⟨t.c.b.1.toArray⟩, .string ⟨t.c.b.2.toArray⟩, .string ⟨t.c.c.1.toArray⟩, .string ⟨t.c.c.2.toArray⟩, .string ⟨t.c.w2.toArray⟩, .slice za t.tag.length zc] 35)) = w11 at *
                  generalize w9.heap.size = Y at *
                  generalize w10.heap.size = Z at *
                  refine wp_region_specs ([.eq (.int .i64 m), .any, .any, .any, .any, .any, .any, .eq (.pointer (some ⟨g, 0, none⟩)), .any, .any, .any, .eq (.pointer (some ⟨V, 0, none⟩)), .any, .any, .any, .eq (.int .i64 0), .eq (.int .i64 0), .eq (.pointer (some ⟨Y, 0, none⟩)), .eq (.bool bb), .eq (.pointer (some ⟨Z, 0, none⟩)), .eq (.bool bb), .any, .any, .any, .any, .any, .any, .any, .any, .any, .any, .any, .any, .any, .any, .any, .any, .any, .any, .any, .any, .any, .any, .any, .any, .any, .any, .any, .any, .any, .any, .any, .any, .any, .any, .any, .any, .any, .any, .any, .any, .any, .any, .any, .any, .any, .any, .any, .any, .any, .any, .any, .any, .any, .any, .any, .any, .any, .any, .any, .any, .any, .any, .any, .any, .any, .any, .any, .any, .any, .any, .any, .any, .any, .any, .any, .any, .any, .any, .any, .any, .any, .any, .any, .any, .any, .any, .any, .any, .any, .any, .any, .any, .any, .any, .any, .any, .any, .any, .any, .any, .any, .any, .any, .any, .any, .any, .any, .any, .any, .any, .any, .any, .any, .any, .any, .any, .any, .any, .any, .any, .any, .any, .any, .any, .any, .any, .any, .any, .any, .any, .any, .any, .any, .any, .any, .any, .any, .any, .any, .any, .any, .eq (.int .i64 0), .eq (.int .i64 0), .eq (.bool false), .eq (.bool false), .eq (.bool bb), .eq (.bool bb), .eq (.bool false), .eq (.bool false), .eq (.bool false), .eq (signV t.c (.slice ya t.tag.length yc)), .eq (signV t.c (.slice za t.tag.length zc)), .eq (.bool true), .eq (.bool false), .eq (.bool false), .eq (.bool false), .eq (.pointer (some ⟨g, 0, none⟩)), .eq (.int .i64 ((es8.length : Nat) : Int)), .eq (.pointer (some ⟨V, 0, none⟩)), .eq (.slice ao8 es8.length cap8), .eq (.int .i64 ((es8.length : Nat) : Int)), .eq (.bool false), .eq (.bool false), .eq (.bool false), .eq (.pointer (some ⟨g, 0, none⟩)), .eq (.int .i64 (m - ((es8.length : Nat) : Int))), .eq (.int .i64 m), .eq (.pointer (some ⟨V, 0, none⟩)), .eq (.slice ao8 es8.length cap8), .eq (.int .i64 ((es8.length : Nat) : Int)), .eq (.int .i64 (m - ((es8.length : Nat) : Int))), .eq (.bool false), .eq (.bool false), .eq (.bool false), .eq (.pointer (some ⟨g, 0, none⟩)), .credL cs8, .eq (.agg #[.slice ao8 es8.length cap8, .int .i64 m]), .credL cs8, .eq (.bool true), .eq (.bool false), .eq (.bool false)] : List Spec) [162, 163, 164, 165, 166, 167, 168, 169, 170, 171, 172, 173, 174, 175, 176, 177, 178, 179, 180, 181, 182, 183, 184, 185, 186, 187, 188, 189, 190, 191, 192, 193, 194, 195, 196, 197, 198, 199, 200, 201] [0, 7, 11, 15, 16, 17, 18, 19, 20] (by kernel_rfl) (by kernel_rfl) (by rfl) (by kernel_rfl) ?start ?obs ?fin
                  case start =>
                    simp only [List.forall_mem_cons]; exact ⟨⟨_, rfl, rfl⟩, ⟨_, rfl, rfl⟩, ⟨_, rfl, rfl⟩, ⟨_, rfl, rfl⟩, ⟨_, rfl, rfl⟩, ⟨_, rfl, rfl⟩, ⟨_, rfl, rfl⟩, ⟨_, rfl, rfl⟩, ⟨_, rfl, rfl⟩, fun _ h => by cases h⟩
                  case obs =>
                    refine Obs.cons none (by kernel_rfl) ?_ ?_
                    · refine Ob.plain fun a w hR hk K k => ?_
                      obtain ⟨_, e16, f16⟩ := hk 16 (by decide)
                      clear hk
                      go_simp
                      exact k _ _ (Chg.refl _ _) f16
                    refine Obs.cons none (by kernel_rfl) ?_ ?_
                    · refine Ob.plain fun a w hR hk K k => ?_
                      obtain ⟨_, e15, f15⟩ := hk 15 (by decide)
                      clear hk
                      go_simp
                      exact k _ _ (Chg.refl _ _) f15
                    refine Obs.cons none (by kernel_rfl) ?_ ?_
                    · refine Ob.plain fun a w hR hk K k => ?_
                      obtain ⟨_, e162, rfl⟩ := hk 162 (by decide)
                      obtain ⟨_, e163, rfl⟩ := hk 163 (by decide)
                      clear hk
                      have z : ((0 : Int) == 0) = true := beq_self_eq_true _
                      have z2 : ((0 : Int) != 0) = false := by rw [bne, z]; rfl
                      go_simp
                      exact k _ _ (Chg.refl _ _) rfl
                    refine Obs.cons none (by kernel_rfl) ?_ ?_
                    · refine Ob.plain fun a w hR hk K k => ?_
                      obtain ⟨_, e164, f164⟩ := hk 164 (by decide)
                      clear hk
                      go_simp
                      exact k _ _ (Chg.refl _ _) f164
                    refine Obs.cons (some (165, false)) (by kernel_rfl) ?_ ?_
                    · refine Ob.yes (fun _ _ h => h) fun a w hR hk K k => ?_
                      obtain ⟨_, e18, f18⟩ := hk 18 (by decide)
                      clear hk
                      go_simp
                      exact k _ _ (Chg.refl _ _) f18
                    refine Obs.cons (some (165, false)) (by kernel_rfl) ?_ ?_
                    · refine Ob.yes (fun _ _ h => h) fun a w hR hk K k => ?_
                      obtain ⟨_, e20, f20⟩ := hk 20 (by decide)
                      clear hk
                      go_simp
                      exact k _ _ (Chg.refl _ _) f20
                    refine Obs.cons (some (165, false)) (by kernel_rfl) ?_ ?_
                    · refine Ob.yes (fun _ _ h => h) fun a w hR hk K k => ?_
                      obtain ⟨_, e166, rfl⟩ := hk 166 (by decide)
                      obtain ⟨_, e167, rfl⟩ := hk 167 (by decide)
                      clear hk
                      have z : (bb != bb) = false := by simp
                      go_simp
                      exact k _ _ (Chg.refl _ _) (by first | rfl | (show Value.bool _ = Value.bool _; simp))
                    refine Obs.cons none (by kernel_rfl) ?_ ?_
                    · refine Ob.plain fun a w hR hk K k => ?_
                      obtain ⟨_, e165, rfl⟩ := hk 165 (by decide)
                      obtain ⟨_, e168, rfl⟩ := hk 168 (by decide)
                      clear hk
                      go_simp
                      exact k _ _ (Chg.refl _ _) rfl
                    refine Obs.cons none (by kernel_rfl) ?_ ?_
                    · refine Ob.plain fun a w hR hk K k => ?_
                      obtain ⟨_, e169, f169⟩ := hk 169 (by decide)
                      clear hk
                      go_simp
                      exact k _ _ (Chg.refl _ _) f169
                    refine Obs.cons (some (170, false)) (by kernel_rfl) ?_ ?_
                    · refine Ob.yes (fun _ _ h => h) fun a w hR hk K k => ?_
                      obtain ⟨_, e17, rfl⟩ := hk 17 (by decide)
                      clear hk
                      obtain ⟨⟨q0, q1, q2, q3, q4, q5, q6, q7, q8⟩, q9⟩ := cred_at_sign (blk_keep HT.out.2.1 hR id)
                      simp only [Nat.zero_add] at q0 q1 q2 q3 q4 q5 q6 q7 q8 q9
                      go_simp
                      exact k _ _ (Chg.refl _ _) rfl
                    refine Obs.cons (some (170, false)) (by kernel_rfl) ?_ ?_
                    · refine Ob.yes (fun _ _ h => h) fun a w hR hk K k => ?_
                      obtain ⟨_, e19, rfl⟩ := hk 19 (by decide)
                      clear hk
                      obtain ⟨⟨q0, q1, q2, q3, q4, q5, q6, q7, q8⟩, q9⟩ := cred_at_sign (blk_keep HT.out.2.2.1 hR id)
                      simp only [Nat.zero_add] at q0 q1 q2 q3 q4 q5 q6 q7 q8 q9
                      go_simp
                      exact k _ _ (Chg.refl _ _) rfl
                    refine Obs.cons (some (170, false)) (by kernel_rfl) ?_ ?_
                    · refine Ob.yes (fun _ _ h => h) fun a w hR hk K k => ?_
                      obtain ⟨_, e171, rfl⟩ := hk 171 (by decide)
                      obtain ⟨_, e172, rfl⟩ := hk 172 (by decide)
                      clear hk
                      have hsm := rssame_yes t.c t.tag ya za yc zc w (HT.out.2.2.2.1.keep hR (fun _ _ => id)) (HT.out.2.2.2.2.keep hR (fun _ _ => id))
                      unfold signV signBox at hsm
                      go_simp
                      refine hsm.mono ?_
                      rintro e w2 ⟨rfl, hc⟩
                      exact k _ _ hc rfl
                    refine Obs.cons (some (170, false)) (by kernel_rfl) ?_ ?_
                    · refine Ob.yes (fun _ _ h => h) fun a w hR hk K k => ?_
                      obtain ⟨_, e173, rfl⟩ := hk 173 (by decide)
                      clear hk
                      go_simp
                      exact k _ _ (Chg.refl _ _) rfl
                    refine Obs.cons none (by kernel_rfl) ?_ ?_
                    · refine Ob.plain fun a w hR hk K k => ?_
                      obtain ⟨_, e170, rfl⟩ := hk 170 (by decide)
                      obtain ⟨_, e174, rfl⟩ := hk 174 (by decide)
                      clear hk
                      go_simp
                      exact k _ _ (Chg.refl _ _) rfl
                    refine Obs.cons none (by kernel_rfl) ?_ ?_
                    · refine Ob.plain fun a w hR hk K k => ?_
                      obtain ⟨_, e175, f175⟩ := hk 175 (by decide)
                      clear hk
                      go_simp
                      exact k _ _ (Chg.refl _ _) f175
                    refine Obs.cons (some (176, false)) (by kernel_rfl) ?_ ?_
                    · refine Ob.yes (fun _ _ h => h) fun a w hR hk K k => ?_
                      obtain ⟨_, e7, f7⟩ := hk 7 (by decide)
                      clear hk
                      go_simp
                      exact k _ _ (Chg.refl _ _) f7
                    refine Obs.cons (some (176, false)) (by kernel_rfl) ?_ ?_
                    · refine Ob.yes (fun _ _ h => h) fun a w hR hk K k => ?_
                      obtain ⟨_, e177, rfl⟩ := hk 177 (by decide)
                      clear hk
                      have hq := HK.out.len w g es8 m (HK.out.keep HT.out.1.va hR (fun _ _ => id))
                      go_simp
                      refine hq.mono ?_
                      rintro e w2 ⟨rfl, hc⟩
                      exact k _ _ hc rfl
                    refine Obs.cons (some (176, false)) (by kernel_rfl) ?_ ?_
                    · refine Ob.yes (fun _ _ h => h) fun a w hR hk K k => ?_
                      obtain ⟨_, e11, rfl⟩ := hk 11 (by decide)
                      clear hk
                      go_simp
                      exact k _ _ (Chg.refl _ _) rfl
                    refine Obs.cons (some (176, false)) (by kernel_rfl) ?_ ?_
                    · refine Ob.yes (fun _ _ h => h) fun a w hR hk K k => ?_
                      obtain ⟨_, e179, rfl⟩ := hk 179 (by decide)
                      clear hk
                      have q0 := cell_blk (blk_keep HT.out.1.hV hR id) 0
                      have q1 := cell_blk (blk_keep HT.out.1.hV hR id) 1
                      simp only [List.getElem?_toArray, List.getElem?_cons_zero, List.getElem?_cons_succ] at q0 q1
                      go_simp
                      exact k _ _ (Chg.refl _ _) rfl
                    refine Obs.cons (some (176, false)) (by kernel_rfl) ?_ ?_
                    · refine Ob.yes (fun _ _ h => h) fun a w hR hk K k => ?_
                      obtain ⟨_, e180, rfl⟩ := hk 180 (by decide)
                      clear hk
                      go_simp
                      exact k _ _ (Chg.refl _ _) rfl
                    refine Obs.cons (some (176, false)) (by kernel_rfl) ?_ ?_
                    · refine Ob.yes (fun _ _ h => h) fun a w hR hk K k => ?_
                      obtain ⟨_, e178, rfl⟩ := hk 178 (by decide)
                      obtain ⟨_, e181, rfl⟩ := hk 181 (by decide)
                      clear hk
                      have z : (((es8.length : Nat) : Int) != ((es8.length : Nat) : Int)) = false := by simp
                      go_simp
                      exact k _ _ (Chg.refl _ _) (by first | rfl | (show Value.bool _ = Value.bool _; simp))
                    refine Obs.cons none (by kernel_rfl) ?_ ?_
                    · refine Ob.plain fun a w hR hk K k => ?_
                      obtain ⟨_, e176, rfl⟩ := hk 176 (by decide)
                      obtain ⟨_, e182, rfl⟩ := hk 182 (by decide)
                      clear hk
                      go_simp
                      exact k _ _ (Chg.refl _ _) rfl
                    refine Obs.cons none (by kernel_rfl) ?_ ?_
                    · refine Ob.plain fun a w hR hk K k => ?_
                      obtain ⟨_, e183, f183⟩ := hk 183 (by decide)
                      clear hk
                      go_simp
                      exact k _ _ (Chg.refl _ _) f183
                    refine Obs.cons (some (184, false)) (by kernel_rfl) ?_ ?_
                    · refine Ob.yes (fun _ _ h => h) fun a w hR hk K k => ?_
                      obtain ⟨_, e7, f7⟩ := hk 7 (by decide)
                      clear hk
                      go_simp
                      exact k _ _ (Chg.refl _ _) f7
                    refine Obs.cons (some (184, false)) (by kernel_rfl) ?_ ?_
                    · refine Ob.yes (fun _ _ h => h) fun a w hR hk K k => ?_
                      obtain ⟨_, e185, rfl⟩ := hk 185 (by decide)
                      clear hk
                      have hq := HK.out.room w g es8 m (HK.out.keep HT.out.1.va hR (fun _ _ => id)) hb1 hb2 he8
                      go_simp
                      refine hq.mono ?_
                      rintro e w2 ⟨rfl, hc⟩
                      exact k _ _ hc rfl
                    refine Obs.cons (some (184, false)) (by kernel_rfl) ?_ ?_
                    · refine Ob.yes (fun _ _ h => h) fun a w hR hk K k => ?_
                      obtain ⟨_, e0, f0⟩ := hk 0 (by decide)
                      clear hk
                      go_simp
                      exact k _ _ (Chg.refl _ _) f0
                    refine Obs.cons (some (184, false)) (by kernel_rfl) ?_ ?_
                    · refine Ob.yes (fun _ _ h => h) fun a w hR hk K k => ?_
                      obtain ⟨_, e11, rfl⟩ := hk 11 (by decide)
                      clear hk
                      go_simp
                      exact k _ _ (Chg.refl _ _) rfl
                    refine Obs.cons (some (184, false)) (by kernel_rfl) ?_ ?_
                    · refine Ob.yes (fun _ _ h => h) fun a w hR hk K k => ?_
                      obtain ⟨_, e188, rfl⟩ := hk 188 (by decide)
                      clear hk
                      have q0 := cell_blk (blk_keep HT.out.1.hV hR id) 0
                      have q1 := cell_blk (blk_keep HT.out.1.hV hR id) 1
                      simp only [List.getElem?_toArray, List.getElem?_cons_zero, List.getElem?_cons_succ] at q0 q1
                      go_simp
                      exact k _ _ (Chg.refl _ _) rfl
                    refine Obs.cons (some (184, false)) (by kernel_rfl) ?_ ?_
                    · refine Ob.yes (fun _ _ h => h) fun a w hR hk K k => ?_
                      obtain ⟨_, e189, rfl⟩ := hk 189 (by decide)
                      clear hk
                      go_simp
                      exact k _ _ (Chg.refl _ _) rfl
                    refine Obs.cons (some (184, false)) (by kernel_rfl) ?_ ?_
                    · refine Ob.yes (fun _ _ h => h) fun a w hR hk K k => ?_
                      obtain ⟨_, e187, rfl⟩ := hk 187 (by decide)
                      obtain ⟨_, e190, rfl⟩ := hk 190 (by decide)
                      clear hk
                      have z : IntKind.i64.wrap (m - ((es8.length : Nat) : Int)) = m - ((es8.length : Nat) : Int) := by rw [IntKind.wrap_i64]; omega
                      go_simp
                      exact k _ _ (Chg.refl _ _) rfl
                    refine Obs.cons (some (184, false)) (by kernel_rfl) ?_ ?_
                    · refine Ob.yes (fun _ _ h => h) fun a w hR hk K k => ?_
                      obtain ⟨_, e186, rfl⟩ := hk 186 (by decide)
                      obtain ⟨_, e191, rfl⟩ := hk 191 (by decide)
                      clear hk
                      have z : ((m - ((es8.length : Nat) : Int)) != (m - ((es8.length : Nat) : Int))) = false := by simp
                      go_simp
                      exact k _ _ (Chg.refl _ _) (by first | rfl | (show Value.bool _ = Value.bool _; simp))
                    refine Obs.cons none (by kernel_rfl) ?_ ?_
                    · refine Ob.plain fun a w hR hk K k => ?_
                      obtain ⟨_, e184, rfl⟩ := hk 184 (by decide)
                      obtain ⟨_, e192, rfl⟩ := hk 192 (by decide)
                      clear hk
                      go_simp
                      exact k _ _ (Chg.refl _ _) rfl
                    refine Obs.cons none (by kernel_rfl) ?_ ?_
                    · refine Ob.plain fun a w hR hk K k => ?_
                      obtain ⟨_, e193, f193⟩ := hk 193 (by decide)
                      clear hk
                      go_simp
                      exact k _ _ (Chg.refl _ _) f193
                    refine Obs.cons (some (194, false)) (by kernel_rfl) ?_ ?_
                    · refine Ob.yes (fun _ _ h => h) fun a w hR hk K k => ?_
                      obtain ⟨_, e7, f7⟩ := hk 7 (by decide)
                      clear hk
                      go_simp
                      exact k _ _ (Chg.refl _ _) f7
                    refine Obs.cons (some (194, false)) (by kernel_rfl) ?_ ?_
                    · refine Ob.yes (fun _ _ h => h) fun a w hR hk K k => ?_
                      obtain ⟨_, e195, rfl⟩ := hk 195 (by decide)
                      clear hk
                      have hq := HK.out.creds w g es8 m (HK.out.keep HT.out.1.va hR (fun _ _ => id)) he8
                      go_simp
                      refine hq.mono ?_
                      rintro e w2 ⟨⟨a9, c9, rfl, hcs9⟩, hc⟩
                      rw [← HCS.out] at hcs9 ⊢
                      exact k _ _ hc ⟨a9, c9, rfl, hcs9⟩
                    refine Obs.cons (some (194, false)) (by kernel_rfl) ?_ ?_
                    · refine Ob.yes (fun _ _ h => h) fun a w hR hk K k => ?_
                      obtain ⟨_, e11, rfl⟩ := hk 11 (by decide)
                      clear hk
                      have q0 := cell_blk (blk_keep HT.out.1.hV hR id) 0
                      have q1 := cell_blk (blk_keep HT.out.1.hV hR id) 1
                      simp only [List.getElem?_toArray, List.getElem?_cons_zero, List.getElem?_cons_succ] at q0 q1
                      go_simp
                      exact k _ _ (Chg.refl _ _) rfl
                    refine Obs.cons (some (194, false)) (by kernel_rfl) ?_ ?_
                    · refine Ob.yes (fun _ _ h => h) fun a w hR hk K k => ?_
                      obtain ⟨_, e197, rfl⟩ := hk 197 (by decide)
                      clear hk
                      have hq := rvcreds_any ao8 cap8 es8 m w (by omega) (HT.out.1.ents.keep hR (fun _ _ => id))
                      unfold vaultV at hq
                      go_simp
                      refine hq.mono ?_
                      rintro e w2 ⟨a9, c9, rfl, hown, hc⟩
                      rw [← HCS.out] at hown
                      exact k _ _ hc (own_tells hst9sh.out hown)
                    refine Obs.cons (some (194, false)) (by kernel_rfl) ?_ ?_
                    · refine Ob.yes (fun _ _ h => h) fun a w hR hk K k => ?_
                      obtain ⟨_, e196, f196⟩ := hk 196 (by decide)
                      obtain ⟨_, e198, f198⟩ := hk 198 (by decide)
                      clear hk
                      obtain ⟨a1, p1, rfl, h1⟩ := f196
                      obtain ⟨a2, p2, rfl, h2⟩ := f198
                      have hq := csame_ref a1 a2 p1 p2 cs8 cs8 w (Nat.le_trans hcl.out (by decide)) (Nat.le_trans hcl.out (by decide)) h1 h2
                      go_simp
                      refine hq.mono ?_
                      rintro e w2 ⟨rfl, n, rfl⟩
                      exact k _ _ (drewN_chg7 w n) (by first | (simp only [sameC, beq_self_eq_true]; done) | (simp only [sameC, beq_self_eq_true]; rfl))
                    refine Obs.cons (some (194, false)) (by kernel_rfl) ?_ ?_
                    · refine Ob.yes (fun _ _ h => h) fun a w hR hk K k => ?_
                      obtain ⟨_, e199, rfl⟩ := hk 199 (by decide)
                      clear hk
                      go_simp
                      exact k _ _ (Chg.refl _ _) rfl
                    refine Obs.cons none (by kernel_rfl) ?_ ?_
                    · refine Ob.plain fun a w hR hk K k => ?_
                      obtain ⟨_, e194, rfl⟩ := hk 194 (by decide)
                      obtain ⟨_, e200, rfl⟩ := hk 200 (by decide)
                      clear hk
                      go_simp
                      exact k _ _ (Chg.refl _ _) rfl
                    exact Obs.nil
                  case fin =>
                    intro vals w12 hc12 hv
                    have h201 : vals 201 = .bool false := hv 201 (by decide)
                    simp only [putAll, List.setIfInBounds_toArray, List.set_cons_zero, List.set_cons_succ, h201]
                    clear hv h201
                    obtain ⟨y0, hy0⟩ : ∃ y, y = (es8.map (·.c)).filter (whichC 0 x.s.c.head []) := ⟨_, rfl⟩
                    have HY0 : Hid (y0 = (es8.map (·.c)).filter (whichC 0 x.s.c.head []) ∧ y0.length ≤ 256 ∧ ∀ c ∈ y0, credShort c 9223372036854775807) := hid ⟨hy0, by rw [hy0]; exact Nat.le_trans (List.length_filter_le _ _) (by rw [List.length_map]; exact he8), fun c hc => hst9sh.out c (by rw [hy0] at hc; rw [HCS.out]; exact (List.mem_filter.1 hc).1)⟩
                    clear hy0
                    obtain ⟨y1, hy1⟩ : ∃ y, y = (es8.map (·.c)).filter (whichC 0 p []) := ⟨_, rfl⟩
                    have HY1 : Hid (y1 = (es8.map (·.c)).filter (whichC 0 p []) ∧ y1.length ≤ 256 ∧ ∀ c ∈ y1, credShort c 9223372036854775807) := hid ⟨hy1, by rw [hy1]; exact Nat.le_trans (List.length_filter_le _ _) (by rw [List.length_map]; exact he8), fun c hc => hst9sh.out c (by rw [hy1] at hc; rw [HCS.out]; exact (List.mem_filter.1 hc).1)⟩
                    clear hy1
                    obtain ⟨y2, hy2⟩ : ∃ y, y = (es8.map (·.c)).filter (whichC 1 ([], []) p.1) := ⟨_, rfl⟩
                    have HY2 : Hid (y2 = (es8.map (·.c)).filter (whichC 1 ([], []) p.1) ∧ y2.length ≤ 256 ∧ ∀ c ∈ y2, credShort c 9223372036854775807) := hid ⟨hy2, by rw [hy2]; exact Nat.le_trans (List.length_filter_le _ _) (by rw [List.length_map]; exact he8), fun c hc => hst9sh.out c (by rw [hy2] at hc; rw [HCS.out]; exact (List.mem_filter.1 hc).1)⟩
                    clear hy2
                    obtain ⟨y3, hy3⟩ : ∃ y, y = (es8.map (·.c)).filter (whichC 2 ([], []) p.1) := ⟨_, rfl⟩
                    have HY3 : Hid (y3 = (es8.map (·.c)).filter (whichC 2 ([], []) p.1) ∧ y3.length ≤ 256 ∧ ∀ c ∈ y3, credShort c 9223372036854775807) := hid ⟨hy3, by rw [hy3]; exact Nat.le_trans (List.length_filter_le _ _) (by rw [List.length_map]; exact he8), fun c hc => hst9sh.out c (by rw [hy3] at hc; rw [HCS.out]; exact (List.mem_filter.1 hc).1)⟩
                    clear hy3
                    obtain ⟨y4, hy4⟩ : ∃ y, y = (es8.map (·.c)).filter (whichC 3 ([], []) p.2) := ⟨_, rfl⟩
                    have HY4 : Hid (y4 = (es8.map (·.c)).filter (whichC 3 ([], []) p.2) ∧ y4.length ≤ 256 ∧ ∀ c ∈ y4, credShort c 9223372036854775807) := hid ⟨hy4, by rw [hy4]; exact Nat.le_trans (List.length_filter_le _ _) (by rw [List.length_map]; exact he8), fun c hc => hst9sh.out c (by rw [hy4] at hc; rw [HCS.out]; exact (List.mem_filter.1 hc).1)⟩
                    clear hy4
                    have hst12 := HT.out.1.keep HK.out hc12
                    have hX12 := blk_keep HX11.out hc12 id
                    have b0 := cell_blk hst12.hA 0
                    have b1 := cell_blk hst12.hA 1
                    simp only [List.getElem?_toArray, List.getElem?_cons_zero, List.getElem?_cons_succ] at b0 b1
                    have hRr : (w12.alloc (.cells #[.string ⟨p.1.toArray⟩, .string ⟨p.2.toArray⟩] 30)).heap[w12.heap.size]? = some (.cells #[.string ⟨p.1.toArray⟩, .string ⟨p.2.toArray⟩] 30 (0, 0)) := heap_alloc_new w12 _
                    have halR : Chg (fun _ => False) w12 (w12.alloc (.cells #[.string ⟨p.1.toArray⟩, .string ⟨p.2.toArray⟩] 30)) := (Chg.refl _ w12).alloc _
                    have HU := hid (And.intro (hst12.keep HK.out halR) (And.intro (blk_keep hX12 halR id) hRr))
                    clear hst12 hX12 hRr halR hc12 HT HX11
                    go_wp2_with fail
                    clear b0 b1
                    generalize (w12.alloc (.cells #[.string ⟨p.1.toArray⟩, .string ⟨p.2.toArray⟩] 30)) = w13 at *
                    generalize w12.heap.size = RR at *
                    refine wp_region_specs ([.any, .any, .any, .any, .any, .eq (.pointer (some ⟨A, 0, none⟩)), .any, .eq (.pointer (some ⟨g, 0, none⟩)), .any, .any, .any, .eq (.pointer (some ⟨V, 0, none⟩)), .any, .any, .eq (.pointer (some ⟨X, 0, none⟩)), .any, .any, .any, .any, .any, .any, .eq (.pointer (some ⟨RR, 0, none⟩)), .any, .any, .any, .any, .any, .any, .any, .any, .any, .any, .any, .any, .any, .any, .any, .any, .any, .any, .any, .any, .any, .any, .any, .any, .any, .any, .any, .any, .any, .any, .any, .any, .any, .any, .any, .any, .any, .any, .any, .any, .any, .any, .any, .any, .any, .any, .any, .any, .any, .any, .any, .any, .any, .any, .any, .any, .any, .any, .any, .any, .any, .any, .any, .any, .any, .any, .any, .any, .any, .any, .any, .any, .any, .any, .any, .any, .any, .any, .any, .any, .any, .any, .any, .any, .any, .any, .any, .any, .any, .any, .any, .any, .any, .any, .any, .any, .any, .any, .any, .any, .any, .any, .any, .any, .any, .any, .any, .any, .any, .any, .any, .any, .any, .any, .any, .any, .any, .any, .any, .any, .any, .any, .any, .any, .any, .any, .any, .any, .any, .any, .any, .any, .any, .any, .any, .any, .any, .any, .any, .any, .any, .any, .any, .any, .any, .any, .any, .any, .any, .any, .any, .any, .any, .any, .any, .any, .any, .any, .any, .any, .any, .any, .any, .any, .any, .any, .any, .any, .any, .any, .any, .any, .any, .any, .any, .any, .any, .any, .any, .any, .any, .any, .any, .any, .any, .eq (.pointer (some ⟨g, 0, none⟩)), .eq (.pointer (some ⟨X, 1, none⟩)), .eq (.pointer (some ⟨X, 1, none⟩)), .eq (.pointer (some ⟨X, 2, none⟩)), .eq (.agg #[.string ⟨x.s.c.head.1.toArray⟩, .string ⟨x.s.c.head.2.toArray⟩]), .credL y0, .eq (.agg #[.slice ao8 es8.length cap8, .int .i64 m]), .eq (.pointer (some ⟨X, 1, none⟩)), .eq (.pointer (some ⟨X, 1, none⟩)), .eq (.pointer (some ⟨X, 2, none⟩)), .eq (.agg #[.string ⟨x.s.c.head.1.toArray⟩, .string ⟨x.s.c.head.2.toArray⟩]), .credL y0, .eq (.bool true), .eq (.bool false), .eq (.bool false), .eq (.pointer (some ⟨g, 0, none⟩)), .eq (.agg #[.string ⟨p.1.toArray⟩, .string ⟨p.2.toArray⟩]), .credL y1, .eq (.agg #[.slice ao8 es8.length cap8, .int .i64 m]), .eq (.agg #[.string ⟨p.1.toArray⟩, .string ⟨p.2.toArray⟩]), .credL y1, .eq (.bool true), .eq (.bool false), .eq (.bool false), .eq (.bool false), .eq (.pointer (some ⟨g, 0, none⟩)), .eq (.pointer (some ⟨A, 0, none⟩)), .eq (.string ⟨p.1.toArray⟩), .credL y2, .eq (.agg #[.slice ao8 es8.length cap8, .int .i64 m]), .eq (.agg #[.string ⟨p.1.toArray⟩, .string ⟨p.2.toArray⟩]), .eq (.pointer (some ⟨A, 0, none⟩)), .eq (.string ⟨p.1.toArray⟩), .credL y2, .eq (.bool true), .eq (.bool false), .eq (.bool false), .eq (.bool false), .eq (.pointer (some ⟨g, 0, none⟩)), .eq (.pointer (some ⟨A, 0, none⟩)), .eq (.string ⟨p.1.toArray⟩), .credL y3, .eq (.agg #[.slice ao8 es8.length cap8, .int .i64 m]), .eq (.agg #[.string ⟨p.1.toArray⟩, .string ⟨p.2.toArray⟩]), .eq (.pointer (some ⟨A, 0, none⟩)), .eq (.string ⟨p.1.toArray⟩), .credL y3, .eq (.bool true), .eq (.bool false), .eq (.bool false), .eq (.bool false), .eq (.pointer (some ⟨g, 0, none⟩)), .eq (.pointer (some ⟨A, 1, none⟩)), .eq (.string ⟨p.2.toArray⟩), .credL y4, .eq (.agg #[.slice ao8 es8.length cap8, .int .i64 m]), .eq (.agg #[.string ⟨p.1.toArray⟩, .string ⟨p.2.toArray⟩]), .eq (.pointer (some ⟨A, 1, none⟩)), .eq (.string ⟨p.2.toArray⟩), .credL y4, .eq (.bool true), .eq (.bool false), .eq (.bool false)] : List Spec) [207, 208, 209, 210, 211, 212, 213, 214, 215, 216, 217, 218, 219, 220, 221, 222, 223, 224, 225, 226, 227, 228, 229, 230, 231, 232, 233, 234, 235, 236, 237, 238, 239, 240, 241, 242, 243, 244, 245, 246, 247, 248, 249, 250, 251, 252, 253, 254, 255, 256, 257, 258, 259, 260, 261, 262, 263, 264, 265, 266, 267, 268, 269] [5, 7, 11, 14, 21] (by kernel_rfl) (by kernel_rfl) (by rfl) (by kernel_rfl) ?start2 ?obs2 ?fin2
                    case start2 =>
                      simp only [List.forall_mem_cons]; exact ⟨⟨_, rfl, rfl⟩, ⟨_, rfl, rfl⟩, ⟨_, rfl, rfl⟩, ⟨_, rfl, rfl⟩, ⟨_, rfl, rfl⟩, fun _ h => by cases h⟩
                    case obs2 =>
                      refine Obs.cons none (by kernel_rfl) ?_ ?_
                      · refine Ob.plain fun a w hR hk K k => ?_
                        obtain ⟨_, e7, f7⟩ := hk 7 (by decide)
                        clear hk
                        go_simp
                        exact k _ _ (Chg.refl _ _) f7
                      refine Obs.cons none (by kernel_rfl) ?_ ?_
                      · refine Ob.plain fun a w hR hk K k => ?_
                        obtain ⟨_, e14, rfl⟩ := hk 14 (by decide)
                        clear hk
                        go_simp
                        exact k _ _ (Chg.refl _ _) rfl
                      refine Obs.cons none (by kernel_rfl) ?_ ?_
                      · refine Ob.plain fun a w hR hk K k => ?_
                        obtain ⟨_, e208, rfl⟩ := hk 208 (by decide)
                        clear hk
                        go_simp
                        exact k _ _ (Chg.refl _ _) rfl
                      refine Obs.cons none (by kernel_rfl) ?_ ?_
                      · refine Ob.plain fun a w hR hk K k => ?_
                        obtain ⟨_, e209, rfl⟩ := hk 209 (by decide)
                        clear hk
                        go_simp
                        exact k _ _ (Chg.refl _ _) rfl
                      refine Obs.cons none (by kernel_rfl) ?_ ?_
                      · refine Ob.plain fun a w hR hk K k => ?_
                        obtain ⟨_, e210, rfl⟩ := hk 210 (by decide)
                        clear hk
                        have q2 := cell_blk (blk_keep HU.out.2.1 hR id) 2
                        have q3 := cell_blk (blk_keep HU.out.2.1 hR id) 3
                        simp only [opBox, List.getElem?_toArray, List.getElem?_cons_zero, List.getElem?_cons_succ] at q2 q3
                        go_simp
                        exact k _ _ (Chg.refl _ _) rfl
                      refine Obs.cons none (by kernel_rfl) ?_ ?_
                      · refine Ob.plain fun a w hR hk K k => ?_
                        obtain ⟨_, e207, rfl⟩ := hk 207 (by decide)
                        obtain ⟨_, e211, rfl⟩ := hk 211 (by decide)
                        clear hk
                        have hq := HK.out.head w g es8 m x.s.c.head (HK.out.keep HU.out.1.va hR (fun _ _ => id)) he8 hcs.1 hcs.2.1
                        rw [← HY0.out.1] at hq
                        go_simp
                        refine hq.mono ?_
                        rintro e w2 ⟨⟨a9, c9, rfl, hcs9⟩, hc⟩
                        exact k _ _ hc ⟨a9, c9, rfl, hcs9⟩
                      refine Obs.cons none (by kernel_rfl) ?_ ?_
                      · refine Ob.plain fun a w hR hk K k => ?_
                        obtain ⟨_, e11, rfl⟩ := hk 11 (by decide)
                        clear hk
                        have q0 := cell_blk (blk_keep HU.out.1.hV hR id) 0
                        have q1 := cell_blk (blk_keep HU.out.1.hV hR id) 1
                        simp only [List.getElem?_toArray, List.getElem?_cons_zero, List.getElem?_cons_succ] at q0 q1
                        go_simp
                        exact k _ _ (Chg.refl _ _) rfl
                      refine Obs.cons none (by kernel_rfl) ?_ ?_
                      · refine Ob.plain fun a w hR hk K k => ?_
                        obtain ⟨_, e14, rfl⟩ := hk 14 (by decide)
                        clear hk
                        go_simp
                        exact k _ _ (Chg.refl _ _) rfl
                      refine Obs.cons none (by kernel_rfl) ?_ ?_
                      · refine Ob.plain fun a w hR hk K k => ?_
                        obtain ⟨_, e214, rfl⟩ := hk 214 (by decide)
                        clear hk
                        go_simp
                        exact k _ _ (Chg.refl _ _) rfl
                      refine Obs.cons none (by kernel_rfl) ?_ ?_
                      · refine Ob.plain fun a w hR hk K k => ?_
                        obtain ⟨_, e215, rfl⟩ := hk 215 (by decide)
                        clear hk
                        go_simp
                        exact k _ _ (Chg.refl _ _) rfl
                      refine Obs.cons none (by kernel_rfl) ?_ ?_
                      · refine Ob.plain fun a w hR hk K k => ?_
                        obtain ⟨_, e216, rfl⟩ := hk 216 (by decide)
                        clear hk
                        have q2 := cell_blk (blk_keep HU.out.2.1 hR id) 2
                        have q3 := cell_blk (blk_keep HU.out.2.1 hR id) 3
                        simp only [opBox, List.getElem?_toArray, List.getElem?_cons_zero, List.getElem?_cons_succ] at q2 q3
                        go_simp
                        exact k _ _ (Chg.refl _ _) rfl
                      refine Obs.cons none (by kernel_rfl) ?_ ?_
                      · refine Ob.plain fun a w hR hk K k => ?_
                        obtain ⟨_, e213, rfl⟩ := hk 213 (by decide)
                        obtain ⟨_, e217, rfl⟩ := hk 217 (by decide)
                        clear hk
                        have hq := rvwhich0 ao8 cap8 es8 m x.s.c.head [] w (by omega) (HU.out.1.ents.keep hR (fun _ _ => id))
                        unfold vaultV WhichPost at hq
                        go_simp
                        refine hq.mono ?_
                        rintro e w2 ⟨o9, a9, c9, ho9, rfl, hown, hc⟩
                        have he9 : o9 = y0 := by first | (rw [ho9, HY0.out.1]; done) | (rw [ho9, HY0.out.1]; rfl)
                        rw [he9] at hown ⊢
                        exact k _ _ hc (own_tells HY0.out.2.2 hown)
                      refine Obs.cons none (by kernel_rfl) ?_ ?_
                      · refine Ob.plain fun a w hR hk K k => ?_
                        obtain ⟨_, e212, f212⟩ := hk 212 (by decide)
                        obtain ⟨_, e218, f218⟩ := hk 218 (by decide)
                        clear hk
                        obtain ⟨a1, p1, rfl, h1⟩ := f212
                        obtain ⟨a2, p2, rfl, h2⟩ := f218
                        have hq := csame_ref a1 a2 p1 p2 y0 y0 w (Nat.le_trans HY0.out.2.1 (by decide)) (Nat.le_trans HY0.out.2.1 (by decide)) h1 h2
                        go_simp
                        refine hq.mono ?_
                        rintro e w2 ⟨rfl, n, rfl⟩
                        exact k _ _ (drewN_chg7 w n) (by first | (simp only [sameC, beq_self_eq_true]; done) | (simp only [sameC, beq_self_eq_true]; rfl))
                      refine Obs.cons none (by kernel_rfl) ?_ ?_
                      · refine Ob.plain fun a w hR hk K k => ?_
                        obtain ⟨_, e219, rfl⟩ := hk 219 (by decide)
                        clear hk
                        go_simp
                        exact k _ _ (Chg.refl _ _) rfl
                      refine Obs.cons none (by kernel_rfl) ?_ ?_
                      · refine Ob.plain fun a w hR hk K k => ?_
                        obtain ⟨_, e220, f220⟩ := hk 220 (by decide)
                        clear hk
                        go_simp
                        exact k _ _ (Chg.refl _ _) f220
                      refine Obs.cons (some (221, false)) (by kernel_rfl) ?_ ?_
                      · refine Ob.yes (fun _ _ h => h) fun a w hR hk K k => ?_
                        obtain ⟨_, e7, f7⟩ := hk 7 (by decide)
                        clear hk
                        go_simp
                        exact k _ _ (Chg.refl _ _) f7
                      refine Obs.cons (some (221, false)) (by kernel_rfl) ?_ ?_
                      · refine Ob.yes (fun _ _ h => h) fun a w hR hk K k => ?_
                        obtain ⟨_, e21, rfl⟩ := hk 21 (by decide)
                        clear hk
                        have q0 := cell_blk (blk_keep HU.out.2.2 hR id) 0
                        have q1 := cell_blk (blk_keep HU.out.2.2 hR id) 1
                        simp only [List.getElem?_toArray, List.getElem?_cons_zero, List.getElem?_cons_succ] at q0 q1
                        go_simp
                        exact k _ _ (Chg.refl _ _) rfl
                      refine Obs.cons (some (221, false)) (by kernel_rfl) ?_ ?_
                      · refine Ob.yes (fun _ _ h => h) fun a w hR hk K k => ?_
                        obtain ⟨_, e222, rfl⟩ := hk 222 (by decide)
                        obtain ⟨_, e223, rfl⟩ := hk 223 (by decide)
                        clear hk
                        have hq := HK.out.head w g es8 m p (HK.out.keep HU.out.1.va hR (fun _ _ => id)) he8 hpl.1 hpl.2
                        rw [← HY1.out.1] at hq
                        go_simp
                        refine hq.mono ?_
                        rintro e w2 ⟨⟨a9, c9, rfl, hcs9⟩, hc⟩
                        exact k _ _ hc ⟨a9, c9, rfl, hcs9⟩
                      refine Obs.cons (some (221, false)) (by kernel_rfl) ?_ ?_
                      · refine Ob.yes (fun _ _ h => h) fun a w hR hk K k => ?_
                        obtain ⟨_, e11, rfl⟩ := hk 11 (by decide)
                        clear hk
                        have q0 := cell_blk (blk_keep HU.out.1.hV hR id) 0
                        have q1 := cell_blk (blk_keep HU.out.1.hV hR id) 1
                        simp only [List.getElem?_toArray, List.getElem?_cons_zero, List.getElem?_cons_succ] at q0 q1
                        go_simp
                        exact k _ _ (Chg.refl _ _) rfl
                      refine Obs.cons (some (221, false)) (by kernel_rfl) ?_ ?_
                      · refine Ob.yes (fun _ _ h => h) fun a w hR hk K k => ?_
                        obtain ⟨_, e21, rfl⟩ := hk 21 (by decide)
                        clear hk
                        have q0 := cell_blk (blk_keep HU.out.2.2 hR id) 0
                        have q1 := cell_blk (blk_keep HU.out.2.2 hR id) 1
                        simp only [List.getElem?_toArray, List.getElem?_cons_zero, List.getElem?_cons_succ] at q0 q1
                        go_simp
                        exact k _ _ (Chg.refl _ _) rfl
                      refine Obs.cons (some (221, false)) (by kernel_rfl) ?_ ?_
                      · refine Ob.yes (fun _ _ h => h) fun a w hR hk K k => ?_
                        obtain ⟨_, e225, rfl⟩ := hk 225 (by decide)
                        obtain ⟨_, e226, rfl⟩ := hk 226 (by decide)
                        clear hk
                        have hq := rvwhich0 ao8 cap8 es8 m p [] w (by omega) (HU.out.1.ents.keep hR (fun _ _ => id))
                        unfold vaultV WhichPost at hq
                        go_simp
                        refine hq.mono ?_
                        rintro e w2 ⟨o9, a9, c9, ho9, rfl, hown, hc⟩
                        have he9 : o9 = y1 := by first | (rw [ho9, HY1.out.1]; done) | (rw [ho9, HY1.out.1]; rfl)
                        rw [he9] at hown ⊢
                        exact k _ _ hc (own_tells HY1.out.2.2 hown)
                      refine Obs.cons (some (221, false)) (by kernel_rfl) ?_ ?_
                      · refine Ob.yes (fun _ _ h => h) fun a w hR hk K k => ?_
                        obtain ⟨_, e224, f224⟩ := hk 224 (by decide)
                        obtain ⟨_, e227, f227⟩ := hk 227 (by decide)
                        clear hk
                        obtain ⟨a1, p1, rfl, h1⟩ := f224
                        obtain ⟨a2, p2, rfl, h2⟩ := f227
                        have hq := csame_ref a1 a2 p1 p2 y1 y1 w (Nat.le_trans HY1.out.2.1 (by decide)) (Nat.le_trans HY1.out.2.1 (by decide)) h1 h2
                        go_simp
                        refine hq.mono ?_
                        rintro e w2 ⟨rfl, n, rfl⟩
                        exact k _ _ (drewN_chg7 w n) (by first | (simp only [sameC, beq_self_eq_true]; done) | (simp only [sameC, beq_self_eq_true]; rfl))
                      refine Obs.cons (some (221, false)) (by kernel_rfl) ?_ ?_
                      · refine Ob.yes (fun _ _ h => h) fun a w hR hk K k => ?_
                        obtain ⟨_, e228, rfl⟩ := hk 228 (by decide)
                        clear hk
                        go_simp
                        exact k _ _ (Chg.refl _ _) rfl
                      refine Obs.cons none (by kernel_rfl) ?_ ?_
                      · refine Ob.plain fun a w hR hk K k => ?_
                        obtain ⟨_, e221, rfl⟩ := hk 221 (by decide)
                        obtain ⟨_, e229, rfl⟩ := hk 229 (by decide)
                        clear hk
                        go_simp
                        exact k _ _ (Chg.refl _ _) rfl
                      refine Obs.cons none (by kernel_rfl) ?_ ?_
                      · refine Ob.plain fun a w hR hk K k => ?_
                        obtain ⟨_, e230, f230⟩ := hk 230 (by decide)
                        clear hk
                        go_simp
                        exact k _ _ (Chg.refl _ _) f230
                      refine Obs.cons (some (231, false)) (by kernel_rfl) ?_ ?_
                      · refine Ob.yes (fun _ _ h => h) fun a w hR hk K k => ?_
                        obtain ⟨_, e7, f7⟩ := hk 7 (by decide)
                        clear hk
                        go_simp
                        exact k _ _ (Chg.refl _ _) f7
                      refine Obs.cons (some (231, false)) (by kernel_rfl) ?_ ?_
                      · refine Ob.yes (fun _ _ h => h) fun a w hR hk K k => ?_
                        obtain ⟨_, e5, rfl⟩ := hk 5 (by decide)
                        clear hk
                        go_simp
                        exact k _ _ (Chg.refl _ _) rfl
                      refine Obs.cons (some (231, false)) (by kernel_rfl) ?_ ?_
                      · refine Ob.yes (fun _ _ h => h) fun a w hR hk K k => ?_
                        obtain ⟨_, e233, rfl⟩ := hk 233 (by decide)
                        clear hk
                        have q0 := cell_blk (blk_keep HU.out.1.hA hR id) 0
                        have q1 := cell_blk (blk_keep HU.out.1.hA hR id) 1
                        simp only [List.getElem?_toArray, List.getElem?_cons_zero, List.getElem?_cons_succ] at q0 q1
                        go_simp
                        exact k _ _ (Chg.refl _ _) rfl
                      refine Obs.cons (some (231, false)) (by kernel_rfl) ?_ ?_
                      · refine Ob.yes (fun _ _ h => h) fun a w hR hk K k => ?_
                        obtain ⟨_, e232, rfl⟩ := hk 232 (by decide)
                        obtain ⟨_, e234, rfl⟩ := hk 234 (by decide)
                        clear hk
                        have hq := HK.out.issuer w g es8 m p.1 (HK.out.keep HU.out.1.va hR (fun _ _ => id)) he8 hpl.1
                        rw [← HY2.out.1] at hq
                        go_simp
                        refine hq.mono ?_
                        rintro e w2 ⟨⟨a9, c9, rfl, hcs9⟩, hc⟩
                        exact k _ _ hc ⟨a9, c9, rfl, hcs9⟩
                      refine Obs.cons (some (231, false)) (by kernel_rfl) ?_ ?_
                      · refine Ob.yes (fun _ _ h => h) fun a w hR hk K k => ?_
                        obtain ⟨_, e11, rfl⟩ := hk 11 (by decide)
                        clear hk
                        have q0 := cell_blk (blk_keep HU.out.1.hV hR id) 0
                        have q1 := cell_blk (blk_keep HU.out.1.hV hR id) 1
                        simp only [List.getElem?_toArray, List.getElem?_cons_zero, List.getElem?_cons_succ] at q0 q1
                        go_simp
                        exact k _ _ (Chg.refl _ _) rfl
                      refine Obs.cons (some (231, false)) (by kernel_rfl) ?_ ?_
                      · refine Ob.yes (fun _ _ h => h) fun a w hR hk K k => ?_
                        obtain ⟨_, e21, rfl⟩ := hk 21 (by decide)
                        clear hk
                        have q0 := cell_blk (blk_keep HU.out.2.2 hR id) 0
                        have q1 := cell_blk (blk_keep HU.out.2.2 hR id) 1
                        simp only [List.getElem?_toArray, List.getElem?_cons_zero, List.getElem?_cons_succ] at q0 q1
                        go_simp
                        exact k _ _ (Chg.refl _ _) rfl
                      refine Obs.cons (some (231, false)) (by kernel_rfl) ?_ ?_
                      · refine Ob.yes (fun _ _ h => h) fun a w hR hk K k => ?_
                        obtain ⟨_, e5, rfl⟩ := hk 5 (by decide)
                        clear hk
                        go_simp
                        exact k _ _ (Chg.refl _ _) rfl
                      refine Obs.cons (some (231, false)) (by kernel_rfl) ?_ ?_
                      · refine Ob.yes (fun _ _ h => h) fun a w hR hk K k => ?_
                        obtain ⟨_, e238, rfl⟩ := hk 238 (by decide)
                        clear hk
                        have q0 := cell_blk (blk_keep HU.out.1.hA hR id) 0
                        have q1 := cell_blk (blk_keep HU.out.1.hA hR id) 1
                        simp only [List.getElem?_toArray, List.getElem?_cons_zero, List.getElem?_cons_succ] at q0 q1
                        go_simp
                        exact k _ _ (Chg.refl _ _) rfl
                      refine Obs.cons (some (231, false)) (by kernel_rfl) ?_ ?_
                      · refine Ob.yes (fun _ _ h => h) fun a w hR hk K k => ?_
                        obtain ⟨_, e236, rfl⟩ := hk 236 (by decide)
                        obtain ⟨_, e237, rfl⟩ := hk 237 (by decide)
                        obtain ⟨_, e239, rfl⟩ := hk 239 (by decide)
                        clear hk
                        have hq := rvwhich1 ao8 cap8 es8 m p p.1 w (by omega) (HU.out.1.ents.keep hR (fun _ _ => id))
                        unfold vaultV WhichPost at hq
                        go_simp
                        refine hq.mono ?_
                        rintro e w2 ⟨o9, a9, c9, ho9, rfl, hown, hc⟩
                        have he9 : o9 = y2 := by first | (rw [ho9, HY2.out.1]; done) | (rw [ho9, HY2.out.1]; rfl)
                        rw [he9] at hown ⊢
                        exact k _ _ hc (own_tells HY2.out.2.2 hown)
                      refine Obs.cons (some (231, false)) (by kernel_rfl) ?_ ?_
                      · refine Ob.yes (fun _ _ h => h) fun a w hR hk K k => ?_
                        obtain ⟨_, e235, f235⟩ := hk 235 (by decide)
                        obtain ⟨_, e240, f240⟩ := hk 240 (by decide)
                        clear hk
                        obtain ⟨a1, p1, rfl, h1⟩ := f235
                        obtain ⟨a2, p2, rfl, h2⟩ := f240
                        have hq := csame_ref a1 a2 p1 p2 y2 y2 w (Nat.le_trans HY2.out.2.1 (by decide)) (Nat.le_trans HY2.out.2.1 (by decide)) h1 h2
                        go_simp
                        refine hq.mono ?_
                        rintro e w2 ⟨rfl, n, rfl⟩
                        exact k _ _ (drewN_chg7 w n) (by first | (simp only [sameC, beq_self_eq_true]; done) | (simp only [sameC, beq_self_eq_true]; rfl))
                      refine Obs.cons (some (231, false)) (by kernel_rfl) ?_ ?_
                      · refine Ob.yes (fun _ _ h => h) fun a w hR hk K k => ?_
                        obtain ⟨_, e241, rfl⟩ := hk 241 (by decide)
                        clear hk
                        go_simp
                        exact k _ _ (Chg.refl _ _) rfl
                      refine Obs.cons none (by kernel_rfl) ?_ ?_
                      · refine Ob.plain fun a w hR hk K k => ?_
                        obtain ⟨_, e231, rfl⟩ := hk 231 (by decide)
                        obtain ⟨_, e242, rfl⟩ := hk 242 (by decide)
                        clear hk
                        go_simp
                        exact k _ _ (Chg.refl _ _) rfl
                      refine Obs.cons none (by kernel_rfl) ?_ ?_
                      · refine Ob.plain fun a w hR hk K k => ?_
                        obtain ⟨_, e243, f243⟩ := hk 243 (by decide)
                        clear hk
                        go_simp
                        exact k _ _ (Chg.refl _ _) f243
                      refine Obs.cons (some (244, false)) (by kernel_rfl) ?_ ?_
                      · refine Ob.yes (fun _ _ h => h) fun a w hR hk K k => ?_
                        obtain ⟨_, e7, f7⟩ := hk 7 (by decide)
                        clear hk
                        go_simp
                        exact k _ _ (Chg.refl _ _) f7
                      refine Obs.cons (some (244, false)) (by kernel_rfl) ?_ ?_
                      · refine Ob.yes (fun _ _ h => h) fun a w hR hk K k => ?_
                        obtain ⟨_, e5, rfl⟩ := hk 5 (by decide)
                        clear hk
                        go_simp
                        exact k _ _ (Chg.refl _ _) rfl
                      refine Obs.cons (some (244, false)) (by kernel_rfl) ?_ ?_
                      · refine Ob.yes (fun _ _ h => h) fun a w hR hk K k => ?_
                        obtain ⟨_, e246, rfl⟩ := hk 246 (by decide)
                        clear hk
                        have q0 := cell_blk (blk_keep HU.out.1.hA hR id) 0
                        have q1 := cell_blk (blk_keep HU.out.1.hA hR id) 1
                        simp only [List.getElem?_toArray, List.getElem?_cons_zero, List.getElem?_cons_succ] at q0 q1
                        go_simp
                        exact k _ _ (Chg.refl _ _) rfl
                      refine Obs.cons (some (244, false)) (by kernel_rfl) ?_ ?_
                      · refine Ob.yes (fun _ _ h => h) fun a w hR hk K k => ?_
                        obtain ⟨_, e245, rfl⟩ := hk 245 (by decide)
                        obtain ⟨_, e247, rfl⟩ := hk 247 (by decide)
                        clear hk
                        have hq := HK.out.subject w g es8 m p.1 (HK.out.keep HU.out.1.va hR (fun _ _ => id)) he8 hpl.1
                        rw [← HY3.out.1] at hq
                        go_simp
                        refine hq.mono ?_
                        rintro e w2 ⟨⟨a9, c9, rfl, hcs9⟩, hc⟩
                        exact k _ _ hc ⟨a9, c9, rfl, hcs9⟩
                      refine Obs.cons (some (244, false)) (by kernel_rfl) ?_ ?_
                      · refine Ob.yes (fun _ _ h => h) fun a w hR hk K k => ?_
                        obtain ⟨_, e11, rfl⟩ := hk 11 (by decide)
                        clear hk
                        have q0 := cell_blk (blk_keep HU.out.1.hV hR id) 0
                        have q1 := cell_blk (blk_keep HU.out.1.hV hR id) 1
                        simp only [List.getElem?_toArray, List.getElem?_cons_zero, List.getElem?_cons_succ] at q0 q1
                        go_simp
                        exact k _ _ (Chg.refl _ _) rfl
                      refine Obs.cons (some (244, false)) (by kernel_rfl) ?_ ?_
                      · refine Ob.yes (fun _ _ h => h) fun a w hR hk K k => ?_
                        obtain ⟨_, e21, rfl⟩ := hk 21 (by decide)
                        clear hk
                        have q0 := cell_blk (blk_keep HU.out.2.2 hR id) 0
                        have q1 := cell_blk (blk_keep HU.out.2.2 hR id) 1
                        simp only [List.getElem?_toArray, List.getElem?_cons_zero, List.getElem?_cons_succ] at q0 q1
                        go_simp
                        exact k _ _ (Chg.refl _ _) rfl
                      refine Obs.cons (some (244, false)) (by kernel_rfl) ?_ ?_
                      · refine Ob.yes (fun _ _ h => h) fun a w hR hk K k => ?_
                        obtain ⟨_, e5, rfl⟩ := hk 5 (by decide)
                        clear hk
                        go_simp
                        exact k _ _ (Chg.refl _ _) rfl
                      refine Obs.cons (some (244, false)) (by kernel_rfl) ?_ ?_
                      · refine Ob.yes (fun _ _ h => h) fun a w hR hk K k => ?_
                        obtain ⟨_, e251, rfl⟩ := hk 251 (by decide)
                        clear hk
                        have q0 := cell_blk (blk_keep HU.out.1.hA hR id) 0
                        have q1 := cell_blk (blk_keep HU.out.1.hA hR id) 1
                        simp only [List.getElem?_toArray, List.getElem?_cons_zero, List.getElem?_cons_succ] at q0 q1
                        go_simp
                        exact k _ _ (Chg.refl _ _) rfl
                      refine Obs.cons (some (244, false)) (by kernel_rfl) ?_ ?_
                      · refine Ob.yes (fun _ _ h => h) fun a w hR hk K k => ?_
                        obtain ⟨_, e249, rfl⟩ := hk 249 (by decide)
                        obtain ⟨_, e250, rfl⟩ := hk 250 (by decide)
                        obtain ⟨_, e252, rfl⟩ := hk 252 (by decide)
                        clear hk
                        have hq := rvwhich2 ao8 cap8 es8 m p p.1 w (by omega) (HU.out.1.ents.keep hR (fun _ _ => id))
                        unfold vaultV WhichPost at hq
                        go_simp
                        refine hq.mono ?_
                        rintro e w2 ⟨o9, a9, c9, ho9, rfl, hown, hc⟩
                        have he9 : o9 = y3 := by first | (rw [ho9, HY3.out.1]; done) | (rw [ho9, HY3.out.1]; rfl)
                        rw [he9] at hown ⊢
                        exact k _ _ hc (own_tells HY3.out.2.2 hown)
                      refine Obs.cons (some (244, false)) (by kernel_rfl) ?_ ?_
                      · refine Ob.yes (fun _ _ h => h) fun a w hR hk K k => ?_
                        obtain ⟨_, e248, f248⟩ := hk 248 (by decide)
                        obtain ⟨_, e253, f253⟩ := hk 253 (by decide)
                        clear hk
                        obtain ⟨a1, p1, rfl, h1⟩ := f248
                        obtain ⟨a2, p2, rfl, h2⟩ := f253
                        have hq := csame_ref a1 a2 p1 p2 y3 y3 w (Nat.le_trans HY3.out.2.1 (by decide)) (Nat.le_trans HY3.out.2.1 (by decide)) h1 h2
                        go_simp
                        refine hq.mono ?_
                        rintro e w2 ⟨rfl, n, rfl⟩
                        exact k _ _ (drewN_chg7 w n) (by first | (simp only [sameC, beq_self_eq_true]; done) | (simp only [sameC, beq_self_eq_true]; rfl))
                      refine Obs.cons (some (244, false)) (by kernel_rfl) ?_ ?_
                      · refine Ob.yes (fun _ _ h => h) fun a w hR hk K k => ?_
                        obtain ⟨_, e254, rfl⟩ := hk 254 (by decide)
                        clear hk
                        go_simp
                        exact k _ _ (Chg.refl _ _) rfl
                      refine Obs.cons none (by kernel_rfl) ?_ ?_
                      · refine Ob.plain fun a w hR hk K k => ?_
                        obtain ⟨_, e244, rfl⟩ := hk 244 (by decide)
                        obtain ⟨_, e255, rfl⟩ := hk 255 (by decide)
                        clear hk
                        go_simp
                        exact k _ _ (Chg.refl _ _) rfl
                      refine Obs.cons none (by kernel_rfl) ?_ ?_
                      · refine Ob.plain fun a w hR hk K k => ?_
                        obtain ⟨_, e256, f256⟩ := hk 256 (by decide)
                        clear hk
                        go_simp
                        exact k _ _ (Chg.refl _ _) f256
                      refine Obs.cons (some (257, false)) (by kernel_rfl) ?_ ?_
                      · refine Ob.yes (fun _ _ h => h) fun a w hR hk K k => ?_
                        obtain ⟨_, e7, f7⟩ := hk 7 (by decide)
                        clear hk
                        go_simp
                        exact k _ _ (Chg.refl _ _) f7
                      refine Obs.cons (some (257, false)) (by kernel_rfl) ?_ ?_
                      · refine Ob.yes (fun _ _ h => h) fun a w hR hk K k => ?_
                        obtain ⟨_, e5, rfl⟩ := hk 5 (by decide)
                        clear hk
                        go_simp
                        exact k _ _ (Chg.refl _ _) rfl
                      refine Obs.cons (some (257, false)) (by kernel_rfl) ?_ ?_
                      · refine Ob.yes (fun _ _ h => h) fun a w hR hk K k => ?_
                        obtain ⟨_, e259, rfl⟩ := hk 259 (by decide)
                        clear hk
                        have q0 := cell_blk (blk_keep HU.out.1.hA hR id) 0
                        have q1 := cell_blk (blk_keep HU.out.1.hA hR id) 1
                        simp only [List.getElem?_toArray, List.getElem?_cons_zero, List.getElem?_cons_succ] at q0 q1
                        go_simp
                        exact k _ _ (Chg.refl _ _) rfl
                      refine Obs.cons (some (257, false)) (by kernel_rfl) ?_ ?_
                      · refine Ob.yes (fun _ _ h => h) fun a w hR hk K k => ?_
                        obtain ⟨_, e258, rfl⟩ := hk 258 (by decide)
                        obtain ⟨_, e260, rfl⟩ := hk 260 (by decide)
                        clear hk
                        have hq := HK.out.word w g es8 m p.2 (HK.out.keep HU.out.1.va hR (fun _ _ => id)) he8 hpl.2
                        rw [← HY4.out.1] at hq
                        go_simp
                        refine hq.mono ?_
                        rintro e w2 ⟨⟨a9, c9, rfl, hcs9⟩, hc⟩
                        exact k _ _ hc ⟨a9, c9, rfl, hcs9⟩
                      refine Obs.cons (some (257, false)) (by kernel_rfl) ?_ ?_
                      · refine Ob.yes (fun _ _ h => h) fun a w hR hk K k => ?_
                        obtain ⟨_, e11, rfl⟩ := hk 11 (by decide)
                        clear hk
                        have q0 := cell_blk (blk_keep HU.out.1.hV hR id) 0
                        have q1 := cell_blk (blk_keep HU.out.1.hV hR id) 1
                        simp only [List.getElem?_toArray, List.getElem?_cons_zero, List.getElem?_cons_succ] at q0 q1
                        go_simp
                        exact k _ _ (Chg.refl _ _) rfl
                      refine Obs.cons (some (257, false)) (by kernel_rfl) ?_ ?_
                      · refine Ob.yes (fun _ _ h => h) fun a w hR hk K k => ?_
                        obtain ⟨_, e21, rfl⟩ := hk 21 (by decide)
                        clear hk
                        have q0 := cell_blk (blk_keep HU.out.2.2 hR id) 0
                        have q1 := cell_blk (blk_keep HU.out.2.2 hR id) 1
                        simp only [List.getElem?_toArray, List.getElem?_cons_zero, List.getElem?_cons_succ] at q0 q1
                        go_simp
                        exact k _ _ (Chg.refl _ _) rfl
                      refine Obs.cons (some (257, false)) (by kernel_rfl) ?_ ?_
                      · refine Ob.yes (fun _ _ h => h) fun a w hR hk K k => ?_
                        obtain ⟨_, e5, rfl⟩ := hk 5 (by decide)
                        clear hk
                        go_simp
                        exact k _ _ (Chg.refl _ _) rfl
                      refine Obs.cons (some (257, false)) (by kernel_rfl) ?_ ?_
                      · refine Ob.yes (fun _ _ h => h) fun a w hR hk K k => ?_
                        obtain ⟨_, e264, rfl⟩ := hk 264 (by decide)
                        clear hk
                        have q0 := cell_blk (blk_keep HU.out.1.hA hR id) 0
                        have q1 := cell_blk (blk_keep HU.out.1.hA hR id) 1
                        simp only [List.getElem?_toArray, List.getElem?_cons_zero, List.getElem?_cons_succ] at q0 q1
                        go_simp
                        exact k _ _ (Chg.refl _ _) rfl
                      refine Obs.cons (some (257, false)) (by kernel_rfl) ?_ ?_
                      · refine Ob.yes (fun _ _ h => h) fun a w hR hk K k => ?_
                        obtain ⟨_, e262, rfl⟩ := hk 262 (by decide)
                        obtain ⟨_, e263, rfl⟩ := hk 263 (by decide)
                        obtain ⟨_, e265, rfl⟩ := hk 265 (by decide)
                        clear hk
                        have hq := rvwhich3 ao8 cap8 es8 m p p.2 w (by omega) (HU.out.1.ents.keep hR (fun _ _ => id))
                        unfold vaultV WhichPost at hq
                        go_simp
                        refine hq.mono ?_
                        rintro e w2 ⟨o9, a9, c9, ho9, rfl, hown, hc⟩
                        have he9 : o9 = y4 := by first | (rw [ho9, HY4.out.1]; done) | (rw [ho9, HY4.out.1]; rfl)
                        rw [he9] at hown ⊢
                        exact k _ _ hc (own_tells HY4.out.2.2 hown)
                      refine Obs.cons (some (257, false)) (by kernel_rfl) ?_ ?_
                      · refine Ob.yes (fun _ _ h => h) fun a w hR hk K k => ?_
                        obtain ⟨_, e261, f261⟩ := hk 261 (by decide)
                        obtain ⟨_, e266, f266⟩ := hk 266 (by decide)
                        clear hk
                        obtain ⟨a1, p1, rfl, h1⟩ := f261
                        obtain ⟨a2, p2, rfl, h2⟩ := f266
                        have hq := csame_ref a1 a2 p1 p2 y4 y4 w (Nat.le_trans HY4.out.2.1 (by decide)) (Nat.le_trans HY4.out.2.1 (by decide)) h1 h2
                        go_simp
                        refine hq.mono ?_
                        rintro e w2 ⟨rfl, n, rfl⟩
                        exact k _ _ (drewN_chg7 w n) (by first | (simp only [sameC, beq_self_eq_true]; done) | (simp only [sameC, beq_self_eq_true]; rfl))
                      refine Obs.cons (some (257, false)) (by kernel_rfl) ?_ ?_
                      · refine Ob.yes (fun _ _ h => h) fun a w hR hk K k => ?_
                        obtain ⟨_, e267, rfl⟩ := hk 267 (by decide)
                        clear hk
                        go_simp
                        exact k _ _ (Chg.refl _ _) rfl
                      refine Obs.cons none (by kernel_rfl) ?_ ?_
                      · refine Ob.plain fun a w hR hk K k => ?_
                        obtain ⟨_, e257, rfl⟩ := hk 257 (by decide)
                        obtain ⟨_, e268, rfl⟩ := hk 268 (by decide)
                        clear hk
                        go_simp
                        exact k _ _ (Chg.refl _ _) rfl
                      exact Obs.nil
                    case fin2 =>
                      intro vals w14 hc14 hv
                      have h269 : vals 269 = .bool false := hv 269 (by decide)
                      simp only [putAll, List.setIfInBounds_toArray, List.set_cons_zero, List.set_cons_succ, h269]
                      clear hv h269
                      have HE := hid (HU.out.1.keep HK.out hc14)
                      clear HU hc14
                      go_wp2
                      go_roundw
                      case rel => exact ⟨k + 1, es8, ao8, cap8, O8, E8, by go_num, by omega, by omega, by omega, HE.out⟩
                      case measure => simp [intOf]; omega
      · have hl0 := HK.out.len (O := Oc) (D := D) wr gc [] m hst.vc
        rw [show (((([] : List EntB).length : Nat)) : Int) = 0 from rfl] at hl0
        have HL := hid hl0
        have HS := hid hst
        clear hl0 hst
        go_wp2_with fail
        refine HL.out.mono ?_
        rintro e w8 ⟨rfl, hc8⟩
        have hrm := HK.out.room w8 gc [] m (HK.out.keep HS.out.vc hc8 (fun _ _ => id)) hb1 hb2 (Nat.zero_le _)
        rw [show m - (((([] : List EntB).length : Nat)) : Int) = m by simp] at hrm
        have HRM := hid hrm
        have HC8 := hid (HS.out.hc.trans hc8 (fun _ _ h => h))
        have zz : (m == m) = true := beq_self_eq_true _
        clear hrm hc8 HL HS
        go_wp2_with fail
        refine HRM.out.mono ?_
        rintro e w9 ⟨rfl, hc9⟩
        have HC9 := hid (HC8.out.trans hc9 (fun _ _ h => h))
        clear hc9 HRM
        go_wp2
        go_ret
        exact ⟨rfl, HC9.out⟩
  · by_cases hneg : m < 0
    · have z1 : decide (m < 0) = true := decide_eq_true hneg
      clear h hneg
      have HN := hid (HK.out.newBad w2 m hb)
      clear hb
      go_wp2_with fail
      refine HN.out.mono ?_
      clear HN
      rintro e w3 ⟨rfl, hc⟩
      have HC3 := hid (hcw.trans hc (fun _ _ h => h))
      clear hc hcw hA2
      have HQ : Hid (∀ w : World, Calls Try.prog 6 #[.pointer none, .agg #[.int .i64 0, .string ⟨#[]⟩, .string ⟨#[]⟩, .string ⟨#[]⟩, .string ⟨#[]⟩, .string ⟨#[]⟩, .string ⟨#[]⟩, .string ⟨#[]⟩, .string ⟨#[]⟩]] w fun e w' => e = .returned (.tuple #[.agg #[.int .i64 0, .string ⟨#[]⟩, .string ⟨#[]⟩, .string ⟨#[]⟩, .string ⟨#[]⟩, .string ⟨#[]⟩, .string ⟨#[]⟩, .string ⟨#[]⟩, .string ⟨#[]⟩, .slice none 0 0], .bool false]) ∧ Chg (fun _ => False) w w') := hid (fun w => HK.out.getNil w)
      have HQ2 : Hid (∀ w : World, Calls Try.prog 7 #[.pointer none, .agg #[.int .i64 0, .string ⟨#[]⟩, .string ⟨#[]⟩, .string ⟨#[]⟩, .string ⟨#[]⟩, .string ⟨#[]⟩, .string ⟨#[]⟩, .string ⟨#[]⟩, .string ⟨#[]⟩, .slice none 0 0]] w fun e w' => e = .returned (.int .i64 1) ∧ Chg (fun _ => False) w w') := hid (fun w => HK.out.addNil noCred (.slice none 0 0) w)
      have HQ3 : Hid (∀ w : World, Calls Try.prog 8 #[.pointer none, .agg #[.int .i64 0, .string ⟨#[]⟩, .string ⟨#[]⟩, .string ⟨#[]⟩, .string ⟨#[]⟩, .string ⟨#[]⟩, .string ⟨#[]⟩, .string ⟨#[]⟩, .string ⟨#[]⟩]] w fun e w' => e = .returned (.int .i64 1) ∧ Chg (fun _ => False) w w') := hid (fun w => HK.out.dropNil noCred w)
      go_wp2_with fail
      refine (HQ.out _).mono ?_
      rintro e w4 ⟨rfl, hc⟩
      have HC4 := hid (HC3.out.trans hc (fun _ _ h => h))
      clear hc
      go_wp2_with fail
      refine (HQ2.out _).mono ?_
      rintro e w5 ⟨rfl, hc⟩
      have HC5 := hid ((HC4.out.alloc _).trans hc (fun _ _ h => h))
      clear hc
      go_wp2_with fail
      refine (HQ3.out _).mono ?_
      rintro e w6 ⟨rfl, hc⟩
      have HC6 := hid (HC5.out.trans hc (fun _ _ h => h))
      clear hc
      go_wp2_with fail
      refine (HK.out.lenNil _).mono ?_
      rintro e w7 ⟨rfl, hc⟩
      have HC7 := hid (HC6.out.trans hc (fun _ _ h => h))
      clear hc
      go_wp2_with fail
      refine (HK.out.roomNil _).mono ?_
      rintro e w8 ⟨rfl, hc⟩
      have HC8 := hid (HC7.out.trans hc (fun _ _ h => h))
      clear hc
      go_wp2_with fail
      refine (HK.out.credsNil _).mono ?_
      rintro e w9 ⟨⟨a9, c9, rfl⟩, hc⟩
      have HC9 := hid (HC8.out.trans hc (fun _ _ h => h))
      clear hc
      go_wp2_with fail
      refine (HK.out.issuerNil [97] _).mono ?_
      rintro e w10 ⟨⟨a10, c10, rfl⟩, hc⟩
      have HC10 := hid (HC9.out.trans hc (fun _ _ h => h))
      clear hc
      go_wp2_with fail
      refine (HK.out.cloneNil _).mono ?_
      rintro e w11 ⟨rfl, hc⟩
      have HC11 := hid (HC10.out.trans hc (fun _ _ h => h))
      clear hc
      go_wp2
      go_ret
      exact ⟨rfl, HC11.out⟩
    · have z1 : decide (m < 0) = false := decide_eq_false hneg
      have z2 : decide (256 < m) = true := decide_eq_true (by omega)
      clear h hneg
      have HN := hid (HK.out.newBad w2 m hb)
      clear hb
      go_wp2_with fail
      refine HN.out.mono ?_
      clear HN
      rintro e w3 ⟨rfl, hc⟩
      have HC3 := hid (hcw.trans hc (fun _ _ h => h))
      clear hc hcw hA2
      have HQ : Hid (∀ w : World, Calls Try.prog 6 #[.pointer none, .agg #[.int .i64 0, .string ⟨#[]⟩, .string ⟨#[]⟩, .string ⟨#[]⟩, .string ⟨#[]⟩, .string ⟨#[]⟩, .string ⟨#[]⟩, .string ⟨#[]⟩, .string ⟨#[]⟩]] w fun e w' => e = .returned (.tuple #[.agg #[.int .i64 0, .string ⟨#[]⟩, .string ⟨#[]⟩, .string ⟨#[]⟩, .string ⟨#[]⟩, .string ⟨#[]⟩, .string ⟨#[]⟩, .string ⟨#[]⟩, .string ⟨#[]⟩, .slice none 0 0], .bool false]) ∧ Chg (fun _ => False) w w') := hid (fun w => HK.out.getNil w)
      have HQ2 : Hid (∀ w : World, Calls Try.prog 7 #[.pointer none, .agg #[.int .i64 0, .string ⟨#[]⟩, .string ⟨#[]⟩, .string ⟨#[]⟩, .string ⟨#[]⟩, .string ⟨#[]⟩, .string ⟨#[]⟩, .string ⟨#[]⟩, .string ⟨#[]⟩, .slice none 0 0]] w fun e w' => e = .returned (.int .i64 1) ∧ Chg (fun _ => False) w w') := hid (fun w => HK.out.addNil noCred (.slice none 0 0) w)
      have HQ3 : Hid (∀ w : World, Calls Try.prog 8 #[.pointer none, .agg #[.int .i64 0, .string ⟨#[]⟩, .string ⟨#[]⟩, .string ⟨#[]⟩, .string ⟨#[]⟩, .string ⟨#[]⟩, .string ⟨#[]⟩, .string ⟨#[]⟩, .string ⟨#[]⟩]] w fun e w' => e = .returned (.int .i64 1) ∧ Chg (fun _ => False) w w') := hid (fun w => HK.out.dropNil noCred w)
      go_wp2_with fail
      refine (HQ.out _).mono ?_
      rintro e w4 ⟨rfl, hc⟩
      have HC4 := hid (HC3.out.trans hc (fun _ _ h => h))
      clear hc
      go_wp2_with fail
      refine (HQ2.out _).mono ?_
      rintro e w5 ⟨rfl, hc⟩
      have HC5 := hid ((HC4.out.alloc _).trans hc (fun _ _ h => h))
      clear hc
      go_wp2_with fail
      refine (HQ3.out _).mono ?_
      rintro e w6 ⟨rfl, hc⟩
      have HC6 := hid (HC5.out.trans hc (fun _ _ h => h))
      clear hc
      go_wp2_with fail
      refine (HK.out.lenNil _).mono ?_
      rintro e w7 ⟨rfl, hc⟩
      have HC7 := hid (HC6.out.trans hc (fun _ _ h => h))
      clear hc
      go_wp2_with fail
      refine (HK.out.roomNil _).mono ?_
      rintro e w8 ⟨rfl, hc⟩
      have HC8 := hid (HC7.out.trans hc (fun _ _ h => h))
      clear hc
      go_wp2_with fail
      refine (HK.out.credsNil _).mono ?_
      rintro e w9 ⟨⟨a9, c9, rfl⟩, hc⟩
      have HC9 := hid (HC8.out.trans hc (fun _ _ h => h))
      clear hc
      go_wp2_with fail
      refine (HK.out.issuerNil [97] _).mono ?_
      rintro e w10 ⟨⟨a10, c10, rfl⟩, hc⟩
      have HC10 := hid (HC9.out.trans hc (fun _ _ h => h))
      clear hc
      go_wp2_with fail
      refine (HK.out.cloneNil _).mono ?_
      rintro e w11 ⟨rfl, hc⟩
      have HC11 := hid (HC10.out.trans hc (fun _ _ h => h))
      clear hc
      go_wp2
      go_ret
      exact ⟨rfl, HC11.out⟩
end Go.Proofs.Ytfpaoaflhbppgaa
