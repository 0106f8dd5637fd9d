/- Texts that the proof leans on, in one: KpGet, KwCK. -/
import Derived.Test.YtcdjjengkdbngaaKc41
import Derived.Test.YtcdjjengkdbngaaKc32
import Derived.Test.YtcdjjengkdbngaaKc33
import Derived.Test.YtcdjjengkdbngaaKc36
import Derived.Test.YtcdjjengkdbngaaKc38
/- A chain, got of a reader: the program's Get. -/
namespace Go.Proofs.Ytcdjjengkdbngaa
open Go.RowKit

theorem Stops.before9 {R : Nat} {b : Int} {w w1 w' : World} {e : Ending} (h : Stops R b w1 e w') (hc : Chg (· = R) w w1) : Stops R b w e w' := by
  obtain ⟨h1, ao, m, cp, h2, h3⟩ := h
  exact ⟨h1, ao, m, cp, h2, hc.trans h3 (fun _ _ h => h)⟩

def kgSpecs (R X : Nat) (ao : Option Addr) (out : List StepB) (cap : Nat) (c : CredB) (r : List UInt8) : List (SpecR (Chg (fun b => b = R ∨ (Value.slice ao out.length cap).ownBlock = some b))) := [.eq (.pointer (some ⟨R, 0, none⟩)), .any, .any, .any, .any, .any, .eq (.pointer (some ⟨X, 0, none⟩)), .any, .any, .any, .any, .any, .any, .any, .eq (.slice ao out.length cap), .eq (.agg #[.int .i64 c.kind, .string ⟨c.head.1.toArray⟩, .string ⟨c.head.2.toArray⟩, .string ⟨c.who.toArray⟩, .string ⟨c.b.1.toArray⟩, .string ⟨c.b.2.toArray⟩, .string ⟨c.c.1.toArray⟩, .string ⟨c.c.2.toArray⟩, .string ⟨c.w2.toArray⟩]), .eq (.pointer (some ⟨X, 1, none⟩)), .eq (.agg #[.string ⟨c.head.1.toArray⟩, .string ⟨c.head.2.toArray⟩]), .eq (.pointer (some ⟨R, 0, none⟩)), .eq (.string ⟨(nameOf r).toArray⟩), .eq (.agg #[.string ⟨c.head.1.toArray⟩, .string ⟨c.head.2.toArray⟩, .string ⟨(nameOf r).toArray⟩]), .eq (.agg #[.int .i64 c.kind, .string ⟨c.head.1.toArray⟩, .string ⟨c.head.2.toArray⟩, .string ⟨c.who.toArray⟩, .string ⟨c.b.1.toArray⟩, .string ⟨c.b.2.toArray⟩, .string ⟨c.c.1.toArray⟩, .string ⟨c.c.2.toArray⟩, .string ⟨c.w2.toArray⟩, .string ⟨c.head.1.toArray⟩, .string ⟨c.head.2.toArray⟩, .string ⟨(nameOf r).toArray⟩]), .exSt R (.slice ao out.length cap) ⟨c, (c.head, nameOf r)⟩, .any, .any, .any]

/-- What the loop of Get has at hand. -/
def GetAt (D : Nat → Prop) (R n : Nat) (r0 : List UInt8) (w0 : World) (j : Nat) (v : Value) (w : World) : Prop :=
  ∃ (out : List StepB) (ao : Option Addr) (cap : Nat) (l : List UInt8), out.length = j ∧ v = .slice ao out.length cap ∧ OwnSt w0.heap.size w v out ∧ (∃ vb, BytesAt D w vb l ∧ ReaderAt w R true vb 0) ∧ Chg (· = R) w0 w ∧ ChainAt n j r0 l 0 out ∧ l.length ≤ 140737488355328

theorem nameOk_len {l : List UInt8} (h : nameOk l = true) : (nameOf l).length ≤ 16 := by
  unfold nameOk at h
  rw [Bool.and_eq_true] at h
  exact (isName_len h.2).2

set_option maxRecDepth 100000 in
set_option maxHeartbeats 8000000 in
theorem kp_get {D : Nat → Prop} {R : Nat} {v : Value} {l : List UInt8} {w : World} (most : Int) (hm0 : 0 ≤ most) (hm : most ≤ 255) (hl : l.length ≤ 140737488355328) (hv : BytesAt D w v l) (hDR : ¬ D R) (hDl : ∀ i, D i → i < w.heap.size) (hR : ReaderAt w R true v 0) :
    Calls Try.prog 30 #[.pointer (some ⟨R, 0, none⟩), .int .i64 most] w (ChainGot D R l most w) := by
  have hRl := lt_blk hR
  have HD := hid (And.intro hDR (And.intro hDl hRl))
  by_cases he : errNum l most = 0
  · have hnu := rnum_reads (most := most) (by omega) hv hDR hR he
    have HNU := hid hnu
    obtain ⟨n, hn⟩ : ∃ n, n = (numN 9 l 0 0).1 := ⟨_, rfl⟩
    have hn1 : n ≤ 1000 := by
      have h := he
      unfold errNum at h
      split at h
      · split at h
        · cases h
        · omega
      · exact absurd h (by assumption)
    have HCG : Hid (chainGet l most = chainGo n (numRest l) []) := hid (by unfold chainGet numOf; rw [if_pos he, ← hn])
    have HLL := hid hl
    clear hnu hv hDR hDl hR hRl hl
    go_enter Try.func30, Try.ntmps30
    go_wp2_with fail
    refine HNU.out.mono ?_
    clear HNU
    rintro e w1 ⟨rfl, vb, hb1, hr1, hc1⟩
    rw [← hn]
    have H0 : Hid (GetAt D R n (numRest l) w 0 (.slice none 0 0) w1) := hid ⟨[], none, 0, numRest l, rfl, rfl, World.ownsRow_nil _ _ _ _, ⟨vb, hb1, hr1⟩, hc1, ⟨fun _ => ⟨rfl, by have := HLL.out; unfold numRest; rw [List.length_drop]; omega, fun x hx => (by cases hx)⟩, fun h => absurd rfl h⟩, by have := HLL.out; unfold numRest; rw [List.length_drop]; omega⟩
    generalize numRest l = r0 at *
    clear hb1 hr1 hc1 hn he
    go_wp2
    go_loopw [5, 10] (fun v i wr => ∃ j : Nat, j ≤ n ∧ i = .int .i64 j ∧ Hid (GetAt D R n r0 w j v wr)) (fun _ i _ => n - (intOf i).toNat)
    case atStart => exact ⟨0, Nat.zero_le _, rfl, H0⟩
    case round =>
      obtain ⟨j, hj, rfl, hga⟩ := hrel
      obtain ⟨out, ao, cap, l1, hoj, rfl, hown, ⟨vb, hb, hr⟩, hch, hca, hl1⟩ := hga.out
      clear hga
      have HOJ := hid hoj
      clear hoj
      by_cases hlt : j < n
      · have hlo : ∀ i, D i → i < wr.heap.size := fun i hi => by have := HD.out.2.1 i hi; have := hch.size; omega
        have hget := pcget_any hl1 hb HD.out.1 hlo hr
        have HG := hid hget
        have HLT := hid hlt
        have HST := hid (And.intro hown (And.intro hch (And.intro hca hl1)))
        clear hlo hget hown hb hr hch hca hl1 hlt H0
        go_wp2_with fail
        refine HG.out.mono ?_
        clear HG
        rintro e w5 (⟨b, hbad, hst⟩ | ⟨c, r, hok, rfl, vb5, hb5, hr5, hc5⟩)
        · have HS := hid (show ChainGot D R l most w e w5 from .inl ⟨b, by rw [HCG.out]; exact chainGo_bad HST.out.2.2.1 HLT.out hbad, hst.before9 HST.out.2.1⟩)
          obtain ⟨rfl, _⟩ := hst
          exact ⟨rfl, HS.out⟩
        · unfold credV credBox
          obtain ⟨hown, hch, hca, hl1⟩ := HST.out
          have hal : Chg (fun _ => False) w5 (w5.alloc (.cells #[.int .i64 c.kind, .string ⟨c.head.1.toArray⟩, .string ⟨c.head.2.toArray⟩, .string ⟨c.who.toArray⟩, .string ⟨c.b.1.toArray⟩, .string ⟨c.b.2.toArray⟩, .string ⟨c.c.1.toArray⟩, .string ⟨c.c.2.toArray⟩, .string ⟨c.w2.toArray⟩] 32)) := (Chg.refl _ _).alloc _
          have hbx := heap_alloc_new w5 (.cells #[.int .i64 c.kind, .string ⟨c.head.1.toArray⟩, .string ⟨c.head.2.toArray⟩, .string ⟨c.who.toArray⟩, .string ⟨c.b.1.toArray⟩, .string ⟨c.b.2.toArray⟩, .string ⟨c.c.1.toArray⟩, .string ⟨c.c.2.toArray⟩, .string ⟨c.w2.toArray⟩] 32)
          have hc6 := hc5.trans hal (fun _ _ h => h.elim)
          have hcw := hch.trans hc6 (fun _ _ h => h)
          have hsz := hch.size
          have hs5 := hc5.size
          have hd := HD.out
          have how6 := hown.keep hc6 (fun k hk e => by have := ownsRow_lt hown k hk; omega)
          have hrl := credGet_len hok
          have HBX : Hid ((w5.alloc (.cells #[.int .i64 c.kind, .string ⟨c.head.1.toArray⟩, .string ⟨c.head.2.toArray⟩, .string ⟨c.who.toArray⟩, .string ⟨c.b.1.toArray⟩, .string ⟨c.b.2.toArray⟩, .string ⟨c.c.1.toArray⟩, .string ⟨c.c.2.toArray⟩, .string ⟨c.w2.toArray⟩] 32)).heap[w5.heap.size]? = some (.cells (credBox c) 32 (0, 0))) := hid hbx
          have HXR : Hid (w5.heap.size ≠ R) := hid (by omega)
          have HRD : Hid (BytesAt D (w5.alloc (.cells #[.int .i64 c.kind, .string ⟨c.head.1.toArray⟩, .string ⟨c.head.2.toArray⟩, .string ⟨c.who.toArray⟩, .string ⟨c.b.1.toArray⟩, .string ⟨c.b.2.toArray⟩, .string ⟨c.c.1.toArray⟩, .string ⟨c.c.2.toArray⟩, .string ⟨c.w2.toArray⟩] 32)) vb5 r ∧ ReaderAt (w5.alloc (.cells #[.int .i64 c.kind, .string ⟨c.head.1.toArray⟩, .string ⟨c.head.2.toArray⟩, .string ⟨c.who.toArray⟩, .string ⟨c.b.1.toArray⟩, .string ⟨c.b.2.toArray⟩, .string ⟨c.c.1.toArray⟩, .string ⟨c.c.2.toArray⟩, .string ⟨c.w2.toArray⟩] 32)) R true vb5 0) := hid ⟨hb5.keep hal (fun _ _ => id), blk_keep hr5 hal id⟩
          have HLN : Hid (r.length ≤ 140737488355328) := hid (by omega)
          have HDR := hid hd.1
          have HOW := hid how6
          have HSZ6 : (w5.alloc (.cells #[.int .i64 c.kind, .string ⟨c.head.1.toArray⟩, .string ⟨c.head.2.toArray⟩, .string ⟨c.who.toArray⟩, .string ⟨c.b.1.toArray⟩, .string ⟨c.b.2.toArray⟩, .string ⟨c.c.1.toArray⟩, .string ⟨c.c.2.toArray⟩, .string ⟨c.w2.toArray⟩] 32)).heap.size = w5.heap.size + 1 := by simp
          have HLO : Hid (∀ k, (k = R ∨ (Value.slice ao out.length cap).ownBlock = some k) → k < (w5.alloc (.cells #[.int .i64 c.kind, .string ⟨c.head.1.toArray⟩, .string ⟨c.head.2.toArray⟩, .string ⟨c.who.toArray⟩, .string ⟨c.b.1.toArray⟩, .string ⟨c.b.2.toArray⟩, .string ⟨c.c.1.toArray⟩, .string ⟨c.c.2.toArray⟩, .string ⟨c.w2.toArray⟩] 32)).heap.size) := hid (fun k hk => by
            rcases hk with hk | hk
            · omega
            · exact (ownsRow_lt how6 k hk).2)
          have HOR : Hid (∀ k, (Value.slice ao out.length cap).ownBlock = some k → ¬ k = R) := hid (fun k hk e => by have := (ownsRow_lt hown k hk).1; omega)
          have HRO : Hid (¬ (Value.slice ao out.length cap).ownBlock = some R) := hid (fun hk => by have := (ownsRow_lt hown R hk).1; omega)
          have HDO : Hid (∀ i, D i → ¬ (Value.slice ao out.length cap).ownBlock = some i) := hid (fun i hi hk => by have := (ownsRow_lt hown i hk).1; have := hd.2.1 i hi; omega)
          have HLE : Hid (w.heap.size ≤ (w5.alloc (.cells #[.int .i64 c.kind, .string ⟨c.head.1.toArray⟩, .string ⟨c.head.2.toArray⟩, .string ⟨c.who.toArray⟩, .string ⟨c.b.1.toArray⟩, .string ⟨c.b.2.toArray⟩, .string ⟨c.c.1.toArray⟩, .string ⟨c.c.2.toArray⟩, .string ⟨c.w2.toArray⟩] 32)).heap.size ∧ out.length ≤ 1000000) := hid ⟨by omega, by have := HOJ.out; omega⟩
          have HSTOP : Hid (nameOk r = false → ∀ w7, Chg (fun _ => False) (w5.alloc (.cells #[.int .i64 c.kind, .string ⟨c.head.1.toArray⟩, .string ⟨c.head.2.toArray⟩, .string ⟨c.who.toArray⟩, .string ⟨c.b.1.toArray⟩, .string ⟨c.b.2.toArray⟩, .string ⟨c.c.1.toArray⟩, .string ⟨c.c.2.toArray⟩, .string ⟨c.w2.toArray⟩] 32)) w7 → ∀ e w9, Stops R (nameBad r) w7 e w9 → ChainGot D R l most w e w9) := hid (fun hnm w7 hc7 e w9 hst => .inl ⟨nameBad r, by rw [HCG.out]; exact chainGo_no hca HLT.out hok hnm, hst.before9 (hcw.trans hc7 (fun _ _ h => h.elim))⟩)
          have HN : Hid (∀ ao9 cap9 (q : Nat) w9, q = (out ++ [(⟨c, (c.head, nameOf r)⟩ : StepB)]).length → StepGot D w.heap.size R (Value.slice ao out.length cap) out c r (w5.alloc (.cells #[.int .i64 c.kind, .string ⟨c.head.1.toArray⟩, .string ⟨c.head.2.toArray⟩, .string ⟨c.who.toArray⟩, .string ⟨c.b.1.toArray⟩, .string ⟨c.b.2.toArray⟩, .string ⟨c.c.1.toArray⟩, .string ⟨c.c.2.toArray⟩, .string ⟨c.w2.toArray⟩] 32)) (.slice ao9 q cap9) w9 → ∃ j2 : Nat, j2 ≤ n ∧ Value.int .i64 ((j : Int) + 1) = .int .i64 j2 ∧ Hid (GetAt D R n r0 w j2 (.slice ao9 q cap9) w9)) := hid (fun ao9 cap9 q w9 hq hg => by
            obtain ⟨g1, g2, ⟨vb9, g3, g4⟩, g5⟩ := hg
            have := HLT.out
            refine ⟨j + 1, by omega, rfl, hid ⟨_, ao9, cap9, nameRest r, by simp [HOJ.out], by rw [hq], g1, ⟨vb9, g3, g4⟩, hcw.trans g5 (fun i hi h => h.elim id (fun h => by have := (ownsRow_lt hown i h).1; omega)), ⟨fun _ => ⟨chainGo_yes hca HLT.out hok g2, by have := nameRest_len r; omega, fun x hx => ?_⟩, fun h => absurd rfl h⟩, by have := nameRest_len r; omega⟩⟩
            rcases List.mem_append.1 hx with hx | hx
            · exact (hca.1 rfl).2.2 x hx
            · rw [List.mem_singleton] at hx
              subst hx
              have h1 := (isCred_short (credGet_right hok)).mono (show 16 ≤ 9223372036854775807 by omega)
              exact ⟨h1, h1.1, h1.2.1, by have := nameOk_len g2; show (nameOf r).length ≤ _; omega⟩)
          clear hown hch hca hl1 hal hbx hc6 hcw hsz hs5 hd how6 hrl HSZ6 hb5 hr5 hc5 hok HST
          go_wp2_with fail
          generalize (w5.alloc (.cells #[.int .i64 c.kind, .string ⟨c.head.1.toArray⟩, .string ⟨c.head.2.toArray⟩, .string ⟨c.who.toArray⟩, .string ⟨c.b.1.toArray⟩, .string ⟨c.b.2.toArray⟩, .string ⟨c.c.1.toArray⟩, .string ⟨c.c.2.toArray⟩, .string ⟨c.w2.toArray⟩] 32)) = w6 at *
          obtain ⟨X, hX⟩ : ∃ X, w5.heap.size = X := ⟨_, rfl⟩
          simp only [hX] at HBX HXR ⊢
          clear hX
          obtain ⟨B, hB⟩ : ∃ B, w.heap.size = B := ⟨_, rfl⟩
          simp only [hB] at HOW HLE HN
          generalize vb5 = vb at *
          refine wp_region_stateTD (te := 5) (Chg (fun b => b = R ∨ (Value.slice ao out.length cap).ownBlock = some b)) (GetW D B R (.slice ao out.length cap) out c r w6) (specAtR (kgSpecs R X ao out cap c r)) [14, 15, 16, 17, 18, 19, 20, 21, 22, 23, 5] [0, 6] (by kernel_rfl) (by kernel_rfl) (GetW.start (show (5 : Nat) < 26 by decide) (show (23 : Nat) < 26 by decide) rfl ((Chg.refl _ _).drew) rfl) (fun t v w w' hc h => specAtR_st _ t v w w' hc h) (by rfl) (by kernel_rfl) ?start5 ?obs5 ?fin5
          case start5 =>
            simp only [List.forall_mem_cons]; exact ⟨⟨_, rfl, rfl⟩, ⟨_, rfl, rfl⟩, fun _ h => by cases h⟩
          case obs5 =>
            clear HN
            refine ObsTD.cons none (by kernel_rfl) ?_ ?_
            · refine ObTD.plain fun L a w hi he hD hW hk K k => ?_
              clear hk
              have e5 := hW.old (j := 0) (by decide) hi
              have hS := hid (fun (v : Value) (w2 : World) (hc : Chg (fun _ => False) w w2) => hW.step (j := 0) (d := (some 14)) v (by decide) hc )
              clear hi he hW hD
              go_simp
              exact k _ _ (Chg.refl _ _) (hS.out _ _ (Chg.refl _ _)) rfl
            refine ObsTD.cons none (by kernel_rfl) ?_ ?_
            · refine ObTD.plain fun L a w hi he hD hW hk K k => ?_
              obtain ⟨_, e6, rfl⟩ := hk 6 (by decide) (by decide)
              clear hk
              obtain ⟨q0, q1, q2, q3, q4, q5, q6, q7, q8⟩ := cred_at_blk (blk_keep HBX.out (hW.early (j := 1) (by decide) hi) HXR.out)
              simp only [Nat.zero_add] at q0 q1 q2 q3 q4 q5 q6 q7 q8
              have hS := hid (fun (v : Value) (w2 : World) (hc : Chg (fun _ => False) w w2) => hW.step (j := 1) (d := (some 15)) v (by decide) hc )
              clear hi he hW hD
              go_simp
              exact k _ _ (Chg.refl _ _) (hS.out _ _ (Chg.refl _ _)) rfl
            refine ObsTD.cons none (by kernel_rfl) ?_ ?_
            · refine ObTD.plain fun L a w hi he hD hW hk K k => ?_
              obtain ⟨_, e6, rfl⟩ := hk 6 (by decide) (by decide)
              clear hk
              have hS := hid (fun (v : Value) (w2 : World) (hc : Chg (fun _ => False) w w2) => hW.step (j := 2) (d := (some 16)) v (by decide) hc )
              clear hi he hW hD
              go_simp
              exact k _ _ (Chg.refl _ _) (hS.out _ _ (Chg.refl _ _)) rfl
            refine ObsTD.cons none (by kernel_rfl) ?_ ?_
            · refine ObTD.plain fun L a w hi he hD hW hk K k => ?_
              obtain ⟨_, e16, rfl⟩ := hk 16 (by decide) (by decide)
              clear hk
              obtain ⟨q0, q1, q2, q3, q4, q5, q6, q7, q8⟩ := cred_at_blk (blk_keep HBX.out (hW.early (j := 3) (by decide) hi) HXR.out)
              simp only [Nat.zero_add] at q0 q1 q2 q3 q4 q5 q6 q7 q8
              have hS := hid (fun (v : Value) (w2 : World) (hc : Chg (fun _ => False) w w2) => hW.step (j := 3) (d := (some 17)) v (by decide) hc )
              clear hi he hW hD
              go_simp
              exact k _ _ (Chg.refl _ _) (hS.out _ _ (Chg.refl _ _)) rfl
            refine ObsTD.cons none (by kernel_rfl) ?_ ?_
            · refine ObTD.plain fun L a w hi he hD hW hk K k => ?_
              obtain ⟨_, e0, rfl⟩ := hk 0 (by decide) (by decide)
              clear hk
              have hS := hid (fun (v : Value) (w2 : World) (hc : Chg (fun _ => False) w w2) => hW.step (j := 4) (d := (some 18)) v (by decide) hc )
              clear hi he hW hD
              go_simp
              exact k _ _ (Chg.refl _ _) (hS.out _ _ (Chg.refl _ _)) rfl
            refine ObsTD.cons none (by kernel_rfl) ?_ ?_
            · refine ObTD.plain fun L a w hi he hD hW hk K k => ?_
              obtain ⟨_, e18, rfl⟩ := hk 18 (by decide) (by decide)
              clear hk
              have h0 := hW.p0 hi
              obtain ⟨hb6, hr6⟩ := HRD.out
              have hb7 := hb6.keep h0 (fun _ _ => id)
              have hr7 : ReaderAt w R true vb 0 := blk_keep hr6 h0 id
              have HW := hid hW
              have HI5 : Hid (L 5 = false) := hid hi
              clear hi he hW hD hb6 hr6
              cases hnm : nameOk r with
              | true =>
                have hget := get_reads HLN.out hb7 HDR.out hr7 hnm
                have HNM := hid hnm
                clear hnm hb7 hr7
                go_simp
                refine hget.mono ?_
                rintro e w9 ⟨rfl, vb9, hb9, hr9, hc9⟩
                exact k _ _ (hc9.mono (fun _ _ h => .inl h)) (HW.out.name HI5.out ⟨HNM.out, ⟨vb9, hb9, hr9⟩, (h0.mono (fun _ _ h => h.elim)).trans hc9 (fun _ _ h => h)⟩) rfl
              | false =>
                have hget := get_stops HLN.out hb7 HDR.out hr7 hnm
                have HST := hid (fun e w9 h => HSTOP.out hnm w h0 e w9 h)
                clear hnm hb7 hr7
                go_simp
                refine hget.mono ?_
                rintro e w9 hst
                have HS := hid (HST.out e w9 hst)
                obtain ⟨rfl, _⟩ := hst
                exact ⟨HW.out.df, HS.out⟩
            refine ObsTD.cons none (by kernel_rfl) ?_ ?_
            · refine ObTD.plain fun L a w hi he hD hW hk K k => ?_
              obtain ⟨_, e17, rfl⟩ := hk 17 (by decide) (by decide)
              obtain ⟨_, e19, rfl⟩ := hk 19 (by decide) (by decide)
              clear hk
              have hS := hid (fun (v : Value) (w2 : World) (hc : Chg (fun _ => False) w w2) => hW.step (j := 6) (d := (some 20)) v (by decide) hc )
              clear hi he hW hD
              go_simp
              exact k _ _ (Chg.refl _ _) (hS.out _ _ (Chg.refl _ _)) rfl
            refine ObsTD.cons none (by kernel_rfl) ?_ ?_
            · refine ObTD.plain fun L a w hi he hD hW hk K k => ?_
              obtain ⟨_, e15, rfl⟩ := hk 15 (by decide) (by decide)
              obtain ⟨_, e20, rfl⟩ := hk 20 (by decide) (by decide)
              clear hk
              have hS := hid (fun (v : Value) (w2 : World) (hc : Chg (fun _ => False) w w2) => hW.step (j := 7) (d := (some 21)) v (by decide) hc )
              clear hi he hW hD
              go_simp
              exact k _ _ (Chg.refl _ _) (hS.out _ _ (Chg.refl _ _)) rfl
            refine ObsTD.cons none (by kernel_rfl) ?_ ?_
            · refine ObTD.plain fun L a w hi he hD hW hk K k => ?_
              obtain ⟨_, e21, rfl⟩ := hk 21 (by decide) (by decide)
              clear hk
              have hsz := (hW.early (j := 8) (by decide) hi).size
              have hS := hid (fun (v : Value) (w2 : World) (hc : Chg (fun _ => False) w w2) => hW.step (j := 8) (d := (some 22)) v (by decide) hc )
              clear hi he hW hD
              go_simp
              exact k _ _ (Chg.none9 ((Chg.refl _ _).alloc _)) (hS.out _ _ ((Chg.refl _ _).alloc _)) ⟨_, rfl, heap_alloc_new _ _, fun h => by have := HLO.out _ h; omega⟩
            refine ObsTD.cons none (by kernel_rfl) ?_ ?_
            · refine ObTD.plain fun L a w hi he hD hW hk K k => ?_
              obtain ⟨_, e14, rfl⟩ := hk 14 (by decide) (by decide)
              obtain ⟨_, e22, f22⟩ := hk 22 (by decide) (by decide)
              clear hk
              have hall := behind_all (n := 9) hD rfl he (by kernel_rfl)
              obtain ⟨b, rfl, hb, hb2⟩ := f22
              obtain ⟨n1, ⟨vb9, hb9, hr9⟩, hc9⟩ := hW.p1 (hall 5 (by decide)) hi
              have ho := HOW.out.keep hc9 HOR.out
              have hsz := hc9.size
              obtain ⟨v2, w2, hr, ho2, hc2⟩ := run_append_step1 22 ho hb HLE.out.2 (by have := HLE.out.1; omega)
              have hg : StepGot D B R (.slice ao out.length cap) out c r w6 v2 w2 := ⟨ho2, n1, ⟨vb9, hb9.keep hc2 (fun i hi h => HDO.out i hi h), blk_keep hr9 hc2 HRO.out⟩, (hc9.mono (fun _ _ h => .inl h)).trans hc2 (fun _ _ h => .inr h)⟩
              clear he hD
              refine ob_appendK 22 rfl e14 e22 hr ?_
              exact k _ _ (hc2.mono (fun _ _ h => .inr h)) (hW.app hi hall hg) trivial
            refine ObsTD.cons none (by kernel_rfl) ?_ ?_
            · refine ObTD.plain fun L a w hi he hD hW hk K k => ?_
              clear hk
              have hall := behind_all (n := 10) hD rfl he (by kernel_rfl)
              obtain ⟨v2, e23, hS⟩ := hW.p2 (hall 9 (by decide))
              have HW := hid (hW.asg (hall 9 (by decide)) e23)
              clear hS hall he hD hW hi
              go_simp
              exact k _ _ (Chg.refl _ _) HW.out trivial
            exact ObsTD.nil
          case fin5 =>
            intro L vals w9 hL hWL hv
            obtain ⟨v9, e23, hsg, h5⟩ := hWL.p2 (hL 9 (by decide))
            have e5 := h5 (hL 10 (by decide))
            clear hL hWL hv h5 e23
            simp only [putAll, List.setIfInBounds_toArray, List.set_cons_zero, List.set_cons_succ, List.getElem?_toArray, List.getElem?_cons_zero, List.getElem?_cons_succ, Option.some.injEq] at e5
            simp only [putAll, List.setIfInBounds_toArray, List.set_cons_zero, List.set_cons_succ, e5]
            clear e5
            obtain ⟨ao9, cap9, hv9⟩ := hsg.1.shape
            obtain ⟨q, hq⟩ : ∃ q : Nat, q = (out ++ [(⟨c, (c.head, nameOf r)⟩ : StepB)]).length := ⟨_, rfl⟩
            rw [← hq] at hv9
            subst hv9
            have HNEXT := hid (HN.out ao9 cap9 q w9 hq hsg)
            clear hsg hq HBX HXR HRD HLN HDR HSTOP HLO HOW HOR HLE HDO HRO HN
            go_wp2
            go_roundw
            case rel => exact HNEXT.out
            case measure => simp [intOf]; omega
      · have hje : j = n := by omega
        subst hje
        have HF : Hid (∃ ls rest ao1 cap1, chainGet l most = .ok ls rest ∧ Value.slice ao out.length cap = .slice ao1 ls.length cap1 ∧ StepsAt (fun k => w.heap.size ≤ k ∧ k < wr.heap.size) wr ao1 ls ∧ ∃ vb, BytesAt D wr vb rest ∧ ReaderAt wr R true vb 0 ∧ Chg (· = R) w wr) := hid (by
          have hs := (hca.1 rfl).1
          rw [Nat.sub_self, chainGo] at hs
          obtain ⟨ao1, cap1, e1, h1, _⟩ := hown.steps (hca.1 rfl).2.2
          exact ⟨out, l1, ao1, cap1, by rw [HCG.out]; exact hs, e1, h1, vb, hb, hr, hch⟩)
        clear hown hb hr hch hca hl1 hlt H0
        go_wp2
        go_ret
        obtain ⟨ls, rest, ao1, cap1, h1, h2, h3, h4⟩ := HF.out
        exact .inr ⟨ls, rest, ao1, cap1, h1, by rw [← h2]; rfl, h3, h4⟩
  · have hnu := rnum_stops (most := most) (by omega) hv hR he
    obtain ⟨b, hb⟩ : ∃ b : Nat, errNum l most = b := ⟨_, rfl⟩
    have HE : Hid (chainGet l most = .bad (errNum l most)) := hid (by unfold chainGet; rw [if_neg he])
    have HNU := hid hnu
    clear hnu hv hR hb
    go_enter Try.func30, Try.ntmps30
    go_wp2_with fail
    refine HNU.out.mono ?_
    clear HNU
    rintro e w1 hst
    have HS := hid (show ChainGot D R l most w e w1 from .inl ⟨_, HE.out, hst⟩)
    obtain ⟨rfl, _⟩ := hst
    exact ⟨rfl, HS.out⟩
end Go.Proofs.Ytcdjjengkdbngaa

/- The contracts of the program's check, together. -/
namespace Go.Proofs.Ytcdjjengkdbngaa
theorem ck_all : CK where
  follows := fun ao cp s hs w h1 h2 h3 h4 => ck_follows ao cp s hs w h1 h2 h3 h4
  check := fun ao co cp cc ls cs wf w h1 h2 h3 h4 h5 h6 h7 h8 => ck_check ao co cp cc ls cs wf w h1 h2 h3 h4 h5 h6 h7 h8
  tight := fun ao cp ls w h1 h2 h3 h4 _ => ck_tight ao cp ls w h1 h2 h3 h4
theorem cg_all : CG where
  put := fun B P cp ao ls w h1 h2 h3 h4 h5 h6 => kp_put B P cp ao ls w h1 h2 h3 h4 h5 h6
  putNil := fun cp ao ls w h1 h2 => kp_putNil cp ao ls w h1 h2
  get := fun most h1 h2 h3 h4 h5 h6 h7 => kp_get most h1 h2 h3 h4 h5 h6 h7
end Go.Proofs.Ytcdjjengkdbngaa
