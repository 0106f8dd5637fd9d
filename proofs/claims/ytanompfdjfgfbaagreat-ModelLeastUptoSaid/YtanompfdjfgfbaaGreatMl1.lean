/- Texts that the proof leans on, in one: ModelLeast, ModelLeastRow. -/
import Derived.Test.YtanompfdjfgfbaaGreatMb10
import Derived.Test.YtanompfdjfgfbaaGreatMb5
import Derived.Test.YtanompfdjfgfbaaGreatMb12
import Derived.Test.YtanompfdjfgfbaaGreatMb13
import Derived.ChangeMaps5
import Derived.ProofKit
import Derived.OpenShut
/- The law ModelLeast, walked, over the contracts of ModelK. -/
namespace Go.Proofs.YtanompfdjfgfbaaGreat
open Go.RowKit

theorem SetG_len9 {ls out : List CredB} (h : SetC ls out) : out.length ≤ ls.length := SetG.len ltC_ord h
theorem SetC.len9 {ls out : List CredB} (h : SetC ls out) : out.length ≤ ls.length := SetG.len ltC_ord h

/-- What is there all through the law. -/
structure LSt (MA : (Nat → Prop) → World → Nat → List CredB → Prop) (O D : Nat → Prop) (g A : Nat) (ls : List CredB) (mc : CredB) (xs : List FactB) (ns : List (List UInt8)) (ao ax an : Option Addr) (w w' : World) : Prop where
  ma : MA O w' g ls
  cA : w'.heap[A]? = some (.cells (credBox mc) 47 (0, 0))
  ch : Chg (fun _ => False) w w'
  cr : CredsAt D w' ao ls
  dl : ∀ i, D i → i < w'.heap.size
  fx : FactsAt (fun _ => True) w' ax xs
  st : StrsAt (fun _ => True) w' an ns

theorem LSt.keep {MA : (Nat → Prop) → World → Nat → List CredB → Prop} (HK : MK MA) {O D : Nat → Prop} {g A : Nat} {ls : List CredB} {mc : CredB} {xs : List FactB} {ns : List (List UInt8)} {ao ax an : Option Addr} {w w1 w2 : World} (h : LSt MA O D g A ls mc xs ns ao ax an w w1) (hc : Chg (fun _ => False) w1 w2) : LSt MA O D g A ls mc xs ns ao ax an w w2 :=
  ⟨HK.keep h.ma hc (fun _ _ => id), blk_keep h.cA hc id, h.ch.trans hc (fun _ _ h => h), h.cr.keep hc (fun _ _ => id), fun i hi => Nat.lt_of_lt_of_le (h.dl i hi) hc.size, h.fx.keep hc (fun _ _ => id), h.st.keep hc (fun _ _ => id)⟩

/-- What is known of the names. -/
structure NamesFor (ls : List CredB) (ns : List (List UInt8)) : Prop where
  len : ns.length ≤ 10000
  nm : ∀ x ∈ ns, isName x = true
  who : ∀ c ∈ ls, isCred c = true → c.kind = 1 → c.who ∈ ns

theorem names_for {ls : List CredB} {mc : CredB} {out : List CredB} {ns : List (List UInt8)} (hl : (ls ++ [mc]).length ≤ 1000) (h1 : SetC (ls ++ [mc]) out) (h2 : SetOf (whosOf out) ns) : NamesFor ls ns := by
  refine ⟨?_, fun x hx => ((h2.2 x).1 hx).2, fun c hc hr hk => (h2.2 _).2 ⟨whosOf_who ((h1.2 c).2 ⟨List.mem_append_left _ hc, hr⟩), isCred_member hr hk⟩⟩
  have h3 := nodup_length ns (whosOf out) h2.1.nodup (fun x hx => ((h2.2 x).1 hx).1)
  rw [whosOf_len] at h3
  have h4 := h1.len9
  omega

def mlSpecs26 {MA : (Nat → Prop) → World → Nat → List CredB → Prop} (HK : MK MA) (B A cp : Nat) (ao : Option Addr) (ls : List CredB) (mc : CredB) : List (SpecR (AppR B ls mc)) := [.eq (.slice ao ls.length cp), .any, .any, .eq (.pointer (some ⟨A, 0, none⟩)), .any, .any, .any, .any, .any, .any, .any, .any, .any, .any, .modelA HK B ls mc, .any, .any, .any, .any, .any, .any, .any, .any, .any, .any, .any, .any, .any, .any, .any, .any, .any, .any, .any, .any, .any, .any, .any, .any, .any, .any, .any, .any, .any, .any, .any, .any, .any, .any, .any, .any, .any, .any, .any, .any, .any, .any, .any, .any, .any, .any, .any, .any, .any, .any, .any, .any, .any, .any, .any, .any, .any, .any, .any, .any, .any, .any, .any, .any, .any, .any, .any, .any, .any, .any, .any, .any, .any, .ownA B ls mc [] (.inl (Nat.zero_le _)), .eq (.slice ao ls.length cp), .ownA B ls mc ls (.inl (Nat.le_max_left _ _)), .eq (.agg #[.int .i64 mc.kind, .string ⟨mc.head.1.toArray⟩, .string ⟨mc.head.2.toArray⟩, .string ⟨mc.who.toArray⟩, .string ⟨mc.b.1.toArray⟩, .string ⟨mc.b.2.toArray⟩, .string ⟨mc.c.1.toArray⟩, .string ⟨mc.c.2.toArray⟩, .string ⟨mc.w2.toArray⟩]), .ownA B ls mc [mc] (.inl (Nat.le_max_right _ _)), .ownA B ls mc (ls ++ [mc]) (.inr rfl), .modelA HK B ls mc, .any, .any, .any, .any, .any, .any, .any, .any, .any, .any, .any, .any, .any, .any, .any, .any, .any, .any]

def mlSpecs7 (B A cp : Nat) (ao : Option Addr) (ls : List CredB) (mc : CredB) : List (SpecR (AppR B ls mc)) := [.eq (.slice ao ls.length cp), .any, .any, .eq (.pointer (some ⟨A, 0, none⟩)), .any, .any, .any, .namesA B ls mc, .any, .any, .any, .any, .any, .any, .any, .any, .any, .any, .any, .any, .any, .any, .any, .any, .any, .any, .any, .any, .any, .any, .any, .any, .ownA B ls mc [] (.inl (Nat.zero_le _)), .eq (.slice ao ls.length cp), .ownA B ls mc ls (.inl (Nat.le_max_left _ _)), .eq (.agg #[.int .i64 mc.kind, .string ⟨mc.head.1.toArray⟩, .string ⟨mc.head.2.toArray⟩, .string ⟨mc.who.toArray⟩, .string ⟨mc.b.1.toArray⟩, .string ⟨mc.b.2.toArray⟩, .string ⟨mc.c.1.toArray⟩, .string ⟨mc.c.2.toArray⟩, .string ⟨mc.w2.toArray⟩]), .ownA B ls mc [mc] (.inl (Nat.le_max_right _ _)), .ownA B ls mc (ls ++ [mc]) (.inr rfl), .setA B ls mc, .namesA B ls mc, .any, .any, .any, .any, .any, .any, .any, .any, .any, .any, .any, .any, .any, .any, .any, .any, .any, .any, .any, .any, .any, .any, .any, .any, .any, .any, .any, .any, .any, .any, .any, .any, .any, .any, .any, .any, .any, .any, .any, .any, .any, .any, .any, .any, .any, .any, .any, .any, .any, .any, .any, .any, .any, .any, .any, .any, .any, .any, .any, .any, .any, .any, .any, .any, .any, .any, .any, .any, .any, .any, .any, .any, .any]

theorem totalC_app9 (a b : List CredB) : totalC (a ++ b) = totalC a + totalC b := by
  induction a with
  | nil => simp [totalC]
  | cons x l ih => rw [List.cons_append, totalC, totalC, ih]; omega

set_option maxRecDepth 100000 in
set_option maxHeartbeats 16000000 in
theorem mleast_main {MA : (Nat → Prop) → World → Nat → List CredB → Prop} (HK0 : MK MA) (hfirst : ∀ w : World, Calls Tryz.prog 6 #[] w fun e w' => e = .returned (.bool true) ∧ Chg (fun _ => False) w w')
    {D : Nat → Prop} (ao : Option Addr) (cp : Nat) (ls : List CredB) (mc : CredB) (w : World) (hn : totalC ls ≤ 4503599627370496) (hmn : totalC [mc] ≤ 4503599627370496) (h : CredsAt D w ao ls) (h0 : ao = none → cp = 0) (hD : ∀ i, D i → i < w.heap.size) :
    Calls Tryz.prog 5 #[.slice ao ls.length cp, .agg #[.int .i64 mc.kind, .string ⟨mc.head.1.toArray⟩, .string ⟨mc.head.2.toArray⟩, .string ⟨mc.who.toArray⟩, .string ⟨mc.b.1.toArray⟩, .string ⟨mc.b.2.toArray⟩, .string ⟨mc.c.1.toArray⟩, .string ⟨mc.c.2.toArray⟩, .string ⟨mc.w2.toArray⟩]] w fun e w' => e = .returned (.bool true) ∧ Chg (fun _ => False) w w' := by
  have HF := hid hfirst
  have HKH := hid HK0
  have hA := heap_alloc_new w (.cells #[.int .i64 mc.kind, .string ⟨mc.head.1.toArray⟩, .string ⟨mc.head.2.toArray⟩, .string ⟨mc.who.toArray⟩, .string ⟨mc.b.1.toArray⟩, .string ⟨mc.b.2.toArray⟩, .string ⟨mc.c.1.toArray⟩, .string ⟨mc.c.2.toArray⟩, .string ⟨mc.w2.toArray⟩] 47)
  have hc0 : Chg (fun _ => False) w (w.alloc (.cells #[.int .i64 mc.kind, .string ⟨mc.head.1.toArray⟩, .string ⟨mc.head.2.toArray⟩, .string ⟨mc.who.toArray⟩, .string ⟨mc.b.1.toArray⟩, .string ⟨mc.b.2.toArray⟩, .string ⟨mc.c.1.toArray⟩, .string ⟨mc.c.2.toArray⟩, .string ⟨mc.w2.toArray⟩] 47)) := (Chg.refl _ w).alloc _
  have HH := hid (And.intro hA (And.intro hc0 (And.intro (h.keep hc0 (fun _ _ => id)) hD)))
  have H00 := hid h0
  clear hA hc0 h hD hfirst HK0 h0
  go_enter Tryz.func5, Tryz.ntmps5
  go_wp2_with fail
  refine (HF.out _).mono ?_
  rintro e w1 ⟨rfl, hc1⟩
  obtain ⟨hA, hc0, h, hD⟩ := HH.out
  have hA1 := blk_keep hA hc1 id
  have hC1 := hc0.trans hc1 (fun _ _ h => h)
  have h1 := h.keep hc1 (fun _ _ => id)
  have hD1 : ∀ i, D i → i < w1.heap.size := fun i hi => Nat.lt_of_lt_of_le (hD i hi) hC1.size
  clear HH hA hc0 h hD hc1 HF
  have HA : w.heap.size < w1.heap.size := lt_blk hA1
  generalize hAA : w.heap.size = A at *
  have HG := hid (great_any ao cp ls w1 hn h1)
  have HW := hid (And.intro hA1 (And.intro hC1 (And.intro h1 hD1)))
  clear hA1 hC1 h1 hD1
  go_wp2_with fail
  refine HG.out.mono ?_
  rintro e w2 ⟨rfl, hc2⟩
  obtain ⟨hA1, hC1, h1, hD1⟩ := HW.out
  have hA2 := blk_keep hA1 hc2 id
  obtain ⟨a0, a1, a2, a3, a4, a5, a6, a7, a8⟩ := cred_at_blk hA2
  simp only [Nat.zero_add] at a0 a1 a2 a3 a4 a5 a6 a7 a8
  have HC2 := hid (And.intro hA2 (And.intro (hC1.trans hc2 (fun _ _ h => h)) (And.intro (h1.keep hc2 (fun _ _ => id)) (fun i hi => Nat.lt_of_lt_of_le (hD1 i hi) hc2.size))))
  clear HW HG hA1 hC1 h1 hD1 hA2 hc2
  by_cases hg : totalC ls ≤ 1200
  · have z1 : decide ((1200 : Int) < (totalC ls : Int)) = false := decide_eq_false (by omega)
    have hsz2 : A < w2.heap.size := lt_blk HC2.out.1
    have hcM : Chg (fun _ => False) w2 (w2.alloc (.cells #[.int .i64 mc.kind, .string ⟨mc.head.1.toArray⟩, .string ⟨mc.head.2.toArray⟩, .string ⟨mc.who.toArray⟩, .string ⟨mc.b.1.toArray⟩, .string ⟨mc.b.2.toArray⟩, .string ⟨mc.c.1.toArray⟩, .string ⟨mc.c.2.toArray⟩, .string ⟨mc.w2.toArray⟩] 47)) := (Chg.refl _ w2).alloc _
    have hM : (w2.alloc (.cells #[.int .i64 mc.kind, .string ⟨mc.head.1.toArray⟩, .string ⟨mc.head.2.toArray⟩, .string ⟨mc.who.toArray⟩, .string ⟨mc.b.1.toArray⟩, .string ⟨mc.b.2.toArray⟩, .string ⟨mc.c.1.toArray⟩, .string ⟨mc.c.2.toArray⟩, .string ⟨mc.w2.toArray⟩] 47)).heap[w2.heap.size]? = some (.cells (credBox mc) 47 (0, 0)) := heap_alloc_new w2 _
    have hsM : credShort mc 9223372036854775807 := sizeC_short (Nat.le_trans (totalC_mem (List.mem_singleton.2 rfl)) (by omega : totalC [mc] ≤ 9223372036854775807))
    have HG2 := hid (great_any (some ⟨w2.heap.size, 0, none⟩) 1 [mc] (w2.alloc (.cells #[.int .i64 mc.kind, .string ⟨mc.head.1.toArray⟩, .string ⟨mc.head.2.toArray⟩, .string ⟨mc.who.toArray⟩, .string ⟨mc.b.1.toArray⟩, .string ⟨mc.b.2.toArray⟩, .string ⟨mc.c.1.toArray⟩, .string ⟨mc.c.2.toArray⟩, .string ⟨mc.w2.toArray⟩] 47)) hmn (creds_one8 hM hsM))
    have HC3 := hid (And.intro (blk_keep HC2.out.1 hcM id) (And.intro (HC2.out.2.1.trans hcM (fun _ _ h => h)) (And.intro (HC2.out.2.2.1.keep hcM (fun _ _ => id)) (fun i hi => Nat.lt_of_lt_of_le (HC2.out.2.2.2 i hi) hcM.size))))
    clear hcM hM
    go_wp2_with fail
    refine HG2.out.mono ?_
    rintro e w3 ⟨rfl, hc3⟩
    have H3 := hid (And.intro (blk_keep HC3.out.1 hc3 id) (And.intro (HC3.out.2.1.trans hc3 (fun _ _ h => h)) (And.intro (HC3.out.2.2.1.keep hc3 (fun _ _ => id)) (fun i hi => Nat.lt_of_lt_of_le (HC3.out.2.2.2 i hi) hc3.size))))
    clear HC3 HC2 HG2 hc3 a0 a1 a2 a3 a4 a5 a6 a7 a8
    by_cases hg2 : totalC [mc] ≤ 300
    · have z2 : decide ((300 : Int) < (totalC [mc] : Int)) = false := decide_eq_false (by omega)
      have HS : Hid (SmallC ls ∧ SmallC (ls ++ [mc]) ∧ credShort mc 9223372036854775807) := hid ⟨SmallC.of (by omega), SmallC.of (by rw [totalC_app9]; omega), hsM⟩
      have HO := hid (HKH.out.of ao cp ls w3 HS.out.1 H3.out.2.2.1 H00.out H3.out.2.2.2)
      clear hsM
      go_wp2_with fail
      refine HO.out.mono ?_
      rintro e w4 ⟨g, O, rfl, hma, hol, hc4⟩
      obtain ⟨xs, hxs⟩ := model_ex ls
      have HFX := hid (HKH.out.facts g ls xs w4 hma HS.out.1 hxs)
      have H4 : Hid (MA O w4 g ls ∧ w4.heap[A]? = some (.cells (credBox mc) 47 (0, 0)) ∧ Chg (fun _ => False) w w4 ∧ CredsAt D w4 ao ls ∧ (∀ i, D i → i < w4.heap.size) ∧ ModelOf ls xs) := hid ⟨hma, blk_keep H3.out.1 hc4 id, H3.out.2.1.trans hc4 (fun _ _ h => h), H3.out.2.2.1.keep hc4 (fun _ _ => id), fun i hi => Nat.lt_of_lt_of_le (H3.out.2.2.2 i hi) hc4.size, hxs⟩
      have hxl := hxs.few HS.out.1
      clear hma hol hc4 hxs HO H3
      go_wp2_with fail
      refine HFX.out.mono ?_
      rintro e w5 ⟨⟨ax, cx, rfl, hfx⟩, hc5⟩
      have H5 : Hid (MA O w5 g ls ∧ w5.heap[A]? = some (.cells (credBox mc) 47 (0, 0)) ∧ Chg (fun _ => False) w w5 ∧ CredsAt D w5 ao ls ∧ (∀ i, D i → i < w5.heap.size) ∧ ModelOf ls xs ∧ FactsAt (fun _ => True) w5 ax xs) := hid ⟨HKH.out.keep H4.out.1 hc5 (fun _ _ => id), blk_keep H4.out.2.1 hc5 id, H4.out.2.2.1.trans hc5 (fun _ _ h => h), H4.out.2.2.2.1.keep hc5 (fun _ _ => id), fun i hi => Nat.lt_of_lt_of_le (H4.out.2.2.2.2.1 i hi) hc5.size, H4.out.2.2.2.2.2, hfx⟩
      clear hc5 H4 hfx HFX
      go_wp2_with fail
      obtain ⟨B, hB⟩ : ∃ B, B = w5.heap.size := ⟨_, rfl⟩
      have HL : Hid (∀ W, Chg (fun i => B ≤ i ∧ i < B + 3) w5 W → CredsAt D W ao ls) := hid (fun W hW => H5.out.2.2.2.1.keep hW (fun i hi h => absurd (H5.out.2.2.2.2.1 i hi) (by rw [← hB]; exact Nat.not_lt.2 h.1)))
      have HAm : Hid (w5.heap[A]? = some (.cells (credBox mc) 47 (0, 0)) ∧ A < B) := hid ⟨H5.out.2.1, by rw [hB]; exact lt_blk H5.out.2.1⟩
      subst hB
      refine wp_region_state (AppR w5.heap.size ls mc) (AppW w5.heap.size ls mc w5) (specAtR (mlSpecs7 w5.heap.size A cp ao ls mc)) [32, 33, 34, 35, 36, 37, 38, 39, 7] [0, 3] (by kernel_rfl) (by kernel_rfl) AppW.start (fun t v w w' hc h => specAtR_st _ t v w w' hc h) (by rfl) (by kernel_rfl) ?start ?obs ?fin
      case start =>
        simp only [List.forall_mem_cons]; exact ⟨⟨_, rfl, rfl⟩, ⟨_, rfl, rfl⟩, fun _ h => by cases h⟩
      case obs =>
          refine ObsL.cons none (by kernel_rfl) ?_ ?_
          · refine ObL.plain fun L a w hi he hW hk K k => ?_
            clear hk
            have hm := hW.made (.inl rfl) hi (.cells #[] 47)
            have ho := own_zero8 (hW.ge (Nat.le_refl _))
            clear he hi hW
            go_simp
            exact k _ _ (AppR.of_chg ((Chg.refl _ _).alloc _)) hm ⟨ho, fun _ => rfl⟩
          refine ObsL.cons none (by kernel_rfl) ?_ ?_
          · refine ObL.plain fun L a w hi he hW hk K k => ?_
            obtain ⟨_, e0, f0⟩ := hk 0 (by decide)
            clear hk
            clear hi he
            go_simp
            exact k _ _ (AppR.refl _ _ _ _) (hW.step (by decide)) f0
          refine ObsL.cons none (by kernel_rfl) ?_ ?_
          · refine ObL.plain fun L a w hi he hW hk K k => ?_
            obtain ⟨_, e32, f32⟩ := hk 32 (by decide)
            obtain ⟨_, e33, rfl⟩ := hk 33 (by decide)
            clear hk
            have l0 : L 0 = true := he ⟨0, Ground.data⟩ (by simp) (by decide)
            obtain ⟨v', w', hr, ho, hch, hrk, hcp, hcl, hsz⟩ := run_append_creds2 (zs := []) 22 f32.1 (HL.out w hW.rel.1) H00.out (by have := HS.out.1.1; simp; omega) (hW.ge (Nat.le_refl _))
            have hcz := f32.2 rfl
            have hc := hcp hcz
            rw [hcz] at hsz hcl
            have hm := hW.app1 hi l0 hc hsz
            exact ob_append 22 rfl e32 e33 hr (k _ _ (AppR.of_chg hc) hm ⟨ho, hcl⟩)
          refine ObsL.cons none (by kernel_rfl) ?_ ?_
          · refine ObL.plain fun L a w hi he hW hk K k => ?_
            obtain ⟨_, e3, rfl⟩ := hk 3 (by decide)
            clear hk
            obtain ⟨a0, a1, a2, a3, a4, a5, a6, a7, a8⟩ := cred_at_blk (blk_keep HAm.out.1 hW.rel.1 (fun h => absurd h.1 (Nat.not_le.2 HAm.out.2)))
            simp only [Nat.zero_add] at a0 a1 a2 a3 a4 a5 a6 a7 a8
            have hs := hW.still (i := 3) (by decide)
            clear he hi hW
            go_simp
            exact k _ _ (AppR.refl _ _ _ _) hs rfl
          refine ObsL.cons none (by kernel_rfl) ?_ ?_
          · refine ObL.plain fun L a w hi he hW hk K k => ?_
            obtain ⟨_, e35, rfl⟩ := hk 35 (by decide)
            clear hk
            have hm := hW.made (.inr rfl) hi (.cells #[.int .i64 mc.kind, .string ⟨mc.head.1.toArray⟩, .string ⟨mc.head.2.toArray⟩, .string ⟨mc.who.toArray⟩, .string ⟨mc.b.1.toArray⟩, .string ⟨mc.b.2.toArray⟩, .string ⟨mc.c.1.toArray⟩, .string ⟨mc.c.2.toArray⟩, .string ⟨mc.w2.toArray⟩] 47)
            have hb := heap_alloc_new w (.cells #[.int .i64 mc.kind, .string ⟨mc.head.1.toArray⟩, .string ⟨mc.head.2.toArray⟩, .string ⟨mc.who.toArray⟩, .string ⟨mc.b.1.toArray⟩, .string ⟨mc.b.2.toArray⟩, .string ⟨mc.c.1.toArray⟩, .string ⟨mc.c.2.toArray⟩, .string ⟨mc.w2.toArray⟩] 47)
            have ho := own_one8 (c := mc) (hW.ge (Nat.le_refl _)) hb
            clear he hi hW hb
            go_simp
            exact k _ _ (AppR.of_chg ((Chg.refl _ _).alloc _)) hm ⟨ho, fun h => (by cases h)⟩
          refine ObsL.cons none (by kernel_rfl) ?_ ?_
          · refine ObL.plain fun L a w hi he hW hk K k => ?_
            obtain ⟨_, e34, f34⟩ := hk 34 (by decide)
            obtain ⟨_, e36, f36⟩ := hk 36 (by decide)
            clear hk
            have l2 : L 2 = true := he ⟨2, Ground.data⟩ (by simp) (by decide)
            have l4 : L 4 = true := he ⟨4, Ground.data⟩ (by simp) (by decide)
            obtain ⟨ay, cy, hy, hcr, hy0⟩ := f36.1.creds (fun x hx => by rw [List.mem_singleton.1 hx]; exact HS.out.2.2)
            subst hy
            obtain ⟨v', w', hr, ho, hch, hrk, hcp, hcl, hsz⟩ := run_append_creds2 (zs := ls) 22 f34.1 hcr hy0 (by have := HS.out.1.1; simp; omega) (hW.ge (Nat.le_refl _))
            obtain ⟨hR, hm⟩ := hW.app2 hi l2 l4 f34.2 hch hrk hcp hsz
            exact ob_append 22 rfl e34 e36 hr (k _ _ hR hm ⟨ho, fun h => (by simp at h)⟩)
          refine ObsL.cons none (by kernel_rfl) ?_ ?_
          · refine ObL.plain fun L a w hi he hW hk K k => ?_
            obtain ⟨_, e37, f37⟩ := hk 37 (by decide)
            clear hk
            have l5 : L 5 = true := he ⟨5, Ground.data⟩ (by simp) (by decide)
            obtain ⟨ay, cy, hy, hcr, hy0⟩ := f37.1.creds (fun x hx => (HS.out.2.1.2 x hx).mono (by omega))
            subst hy
            have hq := cset_ref ay cy (ls ++ [mc]) w (by have := HS.out.2.1.1; omega) hcr (fun i hi => hi.2)
            have HWW := hid (And.intro hW l5)
            obtain ⟨zs, HZ⟩ : ∃ zs, Hid (zs = ls ++ [mc]) := ⟨_, hid rfl⟩
            rw [← HZ.out] at hq e37
            clear he hi hW hcr
            go_simp
            refine hq.mono ?_
            rintro e w9 ⟨out, ao9, cap9, rfl, hset, hcr9, hc9, _⟩
            rw [HZ.out] at hset
            exact k _ _ (AppR.of_chg hc9) (HWW.out.1.call (.inl rfl) HWW.out.2 hc9) ⟨out, ao9, cap9, rfl, hset, hcr9.mono (fun i hi => Nat.le_trans (HWW.out.1.late HWW.out.2).1 hi.1)⟩
          refine ObsL.cons none (by kernel_rfl) ?_ ?_
          · refine ObL.plain fun L a w hi he hW hk K k => ?_
            obtain ⟨_, e38, f38⟩ := hk 38 (by decide)
            clear hk
            have l5 : L 5 = true := hW.six (he ⟨6, Ground.data⟩ (by simp) (by decide))
            obtain ⟨out, ay, cy, hy, hset, hcr⟩ := f38
            subst hy
            have hq := rfnames ay cy out w (by have := hset.len9; have := HS.out.2.1.1; omega) hcr
            have HWW := hid (And.intro hW l5)
            clear he hi hW
            go_simp
            refine hq.mono ?_
            rintro e w9 ⟨ns, ao9, cap9, rfl, hns, hst9, hc9⟩
            exact k _ _ (AppR.of_chg hc9) (HWW.out.1.call (.inr (.inl rfl)) HWW.out.2 hc9) ⟨out, ns, ao9, cap9, rfl, hset, hns, hst9.mono (fun i hi => Nat.le_trans (HWW.out.1.late HWW.out.2).1 hi.1)⟩
          refine ObsL.cons none (by kernel_rfl) ?_ ?_
          · refine ObL.plain fun L a w hi he hW hk K k => ?_
            obtain ⟨_, e39, f39⟩ := hk 39 (by decide)
            clear hk
            clear hi he
            go_simp
            exact k _ _ (AppR.refl _ _ _ _) (hW.step (by decide)) f39
          exact ObsL.nil
      case fin =>
        intro L vals w6 hL hW hv
        obtain ⟨out, ns, an, cn, h7, hset, hns, hst⟩ : ∃ (out : List CredB) (ns : List (List UInt8)) (ao : Option Addr) (cap : Nat), vals 7 = .slice ao ns.length cap ∧ SetC (ls ++ [mc]) out ∧ SetOf (whosOf out) ns ∧ StrsAt (fun k => w5.heap.size + 3 ≤ k) w6 ao ns := hv 7 (by decide)
        have hc6 : Chg (fun _ => False) w5 w6 := hW.rel.1.mono (fun i hi h => absurd hi (Nat.not_lt.2 h.1))
        have HNS := hid (names_for HS.out.2.1.1 hset hns)
        have HLS : Hid (LSt MA O D g A ls mc xs ns ao ax an w w6) := hid ⟨HKH.out.keep H5.out.1 hc6 (fun _ _ => id), blk_keep H5.out.2.1 hc6 id, H5.out.2.2.1.trans hc6 (fun _ _ h => h), H5.out.2.2.2.1.keep hc6 (fun _ _ => id), fun i hi => Nat.lt_of_lt_of_le (H5.out.2.2.2.2.1 i hi) hc6.size, H5.out.2.2.2.2.2.2.keep hc6 (fun _ _ => id), hst.mono (fun _ _ => trivial)⟩
        have HX := hid H5.out.2.2.2.2.2.1
        have hnl := HNS.out.len
        have hll := HS.out.1.1
        clear hL hW hv hset hns hst hc6 HL HAm H5
        simp only [putAll, List.setIfInBounds_toArray, List.set_cons_zero, List.set_cons_succ, h7]
        clear h7
        go_wp2
        go_loopw [42] (fun i wr => ∃ k : Nat, i = .int .i64 k ∧ k ≤ ls.length ∧ Hid (Chg (fun _ => False) w6 wr)) (fun i _ => ls.length - (intOf i).toNat)
        case atStart => exact ⟨0, rfl, Nat.zero_le _, hid (Chg.refl _ _)⟩
        case round =>
          obtain ⟨k, rfl, hk, hc⟩ := hrel
          by_cases hlt : k < ls.length
          · obtain ⟨b, off, hac, _, hcat, _⟩ := (HLS.out.cr.keep hc.out (fun _ _ => id)) k hlt
            have HC : Hid (credShort ls[k] 100000 ∧ ls[k] ∈ ls) := hid ⟨HS.out.1.2 _ (List.getElem_mem hlt), List.getElem_mem hlt⟩
            have HKL := hid hlt
            generalize ls[k] = c at *
            obtain ⟨c0, c1, c2, c3, c4, c5, c6, c7, c8⟩ := hcat
            have hSb : (wr.alloc (.cells #[.int .i64 c.kind, .string ⟨c.head.1.toArray⟩, .string ⟨c.head.2.toArray⟩, .string ⟨c.who.toArray⟩, .string ⟨c.b.1.toArray⟩, .string ⟨c.b.2.toArray⟩, .string ⟨c.c.1.toArray⟩, .string ⟨c.c.2.toArray⟩, .string ⟨c.w2.toArray⟩] 47)).heap[wr.heap.size]? = some (.cells (credBox c) 47 (0, 0)) := heap_alloc_new wr _
            have hal : Chg (fun _ => False) wr (wr.alloc (.cells #[.int .i64 c.kind, .string ⟨c.head.1.toArray⟩, .string ⟨c.head.2.toArray⟩, .string ⟨c.who.toArray⟩, .string ⟨c.b.1.toArray⟩, .string ⟨c.b.2.toArray⟩, .string ⟨c.c.1.toArray⟩, .string ⟨c.c.2.toArray⟩, .string ⟨c.w2.toArray⟩] 47)) := (Chg.refl _ wr).alloc _
            obtain ⟨s0, s1, s2, s3, s4, s5, s6, s7, s8⟩ := cred_at_blk hSb
            simp only [Nat.zero_add] at s0 s1 s2 s3 s4 s5 s6 s7 s8
            have HM := hid (hc.out.trans hal (fun _ _ h => h))
            have HL3 := hid (HLS.out.keep HKH.out HM.out)
            have HQ := hid (HKH.out.holds (D := fun i => i < (wr.alloc (.cells #[.int .i64 c.kind, .string ⟨c.head.1.toArray⟩, .string ⟨c.head.2.toArray⟩, .string ⟨c.who.toArray⟩, .string ⟨c.b.1.toArray⟩, .string ⟨c.b.2.toArray⟩, .string ⟨c.c.1.toArray⟩, .string ⟨c.c.2.toArray⟩, .string ⟨c.w2.toArray⟩] 47)).heap.size) 12 #[.pointer (some ⟨g, 0, none⟩)] #[] (inF xs) c an cn ns (wr.alloc (.cells #[.int .i64 c.kind, .string ⟨c.head.1.toArray⟩, .string ⟨c.head.2.toArray⟩, .string ⟨c.who.toArray⟩, .string ⟨c.b.1.toArray⟩, .string ⟨c.b.2.toArray⟩, .string ⟨c.c.1.toArray⟩, .string ⟨c.c.2.toArray⟩, .string ⟨c.w2.toArray⟩] 47)) HC.out.1 hnl (fun x hx => by have := (isName_len (HNS.out.nm x hx)).2; omega) (strs_low8 HL3.out.st) (fun i hi => hi) enters_in (ask_in HKH.out HL3.out.ma HS.out.1 HX.out))
            clear hSb hal HL3 hc
            subst hac
            unfold credV credBox at HQ
            go_wp2_with fail
            refine HQ.out.mono ?_
            clear HQ s0 s1 s2 s3 s4 s5 s6 s7 s8 c0 c1 c2 c3 c4 c5 c6 c7 c8
            generalize wr.alloc (.cells #[.int .i64 c.kind, .string ⟨c.head.1.toArray⟩, .string ⟨c.head.2.toArray⟩, .string ⟨c.who.toArray⟩, .string ⟨c.b.1.toArray⟩, .string ⟨c.b.2.toArray⟩, .string ⟨c.c.1.toArray⟩, .string ⟨c.c.2.toArray⟩, .string ⟨c.w2.toArray⟩] 47) = w7 at *
            rintro e w8 ⟨hs, ah, ch, rfl, hfa, hho, hc8⟩
            have hhl := hho.len
            have HHO := hid (And.intro hho (And.intro (hfa.mono (D' := fun _ => True) (fun _ _ => trivial)) (HM.out.trans hc8 (fun _ _ h => h))))
            clear hfa hho hc8 HM
            go_wp2
            go_loopw [52] (fun i wr => ∃ j : Nat, i = .int .i64 j ∧ j ≤ hs.length ∧ Hid (Chg (fun _ => False) w8 wr)) (fun i _ => hs.length - (intOf i).toNat)
            case atStart => exact ⟨0, rfl, Nat.zero_le _, hid (Chg.refl _ _)⟩
            case round =>
              obtain ⟨j, rfl, hj, hc⟩ := hrel
              by_cases hjl : j < hs.length
              · obtain ⟨b2, off2, hah, _, hft⟩ := (HHO.out.2.1.keep hc.out (fun _ _ => id)) j hjl
                have hin : inF xs hs[j].1 hs[j].2 = true := inF_iff.2 ((HX.out.2 _).2 (holds_der (fun f hf => (HX.out.2 f).1 hf) HC.out.2 HNS.out.nm HHO.out.1 _ (List.getElem_mem hjl)))
                have HFS := hid (HHO.out.1.short _ (List.getElem_mem hjl))
                have HJL := hid hjl
                generalize hs[j] = f at *
                obtain ⟨f0, f1, f2⟩ := hft
                have hSb : (wr.alloc (.cells #[.string ⟨f.1.1.toArray⟩, .string ⟨f.1.2.toArray⟩, .string ⟨f.2.toArray⟩] 52)).heap[wr.heap.size]? = some (.cells (factBox f) 52 (0, 0)) := heap_alloc_new wr _
                have hal : Chg (fun _ => False) wr (wr.alloc (.cells #[.string ⟨f.1.1.toArray⟩, .string ⟨f.1.2.toArray⟩, .string ⟨f.2.toArray⟩] 52)) := (Chg.refl _ wr).alloc _
                obtain ⟨s0, s1, s2⟩ := fact_at_blk hSb
                simp only [Nat.zero_add] at s0 s1 s2
                have HM := hid (hc.out.trans hal (fun _ _ h => h))
                have HIQ := hid (HKH.out.inn g ls xs f.1 f.2 (wr.alloc (.cells #[.string ⟨f.1.1.toArray⟩, .string ⟨f.1.2.toArray⟩, .string ⟨f.2.toArray⟩] 52)) (HLS.out.keep HKH.out (HHO.out.2.2.trans HM.out (fun _ _ h => h))).ma HS.out.1 HX.out (by have := HFS.out.1; omega) (by have := HFS.out.2.1; omega) (by have := HFS.out.2.2; omega))
                rw [hin] at HIQ
                clear hSb hal hc hin
                subst hah
                go_wp2_with fail
                refine HIQ.out.mono ?_
                clear HIQ s0 s1 s2 f0 f1 f2
                generalize wr.alloc (.cells #[.string ⟨f.1.1.toArray⟩, .string ⟨f.1.2.toArray⟩, .string ⟨f.2.toArray⟩] 52) = w9 at *
                rintro e w10 ⟨rfl, hc10⟩
                have HMM := hid (HM.out.trans hc10 (fun _ _ h => h))
                clear hc10 HM
                go_wp2
                go_roundw
                case rel => exact ⟨j + 1, by go_num, by have := HJL.out; omega, HMM⟩
                case measure => have := HJL.out; simp [intOf]; omega
              · have HCC := hid (HHO.out.2.2.trans hc.out (fun _ _ h => h))
                clear hc
                go_wp2
                go_roundw
                case rel => exact ⟨k + 1, by go_num, by have := HKL.out; omega, HCC⟩
                case measure => have := HKL.out; simp [intOf]; omega
          · have HC7 := hid (And.intro (HLS.out.keep HKH.out hc.out) hc.out.size)
            clear hc
            go_wp2
            clear hlt
            go_loopw [12, 67] (fun v i wr' => ∃ (k : Nat) (bk : List CredB) (ab : Option Addr) (cb : Nat), v = .slice ab bk.length cb ∧ i = .int .i64 k ∧ k ≤ ls.length ∧ bk.length ≤ k ∧ Hid (bk = ls.reverse.take k) ∧ Hid (OwnC wr.heap.size wr' (.slice ab bk.length cb) bk ∧ Chg (fun _ => False) wr wr')) (fun _ i _ => ls.length - (intOf i).toNat)
            case atStart => exact ⟨0, [], none, 0, rfl, rfl, Nat.zero_le _, Nat.zero_le _, hid (by simp), hid ⟨World.ownsRow_nil _ _ _ _, Chg.refl _ _⟩⟩
            case round =>
              rename World => wr2
              obtain ⟨k, bk, ab, cb, rfl, rfl, hk, hbl, hbk, hbo⟩ := hrel
              by_cases hlt : k < ls.length
              · obtain ⟨q, hq⟩ : ∃ q, q = ls.length - 1 - k := ⟨_, rfl⟩
                have hql : q < ls.length := by omega
                have e1 : IntKind.i64.wrap ((ls.length : Int) - 1) = (ls.length : Int) - 1 := by rw [IntKind.wrap_i64]; omega
                have e2 : IntKind.i64.wrap ((ls.length : Int) - 1 - (k : Int)) = (q : Int) := by rw [IntKind.wrap_i64]; omega
                obtain ⟨b, off, hac, _, hcat, hsh⟩ := (HC7.out.1.cr.keep hbo.out.2 (fun _ _ => id)) q hql
                have HNX : Hid (bk ++ [ls[q]] = ls.reverse.take (k + 1)) := hid (by
                  have hr : k < ls.reverse.length := by simpa using hlt
                  rw [List.take_succ_eq_append_getElem hr, ← hbk.out, List.getElem_reverse]
                  subst hq
                  rfl)
                have HKL := hid hlt
                have HQL := hid hql
                generalize ls[q] = c at *
                obtain ⟨c0, c1, c2, c3, c4, c5, c6, c7, c8⟩ := hcat
                have hSb : (wr2.alloc (.cells #[.int .i64 c.kind, .string ⟨c.head.1.toArray⟩, .string ⟨c.head.2.toArray⟩, .string ⟨c.who.toArray⟩, .string ⟨c.b.1.toArray⟩, .string ⟨c.b.2.toArray⟩, .string ⟨c.c.1.toArray⟩, .string ⟨c.c.2.toArray⟩, .string ⟨c.w2.toArray⟩] 47)).heap[wr2.heap.size]? = some (.cells (credBox c) 47 (0, 0)) := heap_alloc_new wr2 _
                have hal : Chg (fun _ => False) wr2 (wr2.alloc (.cells #[.int .i64 c.kind, .string ⟨c.head.1.toArray⟩, .string ⟨c.head.2.toArray⟩, .string ⟨c.who.toArray⟩, .string ⟨c.b.1.toArray⟩, .string ⟨c.b.2.toArray⟩, .string ⟨c.c.1.toArray⟩, .string ⟨c.c.2.toArray⟩, .string ⟨c.w2.toArray⟩] 47)) := (Chg.refl _ wr2).alloc _
                have HO2 := hid (And.intro (hbo.out.1.keep hal (fun _ _ => id)) (And.intro (hbo.out.2.trans hal (fun _ _ h => h)) (creds_one8 hSb hsh)))
                have hsz := (hbo.out.2.trans hal (fun _ _ h => h)).size
                subst hac
                clear hSb hal hbo hq hbk
                go_wp2_with (at_builtin; refine wpList_append_creds rfl (.tmp 70) (.tmp 79) rfl wr.heap.size _ bk rfl HO2.out.1 (some ⟨wr2.heap.size, 0, none⟩) 1 [c] rfl HO2.out.2.2 (fun e => by cases e) (by simp; omega) hsz ?_)
                clear c0 c1 c2 c3 c4 c5 c6 c7 c8 e1 e2 hsz
                intro v' w8 ho8 hgr hat
                have hc8 : Chg (fun _ => False) wr w8 := HO2.out.2.1.grown hgr (fun i e hi => by have := (own_lt9 HO2.out.1 i e).1; omega)
                have hzl : (bk ++ [c]).length = bk.length + 1 := by simp
                obtain ⟨zs, HZ⟩ : ∃ zs, Hid (zs = bk ++ [c]) := ⟨_, hid rfl⟩
                rw [← HZ.out] at ho8 hzl HNX
                obtain ⟨a8, k8, hv8⟩ := ho8.shape
                subst hv8
                have H8 := hid (And.intro ho8 hc8)
                clear ho8 hgr hat hc8 HO2 HZ
                go_wp2
                go_roundw
                case rel => exact ⟨k + 1, zs, a8, k8, rfl, by go_num, by have := HKL.out; omega, by omega, HNX, H8⟩
                case measure => have := HKL.out; simp [intOf]; omega
              · have hk2 : k = ls.length := by omega
                have hbr : bk = ls.reverse := by rw [hbk.out, hk2, ← List.length_reverse, List.take_length]
                have hsm : SmallC bk := by rw [hbr]; exact ⟨by simpa using HS.out.1.1, fun c hc => HS.out.1.2 c (by simpa using hc)⟩
                have HMB : Hid (ModelOf bk xs) := hid (by rw [hbr]; exact HX.out.reverse)
                obtain ⟨ab2, cb2, hv2, hcr2, h002⟩ := hbo.out.1.creds (fun c hc => (hsm.2 c hc).mono (by omega))
                cases hv2
                have HSB := hid hsm
                have HQ := hid (HKH.out.of (D := fun k => wr.heap.size ≤ k ∧ k < wr2.heap.size) ab cb bk wr2 hsm hcr2 h002 (fun i hi => hi.2))
                have HB2 := hid hbo.out.2
                clear hsm hbr hbk hcr2 h002 hbo
                go_wp2_with fail
                clear hk2 hlt
                refine HQ.out.mono ?_
                rintro e w8 ⟨g2, O2, rfl, hma2, hol2, hc8⟩
                have HF2 := hid (HKH.out.facts g2 bk xs w8 hma2 HSB.out HMB.out)
                have HB8 := hid (HB2.out.trans hc8 (fun _ _ h => h))
                clear hma2 hol2 hc8 HQ HB2
                go_wp2_with fail
                refine HF2.out.mono ?_
                rintro e w9 ⟨⟨af, cf, rfl, hff⟩, hc9⟩
                have HL9 := hid (HC7.out.1.keep HKH.out (HB8.out.trans hc9 (fun _ _ h => h)))
                have HSM := hid (rfsame af ax cf cx xs xs w9 (by omega) (by omega) hff HL9.out.fx)
                have hss : sameF xs xs = true := by simp [sameF]
                rw [hss] at HSM
                clear hss hff hc9 HF2 HB8 HC7
                go_wp2_with fail
                refine HSM.out.mono ?_
                rintro e w10 ⟨rfl, n10, rfl⟩
                have hc10 : Chg (fun _ => False) w9 (w9.drewN n10) := ⟨rfl, rfl, rfl, Nat.le_refl _, fun _ _ _ => rfl⟩
                have HL11 := hid (HL9.out.keep HKH.out hc10)
                clear hc10 HSM HL9
                generalize w9.drewN n10 = w11 at *
                go_wp2_with fail
                have HK1 := HKH.out
                have HL : Hid (∀ W, Chg (fun i => w11.heap.size ≤ i ∧ i < w11.heap.size + 3) w11 W → CredsAt D W ao ls) := hid (fun W hW => HL11.out.cr.keep hW (fun i hi h => absurd (HL11.out.dl i hi) (Nat.not_lt.2 h.1)))
                have HAm : Hid (w11.heap[A]? = some (.cells (credBox mc) 47 (0, 0)) ∧ A < w11.heap.size) := hid ⟨HL11.out.cA, lt_blk HL11.out.cA⟩
                refine wp_region_state (AppR w11.heap.size ls mc) (AppW w11.heap.size ls mc w11) (specAtR (mlSpecs26 HK1 w11.heap.size A cp ao ls mc)) [88, 89, 90, 91, 92, 93, 94, 14] [0, 3] (by kernel_rfl) (by kernel_rfl) AppW.start (fun t v w w' hc h => specAtR_st _ t v w w' hc h) (by rfl) (by kernel_rfl) ?start ?obs ?fin
                case start =>
                  simp only [List.forall_mem_cons]; exact ⟨⟨_, rfl, rfl⟩, ⟨_, rfl, rfl⟩, fun _ h => by cases h⟩
                case obs =>
                  refine ObsL.cons none (by kernel_rfl) ?_ ?_
                  · refine ObL.plain fun L a w hi he hW hk K k => ?_
                    clear hk
                    have hm := hW.made (.inl rfl) hi (.cells #[] 47)
                    have ho := own_zero8 (hW.ge (Nat.le_refl _))
                    clear he hi hW
                    go_simp
                    exact k _ _ (AppR.of_chg ((Chg.refl _ _).alloc _)) hm ⟨ho, fun _ => rfl⟩
                  refine ObsL.cons none (by kernel_rfl) ?_ ?_
                  · refine ObL.plain fun L a w hi he hW hk K k => ?_
                    obtain ⟨_, e0, f0⟩ := hk 0 (by decide)
                    clear hk
                    clear hi he
                    go_simp
                    exact k _ _ (AppR.refl _ _ _ _) (hW.step (by decide)) f0
                  refine ObsL.cons none (by kernel_rfl) ?_ ?_
                  · refine ObL.plain fun L a w hi he hW hk K k => ?_
                    obtain ⟨_, e88, f88⟩ := hk 88 (by decide)
                    obtain ⟨_, e89, rfl⟩ := hk 89 (by decide)
                    clear hk
                    have l0 : L 0 = true := he ⟨0, Ground.data⟩ (by simp) (by decide)
                    obtain ⟨v', w', hr, ho, hch, hrk, hcp, hcl, hsz⟩ := run_append_creds2 (zs := []) 22 f88.1 (HL.out w hW.rel.1) H00.out (by have := HS.out.1.1; simp; omega) (hW.ge (Nat.le_refl _))
                    have hcz := f88.2 rfl
                    have hc := hcp hcz
                    rw [hcz] at hsz hcl
                    have hm := hW.app1 hi l0 hc hsz
                    exact ob_append 22 rfl e88 e89 hr (k _ _ (AppR.of_chg hc) hm ⟨ho, hcl⟩)
                  refine ObsL.cons none (by kernel_rfl) ?_ ?_
                  · refine ObL.plain fun L a w hi he hW hk K k => ?_
                    obtain ⟨_, e3, rfl⟩ := hk 3 (by decide)
                    clear hk
                    obtain ⟨a0, a1, a2, a3, a4, a5, a6, a7, a8⟩ := cred_at_blk (blk_keep HAm.out.1 hW.rel.1 (fun h => absurd h.1 (Nat.not_le.2 HAm.out.2)))
                    simp only [Nat.zero_add] at a0 a1 a2 a3 a4 a5 a6 a7 a8
                    have hs := hW.still (i := 3) (by decide)
                    clear he hi hW
                    go_simp
                    exact k _ _ (AppR.refl _ _ _ _) hs rfl
                  refine ObsL.cons none (by kernel_rfl) ?_ ?_
                  · refine ObL.plain fun L a w hi he hW hk K k => ?_
                    obtain ⟨_, e91, rfl⟩ := hk 91 (by decide)
                    clear hk
                    have hm := hW.made (.inr rfl) hi (.cells #[.int .i64 mc.kind, .string ⟨mc.head.1.toArray⟩, .string ⟨mc.head.2.toArray⟩, .string ⟨mc.who.toArray⟩, .string ⟨mc.b.1.toArray⟩, .string ⟨mc.b.2.toArray⟩, .string ⟨mc.c.1.toArray⟩, .string ⟨mc.c.2.toArray⟩, .string ⟨mc.w2.toArray⟩] 47)
                    have hb := heap_alloc_new w (.cells #[.int .i64 mc.kind, .string ⟨mc.head.1.toArray⟩, .string ⟨mc.head.2.toArray⟩, .string ⟨mc.who.toArray⟩, .string ⟨mc.b.1.toArray⟩, .string ⟨mc.b.2.toArray⟩, .string ⟨mc.c.1.toArray⟩, .string ⟨mc.c.2.toArray⟩, .string ⟨mc.w2.toArray⟩] 47)
                    have ho := own_one8 (c := mc) (hW.ge (Nat.le_refl _)) hb
                    clear he hi hW hb
                    go_simp
                    exact k _ _ (AppR.of_chg ((Chg.refl _ _).alloc _)) hm ⟨ho, fun h => (by cases h)⟩
                  refine ObsL.cons none (by kernel_rfl) ?_ ?_
                  · refine ObL.plain fun L a w hi he hW hk K k => ?_
                    obtain ⟨_, e90, f90⟩ := hk 90 (by decide)
                    obtain ⟨_, e92, f92⟩ := hk 92 (by decide)
                    clear hk
                    have l2 : L 2 = true := he ⟨2, Ground.data⟩ (by simp) (by decide)
                    have l4 : L 4 = true := he ⟨4, Ground.data⟩ (by simp) (by decide)
                    obtain ⟨ay, cy, hy, hcr, hy0⟩ := f92.1.creds (fun x hx => by rw [List.mem_singleton.1 hx]; exact HS.out.2.2)
                    subst hy
                    obtain ⟨v', w', hr, ho, hch, hrk, hcp, hcl, hsz⟩ := run_append_creds2 (zs := ls) 22 f90.1 hcr hy0 (by have := HS.out.1.1; simp; omega) (hW.ge (Nat.le_refl _))
                    obtain ⟨hR, hm⟩ := hW.app2 hi l2 l4 f90.2 hch hrk hcp hsz
                    exact ob_append 22 rfl e90 e92 hr (k _ _ hR hm ⟨ho, fun h => (by simp at h)⟩)
                  refine ObsL.cons none (by kernel_rfl) ?_ ?_
                  · refine ObL.plain fun L a w hi he hW hk K k => ?_
                    obtain ⟨_, e93, f93⟩ := hk 93 (by decide)
                    clear hk
                    have l5 : L 5 = true := he ⟨5, Ground.data⟩ (by simp) (by decide)
                    obtain ⟨ay, cy, hy, hcr, hy0⟩ := f93.1.creds (fun x hx => (HS.out.2.1.2 x hx).mono (by omega))
                    subst hy
                    have hq := HKH.out.of ay cy (ls ++ [mc]) w HS.out.2.1 hcr hy0 (fun i hi => hi.2)
                    have HWW := hid (And.intro hW l5)
                    obtain ⟨zs, HZ⟩ : ∃ zs, Hid (zs = ls ++ [mc]) := ⟨_, hid rfl⟩
                    rw [← HZ.out] at hq e93
                    clear he hi hW hcr
                    go_simp
                    refine hq.mono ?_
                    rintro e w9 ⟨g9, O9, rfl, hma9, hol9, hc9⟩
                    rw [HZ.out] at hma9
                    exact k _ _ (AppR.of_chg hc9) (HWW.out.1.call (.inl rfl) HWW.out.2 hc9) ⟨g9, O9, rfl, hma9, fun i hi => Nat.le_trans (HWW.out.1.late HWW.out.2).1 (hol9 i hi)⟩
                  refine ObsL.cons none (by kernel_rfl) ?_ ?_
                  · refine ObL.plain fun L a w hi he hW hk K k => ?_
                    obtain ⟨_, e94, f94⟩ := hk 94 (by decide)
                    clear hk
                    have hS := hW.call (i := 7) (.inr (.inl rfl)) (hW.six (he ⟨6, Ground.data⟩ (by simp) (by decide))) (Chg.refl _ _)
                    clear hi he hW
                    go_simp
                    exact k _ _ (AppR.refl _ _ _ _) hS f94
                  exact ObsL.nil
                case fin =>
                  intro L vals w12 hL hW hv
                  obtain ⟨g9, O9, h14, hma9, hO9⟩ : ∃ (g9 : Nat) (O9 : Nat → Prop), vals 14 = .pointer (some ⟨g9, 0, none⟩) ∧ MA O9 w12 g9 (ls ++ [mc]) ∧ (∀ i, O9 i → w11.heap.size + 3 ≤ i) := hv 14 (by decide)
                  have hc12 : Chg (fun _ => False) w11 w12 := hW.rel.1.mono (fun i hi h => absurd hi (Nat.not_lt.2 h.1))
                  have HL12 := hid (HL11.out.keep HK1 hc12)
                  have HM9 := hid hma9
                  obtain ⟨ys, hys⟩ := model_ex (ls ++ [mc])
                  have HY := hid hys
                  clear hL hW hv hma9 hO9 hc12 hys HL HAm HL11 HK1
                  simp only [putAll, List.setIfInBounds_toArray, List.set_cons_zero, List.set_cons_succ, h14]
                  clear h14
                  go_wp2
                  go_loopw [97] (fun i wr => ∃ k : Nat, i = .int .i64 k ∧ k ≤ xs.length ∧ Hid (Chg (fun _ => False) w12 wr)) (fun i _ => xs.length - (intOf i).toNat)
                  case atStart => exact ⟨0, rfl, Nat.zero_le _, hid (Chg.refl _ _)⟩
                  case round =>
                    rename World => wr3
                    obtain ⟨k, rfl, hk, hc⟩ := hrel
                    by_cases hlt : k < xs.length
                    · obtain ⟨b2, off2, hah, _, hft⟩ := (HL12.out.fx.keep hc.out (fun _ _ => id)) k hlt
                      have hin : inF ys xs[k].1 xs[k].2 = true := inF_iff.2 ((HY.out.2 _).2 (Der.mono (fun c hc _ => List.mem_append_left _ hc) ((HX.out.2 _).1 (List.getElem_mem hlt))))
                      have HFS := hid (HX.out.short _ (List.getElem_mem hlt))
                      have HJL := hid hlt
                      generalize xs[k] = f at *
                      obtain ⟨f0, f1, f2⟩ := hft
                      have hSb : (wr3.alloc (.cells #[.string ⟨f.1.1.toArray⟩, .string ⟨f.1.2.toArray⟩, .string ⟨f.2.toArray⟩] 52)).heap[wr3.heap.size]? = some (.cells (factBox f) 52 (0, 0)) := heap_alloc_new wr3 _
                      have hal : Chg (fun _ => False) wr3 (wr3.alloc (.cells #[.string ⟨f.1.1.toArray⟩, .string ⟨f.1.2.toArray⟩, .string ⟨f.2.toArray⟩] 52)) := (Chg.refl _ wr3).alloc _
                      obtain ⟨s0, s1, s2⟩ := fact_at_blk hSb
                      simp only [Nat.zero_add] at s0 s1 s2
                      have HM := hid (hc.out.trans hal (fun _ _ h => h))
                      have HIQ := hid (HKH.out.inn g9 (ls ++ [mc]) ys f.1 f.2 (wr3.alloc (.cells #[.string ⟨f.1.1.toArray⟩, .string ⟨f.1.2.toArray⟩, .string ⟨f.2.toArray⟩] 52)) (HKH.out.keep HM9.out HM.out (fun _ _ => id)) HS.out.2.1 HY.out (by have := HFS.out.1; omega) (by have := HFS.out.2.1; omega) (by have := HFS.out.2.2; omega))
                      rw [hin] at HIQ
                      clear hSb hal hc hin
                      subst hah
                      go_wp2_with fail
                      refine HIQ.out.mono ?_
                      clear HIQ s0 s1 s2 f0 f1 f2
                      generalize wr3.alloc (.cells #[.string ⟨f.1.1.toArray⟩, .string ⟨f.1.2.toArray⟩, .string ⟨f.2.toArray⟩] 52) = w13 at *
                      rintro e w14 ⟨rfl, hc10⟩
                      have HMM := hid (HM.out.trans hc10 (fun _ _ h => h))
                      clear hc10 HM
                      go_wp2
                      go_roundw
                      case rel => exact ⟨k + 1, by go_num, by have := HJL.out; omega, HMM⟩
                      case measure => have := HJL.out; simp [intOf]; omega
                    · have HL14 := hid (HL12.out.keep HKH.out hc.out)
                      have HFD := hid (@founded_any _ HKH.out _ (fun _ => True) _ ao ax an cp cx cn ls xs ns wr3 HS.out.1 HX.out hnl HNS.out.nm HNS.out.who HL14.out.cr HL14.out.st)
                      clear hc
                      go_wp2_with fail
                      refine HFD.out.mono ?_
                      rintro e w15 ⟨rfl, hc15⟩
                      have HEND := hid (HL14.out.ch.trans hc15 (fun _ _ h => h))
                      clear hc15 HFD HL14
                      go_wp2
                      go_ret
                      exact ⟨rfl, HEND.out⟩
    · have z2 : decide ((300 : Int) < (totalC [mc] : Int)) = true := decide_eq_true (by omega)
      go_wp2
      go_ret
      exact ⟨rfl, H3.out.2.1⟩
  · have z1 : decide ((1200 : Int) < (totalC ls : Int)) = true := decide_eq_true (by omega)
    go_wp2
    go_ret
    exact ⟨rfl, HC2.out.2.1⟩
end Go.Proofs.YtanompfdjfgfbaaGreat

/- The law ModelLeast of layer 8, at every list of credentials and one more that hold together at most 1048576 values and letters. -/
namespace Go.Proofs.YtanompfdjfgfbaaGreat
open Go.ChangeShapes Go.WideShapes Go.ChangeAt Go.RowKit

set_option maxRecDepth 100000 in
theorem modelLeast_lifted {MA : (Nat → Prop) → World → Nat → List CredB → Prop} (HK : MK MA) (os : Os) (started : os.Started) (H : Type) (enc : TypeId × Value → H) (F : Stop.Interp) :
    ReturnsInHanded {} Tryz.checked os 5 .any ((Rows.OpenSpec.upto Rows.modelLeastSpec).pre6 enc Tryz.prog Tryz.f5 Rows.modelLeastUptoRow.domain false) (((Rows.OpenSpec.upto Rows.modelLeastSpec).at F).post enc Tryz.prog Tryz.f5 false true false false) := by
  refine handed_cond_shaped (C := Tryz.checked) (s := Rows.OpenSpec.upto Rows.modelLeastSpec) (k := Rows.uptoSmall) rfl Tryz.own started (by kernel_rfl) Tryz.func5
    (OpenSpec.witness (enc := enc) (C := Tryz.checked) (s := Rows.OpenSpec.upto Rows.modelLeastSpec) (k := Rows.uptoSmall) rfl false ⟨#[], #[.slice none 0 0, credV noCred], []⟩ 8 (by kernel_rfl) (by kernel_rfl) (by kernel_rfl)
      (x := ([.nil, .agg [.lit (.int .i64 0), .agg [.lit (.string []), .lit (.string [])], .lit (.string []), .agg [.lit (.string []), .lit (.string [])], .agg [.lit (.string []), .lit (.string [])], .lit (.string [])]], [], [])) (by kernel_rfl) rfl (by kernel_rfl)) ?_
  intro W base args ds gs before hshp hval0 hW hk
  have hval : ∀ (j : Nat) t v, Tryz.f5.params[j]? = some t → args[j]? = some v → Value.okWide Tryz.prog W .any base t v := hval0
  have hW' := hW
  obtain ⟨p, q, hA0, hV, rfl, hfz, hnd⟩ := hW
  have hA : DataW.TrodAll enc Tryz.prog W 0 (fun _ => true) true Tryz.f5.params.toList args.toList ds p := hA0
  rw [Tryz.params5] at hA hval
  obtain ⟨v0, v1, d0, d1, p0, p1, rfl, rfl, rfl, h0, h1⟩ := trodAll_two hA
  obtain ⟨rfl, rfl⟩ := trodVars_none hV
  have k0 := h0
  have k1 := h1
  have lt0 : ∀ x ∈ p0, x.block < W.heap.size := by obtain ⟨m, hm⟩ := k0; exact DataW.trod_lt m _ _ _ hm
  have lt1 : ∀ x ∈ p1, x.block < W.heap.size := by obtain ⟨m, hm⟩ := k1; exact DataW.trod_lt m _ _ _ hm
  have hk' := of_decide_eq_true hk
  simp only [List.append_nil, Rows.uptoBulkAll] at hk'
  obtain ⟨a0, len0, cap0, rfl⟩ := okWide_slice Tryz.underlying22 (hval 0 22 v0 rfl rfl)
  obtain ⟨fuel0, hf0⟩ := h0
  obtain ⟨ao, cap, xs, hcs, hst0, ht0, z0⟩ := open_creds hf0
  simp only [Value.cells, List.cons.injEq, and_true, Value.slice.injEq] at hcs
  obtain ⟨rfl, rfl, rfl⟩ := hcs
  obtain ⟨mc, rfl, hsh, ha⟩ := open_cred (hval 1 47 v1 rfl rfl) h1
  dsimp only at ht0
  clear hA0 hval0
  refine (mleast_main HK (mfirst HK) _ _ xs mc W (by omega) (by simp only [totalC]; omega) hst0 z0 (fun _ h => h)).mono fun e W' ⟨he, hc⟩ => ?_
  subst he
  have bel : Below W.heap.size W W' := hc.below (Nat.le_refl _) (fun _ _ => id)
  exact ⟨_, rfl, _, _, _, [], _, [], hW', trodAll_mk1 (shut_bool Tryz.underlying4 _), (trodAll_cons_mk (Below.trod Tryz.laidOut (by kernel_rfl) (of_decide_eq_true (by kernel_rfl)) k0 bel lt0) (trodAll_cons_mk (Below.trod Tryz.laidOut (by kernel_rfl) (of_decide_eq_true (by kernel_rfl)) k1 bel lt1) trodAll_mk0)), rfl, bel.frame _, fun h => by cases h⟩

theorem modelLeast_said {MA : (Nat → Prop) → World → Nat → List CredB → Prop} (HK : MK MA) : Rows.ModelLeastUptoSaid :=
  OpenClaim.holds_of_cond 5 Tryz.f5 rfl rfl rfl rfl rfl rfl rfl ⟨rfl, rfl, rfl, rfl, rfl⟩ rfl rfl rfl rfl rfl (by kernel_rfl) Tryz.func5 (by kernel_rfl)
    (of_decide_eq_true (by kernel_rfl)) (by unfold Func.isWrapper; first | (rw [if_pos (by decide +kernel)]; kernel_rfl) | (rw [if_neg (by decide +kernel)]; exact ⟨rfl, rfl⟩))
    (fun os started H enc _ F => modelLeast_lifted HK os started H enc F)
end Go.Proofs.YtanompfdjfgfbaaGreat
