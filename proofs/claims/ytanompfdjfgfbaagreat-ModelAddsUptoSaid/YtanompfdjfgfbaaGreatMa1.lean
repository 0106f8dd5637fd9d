/- Texts that the proof leans on, in one: ModelAdds, ModelOpen, ModelAddsRow. -/
import Derived.Test.YtanompfdjfgfbaaGreatMb9
import Derived.Test.YtanompfdjfgfbaaGreatMb10
import Derived.Test.YtanompfdjfgfbaaGreatMb5
import Derived.Test.YtanompfdjfgfbaaGreatMb13
import Derived.Test.YtanompfdjfgfbaaGreatMb12
import Derived.ChangeMaps5
import Derived.ProofKit
import Derived.OpenShut
/- The law ModelAdds, walked, over the contracts of ModelK. -/
namespace Go.Proofs.YtanompfdjfgfbaaGreat
open Go.RowKit

/-- A list of lists of credentials. -/
def CredLs (D : Nat → Prop) (w : World) (ao : Option Addr) (lls : List (List CredB)) : Prop :=
  ∀ i (h : i < lls.length), ∃ b off a c, ao = some ⟨b, off, none⟩ ∧ D b ∧ w.cell? ⟨b, off + i, none⟩ = some (.slice a lls[i].length c) ∧ (a = none → c = 0) ∧ CredsAt D w a lls[i]

theorem CredLs.keep {S D : Nat → Prop} {w w' : World} {ao : Option Addr} {lls : List (List CredB)} (h : CredLs D w ao lls) (hc : Chg S w w') (hS : ∀ i, D i → ¬ S i) : CredLs D w' ao lls := fun i hi =>
  let ⟨b, off, a, c, h1, h2, h3, h4, h5⟩ := h i hi
  ⟨b, off, a, c, h1, h2, hc.cell h3 (hS b h2), h4, h5.keep hc hS⟩

theorem Der.nil8 {f : FactB} (h : Der [] f) : False := by
  obtain ⟨c, hc, _⟩ := h.head
  cases hc

theorem ModelOf.nil8 : ModelOf [] [] := ⟨trivial, fun f => ⟨fun h => (by cases h), fun h => (Der.nil8 h).elim⟩⟩

theorem totalC_app8 (a b : List CredB) : totalC (a ++ b) = totalC a + totalC b := by
  induction a with
  | nil => simp [totalC]
  | cons x l ih => rw [List.cons_append, totalC, totalC, ih]; omega

theorem totalC_shorts {ls : List CredB} (h : totalC ls ≤ 9223372036854775807) : ∀ c ∈ ls, credShort c 9223372036854775807 := fun _ hc => sizeC_short (Nat.le_trans (totalC_mem hc) h)

theorem own_lt8 {B : Nat} {w : World} {v : Value} {ls : List CredB} (h : OwnC B w v ls) (k : Nat) (e : v.ownBlock = some k) : B ≤ k ∧ k < w.heap.size := ownsRow_lt h k e

set_option maxRecDepth 100000 in
set_option maxHeartbeats 8000000 in
theorem madds_main {MA : (Nat → Prop) → World → Nat → List CredB → Prop} (HK0 : MK MA) (hfirst : ∀ w : World, Calls Tryz.prog 6 #[] w fun e w' => e = .returned (.bool true) ∧ Chg (fun _ => False) w w')
    {D : Nat → Prop} (ao : Option Addr) (cp : Nat) (lls : List (List CredB)) (w : World) (_ : lls.length ≤ 4611686018427387904) (hs : ∀ l ∈ lls, totalC l ≤ 33550000) (h : CredLs D w ao lls) (hD : ∀ i, D i → i < w.heap.size) :
    Calls Tryz.prog 4 #[.slice ao lls.length cp] w fun e w' => e = .returned (.bool true) ∧ Chg (fun _ => False) w w' := by
  have HF := hid hfirst
  have HKH := hid HK0
  have HH := hid (And.intro h hD)
  have HSS := hid hs
  clear hfirst h hD hs HK0
  go_enter Tryz.func4, Tryz.ntmps4
  go_wp2_with fail
  refine (HF.out _).mono ?_
  rintro e w1 ⟨rfl, hc1⟩
  have HO := hid (HKH.out.of (D := D) none 0 [] w1 ⟨by simp, fun _ h => by cases h⟩ (CredsAt.nil _ _ _) (fun _ => rfl) (fun i hi => Nat.lt_of_lt_of_le (HH.out.2 i hi) hc1.size))
  have HC1 := hid hc1
  clear hc1
  go_wp2_with fail
  refine HO.out.mono ?_
  rintro e w2 ⟨g, O, rfl, hma, hol, hc2⟩
  have HM2 := hid (And.intro hma (And.intro (fun i hi => Nat.le_trans HC1.out.size (hol i hi)) (HC1.out.trans hc2 (fun _ _ h => h))))
  clear hma hol hc2 HO HC1 HF
  go_wp2
  go_loopw [3, 5, 14] (fun v wa i wr => ∃ (k : Nat) (al : List CredB) (xs : List FactB) (O : Nat → Prop) (aa : Option Addr) (ca : Nat), v = .slice aa al.length ca ∧ wa = .int .i64 xs.length ∧ i = .int .i64 k ∧ k ≤ lls.length ∧ k ≤ 20 ∧ xs.length ≤ 4000000 ∧ al.length ≤ 1200 ∧ Hid (OwnC w.heap.size wr v al ∧ MA O wr g al ∧ (∀ i, O i → w.heap.size ≤ i) ∧ (∀ i, v.ownBlock = some i → ¬ O i) ∧ totalC al ≤ 1200 ∧ ModelOf al xs ∧ Chg (fun _ => False) w wr)) (fun _ _ i _ => lls.length - (intOf i).toNat)
  case atStart => exact ⟨0, [], [], O, none, 0, rfl, rfl, rfl, Nat.zero_le _, by omega, by simp, by simp, hid ⟨World.ownsRow_nil _ _ _ _, HM2.out.1, HM2.out.2.1, fun i e => (by cases e), Nat.zero_le _, ModelOf.nil8, HM2.out.2.2⟩⟩
  case round =>
    obtain ⟨k, al, xs, O, aa, ca, rfl, rfl, rfl, hk, hk20, hxl, hall, HR⟩ := hrel
    clear HM2
    by_cases hlt : k < lls.length
    · obtain ⟨b, off, al2, cl2, hao, hDb, hcell, h00, hcs⟩ := (HH.out.1.keep HR.out.2.2.2.2.2.2 (fun _ _ => id)) k hlt
      have HL : Hid (totalC lls[k] ≤ 33550000) := hid (HSS.out _ (List.getElem_mem hlt))
      have hll : lls[k].length ≤ 33550000 := Nat.le_trans (totalC_len lls[k]) HL.out
      have HKL := hid hlt
      generalize lls[k] = l at *
      have HC := hid (And.intro h00 hcs)
      have hsz := HR.out.2.2.2.2.2.2.size
      clear h00 hcs
      subst hao
      go_wp2_with (at_builtin; refine wpList_append_creds rfl (.tmp 19) (.tmp 20) rfl w.heap.size _ al rfl HR.out.1 _ _ _ rfl HC.out.2 HC.out.1 (by omega) hsz ?_)
      intro v' w3 ho3 hgr hat
      obtain ⟨ho, hma, hO, hno, htc, hmo, hcw⟩ := HR.out
      have hlow := HKH.out.low hma
      have hgS : Chg (fun i => Value.ownBlock (.slice aa al.length ca) = some i) wr w3 := (Chg.refl _ wr).grown hgr (fun i e _ => e)
      have hown0 : ∀ i, Value.ownBlock (.slice aa al.length ca) = some i → w.heap.size ≤ i := fun i e => (own_lt8 ho i e).1
      have hma3 := HKH.out.keep hma hgS (fun i hi e => hno i e hi)
      have hc3 : Chg (fun _ => False) w w3 := hcw.trans hgS (fun i hi e => absurd hi (Nat.not_lt.2 (hown0 i e)))
      have hno3 : ∀ i, v'.ownBlock = some i → ¬ O i := fun i e => by
        rcases hat with h1 | h1
        · exact hno i (h1 ▸ e)
        · rw [h1] at e; injection e with e; subst e
          exact fun h => absurd (hlow _ h) (Nat.lt_irrefl _)
      have htt := totalC_app8 al l
      have HADD : Hid (∀ w5, MA O w5 g al → totalC (al ++ l) ≤ 20000 → CredsAt D w5 al2 l → (∀ i, D i → i < w5.heap.size) → _) := hid (fun w5 h1 h2 h3 h4 => HKH.out.add g al2 cl2 al l w5 h1 (SmallC.of h2) h3 HC.out.1 h4)
      generalize hzz : al ++ l = zs at *
      clear hzz
      obtain ⟨a3, k3, hv3⟩ := ho3.shape
      subst hv3
      have hcs3 := HC.out.2.keep hgS (fun i h e => absurd (HH.out.2 i h) (Nat.not_lt.2 (hown0 i e)))
      have hLt := HL.out
      have hshort : ∀ c ∈ zs, credShort c 9223372036854775807 := totalC_shorts (by omega)
      obtain ⟨a4, k4, hv4, hcr, _⟩ := ho3.creds hshort
      cases hv4
      have hlo3 : ∀ i, O i → i < w3.heap.size := fun i hi => Nat.lt_of_lt_of_le (hlow i hi) hgS.size
      have HG := hid (great_any a3 k3 (zs) w3 (by omega) hcr)
      have H3 := hid (And.intro ho3 (And.intro hma3 (And.intro hO (And.intro hno3 (And.intro hmo (And.intro hc3 (And.intro hcs3 (And.intro hcr hlo3))))))))
      clear ho hma hO hno htc hmo hcw hlow hgS hown0 hma3 hc3 hno3 ho3 hgr hat hcs3 hshort hcr HR hlo3
      by_cases hk2 : k < 20
      · have z1 : decide ((20 : Int) ≤ (k : Int)) = false := decide_eq_false (by omega)
        go_wp2_with fail
        refine HG.out.mono ?_
        rintro e w4 ⟨rfl, hc4⟩
        have HC4 := hid hc4
        clear hc4 HG
        by_cases hgr : totalC (zs) ≤ 1200
        · have z2 : decide ((1200 : Int) < (totalC (zs) : Int)) = false := decide_eq_false (by omega)
          have hsm : SmallC (zs) := SmallC.of (by omega)
          have HSM := hid hsm
          have HFO := hid (rfof a3 k3 (zs) w4 (by have := hsm.1; omega) (H3.out.2.2.2.2.2.2.2.1.keep HC4.out (fun _ _ => id)) (fun i hi => Nat.lt_of_lt_of_le hi.2 HC4.out.size))
          clear hsm
          go_wp2_with fail
          refine HFO.out.mono ?_
          rintro e w5 ⟨ys, ay, cy, rfl, hmo5, hoy, hc5⟩
          have hyl := hmo5.few HSM.out
          have HA := hid (HADD.out w5 (HKH.out.keep H3.out.2.1 (HC4.out.trans hc5 (fun _ _ h => h)) (fun _ _ => id)) (by omega) (H3.out.2.2.2.2.2.2.1.keep (HC4.out.trans hc5 (fun _ _ h => h)) (fun _ _ => id)) (fun i hi => Nat.lt_of_lt_of_le (HH.out.2 i hi) (Nat.le_trans (H3.out.2.2.2.2.2.1.trans (HC4.out.trans hc5 (fun _ _ h => h)) (fun _ _ h => h)).size (Nat.le_refl _))))
          have H5 := hid (And.intro hmo5 (And.intro hoy (And.intro (HC4.out.trans hc5 (fun _ _ h => h)) HC4.out.size)))
          clear hmo5 hoy hc5 HFO HC4
          go_wp2_with fail
          refine HA.out.mono ?_
          rintro e w6 ⟨O2, he, hma6, hO2, hc6⟩
          have he2 := he xs ys H3.out.2.2.2.2.1 H5.out.1
          subst he2
          have e1 : IntKind.i64.wrap ((ys.length : Int) - (xs.length : Int)) = (ys.length : Int) - (xs.length : Int) := by rw [IntKind.wrap_i64]; omega
          have e2 : ((ys.length : Int) - (xs.length : Int) != (ys.length : Int) - (xs.length : Int)) = false := by simp
          have HFA := hid (HKH.out.facts g zs ys w6 hma6 HSM.out H5.out.1)
          have H6 := hid (And.intro hma6 (And.intro hO2 hc6))
          clear hma6 hO2 hc6 he HA
          go_wp2_with fail
          refine HFA.out.mono ?_
          rintro e w7 ⟨⟨af, cf, rfl, hfa⟩, hc7⟩
          obtain ⟨ay2, cy2, hv2, hfy, _⟩ := H5.out.2.1.facts
          cases hv2
          have hO5 : ∀ i, O i → w.heap.size ≤ i := H3.out.2.2.1
          have hc57 := H6.out.2.2.trans hc7 (fun _ _ h => h.elim)
          have HQ := hid (rfsame af ay cf cy ys ys w7 (by omega) (by omega) hfa (hfy.keep hc57 (fun i hi h => absurd (Nat.lt_of_lt_of_le (H3.out.2.2.2.2.2.2.2.2 i h) H5.out.2.2.2) (Nat.not_lt.2 hi.1))))
          have hss : sameF ys ys = true := by simp [sameF]
          rw [hss] at HQ
          have hc37 : Chg O w3 w7 := (H5.out.2.2.1.mono (fun _ _ h => h.elim)).trans hc57 (fun _ _ h => h)
          have hcw7 : Chg (fun _ => False) w w7 := H3.out.2.2.2.2.2.1.trans hc37 (fun i hi h => absurd hi (Nat.not_lt.2 (hO5 i h)))
          have hown7 := H3.out.1.keep hc37 (fun i e => H3.out.2.2.2.1 i e)
          have hma7 := HKH.out.keep H6.out.1 hc7 (fun _ _ => id)
          have hO7 : ∀ i, O2 i → w.heap.size ≤ i := fun i hi => (H6.out.2.1 i hi).elim (hO5 i) (fun h => Nat.le_trans (Nat.le_trans H3.out.2.2.2.2.2.1.size H5.out.2.2.1.size) h)
          have hno7 : ∀ i, Value.ownBlock (.slice a3 zs.length k3) = some i → ¬ O2 i := fun i e hi => (H6.out.2.1 i hi).elim (H3.out.2.2.2.1 i e) (fun h => absurd (Nat.lt_of_lt_of_le (own_lt8 H3.out.1 i e).2 H5.out.2.2.1.size) (Nat.not_lt.2 h))
          have H7 := hid (And.intro hown7 (And.intro hma7 (And.intro hO7 (And.intro hno7 (And.intro hgr (And.intro H5.out.1 hcw7))))))
          clear hown7 hma7 hO7 hno7 hcw7 hc37 hc57 hfa hfy hc7 hO5 hss HFA H6
          go_wp2_with fail
          refine HQ.out.mono ?_
          rintro e w8 ⟨rfl, n8, rfl⟩
          have hc8 : Chg (fun _ => False) w7 (w7.drewN n8) := ⟨rfl, rfl, rfl, Nat.le_refl _, fun _ _ _ => rfl⟩
          have H8 : Hid (_ ∧ _ ∧ _ ∧ _ ∧ _ ∧ _ ∧ _) := hid ⟨H7.out.1.keep hc8 (fun _ _ => id), HKH.out.keep H7.out.2.1 hc8 (fun _ _ => id), H7.out.2.2.1, H7.out.2.2.2.1, H7.out.2.2.2.2.1, H7.out.2.2.2.2.2.1, H7.out.2.2.2.2.2.2.trans hc8 (fun _ _ h => h)⟩
          generalize w7.drewN n8 = w9 at *
          clear hc8
          have hzl : zs.length ≤ 1200 := Nat.le_trans (totalC_len zs) hgr
          go_wp2
          go_roundw
          case rel => exact ⟨k + 1, zs, ys, O2, a3, k3, rfl, rfl, by go_num, by omega, by omega, hyl, hzl, H8⟩
          case measure => simp [intOf]; omega
        · have z2 : decide ((1200 : Int) < (totalC (zs) : Int)) = true := decide_eq_true (by omega)
          go_wp2
          go_ret
          exact ⟨rfl, H3.out.2.2.2.2.2.1.trans HC4.out (fun _ _ h => h)⟩
      · have z1 : decide ((20 : Int) ≤ (k : Int)) = true := decide_eq_true (by omega)
        go_wp2
        go_ret
        exact ⟨rfl, H3.out.2.2.2.2.2.1⟩
    · go_wp2
      go_ret
      exact ⟨rfl, HR.out.2.2.2.2.2.2⟩
end Go.Proofs.YtanompfdjfgfbaaGreat

/- Lists of lists of credentials that came in, opened to cells. -/
namespace Go.Proofs.YtanompfdjfgfbaaGreat
open Go.ChangeShapes Go.WideShapes Go.ChangeAt Go.RowKit Go.Deep

section
variable {H : Type} {enc : TypeId × Value → H} {w : World} {base : Nat} {held : Bool} {fuel : Nat}

theorem bulk_pos (d : DataW H) : 1 ≤ Rows.uptoBulk d := by
  cases d with
  | lit l => cases l <;> simp [Rows.uptoBulk]
  | _ => simp [Rows.uptoBulk]

theorem bulk_mem8 (D : Nat → DataW H) : ∀ (n i : Nat), i < n → Rows.uptoBulk (D i) ≤ Rows.uptoBulkAll ((List.range n).map D) := by
  intro n
  induction n generalizing D with
  | zero => intro i h; omega
  | succ n ih =>
    intro i h
    rw [List.range_succ_eq_map, List.map_cons, List.map_map]
    simp only [Rows.uptoBulkAll]
    cases i with
    | zero => omega
    | succ i =>
      have := ih (fun j => D (j + 1)) i (by omega)
      have e : (List.range n).map (D ∘ Nat.succ) = (List.range n).map (fun i => D (i + 1)) := rfl
      rw [e]
      omega

theorem bulk_len8 (D : Nat → DataW H) : ∀ (n : Nat), n ≤ Rows.uptoBulkAll ((List.range n).map D) := by
  intro n
  induction n generalizing D with
  | zero => omega
  | succ n ih =>
    rw [List.range_succ_eq_map, List.map_cons, List.map_map]
    simp only [Rows.uptoBulkAll]
    have := ih (fun j => D (j + 1))
    have h0 := bulk_pos (D 0)
    have e : (List.range n).map (D ∘ Nat.succ) = (List.range n).map (fun i => D (i + 1)) := rfl
    rw [e]
    omega

set_option maxRecDepth 100000 in
/-- A list of lists of credentials that came in. -/
theorem open_credLs {cs : List Value} {x : DataW H × List MemPlace} (h : DataW.trod enc Tryz.prog w base (fun _ => true) held fuel 44 cs = some x) :
    ∃ (ao : Option Addr) (cap : Nat) (lls : List (List CredB)), cs = [.slice ao lls.length cap] ∧ CredLs (fun k => k < w.heap.size) w ao lls ∧ (∀ l ∈ lls, totalC l ≤ 3 * Rows.uptoBulk x.1) ∧ lls.length ≤ Rows.uptoBulk x.1 := by
  rcases open_slice Tryz.underlying44 h with ⟨rfl, rfl⟩ | ⟨a, len, cap, m, n, D, Pl, rfl, _, hl, hm, hmm, rfl, hi⟩
  · exact ⟨none, 0, [], rfl, fun i hi => (by cases hi), fun l hl => (by cases hl), Nat.zero_le _⟩
  · simp only [if_true] at hmm
    have hc1 : Tryz.prog.cellsOf 22 = 1 := by kernel_rfl
    have each : ∀ i, i < len → ∃ y : List CredB, (∃ b off a2 c2, some a = some ⟨b, off, none⟩ ∧ b < w.heap.size ∧ w.cell? ⟨b, off + i, none⟩ = some (.slice a2 y.length c2) ∧ (a2 = none → c2 = 0) ∧ CredsAt (fun k => k < w.heap.size) w a2 y) ∧ totalC y ≤ 3 * Rows.uptoBulk (D i) := by
      intro i hil
      obtain ⟨cs', hcs, ht⟩ := hi i (by omega)
      rw [hc1] at hcs
      obtain ⟨a2, c2, y, hr, h1, h2, h3⟩ := open_creds ht
      subst hr
      obtain ⟨_, _, hat⟩ := World.cells?_some hcs
      have hs : a = ⟨a.block, a.off, none⟩ := by
        obtain ⟨cs'', hcs'', ht''⟩ := hi 0 (by omega)
        rw [hc1] at hcs''
        obtain ⟨_, _, _, hr'', _⟩ := open_creds ht''
        subst hr''
        obtain ⟨_, _, hat''⟩ := World.cells?_some hcs''
        have q := hat'' 0 (by decide)
        rw [Nat.zero_mul, add_zero, add_zero] at q
        exact spot_none q
      have q := hat 0 (by decide)
      rw [hs, add_off, add_off, Nat.mul_one, Nat.add_zero] at q
      exact ⟨y, ⟨a.block, a.off, a2, c2, congrArg some hs, World.block_lt_of_cell? w ⟨a.block, a.off + i, none⟩ q, q, h3, h1⟩, h2⟩
    obtain ⟨xs, hlen, hp⟩ := choose_roles len _ each
    subst hlen
    refine ⟨some a, cap, xs, rfl, fun i hi => (hp i hi).1, fun l hl => ?_, ?_⟩
    · obtain ⟨i, hi, rfl⟩ := List.getElem_of_mem hl
      have h1 := (hp i hi).2
      have h2 := bulk_mem8 D xs.length i hi
      simp only [Rows.uptoBulk]
      omega
    · have := bulk_len8 D xs.length
      simp only [Rows.uptoBulk]
      omega
end
end Go.Proofs.YtanompfdjfgfbaaGreat

/- The law ModelAdds of layer 8, at every list of lists of credentials that hold together at most 1048576 values and letters. -/
namespace Go.Proofs.YtanompfdjfgfbaaGreat
open Go.ChangeShapes Go.WideShapes Go.ChangeAt Go.RowKit

set_option maxRecDepth 100000 in
theorem modelAdds_lifted {MA : (Nat → Prop) → World → Nat → List CredB → Prop} (HK : MK MA) (os : Os) (started : os.Started) (H : Type) (enc : TypeId × Value → H) (F : Stop.Interp) :
    ReturnsInHanded {} Tryz.checked os 4 .any ((Rows.OpenSpec.upto Rows.modelAddsSpec).pre6 enc Tryz.prog Tryz.f4 Rows.modelAddsUptoRow.domain false) (((Rows.OpenSpec.upto Rows.modelAddsSpec).at F).post enc Tryz.prog Tryz.f4 false true false false) := by
  refine handed_cond_shaped (C := Tryz.checked) (s := Rows.OpenSpec.upto Rows.modelAddsSpec) (k := Rows.uptoSmall) rfl Tryz.own started (by kernel_rfl) Tryz.func4
    (OpenSpec.witness (enc := enc) (C := Tryz.checked) (s := Rows.OpenSpec.upto Rows.modelAddsSpec) (k := Rows.uptoSmall) rfl false ⟨#[], #[.slice none 0 0], []⟩ 8 (by kernel_rfl) (by kernel_rfl) (by kernel_rfl)
      (x := ([.nil], [], [])) (by kernel_rfl) rfl (by kernel_rfl)) ?_
  intro W base args ds gs before hshp hval0 hW hk
  have hval : ∀ (j : Nat) t v, Tryz.f4.params[j]? = some t → args[j]? = some v → Value.okWide Tryz.prog W .any base t v := hval0
  have hW' := hW
  obtain ⟨p, q, hA0, hV, rfl, hfz, hnd⟩ := hW
  have hA : DataW.TrodAll enc Tryz.prog W 0 (fun _ => true) true Tryz.f4.params.toList args.toList ds p := hA0
  rw [Tryz.params4] at hA hval
  obtain ⟨v0, d0, rfl, rfl, h0⟩ := trodAll_one hA
  obtain ⟨rfl, rfl⟩ := trodVars_none hV
  have k0 := h0
  have lt0 : ∀ x ∈ p, x.block < W.heap.size := by obtain ⟨m, hm⟩ := k0; exact DataW.trod_lt m _ _ _ hm
  have hk' := of_decide_eq_true hk
  simp only [List.append_nil, Rows.uptoBulkAll] at hk'
  obtain ⟨a0, len0, cap0, rfl⟩ := okWide_slice Tryz.underlying44 (hval 0 44 v0 rfl rfl)
  obtain ⟨fuel0, hf0⟩ := h0
  obtain ⟨ao, cap, xs, hcs, hst0, ht0, hl0⟩ := open_credLs hf0
  simp only [Value.cells, List.cons.injEq, and_true, Value.slice.injEq] at hcs
  obtain ⟨rfl, rfl, rfl⟩ := hcs
  dsimp only at ht0 hl0
  clear hA0 hval0
  refine (madds_main HK (mfirst HK) _ _ xs W (by omega) (fun l hl => by have := ht0 l hl; omega) hst0 (fun _ h => h)).mono fun e W' ⟨he, hc⟩ => ?_
  subst he
  have bel : Below W.heap.size W W' := hc.below (Nat.le_refl _) (fun _ _ => id)
  exact ⟨_, rfl, _, _, _, [], _, [], hW', trodAll_mk1 (shut_bool Tryz.underlying4 _), (trodAll_mk1 (Below.trod Tryz.laidOut (by kernel_rfl) (of_decide_eq_true (by kernel_rfl)) k0 bel lt0)), rfl, bel.frame _, fun h => by cases h⟩

theorem modelAdds_said {MA : (Nat → Prop) → World → Nat → List CredB → Prop} (HK : MK MA) : Rows.ModelAddsUptoSaid :=
  OpenClaim.holds_of_cond 4 Tryz.f4 rfl rfl rfl rfl rfl rfl rfl ⟨rfl, rfl, rfl, rfl, rfl⟩ rfl rfl rfl rfl rfl (by kernel_rfl) Tryz.func4 (by kernel_rfl)
    (of_decide_eq_true (by kernel_rfl)) (by unfold Func.isWrapper; first | (rw [if_pos (by decide +kernel)]; kernel_rfl) | (rw [if_neg (by decide +kernel)]; exact ⟨rfl, rfl⟩))
    (fun os started H enc _ F => modelAdds_lifted HK os started H enc F)
end Go.Proofs.YtanompfdjfgfbaaGreat
