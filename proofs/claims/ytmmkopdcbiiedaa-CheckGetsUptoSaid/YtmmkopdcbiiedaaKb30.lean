/- Texts that the proof leans on, in one: CheckGets, CheckGetsRow, CheckFin. -/
import Derived.Test.YtmmkopdcbiiedaaKb25
import Derived.Test.YtmmkopdcbiiedaaKb29
import Derived.ChangeMaps5
import Derived.ProofKit
import Derived.OpenShut
import Derived.Test.YtmmkopdcbiiedaaKb28
import Derived.Test.YtmmkopdcbiiedaaKb27
/- The law CheckGets, walked, over the contracts of CheckG: the bytes of any chain, and which chain any bytes are. -/
namespace Go.Proofs.Ytmmkopdcbiiedaa
open Go.RowKit

theorem tapeEnd_badK {l : List UInt8} {e : Int} (h : e ≠ 0) : tapeEnd l e = e := by
  unfold tapeEnd endOf
  rw [if_neg h]

theorem chainGo_len : ∀ (n : Nat) (l : List UInt8) (acc ls : List StepB) (r : List UInt8), chainGo n l acc = .ok ls r → ls.length = acc.length + n
  | 0, l, acc, ls, r, h => by cases h; rfl
  | n + 1, l, acc, ls, r, h => by
    rw [chainGo] at h
    split at h
    · cases h
    · split at h
      · have := chainGo_len n _ _ _ _ h
        rw [this, List.length_append]
        simp
        omega
      · cases h
theorem chainGet_len {l : List UInt8} {most : Int} {ls : List StepB} {r : List UInt8} (hm : most ≤ 255) (h : chainGet l most = .ok ls r) : ls.length ≤ 255 := by
  unfold chainGet at h
  split at h
  · rename_i he
    have h1 := chainGo_len _ _ _ _ _ h
    have h2 : numOf l ≤ 255 := by
      unfold errNum at he
      unfold numOf
      split at he
      · split at he
        · cases he
        · omega
      · exact absurd he (by assumption)
    rw [h1]
    simp
    omega
  · cases h

set_option maxRecDepth 100000 in
set_option maxHeartbeats 8000000 in
theorem kgets_small (HK0 : CG) (hfirst : ∀ w : World, Calls Try.prog 7 #[] w fun e w' => e = .returned (.bool true) ∧ Chg (fun _ => False) w w')
    {D E : Nat → Prop} (ao a1 : Option Addr) (cp c1 : Nat) (ls : List StepB) (b : List UInt8) (most : Int) (w : World) (hm0 : 0 ≤ most) (hm : most ≤ 255) (hsz : totalSt ls ≤ 2500) (hb : b.length ≤ 1500) (hzl0 : (chainBytes ls).length ≤ 140737488355328) (h : StepsAt D w ao ls) (hD : ∀ i, D i → i < w.heap.size) (k1 : BytesAt E w (.slice a1 b.length c1) b) (hE : ∀ i, E i → i < w.heap.size) :
    Calls Try.prog 5 #[.slice ao ls.length cp, .slice a1 b.length c1, .int .u8 most] w fun e w' => e = .returned (.bool true) ∧ Chg (fun _ => False) w w' := by
  have hl := totalSt_len ls
  have d1 : decide ((2500 : Int) < (totalSt ls : Int)) = false := decide_eq_false (by omega)
  have d2 : decide ((1500 : Int) < (b.length : Int)) = false := decide_eq_false (by omega)
  have HK := hid HK0
  have HMO := hid (And.intro hm0 hm)
  have hA1 : (w.alloc (.cells #[.int .u8 most] 5)).heap[w.heap.size]? = some (.cells #[.int .u8 most] 5 (0, 0)) := heap_alloc_new w _
  have hc1 : Chg (fun _ => False) w (w.alloc (.cells #[.int .u8 most] 5)) := (Chg.refl _ w).alloc _
  have HF := hid (hfirst (w.alloc (.cells #[.int .u8 most] 5)))
  have HA : Hid ((w.alloc (.cells #[.int .u8 most] 5)).heap[w.heap.size]? = some (.cells #[.int .u8 most] 5 (0, 0)) ∧ Chg (fun _ => False) w (w.alloc (.cells #[.int .u8 most] 5))) := hid ⟨hA1, hc1⟩
  have HX := hid (And.intro h (And.intro hD (And.intro k1 hE)))
  clear hA1 hc1 h hD k1 hE hfirst HK0
  go_enter Try.func5, Try.ntmps5
  go_wp2_with fail
  generalize (w.alloc (.cells #[.int .u8 most] 5)) = w1 at *
  obtain ⟨M, hMe⟩ : ∃ M, w.heap.size = M := ⟨_, rfl⟩
  have HM0 := hid hMe
  have HXD : Hid (∀ i, D i → i < M) := hid (by rw [← hMe]; exact HX.out.2.1)
  have HXE : Hid (∀ i, E i → i < M) := hid (by rw [← hMe]; exact HX.out.2.2.2)
  rw [hMe] at HA
  simp only [hMe]
  clear hMe
  refine HF.out.mono ?_
  rintro e w2 ⟨rfl, hc12⟩
  have HC2 := hid (HA.out.2.trans hc12 (fun _ _ h => h))
  have HA2 := hid (blk_keep HA.out.1 hc12 id)
  have HG := hid (great9 ao cp ls w2 (by omega) (HX.out.1.keep HC2.out (fun _ _ => id)))
  clear hc12 HF HA
  go_wp2_with fail
  refine HG.out.mono ?_
  rintro e w3 ⟨rfl, hc23⟩
  have HC3 := hid (HC2.out.trans hc23 (fun _ _ h => h))
  have HA3 := hid (blk_keep HA2.out hc23 id)
  have hM3 : M < w3.heap.size := lt_blk HA3.out
  clear hc23 HG HC2 HA2
  have hpn := pen_new w3 (w3.heap.size + 1)
  have hal : Chg (fun _ => False) w3 (w3.alloc (.cells #[.slice none 0 0] 48)) := (Chg.refl _ w3).alloc _
  have HP := hid hpn
  have HC4 := hid (HC3.out.trans hal (fun _ _ h => h))
  have HA4 := hid (blk_keep HA3.out hal id)
  have HBY := hid (rkbytes ao cp ls (w3.alloc (.cells #[.slice none 0 0] 48)) (by omega) (HX.out.1.keep HC4.out (fun _ _ => id)))
  have hs4 : w3.heap.size < (w3.alloc (.cells #[.slice none 0 0] 48)).heap.size := by simp
  clear hpn hal HC3 HA3
  go_wp2_with fail
  clear d1 d2
  generalize (w3.alloc (.cells #[.slice none 0 0] 48)) = w4 at *
  obtain ⟨P, hPe⟩ : ∃ P, w3.heap.size = P := ⟨_, rfl⟩
  rw [hPe] at HP hs4 hM3
  simp only [hPe]
  clear hPe
  refine HBY.out.mono ?_
  rintro e w5 ⟨rfl, hc45⟩
  have HC5 := hid (HC4.out.trans hc45 (fun _ _ h => h))
  have HA5 := hid (blk_keep HA4.out hc45 id)
  have hP5 : P < w5.heap.size := by have := hc45.size; omega
  have hwP : w.heap.size ≤ P := by have := HM0.out; omega
  have HPU := hid (HK.out.put (P + 1) P cp ao ls w5 hsz (HP.out.keep hc45 id (fun _ _ => id)) (by omega) (by omega) (HX.out.1.keep HC5.out (fun _ _ => id)) (fun i hi => by have h1 := HX.out.2.1 i hi; omega))
  clear hc45 HBY HP HC4 HA4 hs4
  obtain ⟨zs, hzs⟩ : ∃ zs, chainBytes ls = zs := ⟨_, rfl⟩
  rw [hzs] at hzl0 HPU
  simp only [hzs]
  obtain ⟨pb, hpb⟩ : ∃ pb, decide (zs ≠ []) = pb := ⟨_, rfl⟩
  have HZB : Hid ((zs == ([] : List UInt8)) = !pb) := hid (by rw [← hpb]; cases zs <;> simp)
  rw [hpb] at HPU
  clear hzs hpb
  go_wp2_with fail
  refine HPU.out.mono ?_
  rintro e w6 ⟨rfl, ⟨pa, pc, hp6⟩, hc56⟩
  have HC6 := hid (HC5.out.trans hc56 (T := (· = P)) (S := fun _ => False) (fun i hi h => by have h1 : i = P := h; omega))
  have HA6 := hid (blk_keep HA5.out hc56 (show ¬ M = P by omega))
  have HBB := hid (bytes_any _ _ _ _ zs _ hp6 hzl0)
  have z31 := HZB.out
  have z32 : (pb != pb) = false := by simp
  clear hc56 hp6 HPU HC5 HA5
  go_wp2_with fail
  refine HBB.out.mono ?_
  rintro e w7 ⟨ba, bc, rfl, hby, hc67⟩
  have HC7 := hid (HC6.out.trans hc67 (fun _ _ h => h))
  have HA7 := hid (blk_keep HA6.out hc67 id)
  have hcv := conv_bytes hby
  have HPN := hid (HK.out.putNil cp ao ls w7 hsz (HX.out.1.keep HC7.out (fun _ _ => id)))
  have z : (zs == zs) = true := by simp
  clear hc67 hby HBB HC6 HA6
  go_wp2_with fail
  refine HPN.out.mono ?_
  rintro e w9 ⟨rfl, hc79⟩
  have hc9 := HC7.out.trans hc79 (fun _ _ h => h)
  have hA9 := blk_keep HA7.out hc79 id
  clear hc79 hcv z HC7 HA7 HPN z31 z32 HZB
  have k9 := HX.out.2.2.1.keep hc9 (fun _ _ => id)
  have hs9 := hc9.size
  have hM9 := lt_blk hA9
  have hconv2 := conv_bytes k9
  have hT := heap_alloc_new w9 (.cells #[.string ⟨b.toArray⟩, .int .i64 0] 54)
  have hc1011 : Chg (fun _ => False) w9 (w9.alloc (.cells #[.string ⟨b.toArray⟩, .int .i64 0] 54)) := (Chg.refl _ w9).alloc _
  have hX := heap_alloc_new (w9.alloc (.cells #[.string ⟨b.toArray⟩, .int .i64 0] 54)) (.cells #[.slice none 0 0] 22)
  have hc1112 : Chg (fun _ => False) (w9.alloc (.cells #[.string ⟨b.toArray⟩, .int .i64 0] 54)) ((w9.alloc (.cells #[.string ⟨b.toArray⟩, .int .i64 0] 54)).alloc (.cells #[.slice none 0 0] 22)) := (Chg.refl _ _).alloc _
  have hsz2 : (w9.alloc (.cells #[.string ⟨b.toArray⟩, .int .i64 0] 54)).heap.size = w9.heap.size + 1 := by simp
  rw [hsz2] at hX
  have hT12 := blk_keep hT hc1112 id
  have hcT := hc1011.trans hc1112 (fun _ _ h => h)
  have hc12 := hc9.trans hcT (fun _ _ h => h)
  have k12 := k9.keep hcT (fun _ _ => id)
  have hs12 := hc12.size
  have hA12 := blk_keep hA9 hcT id
  have HRD := hid (kreadG (most := most) HK.out (l := b) (w := ((w9.alloc (.cells #[.string ⟨b.toArray⟩, .int .i64 0] 54)).alloc (.cells #[.slice none 0 0] 22))) (X := w9.heap.size + 1) hm0 hm (by omega) k12 (fun i hi => by have := HX.out.2.2.2 i hi; omega) (fun h => by have := HX.out.2.2.2 _ h; omega) hA12 hX)
  have HH := hid (And.intro hA12 (And.intro hT12 hc12))
  have hmf : ∀ (fn : Fn) (first cap : Array Value) (w : World), (Instr.makeFunc fn first cap).run Try.prog w = .ok (.func fn first cap) w := fun _ _ _ _ => rfl
  clear hT hc1011 hX hc1112 hsz2 hT12 hcT hc12 k12 k9 hc9 hA9 hA12
  go_wp2_with fail
  clear hmf hconv2
  generalize ((w9.alloc (.cells #[.string ⟨b.toArray⟩, .int .i64 0] 54)).alloc (.cells #[.slice none 0 0] 22)) = w12 at *
  obtain ⟨T, hTe⟩ : ∃ T, w9.heap.size = T := ⟨_, rfl⟩
  rw [hTe] at HRD HH hs9 hM9
  simp only [hTe]
  clear hTe
  refine HRD.out.mono ?_
  rintro e w13 ⟨rfl, ⟨xa, xc, hX13, hxb⟩, hc1213⟩
  obtain ⟨hA12, hT12, hc12⟩ := HH.out
  have hT13 : TapeAt w13 T b 0 := blk_keep hT12 hc1213 (by omega)
  have hA13 := blk_keep hA12 hc1213 (show ¬ M = T + 1 by omega)
  have hc13 := hc12.trans hc1213 (T := (· = T + 1)) (S := fun _ => False) (fun i hi h => by have : i = T + 1 := h; omega)
  have hTl := lt_blk hT13
  have HGT := hid (rkget T b most w13 hm0 (by omega) (by omega) hT13)
  have HH2 := hid (And.intro hX13 (And.intro hxb hc13))
  have m0 := cell_blk hA13 0
  simp only [List.getElem?_toArray, List.getElem?_cons_zero] at m0
  have hwr : IntKind.i64.wrap most = most := by rw [IntKind.wrap_i64]; omega
  have hT12l := lt_blk hT12
  clear HRD HH hA12 hT12 hc12 hX13 hxb hc1213 hT13 hc13 hA13
  go_wp2_with fail
  clear m0 hwr
  refine HGT.out.mono ?_
  rintro e w14 ⟨out, ya, yc, l', e', rfl, hyb, hT14, hend, hc1314⟩
  obtain ⟨hX13, hxb, hc13⟩ := HH2.out
  have hX14 := blk_keep hX13 hc1314 (show ¬ (T + 1 = T) by omega)
  have hxb14 := hxb.keep hc1314 (fun i hi h => by have h1 := hi.1; have h2 : i = T := h; omega)
  have hc14 := hc13.trans hc1314 (T := (· = T)) (S := fun _ => False) (fun i hi h => by have : i = T := h; omega)
  obtain ⟨ho, he9, hol⟩ : ckGot b most = out ∧ ckErr b most = tapeEnd l' e' ∧ out.length ≤ 4611686018427387904 := by
    unfold GotToK at hend
    unfold ckErr ckGot
    cases hg : chainGet b most with
    | ok s rest => rw [hg] at hend; obtain ⟨rfl, rfl, rfl⟩ := hend; exact ⟨rfl, rfl, by have := chainGet_len hm hg; omega⟩
    | bad m => rw [hg] at hend; obtain ⟨rfl, rfl, h0⟩ := hend; exact ⟨rfl, (tapeEnd_badK h0).symm, by simp⟩
  have HE := hid he9
  rw [ho] at hX14 hxb14
  have HSM := hid (rksame xa ya xc yc out out w14 hol hol hxb14 hyb)
  have HH3 := hid (And.intro hT14 hc14)
  have x0 := cell_blk hX14 0
  simp only [List.getElem?_toArray, List.getElem?_cons_zero] at x0
  generalize ckErr b most = er at *
  clear HH2 hX13 hxb hc13 hc1314 hend hX14 hxb14 hc14 hyb hT14 HGT ho he9
  go_wp2_with fail
  clear x0
  refine HSM.out.mono ?_
  rintro e w16 ⟨rfl, hc1416⟩
  have hT16 : TapeAt w16 T l' e' := blk_keep HH3.out.1 hc1416 id
  have HC := hid (HH3.out.2.trans hc1416 (fun _ _ h => h))
  have htn := tend_any T l' e' w16 hT16
  have zz : sameK out out = true := by simp [sameK]
  clear HSM HH3 hc1416 hT16
  go_wp2_with fail
  refine htn.mono ?_
  rintro e w17 ⟨rfl, rfl⟩
  rw [← HE.out]
  clear htn HE zz
  go_wp2
  go_ret
  exact ⟨rfl, HC.out⟩

set_option maxRecDepth 100000 in
set_option maxHeartbeats 2000000 in
/-- What is too great is let go. -/
theorem kgets_big (hfirst : ∀ w : World, Calls Try.prog 7 #[] w fun e w' => e = .returned (.bool true) ∧ Chg (fun _ => False) w w')
    {D : Nat → Prop} (ao a1 : Option Addr) (cp c1 : Nat) (ls : List StepB) (b : List UInt8) (most : Int) (w : World) (hsz : totalSt ls ≤ 4503599627370496) (hbn : b.length ≤ 9223372036854775807) (h : StepsAt D w ao ls) (hbig : 2500 < totalSt ls ∨ 1500 < b.length) :
    Calls Try.prog 5 #[.slice ao ls.length cp, .slice a1 b.length c1, .int .u8 most] w fun e w' => e = .returned (.bool true) ∧ Chg (fun _ => False) w w' := by
  have hA1 : (w.alloc (.cells #[.int .u8 most] 5)).heap[w.heap.size]? = some (.cells #[.int .u8 most] 5 (0, 0)) := heap_alloc_new w _
  have hc1 : Chg (fun _ => False) w (w.alloc (.cells #[.int .u8 most] 5)) := (Chg.refl _ w).alloc _
  have HF := hid (hfirst (w.alloc (.cells #[.int .u8 most] 5)))
  have HA : Hid ((w.alloc (.cells #[.int .u8 most] 5)).heap[w.heap.size]? = some (.cells #[.int .u8 most] 5 (0, 0)) ∧ Chg (fun _ => False) w (w.alloc (.cells #[.int .u8 most] 5))) := hid ⟨hA1, hc1⟩
  have HX := hid h
  clear hA1 hc1 h hfirst
  go_enter Try.func5, Try.ntmps5
  go_wp2_with fail
  generalize (w.alloc (.cells #[.int .u8 most] 5)) = w1 at *
  generalize w.heap.size = M at *
  refine HF.out.mono ?_
  rintro e w2 ⟨rfl, hc12⟩
  have HC2 := hid (HA.out.2.trans hc12 (fun _ _ h => h))
  have HG := hid (great9 ao cp ls w2 hsz (HX.out.keep HC2.out (fun _ _ => id)))
  clear hc12 HF HA
  go_wp2_with fail
  refine HG.out.mono ?_
  rintro e w3 ⟨rfl, hc23⟩
  have HC := hid (HC2.out.trans hc23 (fun _ _ h => h))
  clear HG HC2 hc23
  by_cases hg : 2500 < totalSt ls
  · have d1 : decide ((2500 : Int) < (totalSt ls : Int)) = true := decide_eq_true (by omega)
    clear hg hbig
    go_wp2
    go_ret
    exact ⟨rfl, HC.out⟩
  · have d1 : decide ((2500 : Int) < (totalSt ls : Int)) = false := decide_eq_false (by omega)
    have hb2 := hbig.resolve_left hg
    have d2 : decide ((1500 : Int) < (b.length : Int)) = true := decide_eq_true (by omega)
    clear hg hbig hb2
    go_wp2
    go_ret
    exact ⟨rfl, HC.out⟩

theorem flat_len9 {ls : List StepB} (h : ls.all stepGood = true) : (ls.flatMap stepEnc).length ≤ ls.length * 9100000 := by
  induction ls with
  | nil => simp
  | cons x l ih =>
    rw [List.all_cons, Bool.and_eq_true] at h
    have h1 := ih h.2
    have hg := h.1
    unfold stepGood at hg
    rw [Bool.and_eq_true, Bool.and_eq_true] at hg
    have h2 := credEnc_len9 hg.1
    have h3 : (encS x.f.2).length ≤ 1048600 := encS_len _ (by have := (isName_len hg.2.2).2; omega)
    rw [List.flatMap_cons, List.length_append, List.length_cons]
    unfold stepEnc at *
    rw [List.length_append]
    omega
theorem chainBytes_len (ls : List StepB) : (chainBytes ls).length ≤ 140737488355328 := by
  unfold chainBytes
  split
  · simp
  · rename_i h
    split
    · rename_i hg
      have h1 := flat_len9 hg
      have h2 := enc_length9 (n := ls.length) (by omega)
      rw [List.length_append]
      omega
    · simp

theorem kgets_main (HK0 : CG) (hfirst : ∀ w : World, Calls Try.prog 7 #[] w fun e w' => e = .returned (.bool true) ∧ Chg (fun _ => False) w w')
    {D E : Nat → Prop} (ao a1 : Option Addr) (cp c1 : Nat) (ls : List StepB) (b : List UInt8) (most : Int) (w : World) (hm0 : 0 ≤ most) (hm : most ≤ 255) (hsz : totalSt ls ≤ 4503599627370496) (hbn : b.length ≤ 9223372036854775807) (h : StepsAt D w ao ls) (hD : ∀ i, D i → i < w.heap.size) (k1 : BytesAt E w (.slice a1 b.length c1) b) (hE : ∀ i, E i → i < w.heap.size) :
    Calls Try.prog 5 #[.slice ao ls.length cp, .slice a1 b.length c1, .int .u8 most] w fun e w' => e = .returned (.bool true) ∧ Chg (fun _ => False) w w' := by
  by_cases h1 : 2500 < totalSt ls
  · exact kgets_big hfirst ao a1 cp c1 ls b most w hsz hbn h (.inl h1)
  · by_cases h2 : 1500 < b.length
    · exact kgets_big hfirst ao a1 cp c1 ls b most w hsz hbn h (.inr h2)
    · exact kgets_small HK0 hfirst ao a1 cp c1 ls b most w hm0 hm (by omega) (by omega) (chainBytes_len ls) h hD k1 hE
end Go.Proofs.Ytmmkopdcbiiedaa

/- The law CheckGets of layer 9, at every list of steps, bytes and number that hold together at most 1048576 values and letters. -/
namespace Go.Proofs.Ytmmkopdcbiiedaa
open Go.ChangeShapes Go.WideShapes Go.ChangeAt Go.RowKit

set_option maxRecDepth 100000 in
theorem checkGets_lifted (HC : CG) (hfirst : ∀ w : World, Calls Try.prog 7 #[] w fun e w' => e = .returned (.bool true) ∧ Chg (fun _ => False) w w') (os : Os) (started : os.Started) (H : Type) (enc : TypeId × Value → H) (F : Stop.Interp) :
    ReturnsInHanded {} Try.checked os 5 .any ((Rows.OpenSpec.upto Rows.checkGetsSpec).pre6 enc Try.prog Try.f5 Rows.checkGetsUptoRow.domain false) (((Rows.OpenSpec.upto Rows.checkGetsSpec).at F).post enc Try.prog Try.f5 false true false false) := by
  refine handed_cond_shaped (C := Try.checked) (s := Rows.OpenSpec.upto Rows.checkGetsSpec) (k := Rows.uptoSmall) rfl Try.own started (by kernel_rfl) Try.func5
    (OpenSpec.witness (enc := enc) (C := Try.checked) (s := Rows.OpenSpec.upto Rows.checkGetsSpec) (k := Rows.uptoSmall) rfl false ⟨#[], #[.slice none 0 0, .slice none 0 0, .int .u8 0], []⟩ 8 (by kernel_rfl) (by kernel_rfl) (by kernel_rfl)
      (x := ([.nil, .nil, .lit (.int .u8 0)], [], [])) (by kernel_rfl) rfl (by kernel_rfl)) ?_
  intro W base args ds gs before hshp hval0 hW hk
  have hval : ∀ (j : Nat) t v, Try.f5.params[j]? = some t → args[j]? = some v → Value.okWide Try.prog W .any base t v := hval0
  have hW' := hW
  obtain ⟨p, q, hA0, hV, rfl, hfz, hnd⟩ := hW
  have hA : DataW.TrodAll enc Try.prog W 0 (fun _ => true) true Try.f5.params.toList args.toList ds p := hA0
  rw [Try.params5] at hA hval
  obtain ⟨v0, v1, v2, d0, d1, d2, p0, p1, p2, rfl, rfl, rfl, h0, h1, h2⟩ := trodAll_three hA
  obtain ⟨rfl, rfl⟩ := trodVars_none hV
  have k0 := h0
  have k1 := h1
  have k2 := h2
  have lt0 : ∀ x ∈ p0, x.block < W.heap.size := by obtain ⟨m, hm⟩ := k0; exact DataW.trod_lt m _ _ _ hm
  have lt1 : ∀ x ∈ p1, x.block < W.heap.size := by obtain ⟨m, hm⟩ := k1; exact DataW.trod_lt m _ _ _ hm
  have lt2 : ∀ x ∈ p2, x.block < W.heap.size := by obtain ⟨m, hm⟩ := k2; exact DataW.trod_lt m _ _ _ hm
  have hk' := of_decide_eq_true hk
  simp only [List.append_nil, Rows.uptoBulkAll] at hk'
  obtain ⟨a0, len0, cap0, rfl⟩ := okWide_slice Try.underlying22 (hval 0 22 v0 rfl rfl)
  obtain ⟨fuel0, hf0⟩ := h0
  obtain ⟨ao, cap, xs, hcs, hst0, ht0, hl0, hm0⟩ := open_steps hf0
  simp only [Value.cells, List.cons.injEq, and_true, Value.slice.injEq] at hcs
  obtain ⟨rfl, rfl, rfl⟩ := hcs
  obtain ⟨a1, len1, cap1, rfl⟩ := okWide_slice Try.underlying45 (hval 1 45 v1 rfl rfl)
  obtain ⟨fuel1, hf1⟩ := h1
  obtain ⟨co, cc, bs, hcs1, hbl, hby⟩ := open_bytes hf1
  simp only [Value.cells, List.cons.injEq, and_true, Value.slice.injEq] at hcs1
  obtain ⟨rfl, rfl, rfl⟩ := hcs1
  obtain ⟨m, rfl, _, _, hwf⟩ := open_int Try.underlying5 (hval 2 5 v2 rfl rfl) h2
  have hmb : 0 ≤ m ∧ m ≤ 255 := bounds_u8 hwf
  dsimp only at ht0
  clear hA0 hval0
  refine (kgets_main HC hfirst _ _ _ _ xs bs m W hmb.1 hmb.2 (by omega) hbl hst0 (fun _ h => h) hby (fun _ h => h)).mono fun e W' ⟨he, hc⟩ => ?_
  subst he
  have bel : Below W.heap.size W W' := hc.below (Nat.le_refl _) (fun _ _ => id)
  exact ⟨_, rfl, _, _, _, [], _, [], hW', trodAll_mk1 (shut_bool Try.underlying4 _), (trodAll_cons_mk (Below.trod Try.laidOut (by kernel_rfl) (of_decide_eq_true (by kernel_rfl)) k0 bel lt0) (trodAll_cons_mk (Below.trod Try.laidOut (by kernel_rfl) (of_decide_eq_true (by kernel_rfl)) k1 bel lt1) (trodAll_cons_mk (Below.trod Try.laidOut (by kernel_rfl) (of_decide_eq_true (by kernel_rfl)) k2 bel lt2) trodAll_mk0))), rfl, bel.frame _, fun h => by cases h⟩

theorem checkGets_said (HC : CG) (hfirst : ∀ w : World, Calls Try.prog 7 #[] w fun e w' => e = .returned (.bool true) ∧ Chg (fun _ => False) w w') : Rows.CheckGetsUptoSaid :=
  OpenClaim.holds_of_cond 5 Try.f5 rfl rfl rfl rfl rfl rfl rfl ⟨rfl, rfl, rfl, rfl, rfl⟩ rfl rfl rfl rfl rfl (by kernel_rfl) Try.func5 (by kernel_rfl)
    (of_decide_eq_true (by kernel_rfl)) (by unfold Func.isWrapper; first | (rw [if_pos (by decide +kernel)]; kernel_rfl) | (rw [if_neg (by decide +kernel)]; exact ⟨rfl, rfl⟩))
    (fun os started H enc _ F => checkGets_lifted HC hfirst os started H enc F)
end Go.Proofs.Ytmmkopdcbiiedaa

/- The laws of layer 9, over the contracts of the program's check (CK, CG) and the model's (MKs). -/
namespace Go.Proofs.Ytmmkopdcbiiedaa
theorem checkTells_of (HC : CK) (HG : CG) : Rows.CheckTellsUptoSaid := checkTells_said HC (cfirst HC HG)
theorem checkTight_of (HC : CK) (HG : CG) : Rows.CheckTightUptoSaid := checkTight_said HC (cfirst HC HG)
theorem checkGets_of (HC : CK) (HG : CG) : Rows.CheckGetsUptoSaid := checkGets_said HG (cfirst HC HG)
end Go.Proofs.Ytmmkopdcbiiedaa
