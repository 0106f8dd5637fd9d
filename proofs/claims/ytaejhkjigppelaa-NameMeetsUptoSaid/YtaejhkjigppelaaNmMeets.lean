/- The walk of the law NameMeets, where its lists are not too long. -/
import Derived.Test.YtaejhkjigppelaaNmMeetMath
import Derived.Test.YtaejhkjigppelaaNmSets
namespace Go.Proofs.Ytaejhkjigppelaa
open Go.RowKit

set_option maxRecDepth 100000 in
set_option maxHeartbeats 4000000 in
theorem meets_main {D : Nat → Prop} (a0 a1 : Option Addr) (c0 c1 : Nat) (la lb : List (List UInt8)) (w : World) (hA : totalS la ≤ 600) (hB : totalS lb ≤ 600)
    (kA : StrsAt D w a0 la) (kB : StrsAt D w a1 lb) (z0 : a0 = none → c0 = 0) (z1 : a1 = none → c1 = 0) :
    Calls Try.prog 11 #[.slice a0 la.length c0, .slice a1 lb.length c1] w fun e w' => e = .returned (.bool true) ∧ Chg (fun _ => False) w w' := by
  have dA : decide (600 < totalS la) = false := decide_eq_false (by omega)
  have dB : decide (600 < totalS lb) = false := decide_eq_false (by omega)
  have lA := totalS_len la
  have lB := totalS_len lb
  go_enter Try.func11, Try.ntmps11
  go_wp2_with fail
  refine (first_any _).mono ?_
  rintro e w1 ⟨rfl, hc1⟩
  have kA1 := kA.keep hc1 (fun _ _ => id)
  have kB1 := kB.keep hc1 (fun _ _ => id)
  go_wp2_with fail
  refine (long_any a0 c0 la w1 (by omega) kA1).mono ?_
  rintro e w' ⟨rfl, rfl⟩
  rw [dA]
  go_wp2_with fail
  refine (long_any a1 c1 lb w1 (by omega) kB1).mono ?_
  rintro e w' ⟨rfl, rfl⟩
  rw [dB]
  go_wp2_with fail
  clear dA dB
  refine (union_any a0 a1 c0 c1 la lb w1 (by omega) (by omega) kA1 kB1 z0 z1).mono ?_
  rintro e w2 ⟨u, au, cu, rfl, hu, hus, hc2⟩
  have lU : u.length ≤ 1200 := by have := set_len hu; rw [List.length_append] at this; omega
  go_wp2_with fail
  refine (both_any a0 a1 c0 c1 la lb w2 (by omega) (by omega) (kA1.keep hc2 (fun _ _ => id)).low (kB1.keep hc2 (fun _ _ => id)).low (fun _ h => h)).mono ?_
  rintro e w3 ⟨x, am, cm, hx, rfl, hms, hc3⟩
  have hib := setB_both lb hx
  have hwb := within_both lb hx
  have hhm := has_meets lb hx
  have lM : (bothS x lb).length ≤ 600 := by have := both_len x lb; have := set_len hx; omega
  obtain ⟨m, hm⟩ : ∃ m, m = bothS x lb := ⟨_, rfl⟩
  rw [← hm] at hib hwb hms lM ⊢
  have F3 : Four w a0 a1 au am la lb u m w3 := ⟨(hc1.trans hc2 (fun _ _ h => h)).trans hc3 (fun _ _ h => h), ((kA1.keep hc2 (fun _ _ => id)).keep hc3 (fun _ _ => id)).mono (fun _ _ => trivial), ((kB1.keep hc2 (fun _ _ => id)).keep hc3 (fun _ _ => id)).mono (fun _ _ => trivial), (hus.keep hc3 (fun _ _ => id)).mono (fun _ _ => trivial), hms.mono (fun _ _ => trivial)⟩
  have HM := hid hm
  have HX := hid hx
  have HU := hid hu
  have HHM : Hid (∀ s, hasN m s = (hasN la s && hasN lb s)) := hid (by rw [hm]; exact hhm)
  clear hx hu hm hhm hus hms hc1 hc2 hc3 kA kB kA1 kB1
  go_wp2_with fail
  refine (isset_any au cu u w3 (by omega) F3.s2).mono ?_
  rintro e w' ⟨rfl, rfl⟩
  rw [setB_of_set HU.out]
  go_wp2_with fail
  refine (isset_any am cm m w3 (by omega) F3.s3).mono ?_
  rintro e w' ⟨rfl, rfl⟩
  rw [hib]
  clear hib
  go_wp2_with fail
  refine (union_any a1 a0 c1 c0 lb la w3 (by omega) (by omega) F3.s1 F3.s0 z1 z0).mono ?_
  rintro e w4 ⟨u4, a4, c4, rfl, hu4, hs4, hc4⟩
  obtain rfl : u = u4 := (set_comm HU.out).one hu4
  have F4 := F3.go hc4
  clear F3 hc4 hu4
  go_wp2_with fail
  refine (refsame_any au a4 cu c4 u u w4 (by omega) (by omega) F4.s2 hs4).mono ?_
  rintro e w5 ⟨rfl, hq5⟩
  have F5 : Four w a0 a1 au am la lb u m w5 := by obtain ⟨q, rfl⟩ := hq5; exact F4.go (chg_drewN _ _ q)
  clear F4 hs4 hq5
  rw [sameS_self]
  go_wp2_with fail
  refine (both_any a1 a0 c1 c0 lb la w5 (by omega) (by omega) F5.s1.low F5.s0.low (fun _ h => h)).mono ?_
  rintro e w6 ⟨y, a6, c6, hy, rfl, hs6, hc6⟩
  rw [both_comm HX.out hy, ← HM.out] at hs6 ⊢
  have F6 := F5.go hc6
  clear F5 hc6 hy
  go_wp2_with fail
  refine (refsame_any am a6 cm c6 m m w6 (by omega) (by omega) F6.s3 hs6).mono ?_
  rintro e w7 ⟨rfl, hq7⟩
  have F7 : Four w a0 a1 au am la lb u m w7 := by obtain ⟨q, rfl⟩ := hq7; exact F6.go (chg_drewN _ _ q)
  clear F6 hs6 hq7
  rw [sameS_self]
  go_wp2_with fail
  refine (within_any am a0 cm c0 m la w7 (by omega) (by omega) F7.s3.low F7.s0.low (fun _ h => h)).mono ?_
  rintro e w8 ⟨rfl, hc8⟩
  have F8 := F7.go hc8
  clear F7 hc8
  rw [hwb]
  clear hwb
  go_wp2_with fail
  refine (within_any a0 au c0 cu la u w8 (by omega) (by omega) F8.s0.low F8.s2.low (fun _ h => h)).mono ?_
  rintro e w9 ⟨rfl, hc9⟩
  have F9 := F8.go hc9
  clear F8 hc9
  rw [within_left HU.out]
  go_wp2_with fail
  refine (within_any a1 au c1 cu lb u w9 (by omega) (by omega) F9.s1.low F9.s2.low (fun _ h => h)).mono ?_
  rintro e w10 ⟨rfl, hc10⟩
  have F10 := F9.go hc10
  clear F9 hc10
  rw [within_right HU.out]
  go_wp2
  go_loopw [71] (fun i wr => ∃ k : Nat, i = .int .i64 k ∧ k ≤ u.length ∧ Four w a0 a1 au am la lb u m wr) (fun i _ => u.length - (intOf i).toNat)
  case atStart => exact ⟨0, rfl, Nat.zero_le _, F10⟩
  case round =>
    obtain ⟨k, rfl, hk, F⟩ := hrel
    by_cases hlt : k < u.length
    · obtain ⟨b, off, rfl, _, c0', hsl⟩ := F.s2 k hlt
      have hn : isName u[k] = true := ((HU.out.2 _).1 (List.getElem_mem hlt)).2
      clear F10
      generalize u[k] = s at *
      obtain ⟨hpe, hpg⟩ := put_got hn
      have hl16 := name_len hn
      have hp1 := (pen_new wr (wr.heap.size + 2))
      have hc12 : Chg (fun _ => False) (wr.alloc (.cells #[.slice none 0 0] 27)) ((wr.alloc (.cells #[.slice none 0 0] 27)).alloc (.cells #[.string ⟨#[]⟩] 9)) := (Chg.refl _ _).alloc _
      have hp2 := hp1.keep hc12 id (fun _ _ => id)
      have hX2 := heap_alloc_new (wr.alloc (.cells #[.slice none 0 0] 27)) (.cells #[.string ⟨#[]⟩] 9)
      have hsz : (wr.alloc (.cells #[.slice none 0 0] 27)).heap.size = wr.heap.size + 1 := by simp
      rw [hsz] at hX2
      have hc2 : Chg (fun _ => False) wr ((wr.alloc (.cells #[.slice none 0 0] 27)).alloc (.cells #[.string ⟨#[]⟩] 9)) := ((Chg.refl _ wr).alloc _).alloc _
      have hsz2 : ((wr.alloc (.cells #[.slice none 0 0] 27)).alloc (.cells #[.string ⟨#[]⟩] 9)).heap.size = wr.heap.size + 2 := by simp
      go_wp2_with fail
      clear hp1 hc12 hsz
      generalize (wr.alloc (.cells #[.slice none 0 0] 27)).alloc (.cells #[.string ⟨#[]⟩] 9) = v2 at *
      refine (put_yes (wr.heap.size + 2) wr.heap.size 0 none [] s v2 hp2 (by omega) (by omega) (by simp) hn).mono ?_
      rintro e v3 ⟨rfl, ao3, cap3, hp3, hch3⟩
      have hc3 := pchg_new hc2 hp2 (by omega) (Nat.le_refl _) hch3
      have hX3 := blk_keep hX2 hch3.chg (by rintro (h | h) <;> first | omega | cases h)
      have hs3 := hch3.chg.size
      rw [List.nil_append] at hp3
      clear hp2 hX2 hc2 hch3
      generalize hzs : enc s.length ++ s = zs at *
      have hzl : zs.length ≤ 1000 := by rw [← hzs, enc_small (by omega)]; simp; omega
      clear hzs
      go_wp2_with fail
      refine (bytes_any _ _ _ _ zs v3 hp3 (by omega)).mono ?_
      rintro e v4 ⟨ao4, cap4, rfl, hb4, hc34⟩
      have hX4 := blk_keep hX3 hc34 id
      have hc4 := hc3.trans hc34 (fun _ _ h => h)
      have hs4 := hc34.size
      clear hp3 hX3 hc3 hc34
      go_wp2_with fail
      refine (readM_any (z := []) (l := zs) (w := v4) (by omega) hb4 (fun i hi => hi.2) (fun h => by have := h.1; omega) hX4).mono ?_
      rintro e v5 ⟨rfl, hX5, hc45⟩
      rw [hpe]
      rw [hpg] at hX5
      have hc5 : Chg (fun _ => False) wr v5 := hc4.trans hc45 (T := (· = wr.heap.size + 1)) (S := fun _ => False) (fun i hi h => by have : i = wr.heap.size + 1 := h; omega)
      have x0 := cell_blk hX5 0
      simp only [List.getElem?_toArray, List.getElem?_cons_zero] at x0
      have G := F.go hc5
      clear hX5 hc45 hc4 hX4 hb4 hs4 hs3 hsz2 F hc5 hpe hpg c0'
      have hmm := HHM.out s
      cases hha : hasN la s with
      | false =>
        rw [hha, Bool.false_and] at hmm
        go_wp2_with fail
        refine (has_any am cm m s v5 (by omega) (by omega) G.s3).mono ?_
        rintro e w' ⟨rfl, rfl⟩
        rw [hmm]
        go_wp2_with fail
        refine (has_any a0 c0 la s v5 (by omega) (by omega) G.s0).mono ?_
        rintro e w' ⟨rfl, rfl⟩
        rw [hha]
        go_wp2
        go_roundw
        case rel => exact ⟨k + 1, by go_num, by omega, G⟩
        case measure => simp [intOf]; omega
      | true =>
        rw [hha, Bool.true_and] at hmm
        go_wp2_with fail
        refine (has_any am cm m s v5 (by omega) (by omega) G.s3).mono ?_
        rintro e w' ⟨rfl, rfl⟩
        rw [hmm]
        go_wp2_with fail
        refine (has_any a0 c0 la s v5 (by omega) (by omega) G.s0).mono ?_
        rintro e w' ⟨rfl, rfl⟩
        rw [hha]
        go_wp2_with fail
        refine (has_any a1 c1 lb s v5 (by omega) (by omega) G.s1).mono ?_
        rintro e w' ⟨rfl, rfl⟩
        clear hmm
        generalize hasN lb s = vB
        have hbB : (vB == vB) = true := by simp
        have hbB2 : (vB != vB) = false := by simp
        go_wp2
        go_roundw
        case rel => exact ⟨k + 1, by go_num, by omega, G⟩
        case measure => simp [intOf]; omega
    · have hk2 : k = u.length := by omega
      have hend := F.chg
      clear F10 F
      go_wp2
      go_ret
      exact ⟨rfl, hend⟩
end Go.Proofs.Ytaejhkjigppelaa
