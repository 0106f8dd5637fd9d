/- The walk of the law NameSets, where its lists are not too long. -/
import Derived.Test.YtaejhkjigppelaaNmFirst
import Derived.Test.YtaejhkjigppelaaNmApp
import Derived.Test.YtaejhkjigppelaaLong3
namespace Go.Proofs.Ytaejhkjigppelaa
open Go.RowKit

theorem set_len {ls x : List (List UInt8)} (h : SetOf ls x) : x.length ≤ ls.length := nodup_length _ _ h.1.nodup fun y hy => ((h.2 y).1 hy).1
theorem sameS_self (l : List (List UInt8)) : sameS l l = true := by simp [sameS]
theorem both_len (x b : List (List UInt8)) : (bothS x b).length ≤ x.length := List.length_filter_le _ _
theorem strs_bound {D : Nat → Prop} {w : World} {a : Option Addr} {l : List (List UInt8)} (h : StrsAt D w a l) : ∀ x ∈ l, x.length ≤ 9223372036854775807 := fun x hx => by
  obtain ⟨i, hi, rfl⟩ := List.getElem_of_mem hx
  obtain ⟨_, _, _, _, _, k⟩ := h i hi
  exact k

set_option maxRecDepth 100000 in
set_option maxHeartbeats 4000000 in
theorem sets_yes {D : Nat → Prop} (a0 a1 : Option Addr) (c0 c1 : Nat) (la lb : List (List UInt8)) (s : List UInt8) (w : World) (hA : totalS la ≤ 600) (hB : totalS lb ≤ 600) (hs : s.length ≤ 100)
    (kA : StrsAt D w a0 la) (kB : StrsAt D w a1 lb) (z0 : a0 = none → c0 = 0) (z1 : a1 = none → c1 = 0) (hn : isName s = true) :
    Calls Try.prog 9 #[.slice a0 la.length c0, .slice a1 lb.length c1, .string ⟨s.toArray⟩] w fun e w' => e = .returned (.bool true) ∧ Chg (fun _ => False) w w' := by
  have dA : decide (600 < totalS la) = false := decide_eq_false (by omega)
  have dB : decide (600 < totalS lb) = false := decide_eq_false (by omega)
  have dS : decide (100 < (s.length : Int)) = false := by simp; omega
  have lA := totalS_len la
  have lB := totalS_len lb
  go_enter Try.func9, Try.ntmps9
  go_wp2_with fail
  refine (first_any _).mono ?_
  rintro e w1 ⟨rfl, hc1⟩
  have kA1 := kA.keep hc1 (fun _ _ => id)
  have kB1 := kB.keep hc1 (fun _ _ => id)
  go_wp2_with fail
  refine (long_any a0 c0 la w1 (by omega) kA1).mono ?_
  rintro e w' ⟨rfl, rfl⟩
  rw [dA]
  go_wp2_with fail
  refine (long_any a1 c1 lb w1 (by omega) kB1).mono ?_
  rintro e w' ⟨rfl, rfl⟩
  rw [dB]
  go_wp2_with fail
  clear dA dB dS
  refine (refset_any a0 c0 la w1 (by omega) kA1.low (fun _ h => h)).mono ?_
  rintro e w2 ⟨x, ax, cx, rfl, hx, hxs, hc2⟩
  have lX := set_len hx
  go_wp2_with fail
  refine (refboth_any a0 a1 c0 c1 la lb w2 (by omega) (by omega) (kA1.keep hc2 (fun _ _ => id)).low (kB1.keep hc2 (fun _ _ => id)).low (fun _ h => h)).mono ?_
  rintro e w3 ⟨sa, ab, cb, hsa, rfl, hbs, hc3⟩
  obtain rfl : x = sa := hx.one hsa
  have hwl := within_len (l2 := lb) hx
  have lBo := both_len x lb
  obtain ⟨bo, hbo⟩ : ∃ bo, bo = bothS x lb := ⟨_, rfl⟩
  rw [← hbo] at hbs hwl lBo ⊢
  have F3 : Four w a0 a1 ax ab la lb x bo w3 := ⟨(hc1.trans hc2 (fun _ _ h => h)).trans hc3 (fun _ _ h => h), ((kA1.keep hc2 (fun _ _ => id)).keep hc3 (fun _ _ => id)).mono (fun _ _ => trivial), ((kB1.keep hc2 (fun _ _ => id)).keep hc3 (fun _ _ => id)).mono (fun _ _ => trivial), (hxs.keep hc3 (fun _ _ => id)).mono (fun _ _ => trivial), hbs.mono (fun _ _ => trivial)⟩
  have HBO := hid hbo
  have HX := hid hx
  have hq : ((bo.length : Int) == (x.length : Int)) = withinB la lb := by rw [hwl]; rw [Bool.eq_iff_iff]; simp; omega
  have HQ := hid hq
  clear hx hsa hbo hwl hq hxs hbs hc1 hc2 hc3 kA kB kA1 kB1
  go_wp2_with fail
  refine (right_any s w3 (by omega)).mono ?_
  rintro e w' ⟨rfl, rfl⟩
  rw [hn]
  go_wp2_with fail
  refine (refright_any s w3 (by omega)).mono ?_
  rintro e w' ⟨rfl, rfl⟩
  rw [hn]
  go_wp2_with fail
  refine (set_any a0 c0 la w3 (by omega) F3.s0.low (fun _ h => h)).mono ?_
  rintro e w4 ⟨x4, a4, c4, rfl, hx4, hs4, hc4⟩
  obtain rfl : x = x4 := HX.out.one hx4
  have F4 := F3.go hc4
  clear F3 hx4 hc4
  go_wp2_with fail
  refine (refsame_any a4 ax c4 cx x x w4 (by omega) (by omega) hs4 F4.s2).mono ?_
  rintro e w5 ⟨rfl, hq5⟩
  have F5 : Four w a0 a1 ax ab la lb x bo w5 := by obtain ⟨q, rfl⟩ := hq5; exact F4.go (chg_drewN _ _ q)
  clear F4 hs4 hq5
  rw [sameS_self]
  go_wp2_with fail
  refine (isset_any a0 c0 la w5 (by omega) F5.s0).mono ?_
  rintro e w' ⟨rfl, rfl⟩
  go_wp2_with fail
  refine (refsame_any a0 ax c0 cx la x w5 (by omega) (by omega) F5.s0 F5.s2).mono ?_
  rintro e w6 ⟨rfl, hq6⟩
  have F6 : Four w a0 a1 ax ab la lb x bo w6 := by obtain ⟨q, rfl⟩ := hq6; exact F5.go (chg_drewN _ _ q)
  clear F5 hq6
  rw [← isSetB_iff HX.out]
  generalize isSetB la = vS
  have hbS : (vS == vS) = true := by simp
  go_wp2_with fail
  refine (has_any a0 c0 la s w6 (by omega) (by omega) F6.s0).mono ?_
  rintro e w' ⟨rfl, rfl⟩
  go_wp2_with fail
  refine (refright_any s w6 (by omega)).mono ?_
  rintro e w' ⟨rfl, rfl⟩
  rw [hn]
  rw [show hasN la s = hasS la s by rw [hasN, hn]; rfl]
  go_wp2_with fail
  refine (refhas_any a0 c0 la s w6 (by omega) F6.s0).mono ?_
  rintro e w' ⟨rfl, rfl⟩
  generalize hasS la s = vH
  have hbH : (vH == vH) = true := by simp
  go_wp2_with fail
  refine (union_any a0 a1 c0 c1 la lb w6 (by omega) (by omega) F6.s0 F6.s1 z0 z1).mono ?_
  rintro e w7 ⟨u, a7, c7, rfl, hu, hs7, hc7⟩
  have F7 := F6.go hc7
  have HU := hid hu
  clear F6 hc7 hu
  have hown0 : OwnS w7.heap.size (w7.alloc (.cells #[] 9)) (.slice (some ⟨w7.heap.size, 0, none⟩) 0 0) [] := ⟨rfl, .inr ⟨w7.heap.size, 0, #[], rfl, Nat.le_refl _, heap_alloc_new _ _, Nat.le_refl _, Nat.zero_le _, rfl, rfl⟩⟩
  have F8 := F7.go ((Chg.refl (fun _ => False) w7).alloc (.cells #[] 9))
  have hs8 := hs7.keep ((Chg.refl (fun _ => False) w7).alloc (.cells #[] 9)) (fun _ _ => id)
  have hz8 : w7.heap.size ≤ (w7.alloc (.cells #[] 9)).heap.size := by simp
  go_wp2_with (at_builtin; refine wpList_append_strs_w (by rfl) (.tmp 63) (.tmp 64) rfl w7.heap.size _ [] rfl hown0 a0 c0 la rfl F8.s0 z0 ?c1 ?c2 ?_)
  case c1 => simp; omega
  case c2 => exact hz8
  intro v9 w9 hown9 hch9
  have hc79 : Chg (fun _ => False) w7 w9 := ((Chg.refl (fun _ => False) w7).alloc (.cells #[] 9)).trans (hch9 (fun k => w7.heap.size ≤ k) (fun _ h => h)) (fun i hi hk => by omega)
  have F9 := F7.go hc79
  have hs9 := hs7.keep hc79 (fun _ _ => id)
  have hz9 := hc79.size
  clear hown0 F8 hs8 hz8 hch9 hs9
  obtain ⟨a9, c9, hv9, z9⟩ := hown9.shape
  subst hv9
  go_wp2_with (at_builtin; refine wpList_append_strs_w (by rfl) (.tmp 65) (.tmp 66) rfl w7.heap.size _ la rfl hown9 a1 c1 lb rfl F9.s1 z1 ?c1 ?c2 ?_)
  case c1 => omega
  case c2 => exact hz9
  intro v10 w10 hown10 hch10
  have hc710 : Chg (fun _ => False) w7 w10 := hc79.trans (hch10 (fun k => w7.heap.size ≤ k) (fun _ h => h)) (fun i hi hk => by omega)
  have F10 := F7.go hc710
  have hs10 := hs7.keep hc710 (fun _ _ => id)
  have hab : ∀ y ∈ la ++ lb, y.length ≤ 9223372036854775807 := fun y hy => (List.mem_append.1 hy).elim (strs_bound F10.s0 y) (strs_bound F10.s1 y)
  obtain ⟨a10, c10, hv10, hst10⟩ := hown10.strs hab
  subst hv10
  clear hown9 hown10 hch10 hc79 hc710 F7 F9 hs7 hz9 z9 hab
  have hlab : (la ++ lb).length ≤ 1200 := by rw [List.length_append]; omega
  have hul := set_len HU.out
  obtain ⟨lab, hlb⟩ : ∃ lab, lab = la ++ lb := ⟨_, rfl⟩
  rw [← hlb] at hlab hul HU hst10 ⊢
  clear hlb
  go_wp2_with fail
  refine (refset_any a10 c10 lab w10 (by omega) hst10.low (fun _ h => h)).mono ?_
  rintro e w11 ⟨u2, a11, c11, rfl, hu2, hs11, hc11⟩
  obtain rfl : u = u2 := HU.out.one hu2
  have F11 := F10.go hc11
  have hsu := hs10.keep hc11 (fun _ _ => id)
  clear F10 hs10 hu2 hc11 hst10
  go_wp2_with fail
  refine (refsame_any a7 a11 c7 c11 u u w11 (by omega) (by omega) hsu hs11).mono ?_
  rintro e w12 ⟨rfl, hq12⟩
  have F12 : Four w a0 a1 ax ab la lb x bo w12 := by obtain ⟨q, rfl⟩ := hq12; exact F11.go (chg_drewN _ _ q)
  clear F11 hq12 hsu hs11
  rw [sameS_self]
  go_wp2_with fail
  refine (both_any a0 a1 c0 c1 la lb w12 (by omega) (by omega) F12.s0.low F12.s1.low (fun _ h => h)).mono ?_
  rintro e w13 ⟨sa, a13, c13, hsa, rfl, hs13, hc13⟩
  obtain rfl : x = sa := HX.out.one hsa
  rw [← HBO.out] at hs13 ⊢
  have F13 := F12.go hc13
  clear F12 hc13 hsa
  go_wp2_with fail
  refine (refsame_any a13 ab c13 cb bo bo w13 (by omega) (by omega) hs13 F13.s3).mono ?_
  rintro e w14 ⟨rfl, hq14⟩
  have F14 : Four w a0 a1 ax ab la lb x bo w14 := by obtain ⟨q, rfl⟩ := hq14; exact F13.go (chg_drewN _ _ q)
  clear F13 hq14 hs13
  rw [sameS_self]
  go_wp2_with fail
  refine (within_any a0 a1 c0 c1 la lb w14 (by omega) (by omega) F14.s0.low F14.s1.low (fun _ h => h)).mono ?_
  rintro e w15 ⟨rfl, hc15⟩
  have hend := (F14.go hc15).chg
  have hq := HQ.out
  clear F14 hc15
  generalize withinB la lb = vW at *
  have hbW : (vW == vW) = true := by simp
  go_wp2
  go_ret
  exact ⟨rfl, hend⟩

set_option maxRecDepth 100000 in
set_option maxHeartbeats 4000000 in
theorem sets_no {D : Nat → Prop} (a0 a1 : Option Addr) (c0 c1 : Nat) (la lb : List (List UInt8)) (s : List UInt8) (w : World) (hA : totalS la ≤ 600) (hB : totalS lb ≤ 600) (hs : s.length ≤ 100)
    (kA : StrsAt D w a0 la) (kB : StrsAt D w a1 lb) (z0 : a0 = none → c0 = 0) (z1 : a1 = none → c1 = 0) (hn : isName s = false) :
    Calls Try.prog 9 #[.slice a0 la.length c0, .slice a1 lb.length c1, .string ⟨s.toArray⟩] w fun e w' => e = .returned (.bool true) ∧ Chg (fun _ => False) w w' := by
  have dA : decide (600 < totalS la) = false := decide_eq_false (by omega)
  have dB : decide (600 < totalS lb) = false := decide_eq_false (by omega)
  have dS : decide (100 < (s.length : Int)) = false := by simp; omega
  have lA := totalS_len la
  have lB := totalS_len lb
  go_enter Try.func9, Try.ntmps9
  go_wp2_with fail
  refine (first_any _).mono ?_
  rintro e w1 ⟨rfl, hc1⟩
  have kA1 := kA.keep hc1 (fun _ _ => id)
  have kB1 := kB.keep hc1 (fun _ _ => id)
  go_wp2_with fail
  refine (long_any a0 c0 la w1 (by omega) kA1).mono ?_
  rintro e w' ⟨rfl, rfl⟩
  rw [dA]
  go_wp2_with fail
  refine (long_any a1 c1 lb w1 (by omega) kB1).mono ?_
  rintro e w' ⟨rfl, rfl⟩
  rw [dB]
  go_wp2_with fail
  clear dA dB dS
  refine (refset_any a0 c0 la w1 (by omega) kA1.low (fun _ h => h)).mono ?_
  rintro e w2 ⟨x, ax, cx, rfl, hx, hxs, hc2⟩
  have lX := set_len hx
  go_wp2_with fail
  refine (refboth_any a0 a1 c0 c1 la lb w2 (by omega) (by omega) (kA1.keep hc2 (fun _ _ => id)).low (kB1.keep hc2 (fun _ _ => id)).low (fun _ h => h)).mono ?_
  rintro e w3 ⟨sa, ab, cb, hsa, rfl, hbs, hc3⟩
  obtain rfl : x = sa := hx.one hsa
  have hwl := within_len (l2 := lb) hx
  have lBo := both_len x lb
  obtain ⟨bo, hbo⟩ : ∃ bo, bo = bothS x lb := ⟨_, rfl⟩
  rw [← hbo] at hbs hwl lBo ⊢
  have F3 : Four w a0 a1 ax ab la lb x bo w3 := ⟨(hc1.trans hc2 (fun _ _ h => h)).trans hc3 (fun _ _ h => h), ((kA1.keep hc2 (fun _ _ => id)).keep hc3 (fun _ _ => id)).mono (fun _ _ => trivial), ((kB1.keep hc2 (fun _ _ => id)).keep hc3 (fun _ _ => id)).mono (fun _ _ => trivial), (hxs.keep hc3 (fun _ _ => id)).mono (fun _ _ => trivial), hbs.mono (fun _ _ => trivial)⟩
  have HBO := hid hbo
  have HX := hid hx
  have hq : ((bo.length : Int) == (x.length : Int)) = withinB la lb := by rw [hwl]; rw [Bool.eq_iff_iff]; simp; omega
  have HQ := hid hq
  clear hx hsa hbo hwl hq hxs hbs hc1 hc2 hc3 kA kB kA1 kB1
  go_wp2_with fail
  refine (right_any s w3 (by omega)).mono ?_
  rintro e w' ⟨rfl, rfl⟩
  rw [hn]
  go_wp2_with fail
  refine (refright_any s w3 (by omega)).mono ?_
  rintro e w' ⟨rfl, rfl⟩
  rw [hn]
  go_wp2_with fail
  refine (set_any a0 c0 la w3 (by omega) F3.s0.low (fun _ h => h)).mono ?_
  rintro e w4 ⟨x4, a4, c4, rfl, hx4, hs4, hc4⟩
  obtain rfl : x = x4 := HX.out.one hx4
  have F4 := F3.go hc4
  clear F3 hx4 hc4
  go_wp2_with fail
  refine (refsame_any a4 ax c4 cx x x w4 (by omega) (by omega) hs4 F4.s2).mono ?_
  rintro e w5 ⟨rfl, hq5⟩
  have F5 : Four w a0 a1 ax ab la lb x bo w5 := by obtain ⟨q, rfl⟩ := hq5; exact F4.go (chg_drewN _ _ q)
  clear F4 hs4 hq5
  rw [sameS_self]
  go_wp2_with fail
  refine (isset_any a0 c0 la w5 (by omega) F5.s0).mono ?_
  rintro e w' ⟨rfl, rfl⟩
  go_wp2_with fail
  refine (refsame_any a0 ax c0 cx la x w5 (by omega) (by omega) F5.s0 F5.s2).mono ?_
  rintro e w6 ⟨rfl, hq6⟩
  have F6 : Four w a0 a1 ax ab la lb x bo w6 := by obtain ⟨q, rfl⟩ := hq6; exact F5.go (chg_drewN _ _ q)
  clear F5 hq6
  rw [← isSetB_iff HX.out]
  generalize isSetB la = vS
  have hbS : (vS == vS) = true := by simp
  go_wp2_with fail
  refine (has_any a0 c0 la s w6 (by omega) (by omega) F6.s0).mono ?_
  rintro e w' ⟨rfl, rfl⟩
  go_wp2_with fail
  refine (refright_any s w6 (by omega)).mono ?_
  rintro e w' ⟨rfl, rfl⟩
  rw [hn]
  rw [show hasN la s = false by rw [hasN, hn]; rfl]
  go_wp2_with fail
  refine (union_any a0 a1 c0 c1 la lb w6 (by omega) (by omega) F6.s0 F6.s1 z0 z1).mono ?_
  rintro e w7 ⟨u, a7, c7, rfl, hu, hs7, hc7⟩
  have F7 := F6.go hc7
  have HU := hid hu
  clear F6 hc7 hu
  have hown0 : OwnS w7.heap.size (w7.alloc (.cells #[] 9)) (.slice (some ⟨w7.heap.size, 0, none⟩) 0 0) [] := ⟨rfl, .inr ⟨w7.heap.size, 0, #[], rfl, Nat.le_refl _, heap_alloc_new _ _, Nat.le_refl _, Nat.zero_le _, rfl, rfl⟩⟩
  have F8 := F7.go ((Chg.refl (fun _ => False) w7).alloc (.cells #[] 9))
  have hs8 := hs7.keep ((Chg.refl (fun _ => False) w7).alloc (.cells #[] 9)) (fun _ _ => id)
  have hz8 : w7.heap.size ≤ (w7.alloc (.cells #[] 9)).heap.size := by simp
  go_wp2_with (at_builtin; refine wpList_append_strs_w (by rfl) (.tmp 63) (.tmp 64) rfl w7.heap.size _ [] rfl hown0 a0 c0 la rfl F8.s0 z0 ?c1 ?c2 ?_)
  case c1 => simp; omega
  case c2 => exact hz8
  intro v9 w9 hown9 hch9
  have hc79 : Chg (fun _ => False) w7 w9 := ((Chg.refl (fun _ => False) w7).alloc (.cells #[] 9)).trans (hch9 (fun k => w7.heap.size ≤ k) (fun _ h => h)) (fun i hi hk => by omega)
  have F9 := F7.go hc79
  have hs9 := hs7.keep hc79 (fun _ _ => id)
  have hz9 := hc79.size
  clear hown0 F8 hs8 hz8 hch9 hs9
  obtain ⟨a9, c9, hv9, z9⟩ := hown9.shape
  subst hv9
  go_wp2_with (at_builtin; refine wpList_append_strs_w (by rfl) (.tmp 65) (.tmp 66) rfl w7.heap.size _ la rfl hown9 a1 c1 lb rfl F9.s1 z1 ?c1 ?c2 ?_)
  case c1 => omega
  case c2 => exact hz9
  intro v10 w10 hown10 hch10
  have hc710 : Chg (fun _ => False) w7 w10 := hc79.trans (hch10 (fun k => w7.heap.size ≤ k) (fun _ h => h)) (fun i hi hk => by omega)
  have F10 := F7.go hc710
  have hs10 := hs7.keep hc710 (fun _ _ => id)
  have hab : ∀ y ∈ la ++ lb, y.length ≤ 9223372036854775807 := fun y hy => (List.mem_append.1 hy).elim (strs_bound F10.s0 y) (strs_bound F10.s1 y)
  obtain ⟨a10, c10, hv10, hst10⟩ := hown10.strs hab
  subst hv10
  clear hown9 hown10 hch10 hc79 hc710 F7 F9 hs7 hz9 z9 hab
  have hlab : (la ++ lb).length ≤ 1200 := by rw [List.length_append]; omega
  have hul := set_len HU.out
  obtain ⟨lab, hlb⟩ : ∃ lab, lab = la ++ lb := ⟨_, rfl⟩
  rw [← hlb] at hlab hul HU hst10 ⊢
  clear hlb
  go_wp2_with fail
  refine (refset_any a10 c10 lab w10 (by omega) hst10.low (fun _ h => h)).mono ?_
  rintro e w11 ⟨u2, a11, c11, rfl, hu2, hs11, hc11⟩
  obtain rfl : u = u2 := HU.out.one hu2
  have F11 := F10.go hc11
  have hsu := hs10.keep hc11 (fun _ _ => id)
  clear F10 hs10 hu2 hc11 hst10
  go_wp2_with fail
  refine (refsame_any a7 a11 c7 c11 u u w11 (by omega) (by omega) hsu hs11).mono ?_
  rintro e w12 ⟨rfl, hq12⟩
  have F12 : Four w a0 a1 ax ab la lb x bo w12 := by obtain ⟨q, rfl⟩ := hq12; exact F11.go (chg_drewN _ _ q)
  clear F11 hq12 hsu hs11
  rw [sameS_self]
  go_wp2_with fail
  refine (both_any a0 a1 c0 c1 la lb w12 (by omega) (by omega) F12.s0.low F12.s1.low (fun _ h => h)).mono ?_
  rintro e w13 ⟨sa, a13, c13, hsa, rfl, hs13, hc13⟩
  obtain rfl : x = sa := HX.out.one hsa
  rw [← HBO.out] at hs13 ⊢
  have F13 := F12.go hc13
  clear F12 hc13 hsa
  go_wp2_with fail
  refine (refsame_any a13 ab c13 cb bo bo w13 (by omega) (by omega) hs13 F13.s3).mono ?_
  rintro e w14 ⟨rfl, hq14⟩
  have F14 : Four w a0 a1 ax ab la lb x bo w14 := by obtain ⟨q, rfl⟩ := hq14; exact F13.go (chg_drewN _ _ q)
  clear F13 hq14 hs13
  rw [sameS_self]
  go_wp2_with fail
  refine (within_any a0 a1 c0 c1 la lb w14 (by omega) (by omega) F14.s0.low F14.s1.low (fun _ h => h)).mono ?_
  rintro e w15 ⟨rfl, hc15⟩
  have hend := (F14.go hc15).chg
  have hq := HQ.out
  clear F14 hc15
  generalize withinB la lb = vW at *
  have hbW : (vW == vW) = true := by simp
  go_wp2
  go_ret
  exact ⟨rfl, hend⟩

end Go.Proofs.Ytaejhkjigppelaa
