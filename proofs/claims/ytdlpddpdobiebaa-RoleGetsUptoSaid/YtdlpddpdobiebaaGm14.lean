/- Texts that the proof leans on, in one: RoleGets, OpenB. -/
import Derived.Test.YtdlpddpdobiebaaGm13
import Derived.Test.YtdlpddpdobiebaaRows
import Derived.Test.YtdlpddpdobiebaaGm1
import Derived.ProofKit
import Derived.OpenShut
import Derived.ShutString
import Derived.ChangeOld
import Derived.Deep.Slices
import Derived.Deep.Fields
import Derived.ChangeSame
/- The walk of the law RoleGets, where what it reads is not too long. -/
namespace Go.Proofs.Ytdlpddpdobiebaa
open Go.RowKit

/-- What holds of the world in the line of Put: is Put behind it? -/
structure StG (W0 : World) (Bx P : Nat) (r : RoleB) (zs : List UInt8) (b : Bool) (w : World) : Prop where
  box : w.heap[Bx]? = some (.cells (roleBox r) 24 (0, 0))
  pen : ∃ ao cap, PenAt (P + 1) w P ao cap (if b then zs else []) ∧ (b = false → ao = none)
  chg : Chg (fun _ => False) W0 w

theorem StG.go {W0 : World} {Bx P : Nat} {r : RoleB} {zs : List UInt8} {b : Bool} {w w' : World} (h : StG W0 Bx P r zs b w) (c : Chg (fun _ => False) w w') : StG W0 Bx P r zs b w' := by
  obtain ⟨h1, ⟨ao, cap, h2, h3⟩, h4⟩ := h
  exact ⟨blk_keep h1 c id, ⟨ao, cap, h2.keep c id (fun _ _ => id), h3⟩, h4.trans c (fun _ _ h => h)⟩

theorem StG.cells {W0 : World} {Bx P : Nat} {r : RoleB} {zs : List UInt8} {b : Bool} {w : World} (h : StG W0 Bx P r zs b w) :
    w.cell? ⟨Bx, 0, none⟩ = some (.string ⟨r.1.toArray⟩) ∧ w.cell? ⟨Bx, 1, none⟩ = some (.string ⟨r.2.toArray⟩) := ⟨cell_blk h.box 0, cell_blk h.box 1⟩

theorem totalR_one (r : RoleB) : totalR [r] = 1 + r.1.length + r.2.length := by simp [totalR]

def SpecR.textv (P : Nat) (zs : List UInt8) : SpecR (Chg (· = P)) :=
  ⟨fun v w => ∃ ao cp, v = .slice ao zs.length cp ∧ BytesAt (fun k => k ≠ P) w v zs, fun _ _ _ hc ⟨ao, cp, h1, h2⟩ => ⟨ao, cp, h1, h2.keep hc (fun i hi h => hi h)⟩⟩

def rgSpecsyes (Bx P : Nat) (r : RoleB) (zs : List UInt8) : List (SpecR (Chg (· = P))) := [.any, .any, .eq (.pointer (some ⟨Bx, 0, none⟩)), .any, .any, .eq (.pointer (some ⟨P, 0, none⟩)), .eq (.string ⟨zs.toArray⟩), .any, .any, .any, .any, .any, .any, .any, .any, .any, .any, .any, .any, .any, .any, .any, .any, .any, .any, .any, .any, .eq (.pointer (some ⟨P, 0, none⟩)), .eq (roleV r), .eq (.bool true), .eq (roleV r), .eq (.bool true), .eq (.bool false), .eq (.bool false), .eq (.pointer (some ⟨P, 0, none⟩)), .textv P zs, .eq (.string ⟨zs.toArray⟩), .eq (.string ⟨zs.toArray⟩), .eq (.bool false), .eq (.bool false), .eq (.bool false), .eq (roleV r), .eq (.bool false), .eq (.bool false)]

set_option maxRecDepth 100000 in
set_option maxHeartbeats 4000000 in
theorem rgets_yes {D : Nat → Prop} (a1 : Option Addr) (c1 : Nat) (r : RoleB) (b : List UInt8) (w : World) (hr : totalR [r] ≤ 800) (hb : b.length ≤ 200) (k1 : BytesAt D w (.slice a1 b.length c1) b) (hD : ∀ i, D i → i < w.heap.size) (hn : isRole r = true) :
    Calls Try.prog 4 #[roleV r, .slice a1 b.length c1] w fun e w' => e = .returned (.bool true) ∧ Chg (fun _ => False) w w' := by
  have hr2 := totalR_one r
  have dR : decide (800 < totalR [r]) = false := decide_eq_false (by omega)
  have dB : decide (200 < (b.length : Int)) = false := by simp; omega
  show Calls Try.prog 4 #[.agg #[.string ⟨r.1.toArray⟩, .string ⟨r.2.toArray⟩], .slice a1 b.length c1] w _
  have hx1 : (w.alloc (.cells (roleBox r) 24)).heap[w.heap.size]? = some (.cells (roleBox r) 24 (0, 0)) := heap_alloc_new w _
  have hc1 : Chg (fun _ => False) w (w.alloc (.cells #[.string ⟨r.1.toArray⟩, .string ⟨r.2.toArray⟩] 24)) := (Chg.refl _ w).alloc _
  go_enter Try.func4, Try.ntmps4
  go_wp2_with fail
  refine (first_any _).mono ?_
  rintro e w2 ⟨rfl, hc2⟩
  have hx2 := blk_keep hx1 hc2 id
  have hcw := hc1.trans hc2 (fun _ _ h => h)
  have s0 := cell_blk hx2 0
  have s1 := cell_blk hx2 1
  simp only [roleBox, List.getElem?_toArray, List.getElem?_cons_zero, List.getElem?_cons_succ] at s0 s1
  clear hx1 hc1 hc2
  have hBw : w.heap.size ≤ w.heap.size := Nat.le_refl _
  generalize hBx : w.heap.size = Bx at *
  have hl3 := roles_lit [r] w2 (0, 0) (by intro x hx; rw [List.mem_singleton.1 hx]; omega)
  have hc23 : Chg (fun _ => False) w2 (w2.alloc (.cells (roleRow [r]).toArray 24)) := (Chg.refl _ w2).alloc _
  have hlg := rlong_any (some ⟨w2.heap.size, 0, none⟩) 1 [r] (w2.alloc (.cells (roleRow [r]).toArray 24)) (by omega) hl3
  have HL := hid (And.intro hlg hc23)
  clear hlg hc23 hl3
  go_wp2_with fail
  obtain ⟨hlg, hc23⟩ := HL.out
  refine hlg.mono ?_
  rintro e w3 ⟨rfl, hc3⟩
  rw [dR]
  have hcc := hc23.trans hc3 (fun _ _ h => h)
  have hx3 := blk_keep hx2 hcc id
  have hcw3 := hcw.trans hcc (fun _ _ h => h)
  clear HL hlg hc23 hc3 hcc hx2 hcw s0 s1
  have hBx3 : Bx < w3.heap.size := lt_blk hx3
  have hp4 := pen_new w3 (w3.heap.size + 1)
  have hc34 : Chg (fun _ => False) w3 (w3.alloc (.cells #[.slice none 0 0] 40)) := (Chg.refl _ w3).alloc _
  have hx4 := blk_keep hx3 hc34 id
  have hcw4 := hcw3.trans hc34 (fun _ _ h => h)
  have hs4 : (w3.alloc (.cells #[.slice none 0 0] 40)).heap.size = w3.heap.size + 1 := by simp
  have s0 := cell_blk hx4 0
  have s1 := cell_blk hx4 1
  simp only [roleBox, List.getElem?_toArray, List.getElem?_cons_zero, List.getElem?_cons_succ] at s0 s1
  go_wp2_with fail
  clear hx3 hcw3 hc34 s0 s1 dR dB
  generalize w3.alloc (.cells #[.slice none 0 0] 40) = w4 at *
  generalize w3.heap.size = P at *
  refine (rright_ref r w4 (by omega) (by omega)).mono ?_
  rintro e w5 ⟨rfl, hc45⟩
  rw [hn]
  have hx5 := blk_keep hx4 hc45 id
  have hp5 := hp4.keep hc45 id (fun _ _ => id)
  have hcw5 := hcw4.trans hc45 (fun _ _ h => h)
  have hs5 := hc45.size
  clear hx4 hp4 hcw4 hc45
  have s0 := cell_blk hx5 0
  have s1 := cell_blk hx5 1
  simp only [roleBox, List.getElem?_toArray, List.getElem?_cons_zero, List.getElem?_cons_succ] at s0 s1
  go_wp2_with fail
  refine (rbytes_ref r w5 (by omega) (by omega)).mono ?_
  rintro e w6 ⟨rfl, hc56⟩
  have hS : StG w Bx P r (roleEnc r) false w6 := ⟨blk_keep hx5 hc56 id, ⟨none, 0, hp5.keep hc56 id (fun _ _ => id), fun _ => rfl⟩, hcw5.trans hc56 (fun _ _ h => h)⟩
  have hs6 := hc56.size
  have hzl : (roleEnc r).length ≤ 1000 := by
    have := role_len hn
    rw [roleEnc, enc_small (by omega), enc_small (by omega)]
    simp
    omega
  clear hx5 hp5 hcw5 hc56 s0 s1
  generalize hzs : roleEnc r = zs at *
  have HZ := hid hzs
  clear hzs
  go_wp2_with fail
  have H6 : Value.string ⟨zs.toArray⟩ = .string ⟨zs.toArray⟩ := rfl
  have hc0 := hS.chg
  refine wp_region_state (Chg (· = P)) (fun L w9 => StG w Bx P r zs (L 2) w9 ∧ (L 5 = true → L 2 = true) ∧ (L 6 = true → L 2 = true)) (specAtR (rgSpecsyes Bx P r zs)) [27, 28, 29, 30, 31, 32, 33, 34, 35, 36, 37, 38, 39, 40, 41, 42, 43] [2, 5, 6] (by kernel_rfl) (by kernel_rfl) ⟨hS.go (Chg.refl _ _).drew, (fun h => by cases h), (fun h => by cases h)⟩ (fun t v w w' hc h => specAtR_st _ t v w w' hc h) (by rfl) (by kernel_rfl) ?start ?obs ?fin
  case start =>
    simp only [List.forall_mem_cons]
    exact ⟨⟨_, rfl, rfl⟩, ⟨_, rfl, rfl⟩, ⟨_, rfl, H6⟩, fun _ h => by cases h⟩
  case obs =>
    clear hS hc0
    refine ObsL.cons none (by kernel_rfl) ?_ ?_
    · refine ObL.plain fun L a w hi he hW hk K k => ?_
      obtain ⟨_, e5, f5⟩ := hk 5 (by decide)
      clear hk
      clear hi he
      go_simp
      exact k _ _ (Chg.refl _ _) hW f5
    refine ObsL.cons none (by kernel_rfl) ?_ ?_
    · refine ObL.plain fun L a w hi he hW hk K k => ?_
      obtain ⟨_, e2, rfl⟩ := hk 2 (by decide)
      clear hk
      clear hi he
      obtain ⟨q0, q1⟩ := hW.1.cells
      go_simp
      exact k _ _ (Chg.refl _ _) hW rfl
    refine ObsL.cons none (by kernel_rfl) ?_ ?_
    · refine ObL.plain fun L a w hi he hW hk K k => ?_
      obtain ⟨_, e27, rfl⟩ := hk 27 (by decide)
      obtain ⟨_, e28, rfl⟩ := hk 28 (by decide)
      clear hk
      have hw1 := hW.1
      rw [hi] at hw1
      obtain ⟨hb1, ⟨ao, cap, hp, hz⟩, hch⟩ := hw1
      obtain rfl := hz rfl
      have hpl := lt_blk hp.cell
      clear he
      go_simp
      refine (pput_yes (P + 1) P cap none [] r _ hp (by omega) (by omega) (by simp) hn).mono ?_
      rintro e w9 ⟨rfl, ao9, cap9, hp9, hch9⟩
      rw [List.nil_append, HZ.out] at hp9
      have hc9 := hch9.chg.mono (T := (· = P)) (fun _ _ h => h.elim id (fun h => by cases h))
      exact k _ _ hc9 ⟨⟨blk_keep hb1 hc9 (by omega), ⟨ao9, cap9, hp9, fun h => by cases h⟩, hch.trans hc9 (fun i hi h => by omega)⟩, fun _ => rfl, fun _ => rfl⟩ rfl
    refine ObsL.cons none (by kernel_rfl) ?_ ?_
    · refine ObL.plain fun L a w hi he hW hk K k => ?_
      obtain ⟨_, e2, rfl⟩ := hk 2 (by decide)
      clear hk
      clear hi he
      obtain ⟨q0, q1⟩ := hW.1.cells
      go_simp
      exact k _ _ (Chg.refl _ _) hW rfl
    refine ObsL.cons none (by kernel_rfl) ?_ ?_
    · refine ObL.plain fun L a w hi he hW hk K k => ?_
      obtain ⟨_, e30, rfl⟩ := hk 30 (by decide)
      clear hk
      clear hi he
      go_simp
      refine (rright_ref r _ (by omega) (by omega)).mono ?_
      rintro e w9 ⟨rfl, hc⟩
      exact k _ _ (hc.mono (fun _ _ h => h.elim)) ⟨hW.1.go hc, hW.2⟩ (congrArg Value.bool hn)
    refine ObsL.cons none (by kernel_rfl) ?_ ?_
    · refine ObL.plain fun L a w hi he hW hk K k => ?_
      obtain ⟨_, e29, rfl⟩ := hk 29 (by decide)
      obtain ⟨_, e31, rfl⟩ := hk 31 (by decide)
      clear hk
      have h2 := he { on := 2, ground := Ground.data } (by simp) rfl
      clear hi he
      go_simp
      exact k _ _ (Chg.refl _ _) ⟨hW.1, fun _ => h2, hW.2.2⟩ rfl
    refine ObsL.cons none (by kernel_rfl) ?_ ?_
    · refine ObL.plain fun L a w hi he hW hk K k => ?_
      obtain ⟨_, e32, f32⟩ := hk 32 (by decide)
      clear hk
      have h2 := hW.2.1 (he { on := 5, ground := Ground.data } (by simp) rfl)
      clear hi he
      go_simp
      exact k _ _ (Chg.refl _ _) ⟨hW.1, hW.2.1, fun _ => h2⟩ f32
    refine ObsL.cons (some (33, false)) (by kernel_rfl) ?_ ?_
    · refine ObL.yes (fun _ _ h => h) fun L a w hi he hW hk K k => ?_
      obtain ⟨_, e5, f5⟩ := hk 5 (by decide)
      clear hk
      clear hi he
      go_simp
      exact k _ _ (Chg.refl _ _) hW f5
    refine ObsL.cons (some (33, false)) (by kernel_rfl) ?_ ?_
    · refine ObL.yes (fun _ _ h => h) fun L a w hi he hW hk K k => ?_
      obtain ⟨_, e34, rfl⟩ := hk 34 (by decide)
      clear hk
      have h2 := hW.2.2 (he { on := 6, ground := Ground.chain } (by simp) rfl)
      have hw1 := hW.1
      rw [h2] at hw1
      obtain ⟨hb1, ⟨ao, cap, hp, hz⟩, hch⟩ := hw1
      have hp2 : PenAt (P + 1) w P ao cap zs := hp
      have hpl := lt_blk hp.cell
      clear hi he
      go_simp
      refine (bytes_any _ _ _ _ zs _ hp2 (by omega)).mono ?_
      rintro e w9 ⟨ao9, cap9, rfl, hby, hc⟩
      exact k _ _ (hc.mono (fun _ _ h => h.elim)) ⟨hW.1.go hc, hW.2⟩ ⟨_, _, rfl, hby.mono (fun i hi => by omega)⟩
    refine ObsL.cons (some (33, false)) (by kernel_rfl) ?_ ?_
    · refine ObL.yes (fun _ _ h => h) fun L a w hi he hW hk K k => ?_
      obtain ⟨_, e35, f35⟩ := hk 35 (by decide)
      clear hk
      obtain ⟨ao, cp, rfl, hby⟩ := f35
      have hcv := conv_bytes hby
      clear hi he
      go_simp
      exact k _ _ (Chg.refl _ _) hW rfl
    refine ObsL.cons (some (33, false)) (by kernel_rfl) ?_ ?_
    · refine ObL.yes (fun _ _ h => h) fun L a w hi he hW hk K k => ?_
      obtain ⟨_, e6, f6⟩ := hk 6 (by decide)
      clear hk
      clear hi he
      go_simp
      exact k _ _ (Chg.refl _ _) hW f6
    refine ObsL.cons (some (33, false)) (by kernel_rfl) ?_ ?_
    · refine ObL.yes (fun _ _ h => h) fun L a w hi he hW hk K k => ?_
      obtain ⟨_, e36, rfl⟩ := hk 36 (by decide)
      obtain ⟨_, e37, rfl⟩ := hk 37 (by decide)
      clear hk
      have z : (zs == zs) = true := by simp
      clear hi he
      go_simp
      exact k _ _ (Chg.refl _ _) hW rfl
    refine ObsL.cons none (by kernel_rfl) ?_ ?_
    · refine ObL.plain fun L a w hi he hW hk K k => ?_
      obtain ⟨_, e33, rfl⟩ := hk 33 (by decide)
      obtain ⟨_, e38, rfl⟩ := hk 38 (by decide)
      clear hk
      clear hi he
      go_simp
      exact k _ _ (Chg.refl _ _) hW rfl
    refine ObsL.cons none (by kernel_rfl) ?_ ?_
    · refine ObL.plain fun L a w hi he hW hk K k => ?_
      obtain ⟨_, e39, f39⟩ := hk 39 (by decide)
      clear hk
      clear hi he
      go_simp
      exact k _ _ (Chg.refl _ _) hW f39
    refine ObsL.cons (some (40, false)) (by kernel_rfl) ?_ ?_
    · refine ObL.yes (fun _ _ h => h) fun L a w hi he hW hk K k => ?_
      obtain ⟨_, e2, rfl⟩ := hk 2 (by decide)
      clear hk
      clear hi he
      obtain ⟨q0, q1⟩ := hW.1.cells
      go_simp
      exact k _ _ (Chg.refl _ _) hW rfl
    refine ObsL.cons (some (40, false)) (by kernel_rfl) ?_ ?_
    · refine ObL.yes (fun _ _ h => h) fun L a w hi he hW hk K k => ?_
      obtain ⟨_, e41, rfl⟩ := hk 41 (by decide)
      clear hk
      clear hi he
      go_simp
      refine (pput_nil r _ (by omega) (by omega)).mono ?_
      rintro e w9 ⟨rfl, hc⟩
      exact k _ _ (hc.mono (fun _ _ h => h.elim)) ⟨hW.1.go hc, hW.2⟩ rfl
    refine ObsL.cons none (by kernel_rfl) ?_ ?_
    · refine ObL.plain fun L a w hi he hW hk K k => ?_
      obtain ⟨_, e40, rfl⟩ := hk 40 (by decide)
      obtain ⟨_, e42, rfl⟩ := hk 42 (by decide)
      clear hk
      clear hi he
      go_simp
      exact k _ _ (Chg.refl _ _) hW rfl
    exact ObsL.nil
  case fin =>
    intro L vals w9 hL hWL hv
    have h43 : vals 43 = .bool false := hv 43 (by decide)
    simp only [putAll, List.setIfInBounds_toArray, List.set_cons_zero, List.set_cons_succ, h43]
    have hc9 := hWL.1.chg
    clear hS hc0 hv hWL h43 hL
    have k9 := k1.keep hc9 (fun _ _ => id)
    have hs9 := hc9.size
    have hconv2 := conv_bytes k9
    have hT := heap_alloc_new w9 (.cells #[.string ⟨b.toArray⟩, .int .i64 0] 45)
    have hc1011 : Chg (fun _ => False) w9 (w9.alloc (.cells #[.string ⟨b.toArray⟩, .int .i64 0] 45)) := (Chg.refl _ w9).alloc _
    have hX := heap_alloc_new (w9.alloc (.cells #[.string ⟨b.toArray⟩, .int .i64 0] 45)) (.cells #[.string ⟨#[]⟩, .string ⟨#[]⟩] 24)
    have hc1112 : Chg (fun _ => False) (w9.alloc (.cells #[.string ⟨b.toArray⟩, .int .i64 0] 45)) ((w9.alloc (.cells #[.string ⟨b.toArray⟩, .int .i64 0] 45)).alloc (.cells #[.string ⟨#[]⟩, .string ⟨#[]⟩] 24)) := (Chg.refl _ _).alloc _
    have hsz : (w9.alloc (.cells #[.string ⟨b.toArray⟩, .int .i64 0] 45)).heap.size = w9.heap.size + 1 := by simp
    rw [hsz] at hX
    have hT12 := blk_keep hT hc1112 id
    have hcT := hc1011.trans hc1112 (fun _ _ h => h)
    have hc12 := hc9.trans hcT (fun _ _ h => h)
    have k12 := k9.keep hcT (fun _ _ => id)
    have hs12 := hc12.size
    have HH := hid (And.intro hT12 (And.intro hX (And.intro hc12 k12)))
    clear hT hc1011 hX hc1112 hsz hT12 hcT hc12 k12 k9 hc9
    go_wp2_with fail
    obtain ⟨hT12, hX, hc12, k12⟩ := HH.out
    clear hconv2 HH
    generalize (w9.alloc (.cells #[.string ⟨b.toArray⟩, .int .i64 0] 45)).alloc (.cells #[.string ⟨#[]⟩, .string ⟨#[]⟩] 24) = w12 at *
    generalize w9.heap.size = T at *
    refine (readG_any (z := noRole) (l := b) (w := w12) (by omega) k12 (fun i hi => by have := hD i hi; omega) (fun h => by have := hD _ h; omega) hX).mono ?_
    rintro e w13 ⟨rfl, hX13, hc1213⟩
    have hT13 : TapeAt w13 T b 0 := blk_keep hT12 hc1213 (by omega)
    have hc13 := hc12.trans hc1213 (T := (· = T + 1)) (S := fun _ => False) (fun i hi h => by have : i = T + 1 := h; omega)
    clear hX hT12 hc1213 hc12 k12
    go_wp2_with fail
    refine (rget_end T b w13 (by omega) hT13).mono ?_
    rintro e w14 ⟨rfl, ⟨l', e', hT14, hend⟩, hc1314⟩
    have hX14 := blk_keep hX13 hc1314 (show ¬ (T + 1 = T) by omega)
    have hc14 := hc13.trans hc1314 (T := (· = T)) (S := fun _ => False) (fun i hi h => by have : i = T := h; omega)
    clear hX13 hT13 hc1314 hc13
    generalize roleGot b noRole = gg at *
    generalize roleErr b = ne at *
    obtain ⟨go, gw⟩ := gg
    rw [show roleV (go, gw) = .agg #[.string ⟨go.toArray⟩, .string ⟨gw.toArray⟩] from rfl]
    have hc15 : Chg (fun _ => False) w14 (w14.alloc (.cells #[.string ⟨go.toArray⟩, .string ⟨gw.toArray⟩] 24)) := (Chg.refl _ w14).alloc _
    have hT15 : TapeAt _ T l' e' := blk_keep hT14 hc15 id
    have hX15 := blk_keep hX14 hc15 id
    have x0 := cell_blk hX15 0
    have x1 := cell_blk hX15 1
    have hcw := hc14.trans hc15 (fun _ _ h => h)
    simp only [roleBox, List.getElem?_toArray, List.getElem?_cons_zero, List.getElem?_cons_succ] at x0 x1
    have g0 : (go == go) = true := by simp
    have g1 : (gw == gw) = true := by simp
    have HE := hid (And.intro hT15 hcw)
    clear hX14 hT14 hc14 hc15 hT15 hX15 hcw
    go_wp2_with fail
    refine (tend_any T l' e' _ HE.out.1).mono ?_
    rintro e w' ⟨rfl, rfl⟩
    rw [hend]
    clear x0 x1
    go_wp2
    go_ret
    exact ⟨rfl, HE.out.2⟩

def rgSpecsno (Bx P : Nat) (r : RoleB) (zs : List UInt8) : List (SpecR (Chg (· = P))) := [.any, .any, .eq (.pointer (some ⟨Bx, 0, none⟩)), .any, .any, .eq (.pointer (some ⟨P, 0, none⟩)), .eq (.string ⟨zs.toArray⟩), .any, .any, .any, .any, .any, .any, .any, .any, .any, .any, .any, .any, .any, .any, .any, .any, .any, .any, .any, .any, .eq (.pointer (some ⟨P, 0, none⟩)), .eq (roleV r), .eq (.bool false), .eq (roleV r), .eq (.bool false), .eq (.bool false), .eq (.bool false), .eq (.pointer (some ⟨P, 0, none⟩)), .textv P zs, .eq (.string ⟨zs.toArray⟩), .eq (.string ⟨zs.toArray⟩), .eq (.bool false), .eq (.bool false), .eq (.bool false), .eq (roleV r), .eq (.bool false), .eq (.bool false)]

set_option maxRecDepth 100000 in
set_option maxHeartbeats 4000000 in
theorem rgets_no {D : Nat → Prop} (a1 : Option Addr) (c1 : Nat) (r : RoleB) (b : List UInt8) (w : World) (hr : totalR [r] ≤ 800) (hb : b.length ≤ 200) (k1 : BytesAt D w (.slice a1 b.length c1) b) (hD : ∀ i, D i → i < w.heap.size) (hn : isRole r = false) :
    Calls Try.prog 4 #[roleV r, .slice a1 b.length c1] w fun e w' => e = .returned (.bool true) ∧ Chg (fun _ => False) w w' := by
  have hr2 := totalR_one r
  have dR : decide (800 < totalR [r]) = false := decide_eq_false (by omega)
  have dB : decide (200 < (b.length : Int)) = false := by simp; omega
  show Calls Try.prog 4 #[.agg #[.string ⟨r.1.toArray⟩, .string ⟨r.2.toArray⟩], .slice a1 b.length c1] w _
  have hx1 : (w.alloc (.cells (roleBox r) 24)).heap[w.heap.size]? = some (.cells (roleBox r) 24 (0, 0)) := heap_alloc_new w _
  have hc1 : Chg (fun _ => False) w (w.alloc (.cells #[.string ⟨r.1.toArray⟩, .string ⟨r.2.toArray⟩] 24)) := (Chg.refl _ w).alloc _
  go_enter Try.func4, Try.ntmps4
  go_wp2_with fail
  refine (first_any _).mono ?_
  rintro e w2 ⟨rfl, hc2⟩
  have hx2 := blk_keep hx1 hc2 id
  have hcw := hc1.trans hc2 (fun _ _ h => h)
  have s0 := cell_blk hx2 0
  have s1 := cell_blk hx2 1
  simp only [roleBox, List.getElem?_toArray, List.getElem?_cons_zero, List.getElem?_cons_succ] at s0 s1
  clear hx1 hc1 hc2
  have hBw : w.heap.size ≤ w.heap.size := Nat.le_refl _
  generalize hBx : w.heap.size = Bx at *
  have hl3 := roles_lit [r] w2 (0, 0) (by intro x hx; rw [List.mem_singleton.1 hx]; omega)
  have hc23 : Chg (fun _ => False) w2 (w2.alloc (.cells (roleRow [r]).toArray 24)) := (Chg.refl _ w2).alloc _
  have hlg := rlong_any (some ⟨w2.heap.size, 0, none⟩) 1 [r] (w2.alloc (.cells (roleRow [r]).toArray 24)) (by omega) hl3
  have HL := hid (And.intro hlg hc23)
  clear hlg hc23 hl3
  go_wp2_with fail
  obtain ⟨hlg, hc23⟩ := HL.out
  refine hlg.mono ?_
  rintro e w3 ⟨rfl, hc3⟩
  rw [dR]
  have hcc := hc23.trans hc3 (fun _ _ h => h)
  have hx3 := blk_keep hx2 hcc id
  have hcw3 := hcw.trans hcc (fun _ _ h => h)
  clear HL hlg hc23 hc3 hcc hx2 hcw s0 s1
  have hBx3 : Bx < w3.heap.size := lt_blk hx3
  have hp4 := pen_new w3 (w3.heap.size + 1)
  have hc34 : Chg (fun _ => False) w3 (w3.alloc (.cells #[.slice none 0 0] 40)) := (Chg.refl _ w3).alloc _
  have hx4 := blk_keep hx3 hc34 id
  have hcw4 := hcw3.trans hc34 (fun _ _ h => h)
  have hs4 : (w3.alloc (.cells #[.slice none 0 0] 40)).heap.size = w3.heap.size + 1 := by simp
  have s0 := cell_blk hx4 0
  have s1 := cell_blk hx4 1
  simp only [roleBox, List.getElem?_toArray, List.getElem?_cons_zero, List.getElem?_cons_succ] at s0 s1
  go_wp2_with fail
  clear hx3 hcw3 hc34 s0 s1 dR dB
  generalize w3.alloc (.cells #[.slice none 0 0] 40) = w4 at *
  generalize w3.heap.size = P at *
  refine (rright_ref r w4 (by omega) (by omega)).mono ?_
  rintro e w5 ⟨rfl, hc45⟩
  rw [hn]
  have hx5 := blk_keep hx4 hc45 id
  have hp5 := hp4.keep hc45 id (fun _ _ => id)
  have hcw5 := hcw4.trans hc45 (fun _ _ h => h)
  have hs5 := hc45.size
  clear hx4 hp4 hcw4 hc45
  obtain ⟨zs, hzs⟩ : ∃ zs : List UInt8, zs = [] := ⟨_, rfl⟩
  have hS : StG w Bx P r zs false w5 := ⟨hx5, ⟨none, 0, hp5, fun _ => rfl⟩, hcw5⟩
  have HH6 : Hid (Value.string ⟨#[]⟩ = .string ⟨zs.toArray⟩) := hid (by rw [hzs])
  have hzl : zs.length ≤ 1000 := by rw [hzs]; simp
  have HZ := hid hzs
  clear hzs
  clear hx5 hp5 hcw5
  go_wp2_with fail
  have H6 := HH6.out
  have hc0 := hS.chg
  refine wp_region_state (Chg (· = P)) (fun L w9 => StG w Bx P r zs (L 2) w9 ∧ (L 5 = true → L 2 = true) ∧ (L 6 = true → L 2 = true)) (specAtR (rgSpecsno Bx P r zs)) [27, 28, 29, 30, 31, 32, 33, 34, 35, 36, 37, 38, 39, 40, 41, 42, 43] [2, 5, 6] (by kernel_rfl) (by kernel_rfl) ⟨hS.go (Chg.refl _ _).drew, (fun h => by cases h), (fun h => by cases h)⟩ (fun t v w w' hc h => specAtR_st _ t v w w' hc h) (by rfl) (by kernel_rfl) ?start ?obs ?fin
  case start =>
    simp only [List.forall_mem_cons]
    exact ⟨⟨_, rfl, rfl⟩, ⟨_, rfl, rfl⟩, ⟨_, rfl, H6⟩, fun _ h => by cases h⟩
  case obs =>
    clear hS hc0
    refine ObsL.cons none (by kernel_rfl) ?_ ?_
    · refine ObL.plain fun L a w hi he hW hk K k => ?_
      obtain ⟨_, e5, f5⟩ := hk 5 (by decide)
      clear hk
      clear hi he
      go_simp
      exact k _ _ (Chg.refl _ _) hW f5
    refine ObsL.cons none (by kernel_rfl) ?_ ?_
    · refine ObL.plain fun L a w hi he hW hk K k => ?_
      obtain ⟨_, e2, rfl⟩ := hk 2 (by decide)
      clear hk
      clear hi he
      obtain ⟨q0, q1⟩ := hW.1.cells
      go_simp
      exact k _ _ (Chg.refl _ _) hW rfl
    refine ObsL.cons none (by kernel_rfl) ?_ ?_
    · refine ObL.plain fun L a w hi he hW hk K k => ?_
      obtain ⟨_, e27, rfl⟩ := hk 27 (by decide)
      obtain ⟨_, e28, rfl⟩ := hk 28 (by decide)
      clear hk
      have hw1 := hW.1
      rw [hi] at hw1
      obtain ⟨hb1, ⟨ao, cap, hp, hz⟩, hch⟩ := hw1
      obtain rfl := hz rfl
      have hpl := lt_blk hp.cell
      clear he
      go_simp
      refine (pput_no _ r _ (by omega) (by omega) hn).mono ?_
      rintro e w9 ⟨rfl, hc⟩
      exact k _ _ (hc.mono (fun _ _ h => h.elim)) ⟨⟨blk_keep hb1 hc id, ⟨none, cap, by show PenAt (P + 1) w9 P none cap zs; rw [HZ.out]; exact hp.keep hc id (fun _ _ => id), fun h => by cases h⟩, hch.trans hc (fun _ _ h => h)⟩, fun _ => rfl, fun _ => rfl⟩ rfl
    refine ObsL.cons none (by kernel_rfl) ?_ ?_
    · refine ObL.plain fun L a w hi he hW hk K k => ?_
      obtain ⟨_, e2, rfl⟩ := hk 2 (by decide)
      clear hk
      clear hi he
      obtain ⟨q0, q1⟩ := hW.1.cells
      go_simp
      exact k _ _ (Chg.refl _ _) hW rfl
    refine ObsL.cons none (by kernel_rfl) ?_ ?_
    · refine ObL.plain fun L a w hi he hW hk K k => ?_
      obtain ⟨_, e30, rfl⟩ := hk 30 (by decide)
      clear hk
      clear hi he
      go_simp
      refine (rright_ref r _ (by omega) (by omega)).mono ?_
      rintro e w9 ⟨rfl, hc⟩
      exact k _ _ (hc.mono (fun _ _ h => h.elim)) ⟨hW.1.go hc, hW.2⟩ (congrArg Value.bool hn)
    refine ObsL.cons none (by kernel_rfl) ?_ ?_
    · refine ObL.plain fun L a w hi he hW hk K k => ?_
      obtain ⟨_, e29, rfl⟩ := hk 29 (by decide)
      obtain ⟨_, e31, rfl⟩ := hk 31 (by decide)
      clear hk
      have h2 := he { on := 2, ground := Ground.data } (by simp) rfl
      clear hi he
      go_simp
      exact k _ _ (Chg.refl _ _) ⟨hW.1, fun _ => h2, hW.2.2⟩ rfl
    refine ObsL.cons none (by kernel_rfl) ?_ ?_
    · refine ObL.plain fun L a w hi he hW hk K k => ?_
      obtain ⟨_, e32, f32⟩ := hk 32 (by decide)
      clear hk
      have h2 := hW.2.1 (he { on := 5, ground := Ground.data } (by simp) rfl)
      clear hi he
      go_simp
      exact k _ _ (Chg.refl _ _) ⟨hW.1, hW.2.1, fun _ => h2⟩ f32
    refine ObsL.cons (some (33, false)) (by kernel_rfl) ?_ ?_
    · refine ObL.yes (fun _ _ h => h) fun L a w hi he hW hk K k => ?_
      obtain ⟨_, e5, f5⟩ := hk 5 (by decide)
      clear hk
      clear hi he
      go_simp
      exact k _ _ (Chg.refl _ _) hW f5
    refine ObsL.cons (some (33, false)) (by kernel_rfl) ?_ ?_
    · refine ObL.yes (fun _ _ h => h) fun L a w hi he hW hk K k => ?_
      obtain ⟨_, e34, rfl⟩ := hk 34 (by decide)
      clear hk
      have h2 := hW.2.2 (he { on := 6, ground := Ground.chain } (by simp) rfl)
      have hw1 := hW.1
      rw [h2] at hw1
      obtain ⟨hb1, ⟨ao, cap, hp, hz⟩, hch⟩ := hw1
      have hp2 : PenAt (P + 1) w P ao cap zs := hp
      have hpl := lt_blk hp.cell
      clear hi he
      go_simp
      refine (bytes_any _ _ _ _ zs _ hp2 (by omega)).mono ?_
      rintro e w9 ⟨ao9, cap9, rfl, hby, hc⟩
      exact k _ _ (hc.mono (fun _ _ h => h.elim)) ⟨hW.1.go hc, hW.2⟩ ⟨_, _, rfl, hby.mono (fun i hi => by omega)⟩
    refine ObsL.cons (some (33, false)) (by kernel_rfl) ?_ ?_
    · refine ObL.yes (fun _ _ h => h) fun L a w hi he hW hk K k => ?_
      obtain ⟨_, e35, f35⟩ := hk 35 (by decide)
      clear hk
      obtain ⟨ao, cp, rfl, hby⟩ := f35
      have hcv := conv_bytes hby
      clear hi he
      go_simp
      exact k _ _ (Chg.refl _ _) hW rfl
    refine ObsL.cons (some (33, false)) (by kernel_rfl) ?_ ?_
    · refine ObL.yes (fun _ _ h => h) fun L a w hi he hW hk K k => ?_
      obtain ⟨_, e6, f6⟩ := hk 6 (by decide)
      clear hk
      clear hi he
      go_simp
      exact k _ _ (Chg.refl _ _) hW f6
    refine ObsL.cons (some (33, false)) (by kernel_rfl) ?_ ?_
    · refine ObL.yes (fun _ _ h => h) fun L a w hi he hW hk K k => ?_
      obtain ⟨_, e36, rfl⟩ := hk 36 (by decide)
      obtain ⟨_, e37, rfl⟩ := hk 37 (by decide)
      clear hk
      have z : (zs == zs) = true := by simp
      clear hi he
      go_simp
      exact k _ _ (Chg.refl _ _) hW rfl
    refine ObsL.cons none (by kernel_rfl) ?_ ?_
    · refine ObL.plain fun L a w hi he hW hk K k => ?_
      obtain ⟨_, e33, rfl⟩ := hk 33 (by decide)
      obtain ⟨_, e38, rfl⟩ := hk 38 (by decide)
      clear hk
      clear hi he
      go_simp
      exact k _ _ (Chg.refl _ _) hW rfl
    refine ObsL.cons none (by kernel_rfl) ?_ ?_
    · refine ObL.plain fun L a w hi he hW hk K k => ?_
      obtain ⟨_, e39, f39⟩ := hk 39 (by decide)
      clear hk
      clear hi he
      go_simp
      exact k _ _ (Chg.refl _ _) hW f39
    refine ObsL.cons (some (40, false)) (by kernel_rfl) ?_ ?_
    · refine ObL.yes (fun _ _ h => h) fun L a w hi he hW hk K k => ?_
      obtain ⟨_, e2, rfl⟩ := hk 2 (by decide)
      clear hk
      clear hi he
      obtain ⟨q0, q1⟩ := hW.1.cells
      go_simp
      exact k _ _ (Chg.refl _ _) hW rfl
    refine ObsL.cons (some (40, false)) (by kernel_rfl) ?_ ?_
    · refine ObL.yes (fun _ _ h => h) fun L a w hi he hW hk K k => ?_
      obtain ⟨_, e41, rfl⟩ := hk 41 (by decide)
      clear hk
      clear hi he
      go_simp
      refine (pput_nil r _ (by omega) (by omega)).mono ?_
      rintro e w9 ⟨rfl, hc⟩
      exact k _ _ (hc.mono (fun _ _ h => h.elim)) ⟨hW.1.go hc, hW.2⟩ rfl
    refine ObsL.cons none (by kernel_rfl) ?_ ?_
    · refine ObL.plain fun L a w hi he hW hk K k => ?_
      obtain ⟨_, e40, rfl⟩ := hk 40 (by decide)
      obtain ⟨_, e42, rfl⟩ := hk 42 (by decide)
      clear hk
      clear hi he
      go_simp
      exact k _ _ (Chg.refl _ _) hW rfl
    exact ObsL.nil
  case fin =>
    intro L vals w9 hL hWL hv
    have h43 : vals 43 = .bool false := hv 43 (by decide)
    simp only [putAll, List.setIfInBounds_toArray, List.set_cons_zero, List.set_cons_succ, h43]
    have hc9 := hWL.1.chg
    clear hS hc0 hv hWL h43 hL
    have k9 := k1.keep hc9 (fun _ _ => id)
    have hs9 := hc9.size
    have hconv2 := conv_bytes k9
    have hT := heap_alloc_new w9 (.cells #[.string ⟨b.toArray⟩, .int .i64 0] 45)
    have hc1011 : Chg (fun _ => False) w9 (w9.alloc (.cells #[.string ⟨b.toArray⟩, .int .i64 0] 45)) := (Chg.refl _ w9).alloc _
    have hX := heap_alloc_new (w9.alloc (.cells #[.string ⟨b.toArray⟩, .int .i64 0] 45)) (.cells #[.string ⟨#[]⟩, .string ⟨#[]⟩] 24)
    have hc1112 : Chg (fun _ => False) (w9.alloc (.cells #[.string ⟨b.toArray⟩, .int .i64 0] 45)) ((w9.alloc (.cells #[.string ⟨b.toArray⟩, .int .i64 0] 45)).alloc (.cells #[.string ⟨#[]⟩, .string ⟨#[]⟩] 24)) := (Chg.refl _ _).alloc _
    have hsz : (w9.alloc (.cells #[.string ⟨b.toArray⟩, .int .i64 0] 45)).heap.size = w9.heap.size + 1 := by simp
    rw [hsz] at hX
    have hT12 := blk_keep hT hc1112 id
    have hcT := hc1011.trans hc1112 (fun _ _ h => h)
    have hc12 := hc9.trans hcT (fun _ _ h => h)
    have k12 := k9.keep hcT (fun _ _ => id)
    have hs12 := hc12.size
    have HH := hid (And.intro hT12 (And.intro hX (And.intro hc12 k12)))
    clear hT hc1011 hX hc1112 hsz hT12 hcT hc12 k12 k9 hc9
    go_wp2_with fail
    obtain ⟨hT12, hX, hc12, k12⟩ := HH.out
    clear hconv2 HH
    generalize (w9.alloc (.cells #[.string ⟨b.toArray⟩, .int .i64 0] 45)).alloc (.cells #[.string ⟨#[]⟩, .string ⟨#[]⟩] 24) = w12 at *
    generalize w9.heap.size = T at *
    refine (readG_any (z := noRole) (l := b) (w := w12) (by omega) k12 (fun i hi => by have := hD i hi; omega) (fun h => by have := hD _ h; omega) hX).mono ?_
    rintro e w13 ⟨rfl, hX13, hc1213⟩
    have hT13 : TapeAt w13 T b 0 := blk_keep hT12 hc1213 (by omega)
    have hc13 := hc12.trans hc1213 (T := (· = T + 1)) (S := fun _ => False) (fun i hi h => by have : i = T + 1 := h; omega)
    clear hX hT12 hc1213 hc12 k12
    go_wp2_with fail
    refine (rget_end T b w13 (by omega) hT13).mono ?_
    rintro e w14 ⟨rfl, ⟨l', e', hT14, hend⟩, hc1314⟩
    have hX14 := blk_keep hX13 hc1314 (show ¬ (T + 1 = T) by omega)
    have hc14 := hc13.trans hc1314 (T := (· = T)) (S := fun _ => False) (fun i hi h => by have : i = T := h; omega)
    clear hX13 hT13 hc1314 hc13
    generalize roleGot b noRole = gg at *
    generalize roleErr b = ne at *
    obtain ⟨go, gw⟩ := gg
    rw [show roleV (go, gw) = .agg #[.string ⟨go.toArray⟩, .string ⟨gw.toArray⟩] from rfl]
    have hc15 : Chg (fun _ => False) w14 (w14.alloc (.cells #[.string ⟨go.toArray⟩, .string ⟨gw.toArray⟩] 24)) := (Chg.refl _ w14).alloc _
    have hT15 : TapeAt _ T l' e' := blk_keep hT14 hc15 id
    have hX15 := blk_keep hX14 hc15 id
    have x0 := cell_blk hX15 0
    have x1 := cell_blk hX15 1
    have hcw := hc14.trans hc15 (fun _ _ h => h)
    simp only [roleBox, List.getElem?_toArray, List.getElem?_cons_zero, List.getElem?_cons_succ] at x0 x1
    have g0 : (go == go) = true := by simp
    have g1 : (gw == gw) = true := by simp
    have HE := hid (And.intro hT15 hcw)
    clear hX14 hT14 hc14 hc15 hT15 hX15 hcw
    go_wp2_with fail
    refine (tend_any T l' e' _ HE.out.1).mono ?_
    rintro e w' ⟨rfl, rfl⟩
    rw [hend]
    clear x0 x1
    go_wp2
    go_ret
    exact ⟨rfl, HE.out.2⟩

end Go.Proofs.Ytdlpddpdobiebaa

/- The arguments of laws, opened to cells: bytes, a small array. -/
namespace Go.Proofs.Ytdlpddpdobiebaa
open Go.ChangeShapes Go.WideShapes Go.ChangeAt Go.RowKit Go.Deep

theorem Try.own : ownKnob Try.prog.godebug = none := by kernel_rfl
theorem Try.laidOut : laidOutB Try.prog = true := by kernel_rfl

theorem spot_none {w : World} {a : Addr} {v : Value} (h : w.cell? a = some v) : a = ⟨a.block, a.off, none⟩ := by
  obtain ⟨b, o, s⟩ := a
  cases s with
  | none => rfl
  | some x =>
    simp only [World.cell?] at h
    split at h
    · simp at h
    · cases h

theorem add_zero (a : Addr) : a.add 0 = a := by
  unfold Addr.add
  simp

theorem wf_u8 {n : Int} (h : (Lit.int .u8 n).wf = true) : 0 ≤ n ∧ n ≤ 255 := by
  have hmin : IntKind.u8.min = 0 := rfl
  have hmax : IntKind.u8.max = 255 := rfl
  simp only [Lit.wf, Bool.and_eq_true, decide_eq_true_eq] at h
  omega

theorem wf_i64 {n : Int} (h : (Lit.int .i64 n).wf = true) : -9223372036854775808 ≤ n ∧ n ≤ 9223372036854775807 := by
  have hmin : IntKind.i64.min = -9223372036854775808 := rfl
  have hmax : IntKind.i64.max = 9223372036854775807 := rfl
  simp only [Lit.wf, Bool.and_eq_true, decide_eq_true_eq] at h
  omega

section
variable {H : Type} {enc : TypeId × Value → H} {w : World} {base : Nat} {held : Bool} {fuel : Nat}

theorem open_bytes {cs : List Value} {x : DataW H × List MemPlace} (h : DataW.trod enc Try.prog w base (fun _ => true) held fuel 37 cs = some x) :
    ∃ (ao : Option Addr) (cap : Nat) (l : List UInt8), cs = [.slice ao l.length cap] ∧ l.length ≤ 9223372036854775807 ∧ BytesAt (fun k => k < w.heap.size) w (.slice ao l.length cap) l := by
  rcases open_ints Try.underlying37 Try.underlying5 (by kernel_rfl) h with ⟨rfl, _⟩ | ⟨a, len, cap, zs, rfl, _, hl, hm, hz, _, hcell, hwz⟩
  · exact ⟨none, 0, [], rfl, by simp, BytesAt.nil _ _⟩
  · simp only [if_true] at hz
    have hlen : ((zs.take len).map fun n => UInt8.ofNat n.toNat).length = len := by simp; omega
    refine ⟨some a, cap, (zs.take len).map fun n => UInt8.ofNat n.toNat, by rw [hlen], by rw [hlen]; unfold maxLen at hm; omega, ?_⟩
    rw [hlen]
    by_cases h0 : len = 0
    · subst h0
      exact .inl ⟨some a, cap, rfl, by simp, fun h => by cases h⟩
    · have h1 := hcell 0 (by omega)
      rw [add_zero] at h1
      have ha := spot_none h1
      have hlt := World.block_lt_of_cell? w _ h1
      refine .inr ⟨a.block, a.off, cap, by rw [hlen]; exact congrArg (fun z => Value.slice (some z) len cap) ha, by rw [hlen]; exact hl, hm, hlt, fun i hi => ?_⟩
      rw [hlen] at hi
      have h2 := hcell i (by omega)
      rw [ha, add_off] at h2
      rw [h2]
      have hget : zs.getD i 0 = zs[i]'(by omega) := by simp [List.getD, show i < zs.length by omega]
      have hb := wf_u8 (hwz _ (List.getElem_mem (show i < zs.length by omega)))
      rw [hget]
      congr 2
      simp only [List.getElem_map, List.getElem_take]
      rw [ofNat_u8 _ (by omega)]
      omega

theorem okWide_array {P : Program} {w : World} {r : Reach} {base : Nat} {t e : TypeId} {n : Nat} {v : Value} (ht : P.underlying t = some (.array n e)) (h : Value.okWide P w r base t v) : ∃ cs, v = .agg cs ∧ cs.size = P.cellsOf t := by
  simp only [Value.okWide, ht] at h
  obtain ⟨cs, h1, h2, _⟩ := h
  exact ⟨cs, h1, h2⟩

end

end Go.Proofs.Ytdlpddpdobiebaa
