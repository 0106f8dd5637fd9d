/- Texts that the proof leans on, in one: RoleFirst, RoleLong, BackNum. -/
import Derived.Test.YtdlpddpdobiebaaBm10
import Derived.Test.YtdlpddpdobiebaaBm12
import Derived.Test.YtdlpddpdobiebaaBm7
import Derived.Test.YtdlpddpdobiebaaBm9
import Derived.Test.YtdlpddpdobiebaaBm6
import Derived.Test.YtdlpddpdobiebaaBm1
/- The contract of law 4's first: it answers true, and turns nothing that was there. -/
namespace Go.Proofs.Ytdlpddpdobiebaa
open Go.RowKit

def sm : RoleB := ([115, 104, 111, 112], [109, 101, 109, 98, 101, 114])
def smT : List UInt8 := [115, 104, 111, 112, 46, 109, 101, 109, 98, 101, 114]
def abR : RoleB := ([97], [98])
theorem sm_parse : parseR smT = some sm := by decide
theorem shop_parse : parseR [115, 104, 111, 112, 46] = none := by decide
theorem sm_role : isRole sm = true := by decide
def smB : List UInt8 := [4, 115, 104, 111, 112, 6, 109, 101, 109, 98, 101, 114]
theorem sm_enc : roleEnc sm = smB := by
  rw [roleEnc, enc_small (show sm.1.length < 128 by decide), enc_small (show sm.2.length < 128 by decide)]
  decide
theorem sm_ok : roleOk smB = true := by decide
theorem sm_err : roleErr smB = 0 := by rw [roleErr, if_pos sm_ok]; decide
theorem sm_got : roleGot smB noRole = sm := by rw [roleGot, if_pos sm_ok]; decide
theorem sm_set : SetR [sm, abR, sm, noRole] [abR, sm] := by
  refine ⟨⟨by decide, by decide, trivial⟩, fun x => ⟨fun h => ?_, fun h => ?_⟩⟩
  · simp only [List.mem_cons, List.not_mem_nil, or_false] at h
    rcases h with rfl | rfl <;> decide
  · obtain ⟨h, hn⟩ := h
    simp only [List.mem_cons, List.not_mem_nil, or_false] at h
    rcases h with rfl | rfl | rfl | rfl
    · simp
    · simp
    · simp
    · exact absurd hn (by decide)

theorem read_sm {D : Nat → Prop} {ao : Option Addr} {cp X : Nat} {w : World} (hv : BytesAt D w (.slice ao 12 cp) smB) (dD : ∀ i, D i → i < w.heap.size) (hDX : ¬ D X) (hX : w.heap[X]? = some (.cells (roleBox noRole) 24 (0, 0))) :
    Calls Try.prog 23 #[.slice ao 12 cp, .func (.func 29) #[] #[.pointer (some ⟨X, 0, none⟩)]] w fun e w' => e = .returned (.int .i64 0) ∧ w'.heap[X]? = some (.cells (roleBox sm) 24 (0, 0)) ∧ Chg (· = X) w w' := by
  refine (readF_any (z := noRole) (l := smB) (by decide) hv dD hDX hX).mono ?_
  rintro e w' ⟨rfl, h1, h2⟩
  rw [sm_got] at h1
  exact ⟨by rw [sm_err], h1, h2⟩

/-- A slice of roles. -/
def Spec.roles (n : Nat) (ls : List RoleB) : Spec :=
  ⟨fun v w => ∃ ao cap, v = .slice ao n cap ∧ RolesAt (fun _ => True) w ao ls, fun _ _ _ hc ⟨ao, cap, h1, h2⟩ => ⟨ao, cap, h1, h2.keep hc (fun _ _ => id)⟩⟩

theorem box_role {w : World} {b : Nat} {r : RoleB} (h : w.heap[b]? = some (.cells (roleBox r) 24 (0, 0))) (h1 : r.1.length ≤ 9223372036854775807) (h2 : r.2.length ≤ 9223372036854775807) : RoleAt w b 0 r :=
  ⟨cell_blk h 0, cell_blk h 1, h1, h2⟩

def firstSpecs : List Spec := [.eq (.bool true), .roleP sm, .roleP sm, .eq (.bool true), .any, .eq (.bool false), .any, .eq (.bool true), .roleP sm, .eq (.int .i64 0), .roles 2 [abR, sm], .any, .any, .any, .any, .any, .any, .any, .any, .any, .any, .any, .any, .any, .any, .any, .any, .any, .any, .any, .any, .any, .any, .any, .any, .eq (.bool true), .eq (.bool true), .eq (.bool false), .eq (.bool true), .eq (.bool true), .eq (.bool true), .eq (roleV sm), .eq (roleV sm), .eq (.bool true), .eq (.bool true), .eq (.bool true), .eq (.bool true), .eq (.bool true), .eq (.bool true), .eq (.int .i64 0), .eq (.bool true), .eq (.bool true), .eq (.bool true), .eq (roleV sm), .eq (roleV sm), .eq (.bool true), .eq (.bool true), .eq (.bool true), .eq (roleV sm), .eq (.string ⟨smT.toArray⟩), .eq (.bool true), .eq (.bool true), .eq (.bool true), .eq (roleV sm), .eq (.bool true), .eq (.bool true), .eq (.bool true), .roles 2 [abR, sm], .eq (.int .i64 2), .eq (.bool true), .eq (.bool true), .eq (.bool true), .roles 2 [abR, sm], .roleP sm, .eq (roleV sm), .eq (roleV sm), .eq (.bool true), .eq (.bool true), .eq (.bool true), .roles 2 [abR, sm], .eq (roleV sm), .eq (.bool true), .eq (.bool true), .eq (.bool true), .roles 2 [abR, sm], .roleP abR, .eq (roleV abR), .eq (roleV sm), .eq (.int .i64 (-1)), .eq (.bool true), .eq (.bool true)]

set_option maxRecDepth 100000 in
set_option maxHeartbeats 4000000 in
theorem first_any (w : World) : Calls Try.prog 6 #[] w fun e w' => e = .returned (.bool true) ∧ Chg (fun _ => False) w w' := by
  have hA1 : (w.alloc (.cells #[.string ⟨#[115, 104, 111, 112]⟩, .string ⟨#[109, 101, 109, 98, 101, 114]⟩] 24)).heap[w.heap.size]? = some (.cells (roleBox sm) 24 (0, 0)) := heap_alloc_new w _
  have hc1 : Chg (fun _ => False) w (w.alloc (.cells #[.string ⟨#[115, 104, 111, 112]⟩, .string ⟨#[109, 101, 109, 98, 101, 114]⟩] 24)) := (Chg.refl _ w).alloc _
  go_enter Try.func6, Try.ntmps6
  go_wp2_with fail
  generalize w.alloc (.cells #[.string ⟨#[115, 104, 111, 112]⟩, .string ⟨#[109, 101, 109, 98, 101, 114]⟩] 24) = w1 at *
  generalize hA : w.heap.size = A at *
  refine (pparse smT w1 (by decide)).mono ?_
  rintro e w2 ⟨rfl, hc12⟩
  rw [show (Value.tuple #[roleV ((parseR smT).getD noRole), Value.bool (parseR smT).isSome]) = .tuple #[.agg #[.string ⟨#[115, 104, 111, 112]⟩, .string ⟨#[109, 101, 109, 98, 101, 114]⟩], .bool true] by rw [sm_parse]; rfl]
  have hA2 := blk_keep hA1 hc12 id
  have hc2 := hc1.trans hc12 (fun _ _ h => h)
  clear hA1 hc12 hc1
  have hB3 : (w2.alloc (.cells #[.string ⟨#[115, 104, 111, 112]⟩, .string ⟨#[109, 101, 109, 98, 101, 114]⟩] 24)).heap[w2.heap.size]? = some (.cells (roleBox sm) 24 (0, 0)) := heap_alloc_new w2 _
  have hc23 : Chg (fun _ => False) w2 (w2.alloc (.cells #[.string ⟨#[115, 104, 111, 112]⟩, .string ⟨#[109, 101, 109, 98, 101, 114]⟩] 24)) := (Chg.refl _ w2).alloc _
  have hA3 := blk_keep hA2 hc23 id
  have hc3 := hc2.trans hc23 (fun _ _ h => h)
  have hAB : A < w2.heap.size := lt_blk hA2
  go_wp2_with fail
  clear hA2 hc2 hc23
  generalize w2.alloc (.cells #[.string ⟨#[115, 104, 111, 112]⟩, .string ⟨#[109, 101, 109, 98, 101, 114]⟩] 24) = w3 at *
  generalize w2.heap.size = B at *
  refine (pparse [115, 104, 111, 112, 46] w3 (by decide)).mono ?_
  rintro e w4 ⟨rfl, hc34⟩
  rw [show (Value.tuple #[roleV ((parseR [115, 104, 111, 112, 46]).getD noRole), Value.bool (parseR [115, 104, 111, 112, 46]).isSome]) = .tuple #[.agg #[.string ⟨#[]⟩, .string ⟨#[]⟩], .bool false] by rw [shop_parse]; rfl]
  have hA4 := blk_keep hA3 hc34 id
  have hB4 := blk_keep hB3 hc34 id
  have hc4 := hc3.trans hc34 (fun _ _ h => h)
  clear hA3 hB3 hc34 hc3
  have hc45 : Chg (fun _ => False) w4 ((w4.alloc (.cells #[.string ⟨#[]⟩, .string ⟨#[]⟩] 24)).alloc (.cells #[.slice none 0 0] 40)) := ((Chg.refl _ w4).alloc _).alloc _
  have hp5 := pen_new (w4.alloc (.cells #[.string ⟨#[]⟩, .string ⟨#[]⟩] 24)) (w4.heap.size + 2)
  have hsz : (w4.alloc (.cells #[.string ⟨#[]⟩, .string ⟨#[]⟩] 24)).heap.size = w4.heap.size + 1 := by simp
  have hsz2 : ((w4.alloc (.cells #[.string ⟨#[]⟩, .string ⟨#[]⟩] 24)).alloc (.cells #[.slice none 0 0] 40)).heap.size = w4.heap.size + 2 := by simp
  rw [hsz] at hp5
  have hA5 := blk_keep hA4 hc45 id
  have hB5 := blk_keep hB4 hc45 id
  have hc5 := hc4.trans hc45 (fun _ _ h => h)
  have hBQ : B < w4.heap.size := lt_blk hB4
  have a0 := cell_blk hA5 0
  have a1 := cell_blk hA5 1
  simp only [roleBox, sm, List.getElem?_toArray, List.getElem?_cons_zero, List.getElem?_cons_succ] at a0 a1
  go_wp2_with fail
  clear hA4 hB4 hc4 hc45 hsz a0 a1
  generalize (w4.alloc (.cells #[.string ⟨#[]⟩, .string ⟨#[]⟩] 24)).alloc (.cells #[.slice none 0 0] 40) = w5 at *
  generalize w4.heap.size = Q at *
  refine (pput_yes (Q + 2) (Q + 1) 0 none [] sm w5 hp5 (by omega) (by omega) (by decide) sm_role).mono ?_
  rintro e w6 ⟨rfl, ao6, cap6, hp6, hch⟩
  rw [List.nil_append, sm_enc] at hp6
  have hA6 := blk_keep hA5 hch.chg (fun h => h.elim (fun h => by omega) (fun h => by cases h))
  have hB6 := blk_keep hB5 hch.chg (fun h => h.elim (fun h => by omega) (fun h => by cases h))
  have hc6 : Chg (fun _ => False) w w6 := hc5.trans hch.chg (fun i hi h => h.elim (fun h => by omega) (fun h => by cases h))
  have hs6 := hch.chg.size
  clear hA5 hB5 hc5 hch hp5
  have hc67 : Chg (fun _ => False) w6 (w6.alloc (.cells #[.string ⟨#[]⟩, .string ⟨#[]⟩] 24)) := (Chg.refl _ w6).alloc _
  have hX7 : (w6.alloc (.cells #[.string ⟨#[]⟩, .string ⟨#[]⟩] 24)).heap[w6.heap.size]? = some (.cells (roleBox noRole) 24 (0, 0)) := heap_alloc_new w6 _
  have hp7 := hp6.keep hc67 id (fun _ _ => id)
  have hA7 := blk_keep hA6 hc67 id
  have hB7 := blk_keep hB6 hc67 id
  have hc7 := hc6.trans hc67 (fun _ _ h => h)
  have hs7 : (w6.alloc (.cells #[.string ⟨#[]⟩, .string ⟨#[]⟩] 24)).heap.size = w6.heap.size + 1 := by simp
  go_wp2_with fail
  clear hA6 hB6 hc6 hc67 hp6
  generalize w6.alloc (.cells #[.string ⟨#[]⟩, .string ⟨#[]⟩] 24) = w7 at *
  generalize w6.heap.size = X at *
  refine (bytes_any _ _ _ _ smB w7 hp7 (by decide)).mono ?_
  rintro e w8 ⟨ao8, cap8, rfl, hb8, hc78⟩
  have hX8 := blk_keep hX7 hc78 id
  have hA8 := blk_keep hA7 hc78 id
  have hB8 := blk_keep hB7 hc78 id
  have hc8 := hc7.trans hc78 (fun _ _ h => h)
  have hs8 := hc78.size
  clear hX7 hA7 hB7 hc7 hc78 hp7
  have hrd := read_sm (w := w8) hb8 (fun i hi => hi.2) (fun h => by have := h.1; omega) hX8
  go_wp2_with fail
  refine hrd.mono ?_
  rintro e w9 ⟨rfl, hX9, hc89⟩
  have hA9 := blk_keep hA8 hc89 (show ¬ A = X by omega)
  have hB9 := blk_keep hB8 hc89 (show ¬ B = X by omega)
  have hc9 : Chg (fun _ => False) w w9 := hc8.trans hc89 (T := (· = X)) (S := fun _ => False) (fun i hi h => by have : i = X := h; omega)
  have hs9 := hc89.size
  clear hX8 hA8 hB8 hc8 hc89 hb8 hrd
  have hl10 := roles_lit [sm, abR, sm, noRole] w9 (0, 0) (by decide)
  have hc910 : Chg (fun _ => False) w9 (w9.alloc (.cells (roleRow [sm, abR, sm, noRole]).toArray 24)) := (Chg.refl _ w9).alloc _
  have hset := pset (some ⟨w9.heap.size, 0, none⟩) 4 [sm, abR, sm, noRole] (w9.alloc (.cells (roleRow [sm, abR, sm, noRole]).toArray 24)) (by decide) hl10 (by rintro i rfl; simp) (fun h => by cases h)
  have a0 := cell_blk hA9 0
  have a1 := cell_blk hA9 1
  simp only [roleBox, sm, List.getElem?_toArray, List.getElem?_cons_zero, List.getElem?_cons_succ] at a0 a1
  have HS := hid (And.intro hset (And.intro hc910 (And.intro hA9 (And.intro hB9 (And.intro hX9 hc9)))))
  clear hset hl10 hc910 hA9 hB9 hX9 hc9
  go_wp2_with fail
  obtain ⟨hset, hc910, hA9, hB9, hX9, hc9⟩ := HS.out
  refine hset.mono ?_
  rintro e w11 ⟨out, ao, cap, rfl, hso, hst, hch, _⟩
  obtain rfl : out = [abR, sm] := hso.one sm_set
  have hcc := hc910.trans hch (fun _ _ h => h)
  have hA11 := blk_keep hA9 hcc id
  have hB11 := blk_keep hB9 hcc id
  have hX11 := blk_keep hX9 hcc id
  have hcw := hc9.trans hcc (fun _ _ h => h)
  clear hset HS hc910 hA9 hB9 hX9 hc9 hso hch hcc a0 a1 hs9 hs8 hs7 hs6 hsz2
  go_wp2_with fail
  refine wp_region_specs firstSpecs [35, 36, 37, 38, 39, 40, 41, 42, 43, 44, 45, 46, 47, 48, 49, 50, 51, 52, 53, 54, 55, 56, 57, 58, 59, 60, 61, 62, 63, 64, 65, 66, 67, 68, 69, 70, 71, 72, 73, 74, 75, 76, 77, 78, 79, 80, 81, 82, 83, 84, 85, 86, 87, 88, 89, 90, 0] [1, 2, 3, 5, 7, 8, 9, 10] (by kernel_rfl) (by kernel_rfl) (by rfl) (by kernel_rfl) ?start ?obs ?fin
  case start =>
    simp only [List.forall_mem_cons]
    exact ⟨⟨_, rfl, _, _, rfl, box_role hA11 (by decide) (by decide)⟩, ⟨_, rfl, _, _, rfl, box_role hB11 (by decide) (by decide)⟩, ⟨_, rfl, rfl⟩, ⟨_, rfl, rfl⟩, ⟨_, rfl, rfl⟩, ⟨_, rfl, _, _, rfl, box_role hX11 (by decide) (by decide)⟩, ⟨_, rfl, rfl⟩, ⟨_, rfl, _, _, rfl, hst.mono (fun _ _ => trivial)⟩, fun _ h => by cases h⟩
  case obs =>
    clear hA11 hB11 hX11 hcw hst
    refine Obs.cons none (by kernel_rfl) ?_ ?_
    · refine Ob.plain fun a w hR hk K k => ?_
      obtain ⟨_, e3, f3⟩ := hk 3 (by decide)
      clear hk
      go_simp
      exact k _ _ (Chg.refl _ _) f3
    refine Obs.cons none (by kernel_rfl) ?_ ?_
    · refine Ob.plain fun a w hR hk K k => ?_
      obtain ⟨_, e35, f35⟩ := hk 35 (by decide)
      clear hk
      go_simp
      exact k _ _ (Chg.refl _ _) f35
    refine Obs.cons (some (36, true)) (by kernel_rfl) ?_ ?_
    · refine Ob.yes (fun _ _ h => h) fun a w hR hk K k => ?_
      obtain ⟨_, e5, f5⟩ := hk 5 (by decide)
      clear hk
      go_simp
      exact k _ _ (Chg.refl _ _) f5
    refine Obs.cons (some (36, true)) (by kernel_rfl) ?_ ?_
    · refine Ob.yes (fun _ _ h => h) fun a w hR hk K k => ?_
      obtain ⟨_, e37, rfl⟩ := hk 37 (by decide)
      clear hk
      go_simp
      exact k _ _ (Chg.refl _ _) rfl
    refine Obs.cons none (by kernel_rfl) ?_ ?_
    · refine Ob.plain fun a w hR hk K k => ?_
      obtain ⟨_, e36, rfl⟩ := hk 36 (by decide)
      obtain ⟨_, e38, rfl⟩ := hk 38 (by decide)
      clear hk
      go_simp
      exact k _ _ (Chg.refl _ _) rfl
    refine Obs.cons none (by kernel_rfl) ?_ ?_
    · refine Ob.plain fun a w hR hk K k => ?_
      obtain ⟨_, e39, f39⟩ := hk 39 (by decide)
      clear hk
      go_simp
      exact k _ _ (Chg.refl _ _) f39
    refine Obs.cons (some (40, true)) (by kernel_rfl) ?_ ?_
    · refine Ob.yes (fun _ _ h => h) fun a w hR hk K k => ?_
      obtain ⟨_, e2, f2⟩ := hk 2 (by decide)
      clear hk
      obtain ⟨b, off, rfl, c0, c1, _⟩ := f2
      go_simp
      exact k _ _ (Chg.refl _ _) rfl
    refine Obs.cons (some (40, true)) (by kernel_rfl) ?_ ?_
    · refine Ob.yes (fun _ _ h => h) fun a w hR hk K k => ?_
      obtain ⟨_, e1, f1⟩ := hk 1 (by decide)
      clear hk
      obtain ⟨b, off, rfl, c0, c1, _⟩ := f1
      go_simp
      exact k _ _ (Chg.refl _ _) rfl
    refine Obs.cons (some (40, true)) (by kernel_rfl) ?_ ?_
    · refine Ob.yes (fun _ _ h => h) fun a w hR hk K k => ?_
      obtain ⟨_, e41, rfl⟩ := hk 41 (by decide)
      obtain ⟨_, e42, rfl⟩ := hk 42 (by decide)
      clear hk
      simp only [roleV, sm] at e41 e42
      go_simp
      exact k _ _ (Chg.refl _ _) rfl
    refine Obs.cons none (by kernel_rfl) ?_ ?_
    · refine Ob.plain fun a w hR hk K k => ?_
      obtain ⟨_, e40, rfl⟩ := hk 40 (by decide)
      obtain ⟨_, e43, rfl⟩ := hk 43 (by decide)
      clear hk
      go_simp
      exact k _ _ (Chg.refl _ _) rfl
    refine Obs.cons none (by kernel_rfl) ?_ ?_
    · refine Ob.plain fun a w hR hk K k => ?_
      obtain ⟨_, e44, f44⟩ := hk 44 (by decide)
      clear hk
      go_simp
      exact k _ _ (Chg.refl _ _) f44
    refine Obs.cons (some (45, true)) (by kernel_rfl) ?_ ?_
    · refine Ob.yes (fun _ _ h => h) fun a w hR hk K k => ?_
      obtain ⟨_, e7, f7⟩ := hk 7 (by decide)
      clear hk
      go_simp
      exact k _ _ (Chg.refl _ _) f7
    refine Obs.cons none (by kernel_rfl) ?_ ?_
    · refine Ob.plain fun a w hR hk K k => ?_
      obtain ⟨_, e45, rfl⟩ := hk 45 (by decide)
      obtain ⟨_, e46, rfl⟩ := hk 46 (by decide)
      clear hk
      go_simp
      exact k _ _ (Chg.refl _ _) rfl
    refine Obs.cons none (by kernel_rfl) ?_ ?_
    · refine Ob.plain fun a w hR hk K k => ?_
      obtain ⟨_, e47, f47⟩ := hk 47 (by decide)
      clear hk
      go_simp
      exact k _ _ (Chg.refl _ _) f47
    refine Obs.cons (some (48, true)) (by kernel_rfl) ?_ ?_
    · refine Ob.yes (fun _ _ h => h) fun a w hR hk K k => ?_
      obtain ⟨_, e9, f9⟩ := hk 9 (by decide)
      clear hk
      go_simp
      exact k _ _ (Chg.refl _ _) f9
    refine Obs.cons (some (48, true)) (by kernel_rfl) ?_ ?_
    · refine Ob.yes (fun _ _ h => h) fun a w hR hk K k => ?_
      obtain ⟨_, e49, rfl⟩ := hk 49 (by decide)
      clear hk
      go_simp
      exact k _ _ (Chg.refl _ _) rfl
    refine Obs.cons none (by kernel_rfl) ?_ ?_
    · refine Ob.plain fun a w hR hk K k => ?_
      obtain ⟨_, e48, rfl⟩ := hk 48 (by decide)
      obtain ⟨_, e50, rfl⟩ := hk 50 (by decide)
      clear hk
      go_simp
      exact k _ _ (Chg.refl _ _) rfl
    refine Obs.cons none (by kernel_rfl) ?_ ?_
    · refine Ob.plain fun a w hR hk K k => ?_
      obtain ⟨_, e51, f51⟩ := hk 51 (by decide)
      clear hk
      go_simp
      exact k _ _ (Chg.refl _ _) f51
    refine Obs.cons (some (52, true)) (by kernel_rfl) ?_ ?_
    · refine Ob.yes (fun _ _ h => h) fun a w hR hk K k => ?_
      obtain ⟨_, e8, f8⟩ := hk 8 (by decide)
      clear hk
      obtain ⟨b, off, rfl, c0, c1, _⟩ := f8
      go_simp
      exact k _ _ (Chg.refl _ _) rfl
    refine Obs.cons (some (52, true)) (by kernel_rfl) ?_ ?_
    · refine Ob.yes (fun _ _ h => h) fun a w hR hk K k => ?_
      obtain ⟨_, e1, f1⟩ := hk 1 (by decide)
      clear hk
      obtain ⟨b, off, rfl, c0, c1, _⟩ := f1
      go_simp
      exact k _ _ (Chg.refl _ _) rfl
    refine Obs.cons (some (52, true)) (by kernel_rfl) ?_ ?_
    · refine Ob.yes (fun _ _ h => h) fun a w hR hk K k => ?_
      obtain ⟨_, e53, rfl⟩ := hk 53 (by decide)
      obtain ⟨_, e54, rfl⟩ := hk 54 (by decide)
      clear hk
      simp only [roleV, sm] at e53 e54
      go_simp
      exact k _ _ (Chg.refl _ _) rfl
    refine Obs.cons none (by kernel_rfl) ?_ ?_
    · refine Ob.plain fun a w hR hk K k => ?_
      obtain ⟨_, e52, rfl⟩ := hk 52 (by decide)
      obtain ⟨_, e55, rfl⟩ := hk 55 (by decide)
      clear hk
      go_simp
      exact k _ _ (Chg.refl _ _) rfl
    refine Obs.cons none (by kernel_rfl) ?_ ?_
    · refine Ob.plain fun a w hR hk K k => ?_
      obtain ⟨_, e56, f56⟩ := hk 56 (by decide)
      clear hk
      go_simp
      exact k _ _ (Chg.refl _ _) f56
    refine Obs.cons (some (57, true)) (by kernel_rfl) ?_ ?_
    · refine Ob.yes (fun _ _ h => h) fun a w hR hk K k => ?_
      obtain ⟨_, e1, f1⟩ := hk 1 (by decide)
      clear hk
      obtain ⟨b, off, rfl, c0, c1, _⟩ := f1
      go_simp
      exact k _ _ (Chg.refl _ _) rfl
    refine Obs.cons (some (57, true)) (by kernel_rfl) ?_ ?_
    · refine Ob.yes (fun _ _ h => h) fun a w hR hk K k => ?_
      obtain ⟨_, e58, rfl⟩ := hk 58 (by decide)
      clear hk
      go_simp
      refine (ptext sm _ (by decide) (by decide)).mono ?_
      rintro e w2 ⟨rfl, hc⟩
      exact k _ _ hc rfl
    refine Obs.cons (some (57, true)) (by kernel_rfl) ?_ ?_
    · refine Ob.yes (fun _ _ h => h) fun a w hR hk K k => ?_
      obtain ⟨_, e59, rfl⟩ := hk 59 (by decide)
      clear hk
      go_simp
      exact k _ _ (Chg.refl _ _) rfl
    refine Obs.cons none (by kernel_rfl) ?_ ?_
    · refine Ob.plain fun a w hR hk K k => ?_
      obtain ⟨_, e57, rfl⟩ := hk 57 (by decide)
      obtain ⟨_, e60, rfl⟩ := hk 60 (by decide)
      clear hk
      go_simp
      exact k _ _ (Chg.refl _ _) rfl
    refine Obs.cons none (by kernel_rfl) ?_ ?_
    · refine Ob.plain fun a w hR hk K k => ?_
      obtain ⟨_, e61, f61⟩ := hk 61 (by decide)
      clear hk
      go_simp
      exact k _ _ (Chg.refl _ _) f61
    refine Obs.cons (some (62, true)) (by kernel_rfl) ?_ ?_
    · refine Ob.yes (fun _ _ h => h) fun a w hR hk K k => ?_
      obtain ⟨_, e1, f1⟩ := hk 1 (by decide)
      clear hk
      obtain ⟨b, off, rfl, c0, c1, _⟩ := f1
      go_simp
      exact k _ _ (Chg.refl _ _) rfl
    refine Obs.cons (some (62, true)) (by kernel_rfl) ?_ ?_
    · refine Ob.yes (fun _ _ h => h) fun a w hR hk K k => ?_
      obtain ⟨_, e63, rfl⟩ := hk 63 (by decide)
      clear hk
      go_simp
      refine (pright sm _ (by decide) (by decide)).mono ?_
      rintro e w2 ⟨rfl, hc⟩
      exact k _ _ hc rfl
    refine Obs.cons none (by kernel_rfl) ?_ ?_
    · refine Ob.plain fun a w hR hk K k => ?_
      obtain ⟨_, e62, rfl⟩ := hk 62 (by decide)
      obtain ⟨_, e64, rfl⟩ := hk 64 (by decide)
      clear hk
      go_simp
      exact k _ _ (Chg.refl _ _) rfl
    refine Obs.cons none (by kernel_rfl) ?_ ?_
    · refine Ob.plain fun a w hR hk K k => ?_
      obtain ⟨_, e65, f65⟩ := hk 65 (by decide)
      clear hk
      go_simp
      exact k _ _ (Chg.refl _ _) f65
    refine Obs.cons (some (66, true)) (by kernel_rfl) ?_ ?_
    · refine Ob.yes (fun _ _ h => h) fun a w hR hk K k => ?_
      obtain ⟨_, e10, f10⟩ := hk 10 (by decide)
      clear hk
      go_simp
      exact k _ _ (Chg.refl _ _) f10
    refine Obs.cons (some (66, true)) (by kernel_rfl) ?_ ?_
    · refine Ob.yes (fun _ _ h => h) fun a w hR hk K k => ?_
      obtain ⟨_, e67, f67⟩ := hk 67 (by decide)
      clear hk
      obtain ⟨a0, p0, rfl, h0⟩ := f67
      go_simp
      exact k _ _ (Chg.refl _ _) rfl
    refine Obs.cons (some (66, true)) (by kernel_rfl) ?_ ?_
    · refine Ob.yes (fun _ _ h => h) fun a w hR hk K k => ?_
      obtain ⟨_, e68, rfl⟩ := hk 68 (by decide)
      clear hk
      go_simp
      exact k _ _ (Chg.refl _ _) rfl
    refine Obs.cons none (by kernel_rfl) ?_ ?_
    · refine Ob.plain fun a w hR hk K k => ?_
      obtain ⟨_, e66, rfl⟩ := hk 66 (by decide)
      obtain ⟨_, e69, rfl⟩ := hk 69 (by decide)
      clear hk
      go_simp
      exact k _ _ (Chg.refl _ _) rfl
    refine Obs.cons none (by kernel_rfl) ?_ ?_
    · refine Ob.plain fun a w hR hk K k => ?_
      obtain ⟨_, e70, f70⟩ := hk 70 (by decide)
      clear hk
      go_simp
      exact k _ _ (Chg.refl _ _) f70
    refine Obs.cons (some (71, true)) (by kernel_rfl) ?_ ?_
    · refine Ob.yes (fun _ _ h => h) fun a w hR hk K k => ?_
      obtain ⟨_, e10, f10⟩ := hk 10 (by decide)
      clear hk
      go_simp
      exact k _ _ (Chg.refl _ _) f10
    refine Obs.cons (some (71, true)) (by kernel_rfl) ?_ ?_
    · refine Ob.yes (fun _ _ h => h) fun a w hR hk K k => ?_
      obtain ⟨_, e72, f72⟩ := hk 72 (by decide)
      clear hk
      obtain ⟨a0, p0, rfl, h0⟩ := f72
      obtain ⟨b, off, rfl, _, hr⟩ := h0 1 (by decide)
      go_simp
      exact k _ _ (Chg.refl _ _) ⟨_, _, rfl, hr⟩
    refine Obs.cons (some (71, true)) (by kernel_rfl) ?_ ?_
    · refine Ob.yes (fun _ _ h => h) fun a w hR hk K k => ?_
      obtain ⟨_, e73, f73⟩ := hk 73 (by decide)
      clear hk
      obtain ⟨b, off, rfl, c0, c1, _⟩ := f73
      go_simp
      exact k _ _ (Chg.refl _ _) rfl
    refine Obs.cons (some (71, true)) (by kernel_rfl) ?_ ?_
    · refine Ob.yes (fun _ _ h => h) fun a w hR hk K k => ?_
      obtain ⟨_, e1, f1⟩ := hk 1 (by decide)
      clear hk
      obtain ⟨b, off, rfl, c0, c1, _⟩ := f1
      go_simp
      exact k _ _ (Chg.refl _ _) rfl
    refine Obs.cons (some (71, true)) (by kernel_rfl) ?_ ?_
    · refine Ob.yes (fun _ _ h => h) fun a w hR hk K k => ?_
      obtain ⟨_, e74, rfl⟩ := hk 74 (by decide)
      obtain ⟨_, e75, rfl⟩ := hk 75 (by decide)
      clear hk
      simp only [roleV, sm] at e74 e75
      go_simp
      exact k _ _ (Chg.refl _ _) rfl
    refine Obs.cons none (by kernel_rfl) ?_ ?_
    · refine Ob.plain fun a w hR hk K k => ?_
      obtain ⟨_, e71, rfl⟩ := hk 71 (by decide)
      obtain ⟨_, e76, rfl⟩ := hk 76 (by decide)
      clear hk
      go_simp
      exact k _ _ (Chg.refl _ _) rfl
    refine Obs.cons none (by kernel_rfl) ?_ ?_
    · refine Ob.plain fun a w hR hk K k => ?_
      obtain ⟨_, e77, f77⟩ := hk 77 (by decide)
      clear hk
      go_simp
      exact k _ _ (Chg.refl _ _) f77
    refine Obs.cons (some (78, true)) (by kernel_rfl) ?_ ?_
    · refine Ob.yes (fun _ _ h => h) fun a w hR hk K k => ?_
      obtain ⟨_, e10, f10⟩ := hk 10 (by decide)
      clear hk
      go_simp
      exact k _ _ (Chg.refl _ _) f10
    refine Obs.cons (some (78, true)) (by kernel_rfl) ?_ ?_
    · refine Ob.yes (fun _ _ h => h) fun a w hR hk K k => ?_
      obtain ⟨_, e1, f1⟩ := hk 1 (by decide)
      clear hk
      obtain ⟨b, off, rfl, c0, c1, _⟩ := f1
      go_simp
      exact k _ _ (Chg.refl _ _) rfl
    refine Obs.cons (some (78, true)) (by kernel_rfl) ?_ ?_
    · refine Ob.yes (fun _ _ h => h) fun a w hR hk K k => ?_
      obtain ⟨_, e79, f79⟩ := hk 79 (by decide)
      obtain ⟨_, e80, rfl⟩ := hk 80 (by decide)
      clear hk
      obtain ⟨a0, p0, rfl, h0⟩ := f79
      go_simp
      refine (phas a0 p0 [abR, sm] sm _ (by decide) (by decide) (by decide) h0).mono ?_
      rintro e w2 ⟨rfl, hc⟩
      exact k _ _ hc rfl
    refine Obs.cons none (by kernel_rfl) ?_ ?_
    · refine Ob.plain fun a w hR hk K k => ?_
      obtain ⟨_, e78, rfl⟩ := hk 78 (by decide)
      obtain ⟨_, e81, rfl⟩ := hk 81 (by decide)
      clear hk
      go_simp
      exact k _ _ (Chg.refl _ _) rfl
    refine Obs.cons none (by kernel_rfl) ?_ ?_
    · refine Ob.plain fun a w hR hk K k => ?_
      obtain ⟨_, e82, f82⟩ := hk 82 (by decide)
      clear hk
      go_simp
      exact k _ _ (Chg.refl _ _) f82
    refine Obs.cons (some (83, true)) (by kernel_rfl) ?_ ?_
    · refine Ob.yes (fun _ _ h => h) fun a w hR hk K k => ?_
      obtain ⟨_, e10, f10⟩ := hk 10 (by decide)
      clear hk
      go_simp
      exact k _ _ (Chg.refl _ _) f10
    refine Obs.cons (some (83, true)) (by kernel_rfl) ?_ ?_
    · refine Ob.yes (fun _ _ h => h) fun a w hR hk K k => ?_
      obtain ⟨_, e84, f84⟩ := hk 84 (by decide)
      clear hk
      obtain ⟨a0, p0, rfl, h0⟩ := f84
      obtain ⟨b, off, rfl, _, hr⟩ := h0 0 (by decide)
      rw [Nat.zero_mul, Nat.add_zero] at hr
      go_simp
      exact k _ _ (Chg.refl _ _) ⟨_, _, rfl, hr⟩
    refine Obs.cons (some (83, true)) (by kernel_rfl) ?_ ?_
    · refine Ob.yes (fun _ _ h => h) fun a w hR hk K k => ?_
      obtain ⟨_, e85, f85⟩ := hk 85 (by decide)
      clear hk
      obtain ⟨b, off, rfl, c0, c1, _⟩ := f85
      go_simp
      exact k _ _ (Chg.refl _ _) rfl
    refine Obs.cons (some (83, true)) (by kernel_rfl) ?_ ?_
    · refine Ob.yes (fun _ _ h => h) fun a w hR hk K k => ?_
      obtain ⟨_, e1, f1⟩ := hk 1 (by decide)
      clear hk
      obtain ⟨b, off, rfl, c0, c1, _⟩ := f1
      go_simp
      exact k _ _ (Chg.refl _ _) rfl
    refine Obs.cons (some (83, true)) (by kernel_rfl) ?_ ?_
    · refine Ob.yes (fun _ _ h => h) fun a w hR hk K k => ?_
      obtain ⟨_, e86, rfl⟩ := hk 86 (by decide)
      obtain ⟨_, e87, rfl⟩ := hk 87 (by decide)
      clear hk
      go_simp
      refine (pcompare abR sm _).mono ?_
      rintro e w2 ⟨rfl, hc⟩
      exact k _ _ hc rfl
    refine Obs.cons (some (83, true)) (by kernel_rfl) ?_ ?_
    · refine Ob.yes (fun _ _ h => h) fun a w hR hk K k => ?_
      obtain ⟨_, e88, rfl⟩ := hk 88 (by decide)
      clear hk
      go_simp
      exact k _ _ (Chg.refl _ _) rfl
    refine Obs.cons none (by kernel_rfl) ?_ ?_
    · refine Ob.plain fun a w hR hk K k => ?_
      obtain ⟨_, e83, rfl⟩ := hk 83 (by decide)
      obtain ⟨_, e89, rfl⟩ := hk 89 (by decide)
      clear hk
      go_simp
      exact k _ _ (Chg.refl _ _) rfl
    refine Obs.cons none (by kernel_rfl) ?_ ?_
    · refine Ob.plain fun a w hR hk K k => ?_
      obtain ⟨_, e90, f90⟩ := hk 90 (by decide)
      clear hk
      go_simp
      exact k _ _ (Chg.refl _ _) f90
    exact Obs.nil
  case fin =>
    intro vals w12 hc12 hv
    have h0 : vals 0 = .bool true := hv 0 (by decide)
    simp only [putAll, List.setIfInBounds_toArray, List.set_cons_zero, List.set_cons_succ, h0]
    go_wp2
    go_ret
    exact ⟨rfl, hcw.trans hc12 (fun _ _ h => h)⟩
end Go.Proofs.Ytdlpddpdobiebaa

/- How much roles hold; the contract of law 4's long. -/
namespace Go.Proofs.Ytdlpddpdobiebaa
open Go.RowKit

/-- Roles and bytes, all together. -/
def totalR : List RoleB → Nat
  | [] => 0
  | x :: l => 1 + x.1.length + x.2.length + totalR l

theorem totalR_append (a b : List RoleB) : totalR (a ++ b) = totalR a + totalR b := by
  induction a with
  | nil => simp [totalR]
  | cons x a ih => simp only [List.cons_append, totalR, ih]; omega

theorem totalR_len (a : List RoleB) : a.length ≤ totalR a := by
  induction a with
  | nil => exact Nat.zero_le _
  | cons x a ih => simp only [List.length_cons, totalR]; omega

theorem totalR_mem {a : List RoleB} {x : RoleB} (h : x ∈ a) : x.1.length + x.2.length ≤ totalR a := by
  induction a with
  | nil => cases h
  | cons y a ih =>
    simp only [totalR]
    rcases List.mem_cons.1 h with rfl | h
    · omega
    · have := ih h; omega

theorem totalR_take (ls : List RoleB) (k : Nat) (h : k < ls.length) : totalR (ls.take (k + 1)) = totalR (ls.take k) + (1 + ls[k].1.length + ls[k].2.length) := by
  rw [List.take_succ_eq_append_getElem h, totalR_append]
  simp [totalR]
theorem totalR_take_le (ls : List RoleB) (k : Nat) : totalR (ls.take k) ≤ totalR ls := by
  have := totalR_append (ls.take k) (ls.drop k)
  rw [List.take_append_drop] at this
  omega

set_option maxRecDepth 100000 in
theorem rlong_any {D : Nat → Prop} (ao : Option Addr) (cp : Nat) (ls : List RoleB) (w : World) (hn : totalR ls ≤ 4194304) (h : RolesAt D w ao ls) :
    Calls Try.prog 7 #[.slice ao ls.length cp] w fun e w' => e = .returned (.bool (decide (800 < totalR ls))) ∧ Chg (fun _ => False) w w' := by
  have hl := totalR_len ls
  go_enter Try.func7, Try.ntmps7
  go_wp2
  go_loopw [3, 8] (fun n i wr => ∃ k m : Nat, k ≤ ls.length ∧ i = .int .i64 k ∧ n = .int .i64 m ∧ Hid (m = totalR (ls.take k)) ∧ m ≤ 4194304 ∧ Chg (fun _ => False) w wr) (fun _ i _ => ls.length - (intOf i).toNat)
  case atStart => exact ⟨0, 0, Nat.zero_le _, rfl, rfl, rfl, by omega, Chg.refl _ _⟩
  case round =>
    obtain ⟨k, m, hk, rfl, rfl, hm, hml, hc⟩ := hrel
    by_cases hlt : k < ls.length
    · obtain ⟨b, off, rfl, _, c0, c1, hs1, hs2⟩ := (h.keep hc (fun _ _ => id)) k hlt
      have ht := totalR_take ls k hlt
      have hle := totalR_take_le ls (k + 1)
      rw [ht, ← hm.out] at hle
      have hx : Hid (m + (1 + ls[k].1.length + ls[k].2.length) = totalR (ls.take (k + 1))) := hid (by rw [ht, hm.out])
      clear h ht
      have hsl2 : m + (1 + ls[k].1.length + ls[k].2.length) ≤ 4194304 := by omega
      clear hle
      generalize ls[k] = s at *
      obtain ⟨o, x⟩ := s
      dsimp only at c0 c1 hs1 hs2 hx hsl2
      have hc2 : Chg (fun _ => False) wr (wr.alloc (.cells #[.string ⟨o.toArray⟩, .string ⟨x.toArray⟩] 24)) := (Chg.refl _ wr).alloc _
      have HC := hid (hc.trans hc2 (fun _ _ h => h))
      clear hc hc2
      go_wp2
      go_roundw
      case rel => exact ⟨k + 1, m + (1 + o.length + x.length), by omega, by go_num, by go_num, hx, hsl2, HC.out⟩
      case measure => simp [intOf]; omega
    · have hk2 : k = ls.length := by omega
      have hx : m = totalR ls := by have := hm.out; rwa [List.take_of_length_le (by omega)] at this
      subst hx
      have HC := hid hc
      clear h hc
      go_wp2
      go_ret
      exact ⟨congrArg (fun b => Ending.returned (.bool b)) (by rw [decide_eq_decide]; omega), HC.out⟩
end Go.Proofs.Ytdlpddpdobiebaa

/- A number's bytes, written and read again. -/
namespace Go.Proofs.Ytdlpddpdobiebaa
open Go.RowKit

theorem u8_eq {a b : UInt8} (h : a.toNat = b.toNat) : a = b := UInt8.toNat_inj.1 h

theorem digits_join (n m k : Nat) : n + (128 + m % 128 - 128) * 128 ^ k + m / 128 * 128 ^ (k + 1) = n + m * 128 ^ k := by
  have h1 : 128 + m % 128 - 128 = m % 128 := by omega
  have h2 : m % 128 + m / 128 * 128 = m := by omega
  rw [h1, Nat.pow_succ]
  generalize 128 ^ k = c
  have h3 : m / 128 * (c * 128) = m / 128 * 128 * c := by rw [Nat.mul_assoc, Nat.mul_comm c 128]
  rw [h3, Nat.add_assoc, ← Nat.add_mul, h2]

/-- What is written is read again. -/
theorem numN_enc : ∀ (f m k n : Nat) (r : List UInt8), (enc m).length ≤ f → (k = 0 ∨ 0 < m) → numN f (enc m ++ r) k n = (n + m * 128 ^ k, k + (enc m).length, 0)
  | 0, m, _, _, _, hf, _ => by have := enc_pos m; omega
  | f + 1, m, k, n, r, hf, hk => by
    by_cases h : m < 128
    · rw [enc_small h, List.singleton_append]
      unfold numN
      rw [ds_toNat h, if_neg (by omega), if_pos h]
      simp
    · rw [enc_big (by omega), List.cons_append]
      rw [enc_big (by omega), List.length_cons] at hf
      unfold numN
      have hm := Nat.mod_lt m (show 0 < 128 by decide)
      rw [dg_toNat, if_neg (by omega), if_neg (by omega), numN_enc f (m / 128) (k + 1) _ r (by omega) (.inr (by omega))]
      have e : n + (128 + m % 128 - 128) * 128 ^ k + m / 128 * 128 ^ (k + 1) = n + m * 128 ^ k := digits_join n m k
      rw [e, List.length_cons]
      congr 2
      omega

/-- What is read without an error was written so. -/
theorem numN_inv : ∀ (f : Nat) (l : List UInt8) (k n : Nat), (numN f l k n).2.2 = 0 →
    ∃ m, (k = 0 ∨ 0 < m) ∧ (numN f l k n).1 = n + m * 128 ^ k ∧ (numN f l k n).2.1 = k + (enc m).length ∧ l = enc m ++ l.drop (enc m).length
  | 0, _, _, _, h => by simp [numN] at h
  | _ + 1, [], _, _, h => by simp [numN] at h
  | f + 1, d :: l, k, n, h => by
    unfold numN at h ⊢
    by_cases h1 : d.toNat = 0 ∧ 0 < k
    · rw [if_pos h1] at h
      simp at h
    · rw [if_neg h1] at h ⊢
      by_cases h2 : d.toNat < 128
      · rw [if_pos h2]
        have e : enc d.toNat = [d] := by
          rw [enc_small h2]
          congr 1
          exact u8_eq (ds_toNat h2)
        refine ⟨d.toNat, by omega, rfl, ?_, ?_⟩
        · rw [e]; rfl
        · rw [e]; rfl
      · rw [if_neg h2] at h ⊢
        have hd := UInt8.toNat_lt d
        obtain ⟨m, hm, e1, e2, e3⟩ := numN_inv f l (k + 1) _ h
        have hm0 : 0 < m := by omega
        have e : enc (d.toNat - 128 + m * 128) = d :: enc m := by
          rw [enc_big (by omega)]
          have a1 : (d.toNat - 128 + m * 128) / 128 = m := by omega
          rw [a1]
          congr 1
          exact u8_eq (by rw [dg_toNat]; omega)
        refine ⟨d.toNat - 128 + m * 128, .inr (by omega), ?_, ?_, ?_⟩
        · rw [e1, Nat.add_mul, Nat.pow_succ, Nat.add_assoc, Nat.mul_assoc, Nat.mul_comm 128 (128 ^ k)]
        · rw [e2, e, List.length_cons]; omega
        · rw [e, List.length_cons, List.drop_succ_cons, List.cons_append, ← e3]

/-- A number ahead of other bytes. -/
theorem numN_enc9 {m : Nat} (h : m < 9223372036854775808) (r : List UInt8) : numN 9 (enc m ++ r) 0 0 = (m, (enc m).length, 0) := by
  rw [numN_enc 9 m 0 0 r (enc_length9 h) (.inl rfl)]
  simp

/-- The bytes that are left behind a number, and the number's. -/
theorem numN_take {l : List UInt8} (h : (numN 9 l 0 0).2.2 = 0) : l = enc (numN 9 l 0 0).1 ++ l.drop (numN 9 l 0 0).2.1 := by
  obtain ⟨m, _, e1, e2, e3⟩ := numN_inv 9 l 0 0 h
  simp only [Nat.pow_zero, Nat.mul_one, Nat.zero_add] at e1 e2
  rw [e1, e2]
  exact e3

end Go.Proofs.Ytdlpddpdobiebaa
