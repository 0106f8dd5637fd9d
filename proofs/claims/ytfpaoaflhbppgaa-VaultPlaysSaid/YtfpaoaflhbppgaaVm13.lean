/- Texts that the proof leans on, in one: PvSearch, PvFind, PvCopied, LastW, PvNew. -/
import Derived.Test.YtfpaoaflhbppgaaVm12
import Derived.Test.YtfpaoaflhbppgaaVm10
import Derived.Test.YtfpaoaflhbppgaaVm2
import Derived.Test.YtfpaoaflhbppgaaVm3
/- The contract of slices.BinarySearchFunc, at what a vault holds. -/
namespace Go.Proofs.Ytfpaoaflhbppgaa
open Go.RowKit

def LowTo (ss : List SignB) (c : CredB) (p : Nat) : Prop := ∀ t (h : t < ss.length), t < p → cmpC ss[t].c c < 0
def HighFrom (ss : List SignB) (c : CredB) (q : Nat) : Prop := ∀ t (h : t < ss.length), q ≤ t → ¬ cmpC ss[t].c c < 0

def srSpecs5 (A b off n cap hh : Nat) (x : EntB) (c : CredB) : List Spec := [.eq (.slice (some ⟨b, off, none⟩) n cap), .any, .eq ((.func (.func 43) #[] #[])), .any, .eq (.pointer (some ⟨A, 0, none⟩)), .any, .any, .any, .any, .any, .any, .eq (.int .i64 (hh : Nat)), .any, .any, .any, .any, .any, .any, .any, .any, .any, .any, .any, .any, .eq ((.func (.func 43) #[] #[])), .eq (.slice (some ⟨b, off, none⟩) n cap), .eq (.int .i64 (hh : Nat)), .eq (.pointer (some ⟨b, off + hh * 10, none⟩)), .eq (signV x.c (.slice x.ta x.tag.length x.cap)), .eq (credV c), .eq (.int .i64 (cmpC x.c c)), .eq (.bool (decide (cmpC x.c c < 0))), .any, .any, .any, .any, .any, .any, .any, .any, .any, .any, .any, .any, .any, .any, .any, .any, .any]
def srSpecs8 (A b off n cap hh : Nat) (x : EntB) (c : CredB) : List Spec := [.eq (.slice (some ⟨b, off, none⟩) n cap), .any, .eq ((.func (.func 43) #[] #[])), .any, .eq (.pointer (some ⟨A, 0, none⟩)), .any, .eq (.int .i64 (hh : Nat)), .eq (.bool (decide (cmpC x.c c = 0))), .eq (.int .i64 (n : Nat)), .eq (.int .i64 (hh : Nat)), .any, .any, .any, .any, .any, .any, .any, .any, .any, .any, .any, .any, .any, .any, .any, .any, .any, .any, .any, .any, .any, .any, .any, .any, .any, .eq (.int .i64 (hh : Nat)), .eq (.int .i64 (hh : Nat)), .eq (.int .i64 (n : Nat)), .eq (.bool true), .eq (.bool true), .eq ((.func (.func 43) #[] #[])), .eq (.slice (some ⟨b, off, none⟩) n cap), .eq (.int .i64 (hh : Nat)), .eq (.pointer (some ⟨b, off + hh * 10, none⟩)), .eq (signV x.c (.slice x.ta x.tag.length x.cap)), .eq (credV c), .eq (.int .i64 (cmpC x.c c)), .eq (.bool (decide (cmpC x.c c = 0))), .eq (.bool (decide (cmpC x.c c = 0)))]
def srSpecs9 (A n cap : Nat) (ao : Option Addr) : List Spec := [.eq (.slice ao n cap), .any, .eq ((.func (.func 43) #[] #[])), .any, .eq (.pointer (some ⟨A, 0, none⟩)), .any, .eq (.int .i64 (n : Nat)), .eq (.bool false), .eq (.int .i64 (n : Nat)), .eq (.int .i64 (n : Nat)), .any, .any, .any, .any, .any, .any, .any, .any, .any, .any, .any, .any, .any, .any, .any, .any, .any, .any, .any, .any, .any, .any, .any, .any, .any, .eq (.int .i64 (n : Nat)), .eq (.int .i64 (n : Nat)), .eq (.int .i64 (n : Nat)), .eq (.bool false), .eq (.bool false), .any, .any, .any, .any, .any, .any, .any, .any, .eq (.bool false)]

theorem short_more {c : CredB} {n m : Nat} (h : credShort c n) (hm : n ≤ m) : credShort c m := by
  obtain ⟨h1, h2, h3, h4, h5, h6, h7, h8⟩ := h
  exact ⟨by omega, by omega, by omega, by omega, by omega, by omega, by omega, by omega⟩

theorem bool_eq {a b : Bool} (h : a = b) : Value.bool a = .bool b := by rw [h]

/-- The post of the search. -/
def FoundAt (ss : List SignB) (c : CredB) (w : World) (e : Ending) (w' : World) : Prop :=
  ∃ k : Nat, e = .returned (.tuple #[.int .i64 k, .bool (isHere ss c k)]) ∧ CutAt ss c k ∧ Chg (fun _ => False) w w'

/-- An entry's ten cells. -/
def TenAt (w : World) (b o : Nat) (x : EntB) : Prop :=
  w.cell? ⟨b, o, none⟩ = some (.int .i64 x.c.kind) ∧ w.cell? ⟨b, o + 1, none⟩ = some (.string ⟨x.c.head.1.toArray⟩) ∧ w.cell? ⟨b, o + 2, none⟩ = some (.string ⟨x.c.head.2.toArray⟩) ∧ w.cell? ⟨b, o + 3, none⟩ = some (.string ⟨x.c.who.toArray⟩) ∧ w.cell? ⟨b, o + 4, none⟩ = some (.string ⟨x.c.b.1.toArray⟩) ∧ w.cell? ⟨b, o + 5, none⟩ = some (.string ⟨x.c.b.2.toArray⟩) ∧ w.cell? ⟨b, o + 6, none⟩ = some (.string ⟨x.c.c.1.toArray⟩) ∧ w.cell? ⟨b, o + 7, none⟩ = some (.string ⟨x.c.c.2.toArray⟩) ∧ w.cell? ⟨b, o + 8, none⟩ = some (.string ⟨x.c.w2.toArray⟩) ∧ w.cell? ⟨b, o + 9, none⟩ = some (.slice x.ta x.tag.length x.cap)

theorem EntsAt.ten {D : Nat → Prop} {w : World} {ao : Option Addr} {ls : List EntB} (h : EntsAt D w ao ls) {i : Nat} (hi : i < ls.length) : ∃ b off, ao = some ⟨b, off, none⟩ ∧ D b ∧ TenAt w b (off + i * 10) ls[i] := by
  obtain ⟨b, off, h1, h2, h3⟩ := h i hi
  exact ⟨b, off, h1, h2, h3 0 (by omega), h3 1 (by omega), h3 2 (by omega), h3 3 (by omega), h3 4 (by omega), h3 5 (by omega), h3 6 (by omega), h3 7 (by omega), h3 8 (by omega), h3 9 (by omega)⟩

set_option maxRecDepth 100000 in
set_option maxHeartbeats 4000000 in
theorem pvsearch {D : Nat → Prop} (c : CredB) (ao : Option Addr) (n cap : Nat) (qs : List EntB) (ss : List SignB) (w : World) (hss : ss = qs.map EntB.s) (hqn : qs.length = n) (h : EntsAt D w ao qs) (hok : HeldOk ss) (hn : n ≤ 256) (hc : credShort c 9223372036854775807) :
    Calls Try.prog 42 #[.slice ao n cap, credV c, .func (.func 43) #[] #[]] w (FoundAt ss c w) := by
  have HSS := hid hss
  clear hss
  have hA := heap_alloc_new w (.cells (credBox c) 32)
  have hc1 : Chg (fun _ => False) w (w.alloc (.cells (credBox c) 32)) := (Chg.refl _ w).alloc _
  have h1 := h.keep hc1 (fun _ _ => id)
  have HH := hid (And.intro hA (And.intro hc1 h1))
  have HE := hid (And.intro hok (And.intro hc hqn))
  have HN : Hid (∀ args w, (callFunc 43 args).run Try.prog w = .ok (.enter 43 args) w) := hid (enters_of Try.func43 (by kernel_rfl) rfl)
  clear hA hc1 h1 h hok hc hqn
  unfold credV credBox
  go_enter Try.func42, Try.ntmps42
  go_wp2
  obtain ⟨hA, hc1, h1⟩ := HH.out
  clear HH
  unfold credBox at hA hc1 h1
  generalize (w.alloc (.cells #[.int .i64 c.kind, .string ⟨c.head.1.toArray⟩, .string ⟨c.head.2.toArray⟩, .string ⟨c.who.toArray⟩, .string ⟨c.b.1.toArray⟩, .string ⟨c.b.2.toArray⟩, .string ⟨c.c.1.toArray⟩, .string ⟨c.c.2.toArray⟩, .string ⟨c.w2.toArray⟩] 32)) = w2 at *
  generalize w.heap.size = A at *
  have HX : Hid (w2.heap[A]? = some (.cells (credBox c) 32 (0, 0)) ∧ EntsAt D w2 ao qs) := hid (And.intro hA h1)
  have HC := hid hc1
  clear hA hc1 h1
  go_loopw [9, 10] (fun i j wr => ∃ p q : Nat, i = .int .i64 p ∧ j = .int .i64 q ∧ p ≤ q ∧ q ≤ n ∧ LowTo ss c p ∧ HighFrom ss c q ∧ Chg (fun _ => False) w2 wr) (fun i j _ => (intOf j).toNat - (intOf i).toNat)
  case atStart => exact ⟨0, n, rfl, rfl, Nat.zero_le _, Nat.le_refl _, (fun t _ ht => by omega), (fun t h ht => by have h2 := HE.out.2.2; rw [HSS.out] at h; simp at h; omega), Chg.refl _ _⟩
  case round =>
    obtain ⟨p, q, rfl, rfl, hpq, hq, hlow, hhigh, hch⟩ := hrel
    by_cases hlt : p < q
    · obtain ⟨hh, hhe⟩ : ∃ hh : Nat, hh = (p + q) / 2 := ⟨_, rfl⟩
      have hh1 : p ≤ hh := by omega
      have hh2 : hh < q := by omega
      have hh3 : hh < n := by omega
      have HHE : Hid (((p : Int) + (q : Int)) / 2 = (hh : Int)) := hid (by omega)
      have hqs : hh < qs.length := by rw [HE.out.2.2]; exact hh3
      obtain ⟨b, off, hao, _, hten⟩ := (HX.out.2.keep hch (fun _ _ => id)).ten hqs
      obtain ⟨x, hx⟩ : ∃ x, x = qs[hh] := ⟨_, rfl⟩
      have hsx : hh < ss.length := by rw [HSS.out]; simpa using hqs
      have HXS : Hid (ss[hh].c = x.c) := hid (by rw [hx]; simp only [HSS.out, List.getElem_map]; rfl)
      rw [← hx] at hten
      have HS : Hid (credShort x.c 9223372036854775807 ∧ credShort c 9223372036854775807) := hid ⟨by rw [← HXS.out]; exact short_more (isCred_short (HE.out.1.cred hsx)) (by decide), HE.out.2.1⟩
      have HQ : Hid (∀ w', Chg (fun _ => False) wr w' → TenAt w' b (off + hh * 10) x) := hid (fun w' hc' => by
        obtain ⟨y0, y1, y2, y3, y4, y5, y6, y7, y8, y9⟩ := hten
        exact ⟨hc'.cell y0 id, hc'.cell y1 id, hc'.cell y2 id, hc'.cell y3 id, hc'.cell y4 id, hc'.cell y5 id, hc'.cell y6 id, hc'.cell y7 id, hc'.cell y8 id, hc'.cell y9 id⟩)
      have HA : Hid (w2.heap[A]? = some (.cells (credBox c) 32 (0, 0))) := hid HX.out.1
      have HL := hid (And.intro hlow hhigh)
      have HCH := hid hch
      have HSX := hid hsx
      subst hao
      clear hten hx hhe hqs hlow hhigh hch
      go_wp2_with fail
      rw [HHE.out]
      have HX2 : Hid (wr.heap[A]? = some (.cells (credBox c) 32 (0, 0)) ∧ True) := hid ⟨blk_keep HA.out HCH.out id, trivial⟩
      refine wp_region_specs (srSpecs5 A b off n cap hh x c) [24, 25, 26, 27, 28, 29, 30, 31] [0, 2, 4, 11] (by kernel_rfl) (by kernel_rfl) (by rfl) (by kernel_rfl) ?start ?obs ?fin
      case start =>
        simp only [List.forall_mem_cons]; exact ⟨⟨_, rfl, rfl⟩, ⟨_, rfl, rfl⟩, ⟨_, rfl, rfl⟩, ⟨_, rfl, rfl⟩, fun _ h => by cases h⟩
      case obs =>
        clear HX HHE HL HCH HC
        refine Obs.cons none (by kernel_rfl) ?_ ?_
        · refine Ob.plain fun a w hR hk K k => ?_
          obtain ⟨_, e2, f2⟩ := hk 2 (by decide)
          clear hk
          go_simp
          exact k _ _ (Chg.refl _ _) f2
        refine Obs.cons none (by kernel_rfl) ?_ ?_
        · refine Ob.plain fun a w hR hk K k => ?_
          obtain ⟨_, e0, f0⟩ := hk 0 (by decide)
          clear hk
          go_simp
          exact k _ _ (Chg.refl _ _) f0
        refine Obs.cons none (by kernel_rfl) ?_ ?_
        · refine Ob.plain fun a w hR hk K k => ?_
          obtain ⟨_, e11, f11⟩ := hk 11 (by decide)
          clear hk
          go_simp
          exact k _ _ (Chg.refl _ _) f11
        refine Obs.cons none (by kernel_rfl) ?_ ?_
        · refine Ob.plain fun a w hR hk K k => ?_
          obtain ⟨_, e25, rfl⟩ := hk 25 (by decide)
          obtain ⟨_, e26, rfl⟩ := hk 26 (by decide)
          clear hk
          clear hR
          go_simp
          exact k _ _ (Chg.refl _ _) rfl
        refine Obs.cons none (by kernel_rfl) ?_ ?_
        · refine Ob.plain fun a w hR hk K k => ?_
          obtain ⟨_, e27, rfl⟩ := hk 27 (by decide)
          clear hk
          obtain ⟨y0, y1, y2, y3, y4, y5, y6, y7, y8, y9⟩ := HQ.out _ hR
          clear hR
          go_simp
          exact k _ _ (Chg.refl _ _) rfl
        refine Obs.cons none (by kernel_rfl) ?_ ?_
        · refine Ob.plain fun a w hR hk K k => ?_
          obtain ⟨_, e4, rfl⟩ := hk 4 (by decide)
          clear hk
          obtain ⟨y0, y1, y2, y3, y4, y5, y6, y7, y8⟩ := (cred_at_blk HX2.out.1).keep hR id
          simp only [Nat.zero_add] at y0 y1 y2 y3 y4 y5 y6 y7 y8
          clear hR
          go_simp
          exact k _ _ (Chg.refl _ _) rfl
        refine Obs.cons none (by kernel_rfl) ?_ ?_
        · refine Ob.plain fun a w hR hk K k => ?_
          obtain ⟨_, e24, rfl⟩ := hk 24 (by decide)
          obtain ⟨_, e28, rfl⟩ := hk 28 (by decide)
          obtain ⟨_, e29, rfl⟩ := hk 29 (by decide)
          clear hk
          have hq := pvfind1 x.c c (.slice x.ta x.tag.length x.cap) w HS.out.1 HS.out.2
          have he := HN.out
          clear hR
          go_simp
          refine hq.mono ?_
          rintro e w5 ⟨rfl, hcc⟩
          exact k _ _ hcc rfl
        refine Obs.cons none (by kernel_rfl) ?_ ?_
        · refine Ob.plain fun a w hR hk K k => ?_
          obtain ⟨_, e30, rfl⟩ := hk 30 (by decide)
          clear hk
          go_simp
          exact k _ _ (Chg.refl _ _) rfl
        exact Obs.nil
      case fin =>
        intro vals w9 hc9 hv
        have h31 : vals 31 = .bool (decide (cmpC x.c c < 0)) := hv 31 (by decide)
        have HC9 := hid (HCH.out.trans hc9 (fun _ _ h => h))
        clear hv hc9
        simp only [putAll, List.setIfInBounds_toArray, List.set_cons_zero, List.set_cons_succ, h31]
        clear h31
        by_cases hcm : cmpC x.c c < 0
        · have d1 : decide (cmpC x.c c < 0) = true := decide_eq_true hcm
          have HR : Hid (LowTo ss c (hh + 1)) := hid (fun t ht h1 => HE.out.1.low HSX.out (by rw [HXS.out]; exact hcm) t ht h1)
          rw [d1]
          clear d1 hcm
          go_wp2
          go_roundw
          case rel => exact ⟨hh + 1, q, by go_num, rfl, by omega, hq, HR.out, HL.out.2, HC9.out⟩
          case measure => simp [intOf]; omega
        · have d1 : decide (cmpC x.c c < 0) = false := decide_eq_false hcm
          have HR : Hid (HighFrom ss c hh) := hid (fun t ht h1 => HE.out.1.high HSX.out (by rw [HXS.out]; exact hcm) t ht h1)
          rw [d1]
          clear d1 hcm
          go_wp2
          go_roundw
          case rel => exact ⟨p, hh, rfl, rfl, hh1, by omega, HL.out.1, HR.out, HC9.out⟩
          case measure => simp [intOf]; omega
    · have hpe : p = q := by omega
      subst hpe
      have HCUT : Hid (CutAt ss c p) := hid ⟨by rw [HSS.out]; simp; have := HE.out.2.2; omega, hlow, hhigh⟩
      have HCH := hid hch
      by_cases hpn : p < n
      · have hqs : p < qs.length := by rw [HE.out.2.2]; exact hpn
        obtain ⟨b, off, hao, _, hten⟩ := (HX.out.2.keep hch (fun _ _ => id)).ten hqs
        obtain ⟨x, hx⟩ : ∃ x, x = qs[p] := ⟨_, rfl⟩
        have hsx : p < ss.length := by rw [HSS.out]; simpa using hqs
        have HXS : Hid (ss[p].c = x.c) := hid (by rw [hx]; simp only [HSS.out, List.getElem_map]; rfl)
        rw [← hx] at hten
        have HS : Hid (credShort x.c 9223372036854775807 ∧ credShort c 9223372036854775807) := hid ⟨by rw [← HXS.out]; exact short_more (isCred_short (HE.out.1.cred hsx)) (by decide), HE.out.2.1⟩
        have HQ : Hid (∀ w', Chg (fun _ => False) wr w' → TenAt w' b (off + p * 10) x) := hid (fun w' hc' => by
          obtain ⟨y0, y1, y2, y3, y4, y5, y6, y7, y8, y9⟩ := hten
          exact ⟨hc'.cell y0 id, hc'.cell y1 id, hc'.cell y2 id, hc'.cell y3 id, hc'.cell y4 id, hc'.cell y5 id, hc'.cell y6 id, hc'.cell y7 id, hc'.cell y8 id, hc'.cell y9 id⟩)
        have HRES : Hid (decide (cmpC x.c c = 0) = isHere ss c p) := hid (by rw [isHere_at hsx, HXS.out])
        have HZ : Hid ((cmpC x.c c == 0) = decide (cmpC x.c c = 0)) := hid rfl
        have HX2 : Hid (wr.heap[A]? = some (.cells (credBox c) 32 (0, 0)) ∧ True) := hid ⟨blk_keep HX.out.1 hch id, trivial⟩
        subst hao
        clear hten hx hqs hlow hhigh hch hlt
        have z1 : decide (p < p) = false := decide_eq_false (Nat.lt_irrefl p)
        have z2 : decide (p < n) = true := decide_eq_true hpn
        go_wp2_with fail
        refine wp_region_specs (srSpecs8 A b off n cap p x c) [35, 36, 37, 38, 39, 40, 41, 42, 43, 44, 45, 46, 47, 48, 6, 7] [0, 2, 4, 8, 9] (by kernel_rfl) (by kernel_rfl) (by rfl) (by kernel_rfl) ?start ?obs ?fin
        case start =>
          simp only [List.forall_mem_cons]; exact ⟨⟨_, rfl, rfl⟩, ⟨_, rfl, rfl⟩, ⟨_, rfl, rfl⟩, ⟨_, rfl, rfl⟩, ⟨_, rfl, rfl⟩, fun _ h => by cases h⟩
        case obs =>
          clear HX HCH HC HCUT HRES HXS hpq hq
          refine Obs.cons none (by kernel_rfl) ?_ ?_
          · refine Ob.plain fun a w hR hk K k => ?_
            obtain ⟨_, e9, f9⟩ := hk 9 (by decide)
            clear hk
            go_simp
            exact k _ _ (Chg.refl _ _) f9
          refine Obs.cons none (by kernel_rfl) ?_ ?_
          · refine Ob.plain fun a w hR hk K k => ?_
            obtain ⟨_, e9, f9⟩ := hk 9 (by decide)
            clear hk
            go_simp
            exact k _ _ (Chg.refl _ _) f9
          refine Obs.cons none (by kernel_rfl) ?_ ?_
          · refine Ob.plain fun a w hR hk K k => ?_
            obtain ⟨_, e8, f8⟩ := hk 8 (by decide)
            clear hk
            go_simp
            exact k _ _ (Chg.refl _ _) f8
          refine Obs.cons none (by kernel_rfl) ?_ ?_
          · refine Ob.plain fun a w hR hk K k => ?_
            obtain ⟨_, e36, rfl⟩ := hk 36 (by decide)
            obtain ⟨_, e37, rfl⟩ := hk 37 (by decide)
            clear hk
            go_simp
            exact k _ _ (Chg.refl _ _) rfl
          refine Obs.cons none (by kernel_rfl) ?_ ?_
          · refine Ob.plain fun a w hR hk K k => ?_
            obtain ⟨_, e38, f38⟩ := hk 38 (by decide)
            clear hk
            go_simp
            exact k _ _ (Chg.refl _ _) f38
          refine Obs.cons (some (39, true)) (by kernel_rfl) ?_ ?_
          · refine Ob.yes (fun _ _ h => h) fun a w hR hk K k => ?_
            obtain ⟨_, e2, f2⟩ := hk 2 (by decide)
            clear hk
            go_simp
            exact k _ _ (Chg.refl _ _) f2
          refine Obs.cons (some (39, true)) (by kernel_rfl) ?_ ?_
          · refine Ob.yes (fun _ _ h => h) fun a w hR hk K k => ?_
            obtain ⟨_, e0, f0⟩ := hk 0 (by decide)
            clear hk
            go_simp
            exact k _ _ (Chg.refl _ _) f0
          refine Obs.cons (some (39, true)) (by kernel_rfl) ?_ ?_
          · refine Ob.yes (fun _ _ h => h) fun a w hR hk K k => ?_
            obtain ⟨_, e9, f9⟩ := hk 9 (by decide)
            clear hk
            go_simp
            exact k _ _ (Chg.refl _ _) f9
          refine Obs.cons (some (39, true)) (by kernel_rfl) ?_ ?_
          · refine Ob.yes (fun _ _ h => h) fun a w hR hk K k => ?_
            obtain ⟨_, e41, rfl⟩ := hk 41 (by decide)
            obtain ⟨_, e42, rfl⟩ := hk 42 (by decide)
            clear hk
            clear hR
            go_simp
            exact k _ _ (Chg.refl _ _) rfl
          refine Obs.cons (some (39, true)) (by kernel_rfl) ?_ ?_
          · refine Ob.yes (fun _ _ h => h) fun a w hR hk K k => ?_
            obtain ⟨_, e43, rfl⟩ := hk 43 (by decide)
            clear hk
            obtain ⟨y0, y1, y2, y3, y4, y5, y6, y7, y8, y9⟩ := HQ.out _ hR
            clear hR
            go_simp
            exact k _ _ (Chg.refl _ _) rfl
          refine Obs.cons (some (39, true)) (by kernel_rfl) ?_ ?_
          · refine Ob.yes (fun _ _ h => h) fun a w hR hk K k => ?_
            obtain ⟨_, e4, rfl⟩ := hk 4 (by decide)
            clear hk
            obtain ⟨y0, y1, y2, y3, y4, y5, y6, y7, y8⟩ := (cred_at_blk HX2.out.1).keep hR id
            simp only [Nat.zero_add] at y0 y1 y2 y3 y4 y5 y6 y7 y8
            clear hR
            go_simp
            exact k _ _ (Chg.refl _ _) rfl
          refine Obs.cons (some (39, true)) (by kernel_rfl) ?_ ?_
          · refine Ob.yes (fun _ _ h => h) fun a w hR hk K k => ?_
            obtain ⟨_, e40, rfl⟩ := hk 40 (by decide)
            obtain ⟨_, e44, rfl⟩ := hk 44 (by decide)
            obtain ⟨_, e45, rfl⟩ := hk 45 (by decide)
            clear hk
            have hq := pvfind1 x.c c (.slice x.ta x.tag.length x.cap) w HS.out.1 HS.out.2
            have he := HN.out
            clear hR
            go_simp
            refine hq.mono ?_
            rintro e w5 ⟨rfl, hcc⟩
            exact k _ _ hcc rfl
          refine Obs.cons (some (39, true)) (by kernel_rfl) ?_ ?_
          · refine Ob.yes (fun _ _ h => h) fun a w hR hk K k => ?_
            obtain ⟨_, e46, rfl⟩ := hk 46 (by decide)
            clear hk
            clear hR
            go_simp
            exact k _ _ (Chg.refl _ _) (bool_eq HZ.out)
          refine Obs.cons none (by kernel_rfl) ?_ ?_
          · refine Ob.plain fun a w hR hk K k => ?_
            obtain ⟨_, e39, rfl⟩ := hk 39 (by decide)
            obtain ⟨_, e47, rfl⟩ := hk 47 (by decide)
            clear hk
            go_simp
            exact k _ _ (Chg.refl _ _) rfl
          refine Obs.cons none (by kernel_rfl) ?_ ?_
          · refine Ob.plain fun a w hR hk K k => ?_
            obtain ⟨_, e35, f35⟩ := hk 35 (by decide)
            clear hk
            go_simp
            exact k _ _ (Chg.refl _ _) f35
          refine Obs.cons none (by kernel_rfl) ?_ ?_
          · refine Ob.plain fun a w hR hk K k => ?_
            obtain ⟨_, e48, f48⟩ := hk 48 (by decide)
            clear hk
            go_simp
            exact k _ _ (Chg.refl _ _) f48
          exact Obs.nil
        case fin =>
          intro vals w9 hc9 hv
          have h6 : vals 6 = .int .i64 (p : Nat) := hv 6 (by decide)
          have h7 : vals 7 = .bool (decide (cmpC x.c c = 0)) := hv 7 (by decide)
          have HC9 := hid ((HC.out.trans HCH.out (fun _ _ h => h)).trans hc9 (fun _ _ h => h))
          rw [HRES.out] at h7
          clear hv hc9
          simp only [putAll, List.setIfInBounds_toArray, List.set_cons_zero, List.set_cons_succ, h6, h7]
          clear h6 h7
          go_wp2
          go_ret2
          exact ⟨p, rfl, HCUT.out, HC9.out⟩
      · have hpe : p = n := by omega
        subst hpe
        have HRES : Hid (isHere ss c p = false) := hid (isHere_end (by rw [HSS.out]; simp; have := HE.out.2.2; omega))
        clear hlow hhigh hch hlt hpn
        have z1 : decide (p < p) = false := decide_eq_false (Nat.lt_irrefl p)
        go_wp2_with fail
        refine wp_region_specs (srSpecs9 A p cap ao) [35, 36, 37, 38, 39, 40, 41, 42, 43, 44, 45, 46, 47, 48, 6, 7] [0, 2, 4, 8, 9] (by kernel_rfl) (by kernel_rfl) (by rfl) (by kernel_rfl) ?start ?obs ?fin
        case start =>
          simp only [List.forall_mem_cons]; exact ⟨⟨_, rfl, rfl⟩, ⟨_, rfl, rfl⟩, ⟨_, rfl, rfl⟩, ⟨_, rfl, rfl⟩, ⟨_, rfl, rfl⟩, fun _ h => by cases h⟩
        case obs =>
          clear HX HCH HC HCUT HRES hpq hq
          refine Obs.cons none (by kernel_rfl) ?_ ?_
          · refine Ob.plain fun a w hR hk K k => ?_
            obtain ⟨_, e9, f9⟩ := hk 9 (by decide)
            clear hk
            go_simp
            exact k _ _ (Chg.refl _ _) f9
          refine Obs.cons none (by kernel_rfl) ?_ ?_
          · refine Ob.plain fun a w hR hk K k => ?_
            obtain ⟨_, e9, f9⟩ := hk 9 (by decide)
            clear hk
            go_simp
            exact k _ _ (Chg.refl _ _) f9
          refine Obs.cons none (by kernel_rfl) ?_ ?_
          · refine Ob.plain fun a w hR hk K k => ?_
            obtain ⟨_, e8, f8⟩ := hk 8 (by decide)
            clear hk
            go_simp
            exact k _ _ (Chg.refl _ _) f8
          refine Obs.cons none (by kernel_rfl) ?_ ?_
          · refine Ob.plain fun a w hR hk K k => ?_
            obtain ⟨_, e36, rfl⟩ := hk 36 (by decide)
            obtain ⟨_, e37, rfl⟩ := hk 37 (by decide)
            clear hk
            go_simp
            exact k _ _ (Chg.refl _ _) rfl
          refine Obs.cons none (by kernel_rfl) ?_ ?_
          · refine Ob.plain fun a w hR hk K k => ?_
            obtain ⟨_, e38, f38⟩ := hk 38 (by decide)
            clear hk
            go_simp
            exact k _ _ (Chg.refl _ _) f38
          refine Obs.cons (some (39, true)) (by kernel_rfl) ?_ ?_
          · exact Ob.no (fun _ _ h => h) (Chg.refl _) (fun _ _ => trivial)
          refine Obs.cons (some (39, true)) (by kernel_rfl) ?_ ?_
          · exact Ob.no (fun _ _ h => h) (Chg.refl _) (fun _ _ => trivial)
          refine Obs.cons (some (39, true)) (by kernel_rfl) ?_ ?_
          · exact Ob.no (fun _ _ h => h) (Chg.refl _) (fun _ _ => trivial)
          refine Obs.cons (some (39, true)) (by kernel_rfl) ?_ ?_
          · exact Ob.no (fun _ _ h => h) (Chg.refl _) (fun _ _ => trivial)
          refine Obs.cons (some (39, true)) (by kernel_rfl) ?_ ?_
          · exact Ob.no (fun _ _ h => h) (Chg.refl _) (fun _ _ => trivial)
          refine Obs.cons (some (39, true)) (by kernel_rfl) ?_ ?_
          · exact Ob.no (fun _ _ h => h) (Chg.refl _) (fun _ _ => trivial)
          refine Obs.cons (some (39, true)) (by kernel_rfl) ?_ ?_
          · exact Ob.no (fun _ _ h => h) (Chg.refl _) (fun _ _ => trivial)
          refine Obs.cons (some (39, true)) (by kernel_rfl) ?_ ?_
          · exact Ob.no (fun _ _ h => h) (Chg.refl _) (fun _ _ => trivial)
          refine Obs.cons none (by kernel_rfl) ?_ ?_
          · refine Ob.plain fun a w hR hk K k => ?_
            obtain ⟨_, e39, rfl⟩ := hk 39 (by decide)
            obtain ⟨_, e47, f47⟩ := hk 47 (by decide)
            clear hk
            go_simp
            exact k _ _ (Chg.refl _ _) rfl
          refine Obs.cons none (by kernel_rfl) ?_ ?_
          · refine Ob.plain fun a w hR hk K k => ?_
            obtain ⟨_, e35, f35⟩ := hk 35 (by decide)
            clear hk
            go_simp
            exact k _ _ (Chg.refl _ _) f35
          refine Obs.cons none (by kernel_rfl) ?_ ?_
          · refine Ob.plain fun a w hR hk K k => ?_
            obtain ⟨_, e48, f48⟩ := hk 48 (by decide)
            clear hk
            go_simp
            exact k _ _ (Chg.refl _ _) f48
          exact Obs.nil
        case fin =>
          intro vals w9 hc9 hv
          have h6 : vals 6 = .int .i64 (p : Nat) := hv 6 (by decide)
          have h7 : vals 7 = .bool false := hv 7 (by decide)
          have HC9 := hid ((HC.out.trans HCH.out (fun _ _ h => h)).trans hc9 (fun _ _ h => h))
          clear hv hc9
          simp only [putAll, List.setIfInBounds_toArray, List.set_cons_zero, List.set_cons_succ, h6, h7]
          clear h6 h7
          go_wp2
          go_ret2
          exact ⟨p, by rw [HRES.out]; rfl, HCUT.out, HC9.out⟩
end Go.Proofs.Ytfpaoaflhbppgaa

/- The contract of the vault's find. -/
namespace Go.Proofs.Ytfpaoaflhbppgaa
open Go.RowKit

def Spec.cutT (ss : List SignB) (c : CredB) : Spec := ⟨fun v _ => ∃ k : Nat, v = .tuple #[.int .i64 k, .bool (hasG ss c)] ∧ CutAt ss c k, fun _ _ _ _ h => h⟩
def Spec.cutI (ss : List SignB) (c : CredB) : Spec := ⟨fun v _ => ∃ k : Nat, v = .int .i64 k ∧ CutAt ss c k, fun _ _ _ _ h => h⟩
def pfSpecs (A n cap : Nat) (r ao : Option Addr) (ss : List SignB) (c : CredB) : List Spec := [.eq (.pointer r), .any, .any, .eq (.pointer (some ⟨A, 0, none⟩)), .cutI ss c, .eq (.bool (hasG ss c)), .eq (.pointer r), .eq (.slice ao n cap), .eq (credV c), .cutT ss c, .cutI ss c, .eq (.bool (hasG ss c))]

/-- The place of c, and whether it is held. -/
def FindPost (ss : List SignB) (c : CredB) (w : World) (e : Ending) (w' : World) : Prop :=
  ∃ k : Nat, e = .returned (.tuple #[.int .i64 k, .bool (hasG ss c)]) ∧ CutAt ss c k ∧ Chg (fun _ => False) w w'

set_option maxRecDepth 100000 in
set_option maxHeartbeats 2000000 in
theorem pvfind0 {D : Nat → Prop} (c : CredB) (r ao : Option Addr) (n cap : Nat) (qs : List EntB) (ss : List SignB) (w : World) (hss : ss = qs.map EntB.s) (hqn : qs.length = n) (h : EntsAt D w ao qs) (hok : HeldOk ss) (hn : n ≤ 256) (hc : credShort c 9223372036854775807)
    (hlist : ∀ W, Chg (fun _ => False) w W → Calls Try.prog 31 #[.pointer r] W fun e w' => e = .returned (.slice ao n cap) ∧ W = w') :
    Calls Try.prog 27 #[.pointer r, credV c] w (FindPost ss c w) := by
  have hA := heap_alloc_new w (.cells (credBox c) 32)
  have hc1 : Chg (fun _ => False) w (w.alloc (.cells (credBox c) 32)) := (Chg.refl _ w).alloc _
  have HL := hid hlist
  have HX0 := hid (And.intro hA (h.keep hc1 (fun _ _ => id)))
  have HC0 := hid hc1
  have HE := hid (And.intro hss (And.intro hqn (And.intro hok (And.intro hn hc))))
  clear hA hc1 h hok hn hc hlist hss hqn
  unfold credV credBox
  go_enter Try.func27, Try.ntmps27
  go_wp2_with fail
  change (Code.region _ _ _).wp _ _ _ (w.alloc (.cells (credBox c) 32))
  generalize (w.alloc (.cells (credBox c) 32)) = w1 at *
  generalize w.heap.size = A at *
  have HX : Hid (w1.heap[A]? = some (.cells (credBox c) 32 (0, 0)) ∧ EntsAt D w1 ao qs) := HX0
  have HC : Hid (Chg (fun _ => False) w w1) := HC0
  clear HX0 HC0
  refine wp_region_specs (pfSpecs A n cap r ao ss c) [6, 7, 8, 9, 10, 11, 4, 5] [0, 3] (by kernel_rfl) (by kernel_rfl) (by rfl) (by kernel_rfl) ?start ?obs ?fin
  case start =>
    simp only [List.forall_mem_cons]; exact ⟨⟨_, rfl, rfl⟩, ⟨_, rfl, rfl⟩, fun _ h => by cases h⟩
  case obs =>
    refine Obs.cons none (by kernel_rfl) ?_ ?_
    · refine Ob.plain fun a w hR hk K k => ?_
      obtain ⟨_, e0, f0⟩ := hk 0 (by decide)
      clear hk
      go_simp
      exact k _ _ (Chg.refl _ _) f0
    refine Obs.cons none (by kernel_rfl) ?_ ?_
    · refine Ob.plain fun a w hR hk K k => ?_
      obtain ⟨_, e6, rfl⟩ := hk 6 (by decide)
      clear hk
      have hq := HL.out w (HC.out.trans hR (fun _ _ h => h))
      clear hR
      go_simp
      refine hq.mono ?_
      rintro e w5 ⟨rfl, rfl⟩
      exact k _ _ (Chg.refl _ _) rfl
    refine Obs.cons none (by kernel_rfl) ?_ ?_
    · refine Ob.plain fun a w hR hk K k => ?_
      obtain ⟨_, e3, rfl⟩ := hk 3 (by decide)
      clear hk
      obtain ⟨y0, y1, y2, y3, y4, y5, y6, y7, y8⟩ := (cred_at_blk HX.out.1).keep hR id
      simp only [Nat.zero_add] at y0 y1 y2 y3 y4 y5 y6 y7 y8
      clear hR
      go_simp
      exact k _ _ (Chg.refl _ _) rfl
    refine Obs.cons none (by kernel_rfl) ?_ ?_
    · refine Ob.plain fun a w hR hk K k => ?_
      obtain ⟨_, e7, rfl⟩ := hk 7 (by decide)
      obtain ⟨_, e8, rfl⟩ := hk 8 (by decide)
      clear hk
      have hq := pvsearch c ao n cap qs ss w HE.out.1 HE.out.2.1 (HX.out.2.keep hR (fun _ _ => id)) HE.out.2.2.1 HE.out.2.2.2.1 HE.out.2.2.2.2
      clear hR
      go_simp
      refine hq.mono ?_
      rintro e w5 ⟨kk, rfl, hcut, hcc⟩
      exact k _ _ hcc ⟨kk, by rw [isHere_has HE.out.2.2.1 hcut], hcut⟩
    refine Obs.cons none (by kernel_rfl) ?_ ?_
    · refine Ob.plain fun a w hR hk K k => ?_
      obtain ⟨_, e9, f9⟩ := hk 9 (by decide)
      clear hk
      obtain ⟨kk, rfl, hcut⟩ := f9
      have HK := hid hcut
      clear hR hcut
      go_simp
      exact k _ _ (Chg.refl _ _) ⟨kk, rfl, HK.out⟩
    refine Obs.cons none (by kernel_rfl) ?_ ?_
    · refine Ob.plain fun a w hR hk K k => ?_
      obtain ⟨_, e9, f9⟩ := hk 9 (by decide)
      clear hk
      obtain ⟨kk, rfl, hcut⟩ := f9
      clear hR hcut
      go_simp
      exact k _ _ (Chg.refl _ _) rfl
    refine Obs.cons none (by kernel_rfl) ?_ ?_
    · refine Ob.plain fun a w hR hk K k => ?_
      obtain ⟨_, e10, f10⟩ := hk 10 (by decide)
      clear hk
      go_simp
      exact k _ _ (Chg.refl _ _) f10
    refine Obs.cons none (by kernel_rfl) ?_ ?_
    · refine Ob.plain fun a w hR hk K k => ?_
      obtain ⟨_, e11, f11⟩ := hk 11 (by decide)
      clear hk
      go_simp
      exact k _ _ (Chg.refl _ _) f11
    exact Obs.nil
  case fin =>
    intro vals w9 hc9 hv
    obtain ⟨k, h4, hcut⟩ := hv 4 (by decide)
    have h5 : vals 5 = .bool (hasG ss c) := hv 5 (by decide)
    have HF := hid (And.intro hcut (HC.out.trans hc9 (fun _ _ h => h)))
    clear hv hc9 HX HC HL HE hcut
    simp only [putAll, List.setIfInBounds_toArray, List.set_cons_zero, List.set_cons_succ, h4, h5]
    clear h4 h5
    go_wp2
    go_ret2
    exact ⟨k, rfl, HF.out.1, HF.out.2⟩

theorem pvfind {D : Nat → Prop} (c : CredB) (g : Nat) (m : Int) (ao : Option Addr) (n cap : Nat) (qs : List EntB) (ss : List SignB) (w : World) (hg : w.heap[g]? = some (.cells #[.int .i64 m, .slice ao n cap] 65 (0, 0))) (hss : ss = qs.map EntB.s) (hqn : qs.length = n) (h : EntsAt D w ao qs) (hok : HeldOk ss) (hn : n ≤ 256) (hc : credShort c 9223372036854775807) :
    Calls Try.prog 27 #[.pointer (some ⟨g, 0, none⟩), credV c] w (FindPost ss c w) :=
  pvfind0 c _ ao n cap qs ss w hss hqn h hok hn hc fun W hW => pvlist W g m ao n cap (blk_keep hg hW id)

theorem pvfindNil (c : CredB) (w : World) (hc : credShort c 9223372036854775807) :
    Calls Try.prog 27 #[.pointer none, credV c] w (FindPost [] c w) :=
  pvfind0 (D := fun _ => True) c none none 0 0 [] [] w rfl rfl (EntsAt.nil _ _ _) HeldOk.nil (by decide) hc fun W _ => pvlistNil W
end Go.Proofs.Ytfpaoaflhbppgaa

/- The contract of the program's copied, of vaults. -/
namespace Go.Proofs.Ytfpaoaflhbppgaa
open Go.RowKit

/-- What is so amid the making: B holds the zero one, then the copy, whose tag is in new memory. -/
def CpW (B : Nat) (w2 : World) (c : CredB) (tag : List UInt8) (L : Nat → Bool) (w9 : World) : Prop :=
  Chg (· = B) w2 w9 ∧ (L 6 = true → ∃ ta cap, w9.heap[B]? = some (.cells (signBox c (.slice ta tag.length cap)) 35 (0, 0)) ∧ BytesAt (fun k => w2.heap.size ≤ k ∧ k < w9.heap.size) w9 (.slice ta tag.length cap) tag) ∧ (L 6 = false → w9.heap[B]? = some (.cells (signBox noCred (.slice none 0 0)) 35 (0, 0)))

theorem CpW.keep {B : Nat} {w2 w9 w' : World} {c : CredB} {tag : List UInt8} {L : Nat → Bool} (h : CpW B w2 c tag L w9) (_ : B < w2.heap.size) (hc : Chg (fun _ => False) w9 w') : CpW B w2 c tag L w' := by
  obtain ⟨h1, h2, h3⟩ := h
  refine ⟨h1.trans hc (fun _ _ h => h.elim), fun hl => ?_, fun hl => blk_keep (h3 hl) hc id⟩
  obtain ⟨ta, cap, a, b⟩ := h2 hl
  exact ⟨ta, cap, blk_keep a hc id, (b.keep hc (fun _ _ => id)).mono (fun i hi => ⟨hi.1, Nat.lt_of_lt_of_le hi.2 hc.size⟩)⟩

theorem CpW.step {B : Nat} {w2 w9 : World} {c : CredB} {tag : List UInt8} {L : Nat → Bool} {i : Nat} (h : CpW B w2 c tag L w9) (hi : ¬ 6 = i) : CpW B w2 c tag (upd L i) w9 := by
  have e : upd L i 6 = L 6 := if_neg hi
  exact ⟨h.1, fun h7 => h.2.1 (by rw [← e]; exact h7), fun h7 => h.2.2 (by rw [← e]; exact h7)⟩

def cpSpecs (A B lo cap : Nat) (hB : B < lo) (c : CredB) (tag : List UInt8) (ta : Option Addr) : List (SpecR (Chg (· = B))) := [.any, .eq (.pointer (some ⟨A, 0, none⟩)), .eq (.pointer (some ⟨B, 0, none⟩)), .eq (.pointer (some ⟨A, 0, none⟩)), .eq (credV c), .eq (.pointer (some ⟨A, 9, none⟩)), .eq (.slice ta tag.length cap), .bts B lo hB tag, .sgn B lo hB c tag]

/-- A copy with a tag of its own. -/
def CopyPost (c : CredB) (tag : List UInt8) (w : World) (e : Ending) (w' : World) : Prop :=
  ∃ ta cap, e = .returned (signV c (.slice ta tag.length cap)) ∧ BytesAt (fun k => w.heap.size ≤ k ∧ k < w'.heap.size) w' (.slice ta tag.length cap) tag ∧ Chg (fun _ => False) w w'

set_option maxRecDepth 100000 in
set_option maxHeartbeats 4000000 in
theorem pvcopied {D : Nat → Prop} (c : CredB) (tag : List UInt8) (ta : Option Addr) (cap : Nat) (w : World) (hl : tag.length ≤ 140737488355328) (hDl : ∀ i, D i → i < w.heap.size) (hby : BytesAt D w (.slice ta tag.length cap) tag) :
    Calls Try.prog 28 #[signV c (.slice ta tag.length cap)] w (CopyPost c tag w) := by
  have hA1 : ((w.alloc (.cells #[.int .i64 c.kind, .string ⟨c.head.1.toArray⟩, .string ⟨c.head.2.toArray⟩, .string ⟨c.who.toArray⟩, .string ⟨c.b.1.toArray⟩, .string ⟨c.b.2.toArray⟩, .string ⟨c.c.1.toArray⟩, .string ⟨c.c.2.toArray⟩, .string ⟨c.w2.toArray⟩, .slice ta tag.length cap] 35)).alloc (.cells #[.int .i64 0, .string ⟨#[]⟩, .string ⟨#[]⟩, .string ⟨#[]⟩, .string ⟨#[]⟩, .string ⟨#[]⟩, .string ⟨#[]⟩, .string ⟨#[]⟩, .string ⟨#[]⟩, .slice none 0 0] 35)).heap[w.heap.size]? = some (.cells (signBox c (.slice ta tag.length cap)) 35 (0, 0)) := by
    have := heap_alloc_new w (.cells #[.int .i64 c.kind, .string ⟨c.head.1.toArray⟩, .string ⟨c.head.2.toArray⟩, .string ⟨c.who.toArray⟩, .string ⟨c.b.1.toArray⟩, .string ⟨c.b.2.toArray⟩, .string ⟨c.c.1.toArray⟩, .string ⟨c.c.2.toArray⟩, .string ⟨c.w2.toArray⟩, .slice ta tag.length cap] 35)
    exact blk_keep this ((Chg.refl (fun _ => False) _).alloc _) id
  have hB1 : ((w.alloc (.cells #[.int .i64 c.kind, .string ⟨c.head.1.toArray⟩, .string ⟨c.head.2.toArray⟩, .string ⟨c.who.toArray⟩, .string ⟨c.b.1.toArray⟩, .string ⟨c.b.2.toArray⟩, .string ⟨c.c.1.toArray⟩, .string ⟨c.c.2.toArray⟩, .string ⟨c.w2.toArray⟩, .slice ta tag.length cap] 35)).alloc (.cells #[.int .i64 0, .string ⟨#[]⟩, .string ⟨#[]⟩, .string ⟨#[]⟩, .string ⟨#[]⟩, .string ⟨#[]⟩, .string ⟨#[]⟩, .string ⟨#[]⟩, .string ⟨#[]⟩, .slice none 0 0] 35)).heap[w.heap.size + 1]? = some (.cells (signBox noCred (.slice none 0 0)) 35 (0, 0)) := by
    have := heap_alloc_new (w.alloc (.cells #[.int .i64 c.kind, .string ⟨c.head.1.toArray⟩, .string ⟨c.head.2.toArray⟩, .string ⟨c.who.toArray⟩, .string ⟨c.b.1.toArray⟩, .string ⟨c.b.2.toArray⟩, .string ⟨c.c.1.toArray⟩, .string ⟨c.c.2.toArray⟩, .string ⟨c.w2.toArray⟩, .slice ta tag.length cap] 35)) (.cells #[.int .i64 0, .string ⟨#[]⟩, .string ⟨#[]⟩, .string ⟨#[]⟩, .string ⟨#[]⟩, .string ⟨#[]⟩, .string ⟨#[]⟩, .string ⟨#[]⟩, .string ⟨#[]⟩, .slice none 0 0] 35)
    rw [show (w.alloc (.cells #[.int .i64 c.kind, .string ⟨c.head.1.toArray⟩, .string ⟨c.head.2.toArray⟩, .string ⟨c.who.toArray⟩, .string ⟨c.b.1.toArray⟩, .string ⟨c.b.2.toArray⟩, .string ⟨c.c.1.toArray⟩, .string ⟨c.c.2.toArray⟩, .string ⟨c.w2.toArray⟩, .slice ta tag.length cap] 35)).heap.size = w.heap.size + 1 by simp] at this
    exact this
  have hc1 : Chg (fun _ => False) w ((w.alloc (.cells #[.int .i64 c.kind, .string ⟨c.head.1.toArray⟩, .string ⟨c.head.2.toArray⟩, .string ⟨c.who.toArray⟩, .string ⟨c.b.1.toArray⟩, .string ⟨c.b.2.toArray⟩, .string ⟨c.c.1.toArray⟩, .string ⟨c.c.2.toArray⟩, .string ⟨c.w2.toArray⟩, .slice ta tag.length cap] 35)).alloc (.cells #[.int .i64 0, .string ⟨#[]⟩, .string ⟨#[]⟩, .string ⟨#[]⟩, .string ⟨#[]⟩, .string ⟨#[]⟩, .string ⟨#[]⟩, .string ⟨#[]⟩, .string ⟨#[]⟩, .slice none 0 0] 35)) := ((Chg.refl _ w).alloc _).alloc _
  have HL := hid hl
  have HDl0 := hid hDl
  have HH := hid (And.intro hA1 (And.intro hB1 (And.intro hc1 (hby.keep hc1 (fun _ _ => id)))))
  clear hA1 hB1 hc1 hby hl hDl
  show Calls Try.prog 28 #[.agg #[.int .i64 c.kind, .string ⟨c.head.1.toArray⟩, .string ⟨c.head.2.toArray⟩, .string ⟨c.who.toArray⟩, .string ⟨c.b.1.toArray⟩, .string ⟨c.b.2.toArray⟩, .string ⟨c.c.1.toArray⟩, .string ⟨c.c.2.toArray⟩, .string ⟨c.w2.toArray⟩, .slice ta tag.length cap]] w _
  go_enter Try.func28, Try.ntmps28
  go_wp2_with fail
  obtain ⟨hA2, hB2, hc2, hby2⟩ := HH.out
  clear HH
  generalize ((w.alloc (.cells #[.int .i64 c.kind, .string ⟨c.head.1.toArray⟩, .string ⟨c.head.2.toArray⟩, .string ⟨c.who.toArray⟩, .string ⟨c.b.1.toArray⟩, .string ⟨c.b.2.toArray⟩, .string ⟨c.c.1.toArray⟩, .string ⟨c.c.2.toArray⟩, .string ⟨c.w2.toArray⟩, .slice ta tag.length cap] 35)).alloc (.cells #[.int .i64 0, .string ⟨#[]⟩, .string ⟨#[]⟩, .string ⟨#[]⟩, .string ⟨#[]⟩, .string ⟨#[]⟩, .string ⟨#[]⟩, .string ⟨#[]⟩, .string ⟨#[]⟩, .slice none 0 0] 35)) = w2 at *
  generalize hBe : w.heap.size + 1 = B at *
  have HBe := hid hBe
  clear hBe
  generalize hAe : w.heap.size = A at *
  have HAe := hid hAe
  clear hAe
  have hAB : A < B ∧ B < w2.heap.size := ⟨by have := HBe.out; omega, lt_blk hB2⟩
  have HDl : Hid (∀ i, D i → i < A) := hid (fun i hi => by have := HDl0.out i hi; omega)
  have HA := hid hA2
  have HC := hid hc2
  have HBY := hid hby2
  clear hA2 hc2 hby2
  refine wp_region_state (Chg (· = B)) (CpW B w2 c tag) (specAtR (cpSpecs A B w2.heap.size cap hAB.2 c tag ta)) [3, 4, 5, 6, 7, 8] [1, 2] (by kernel_rfl) (by kernel_rfl) ⟨(Chg.refl _ _).drew, (fun h => by cases h), (fun _ => hB2)⟩ (fun t v w w' hc h => specAtR_st _ t v w w' hc h) (by rfl) (by kernel_rfl) ?start ?obs ?fin
  case start =>
    simp only [List.forall_mem_cons]; exact ⟨⟨_, rfl, rfl⟩, ⟨_, rfl, rfl⟩, fun _ h => by cases h⟩
  case obs =>
    clear HC hB2
    refine ObsL.cons none (by kernel_rfl) ?_ ?_
    · refine ObL.plain fun L a w hi he hW hk K k => ?_
      obtain ⟨_, e1, rfl⟩ := hk 1 (by decide)
      clear hk
      clear hi he
      go_simp
      exact k _ _ (Chg.refl _ _) (hW.step (by decide)) rfl
    refine ObsL.cons none (by kernel_rfl) ?_ ?_
    · refine ObL.plain fun L a w hi he hW hk K k => ?_
      obtain ⟨_, e3, rfl⟩ := hk 3 (by decide)
      clear hk
      obtain ⟨⟨y0, y1, y2, y3, y4, y5, y6, y7, y8⟩, y9⟩ := cred_at_sign (blk_keep HA.out hW.1 (show ¬ A = B by omega))
      simp only [Nat.zero_add] at y0 y1 y2 y3 y4 y5 y6 y7 y8
      clear hi he
      go_simp
      exact k _ _ (Chg.refl _ _) (hW.step (by decide)) rfl
    refine ObsL.cons none (by kernel_rfl) ?_ ?_
    · refine ObL.plain fun L a w hi he hW hk K k => ?_
      obtain ⟨_, e1, rfl⟩ := hk 1 (by decide)
      clear hk
      clear hi he
      go_simp
      exact k _ _ (Chg.refl _ _) (hW.step (by decide)) rfl
    refine ObsL.cons none (by kernel_rfl) ?_ ?_
    · refine ObL.plain fun L a w hi he hW hk K k => ?_
      obtain ⟨_, e5, rfl⟩ := hk 5 (by decide)
      clear hk
      obtain ⟨⟨y0, y1, y2, y3, y4, y5, y6, y7, y8⟩, y9⟩ := cred_at_sign (blk_keep HA.out hW.1 (show ¬ A = B by omega))
      simp only [Nat.zero_add] at y0 y1 y2 y3 y4 y5 y6 y7 y8
      clear hi he
      go_simp
      exact k _ _ (Chg.refl _ _) (hW.step (by decide)) rfl
    refine ObsL.cons none (by kernel_rfl) ?_ ?_
    · refine ObL.plain fun L a w hi he hW hk K k => ?_
      obtain ⟨_, e6, rfl⟩ := hk 6 (by decide)
      clear hk
      have hsz := hW.1.size
      have hby1 : BytesAt (fun _ => True) w (.slice ta tag.length cap) tag := (HBY.out.keep hW.1 (fun i hi e => by have h1 := HDl.out i hi; have h2 : i = B := e; omega)).mono (fun _ _ => trivial)
      have hcl := clone_any HL.out hby1
      unfold Cloned at hcl
      clear hi he hby1
      go_simp
      refine hcl.mono ?_
      rintro e w5 ⟨ba, bc, rfl, hbt, hcc⟩
      exact k _ _ (hcc.mono (fun _ _ h => h.elim)) ((hW.keep hAB.2 hcc).step (by decide)) ⟨ba, bc, rfl, rfl, hbt.mono (fun i hi => ⟨Nat.le_trans hsz hi.1, hi.2⟩)⟩
    refine ObsL.cons none (by kernel_rfl) ?_ ?_
    · refine ObL.plain fun L a w hi he hW hk K k => ?_
      obtain ⟨_, e4, rfl⟩ := hk 4 (by decide)
      obtain ⟨_, e7, f7⟩ := hk 7 (by decide)
      clear hk
      clear hi he
      obtain ⟨qa, cp, rfl, _, hbt⟩ := f7
      have HB := hid hbt
      clear hbt
      unfold credV credBox at e4
      go_simp
      exact k _ _ (Chg.refl _ _) (hW.step (by decide)) ⟨qa, cp, rfl, HB.out⟩
    refine ObsL.cons none (by kernel_rfl) ?_ ?_
    · refine ObL.plain fun L a w hi he hW hk K k => ?_
      obtain ⟨_, e2, rfl⟩ := hk 2 (by decide)
      obtain ⟨_, e8, f8⟩ := hk 8 (by decide)
      clear hk
      obtain ⟨qa, cp, rfl, hbt⟩ := f8
      have hz := hW.2.2 hi
      have hset := setSign_blk c (.slice qa tag.length cp) hz
      have hcs := setSign_chg w B c (.slice qa tag.length cp)
      have hW2 : CpW B w2 c tag (upd L 6) (setSign w B c (.slice qa tag.length cp)) := ⟨hW.1.trans hcs (fun _ _ h => h), fun _ => ⟨qa, cp, hset, (hbt.keep hcs (fun i hi e => by have := hi.1; have : i = B := e; omega)).mono (fun i hi => ⟨hi.1, Nat.lt_of_lt_of_le hi.2 hcs.size⟩)⟩, fun h => by cases h⟩
      have HB := hid (And.intro hW2 hcs)
      obtain ⟨hq, y9⟩ := cred_at_sign hz
      obtain ⟨y0, y1, y2, y3, y4, y5, y6, y7, y8⟩ := hq
      simp only [Nat.zero_add, noCred, noneR] at y0 y1 y2 y3 y4 y5 y6 y7 y8
      have g0 := froz_blk hz 0
      have g1 := froz_blk hz 1
      have g2 := froz_blk hz 2
      have g3 := froz_blk hz 3
      have g4 := froz_blk hz 4
      have g5 := froz_blk hz 5
      have g6 := froz_blk hz 6
      have g7 := froz_blk hz 7
      have g8 := froz_blk hz 8
      have g9 := froz_blk hz 9
      clear hi he hz hset hcs hW2 hbt hW
      unfold signV signBox at e8
      go_simp
      exact k undef _ HB.out.2 HB.out.1 trivial
    exact ObsL.nil
  case fin =>
    intro L vals w9 hL hWL hv
    obtain ⟨hc9, hy, _⟩ := hWL
    obtain ⟨qa, cp, hb9, hbt⟩ := hy (hL 6 (by decide))
    have hch : Chg (fun _ => False) w w9 := HC.out.trans hc9 (fun i hi e => by have := HBe.out; have := HAe.out; have : i = B := e; omega)
    have hsz := HC.out.size
    have HX := hid (And.intro hb9 (And.intro hch (And.intro hbt hsz)))
    clear hB2 hL hv hc9 hy hb9 hbt hch hsz HC HA
    simp only [putAll, List.setIfInBounds_toArray, List.set_cons_zero, List.set_cons_succ]
    go_wp2
    refine bodyPost_ret (results_cell_row (P := Try.prog) rfl _ _ B 35 _ (0, 0) _ rfl HX.out.1 Try.underlying35 rfl (by kernel_rfl)) rfl ?_
    exact ⟨qa, cp, rfl, HX.out.2.2.1.mono (fun i hi => ⟨Nat.le_trans HX.out.2.2.2 hi.1, hi.2⟩), HX.out.2.1⟩
end Go.Proofs.Ytfpaoaflhbppgaa

/- A region that draws its order, whose last operation writes and leans on all that read: what is so amid it. -/
namespace Go.Proofs.Ytfpaoaflhbppgaa
open Go.RowKit

/-- Till operation n has come up nothing that was there is turned, and it comes behind the first m; then F is so. -/
structure LastW (n m : Nat) (w0 : World) (F : World → Prop) (L : Nat → Bool) (w : World) : Prop where
  all : L n = true → ∀ j, j < m → L j = true
  pre : L n = false → Chg (fun _ => False) w0 w
  post : L n = true → F w

theorem LastW.start (n m : Nat) (w0 : World) (F : World → Prop) {w : World} (h : Chg (fun _ => False) w0 w) : LastW n m w0 F (fun _ => false) w := ⟨fun h => (by cases h), fun _ => h, fun h => (by cases h)⟩

theorem LastW.not {n m : Nat} {w0 : World} {F : World → Prop} {L : Nat → Bool} {w : World} (h : LastW n m w0 F L w) {j : Nat} (hj : j < m) (hl : L j = false) : L n = false := by
  cases hn : L n with
  | false => rfl
  | true => rw [h.all hn j hj] at hl; cases hl

theorem LastW.early {n m : Nat} {w0 : World} {F : World → Prop} {L : Nat → Bool} {w : World} (h : LastW n m w0 F L w) {j : Nat} (hj : j < m) (hl : L j = false) : Chg (fun _ => False) w0 w := h.pre (h.not hj hl)

theorem LastW.step {n m : Nat} {w0 : World} {F : World → Prop} {L : Nat → Bool} {w w' : World} (h : LastW n m w0 F L w) {j : Nat} (hj : j < m ∧ j ≠ n) (hl : L j = false) (hc : Chg (fun _ => False) w w') : LastW n m w0 F (upd L j) w' := by
  have hn := h.not hj.1 hl
  have e : upd L j n = false := by unfold upd; rw [if_neg (fun e => hj.2 e.symm)]; exact hn
  exact ⟨fun h' => (by rw [e] at h'; cases h'), fun _ => (h.pre hn).trans hc (fun _ _ h => h), fun h' => (by rw [e] at h'; cases h')⟩

theorem LastW.stay {n m : Nat} {w0 : World} {F : World → Prop} {L : Nat → Bool} {w : World} (h : LastW n m w0 F L w) {j : Nat} (hj : j ≠ n) : LastW n m w0 F (upd L j) w := by
  have e : upd L j n = L n := by unfold upd; rw [if_neg (fun e => hj e.symm)]
  refine ⟨fun h' i hi => ?_, fun h' => h.pre (by rw [← e]; exact h'), fun h' => h.post (by rw [← e]; exact h')⟩
  unfold upd
  split
  · rfl
  · exact h.all (by rw [← e]; exact h') i hi

theorem LastW.last {n m : Nat} {w0 : World} {F : World → Prop} {L : Nat → Bool} {w w' : World} (_ : LastW n m w0 F L w) (hall : ∀ j, j < m → L j = true) (hf : F w') : LastW n m w0 F (upd L n) w' := by
  have e : upd L n n = true := by unfold upd; rw [if_pos rfl]
  refine ⟨fun _ i hi => ?_, fun h' => (by rw [e] at h'; cases h'), fun _ => hf⟩
  unfold upd
  split
  · rfl
  · exact hall i hi
end Go.Proofs.Ytfpaoaflhbppgaa

/- What a vault holds behind a new list: plain words and memory, for Add and Drop. -/
namespace Go.Proofs.Ytfpaoaflhbppgaa
open Go.RowKit

/-- The address of a slice's rest, from k on. -/
def lowA (ao : Option Addr) (cap k : Nat) : Option Addr := if cap = k then ao else Option.map (fun x => x.add (k * 10)) ao

theorem lowA_none {ao : Option Addr} {cap k : Nat} (h : ao = none → cap = 0) : lowA ao cap k = none → cap - k = 0 := by
  unfold lowA
  split
  · intro hn; have := h hn; omega
  · intro hn
    cases ao with
    | none => have := h rfl; omega
    | some a => cases hn

theorem EntsAt.take {D : Nat → Prop} {w : World} {ao : Option Addr} {ls : List EntB} (h : EntsAt D w ao ls) (k : Nat) : EntsAt D w ao (ls.take k) := fun i hi => by
  rw [List.length_take] at hi
  obtain ⟨b, off, h1, h2, h3⟩ := h i (by omega)
  exact ⟨b, off, h1, h2, fun j hj => by rw [List.getElem_take]; exact h3 j hj⟩

theorem EntsAt.low {D : Nat → Prop} {w : World} {ao : Option Addr} {ls : List EntB} (h : EntsAt D w ao ls) {cap : Nat} (hc : ls.length ≤ cap) (k : Nat) : EntsAt D w (lowA ao cap k) (ls.drop k) := fun i hi => by
  rw [List.length_drop] at hi
  obtain ⟨b, off, h1, h2, h3⟩ := h (k + i) (by omega)
  refine ⟨b, off + k * 10, ?_, h2, fun j hj => ?_⟩
  · unfold lowA
    rw [if_neg (by omega), h1]
    show some (Addr.add _ _) = _
    rw [add_off]
  · rw [List.getElem_drop, ← h3 j hj, show off + k * 10 + i * 10 + j = off + (k + i) * 10 + j by rw [Nat.add_mul]; omega]

/-- What is so when a new list has been laid into the vault. -/
def NewF (O : Nat → Prop) (g : Nat) (m : Int) (ss : List SignB) (w2 w' : World) : Prop :=
  ∃ qs ao cap, qs.map EntB.s = ss ∧ w'.heap[g]? = some (.cells #[.int .i64 m, .slice ao qs.length cap] 65 (0, 0)) ∧ HeldAt (fun i => (O i ∨ w2.heap.size ≤ i ∧ i < w'.heap.size) ∧ i ≠ g) w' ao cap qs ∧ Chg (· = g) w2 w'

theorem OwnE.cap_le {B : Nat} {w : World} {v : Value} {ls : List EntB} (h : OwnE B w v ls) : ∃ ao cap, v = .slice ao ls.length cap ∧ EntsAt (fun k => B ≤ k ∧ k < w.heap.size) w ao ls ∧ (ao = none → cap = 0) ∧ ls.length ≤ cap := by
  obtain ⟨ao, cap, hv, he, hz⟩ := h.ents
  refine ⟨ao, cap, hv, he, hz, ?_⟩
  rcases h.2 with ⟨h1, h0⟩ | ⟨g, cap', cur, h1, hg, hh, h2, h3, _⟩
  · omega
  · rw [hv] at h1
    cases h1
    exact h2

theorem ownE_low {B A : Nat} {w : World} {v : Value} {ls : List EntB} (h : OwnE B w v ls) (hA : A ≤ B) : OwnE A w v ls := by
  rcases h with ⟨h1, h2 | ⟨g, cap, cur, h3, h4, h5⟩⟩
  · exact ⟨h1, .inl h2⟩
  · exact ⟨h1, .inr ⟨g, cap, cur, h3, Nat.le_trans hA h4, h5⟩⟩

/-- A new list laid in: the entries ls, whose tags can be read there. -/
theorem new_done {O : Nat → Prop} {w2 w : World} {g : Nat} {m : Int} {a0 : Option Addr} {n0 c0 : Nat} {ls : List EntB} {v : Value}
    (hg : g < w2.heap.size) (hold : w2.heap[g]? = some (.cells #[.int .i64 m, .slice a0 n0 c0] 65 (0, 0))) (hR : Chg (fun _ => False) w2 w) (hv : OwnE w2.heap.size w v ls) (hok : HeldOk (ls.map EntB.s)) (hl : ls.length ≤ 256)
    (ht : ∀ t ∈ ls, BytesAt (fun i => (O i ∨ w2.heap.size ≤ i ∧ i < w.heap.size) ∧ i ≠ g) w (.slice t.ta t.tag.length t.cap) t.tag) :
    ∃ ao cap, v = .slice ao ls.length cap ∧ NewF O g m (ls.map EntB.s) w2 (w.setCell ⟨g, 1, none⟩ (.slice ao ls.length cap)) := by
  obtain ⟨ao, cap, rfl, he, hz, hle⟩ := hv.cap_le
  refine ⟨ao, cap, rfl, ls, ao, cap, rfl, ?_, ?_, ?_⟩
  · exact set_blk (blk_keep hold hR id) 1 (.slice ao ls.length cap)
  · have hc := setCell_chg w g 1 (.slice ao ls.length cap)
    have hsz := hc.size
    refine ⟨(he.keep hc (fun i hi e => by have := hi.1; have : i = g := e; omega)).mono (fun i hi => ⟨.inr ⟨hi.1, by omega⟩, by have := hi.1; omega⟩), fun t htm => ⟨hok.1 _ (List.mem_map_of_mem htm), ((ht t htm).keep hc (fun i hi e => hi.2 e)).mono (fun i hi => ⟨hi.1.imp id (fun h => ⟨h.1, by omega⟩), hi.2⟩)⟩, hok, hle, hz, hl⟩
  · exact (hR.mono (fun _ _ h => h.elim)).trans (setCell_chg w g 1 _) (fun _ _ h => h)

def SpecR.oneE (g lo : Nat) (hg : g < lo) (s : EntB) : SpecR (Chg (· = g)) :=
  ⟨fun v w => ∃ (x : EntB) (b : Nat), x.s = s.s ∧ v = .slice (some ⟨b, 0, none⟩) 1 1 ∧ lo ≤ b ∧ w.heap[b]? = some (.cells (signBox x.c (.slice x.ta x.tag.length x.cap)) 35 (0, 0)) ∧ BytesAt (fun k => lo ≤ k ∧ k < w.heap.size) w (.slice x.ta x.tag.length x.cap) x.tag,
   fun _ _ _ hc ⟨x, b, h1, h2, h3, h4, h5⟩ => ⟨x, b, h1, h2, h3, blk_keep h4 hc (fun e => by have : b = g := e; omega), (h5.keep hc (fun i hi e => by have := hi.1; have : i = g := e; omega)).mono (fun i hi => ⟨hi.1, Nat.lt_of_lt_of_le hi.2 hc.size⟩)⟩⟩

def SpecR.partsE (g lo : Nat) (hg : g < lo) (s : EntB) (n : Nat) (J : EntB → List EntB) : SpecR (Chg (· = g)) :=
  ⟨fun v w => ∃ (x : EntB) (gb : Nat) (ps : List PartE), x.s = s.s ∧ v = .slice (some ⟨gb, 0, none⟩) n n ∧ ps.length = n ∧ joinE ps = J x ∧ lo ≤ gb ∧ PartsE (fun i => i ≠ g) w gb ps ∧ BytesAt (fun k => lo ≤ k ∧ k < w.heap.size) w (.slice x.ta x.tag.length x.cap) x.tag,
   fun _ _ _ hc ⟨x, gb, ps, h1, h2, h3, h4, h5, h6, h7⟩ => ⟨x, gb, ps, h1, h2, h3, h4, h5, h6.keep hc (fun e => by have : gb = g := e; omega) (fun i hi e => hi e), (h7.keep hc (fun i hi e => by have := hi.1; have : i = g := e; omega)).mono (fun i hi => ⟨hi.1, Nat.lt_of_lt_of_le hi.2 hc.size⟩)⟩⟩

def SpecR.joinedE (g lo : Nat) (hg : g < lo) (s : EntB) (J : EntB → List EntB) : SpecR (Chg (· = g)) :=
  ⟨fun v w => ∃ (x : EntB), x.s = s.s ∧ OwnE lo w v (J x) ∧ BytesAt (fun k => lo ≤ k ∧ k < w.heap.size) w (.slice x.ta x.tag.length x.cap) x.tag,
   fun v _ _ hc ⟨x, h1, h2, h3⟩ => ⟨x, h1, h2.keep hc (fun k hk e => by
      have : k = g := e
      rcases h2.2 with ⟨hx', _⟩ | ⟨g', cap', cur, hx', hg', _⟩
      · rw [hx'] at hk; cases hk
      · have hk2 : g' = k := by rw [hx'] at hk; simpa [Value.ownBlock] using hk
        omega), (h3.keep hc (fun i hi e => by have := hi.1; have : i = g := e; omega)).mono (fun i hi => ⟨hi.1, Nat.lt_of_lt_of_le hi.2 hc.size⟩)⟩⟩

/-- The three lists of Add. -/
theorem parts_three {g n cap kk bx : Nat} {ao : Option Addr} {qs : List EntB} {x : EntB} {w w' : World} {O : Nat → Prop} (hn : qs.length = n) (hk : kk ≤ n) (hc : n ≤ cap) (hz : ao = none → cap = 0) (h : EntsAt (fun i => O i ∧ i ≠ g) w ao qs)
    (hb : w.heap[bx]? = some (.cells (signBox x.c (.slice x.ta x.tag.length x.cap)) 35 (0, 0))) (hbg : bx ≠ g) (hal : Chg (fun _ => False) w w') {gb : Nat} {T : TypeId} {f : Nat × Nat}
    (hgb : w'.heap[gb]? = some (.cells #[.slice ao kk cap, .slice (some ⟨bx, 0, none⟩) 1 1, .slice (lowA ao cap kk) (n - kk) (cap - kk)] T f)) :
    PartsE (fun i => i ≠ g) w' gb [⟨ao, cap, qs.take kk⟩, ⟨some ⟨bx, 0, none⟩, 1, [x]⟩, ⟨lowA ao cap kk, cap - kk, qs.drop kk⟩] := fun i hi => by
  have h' := h.keep hal (fun _ _ => id)
  match i, hi with
  | 0, _ =>
    refine ⟨?_, (h'.take kk).mono (fun _ h => h.2), hz⟩
    rw [cell_blk hgb]
    show some (Value.slice ao kk cap) = some (.slice ao (qs.take kk).length cap)
    rw [List.length_take, Nat.min_eq_left (by omega)]
  | 1, _ =>
    refine ⟨by rw [cell_blk hgb]; rfl, fun j hj => ?_, fun e => by cases e⟩
    have hj0 : j = 0 := by simpa using hj
    subst hj0
    refine ⟨bx, 0, rfl, hbg, fun t ht => ?_⟩
    have hb' := blk_keep hb hal id
    rw [signBox_ent] at hb'
    rw [Nat.zero_mul, Nat.add_zero, Nat.zero_add, cell_blk hb', List.getElem?_toArray]
    rfl
  | 2, _ =>
    refine ⟨?_, (h'.low (by omega) kk).mono (fun _ h => h.2), lowA_none hz⟩
    rw [cell_blk hgb]
    show some (Value.slice (lowA ao cap kk) (n - kk) (cap - kk)) = some (.slice (lowA ao cap kk) (qs.drop kk).length (cap - kk))
    rw [List.length_drop, hn]

/-- The two lists of Drop. -/
theorem parts_two {g n cap kk : Nat} {ao : Option Addr} {qs : List EntB} {w w' : World} {O : Nat → Prop} (hn : qs.length = n) (hk : kk + 1 ≤ n) (hc : n ≤ cap) (hz : ao = none → cap = 0) (h : EntsAt (fun i => O i ∧ i ≠ g) w ao qs)
    (hal : Chg (fun _ => False) w w') {gb : Nat} {T : TypeId} {f : Nat × Nat}
    (hgb : w'.heap[gb]? = some (.cells #[.slice ao kk cap, .slice (lowA ao cap (kk + 1)) (n - (kk + 1)) (cap - (kk + 1))] T f)) :
    PartsE (fun i => i ≠ g) w' gb [⟨ao, cap, qs.take kk⟩, ⟨lowA ao cap (kk + 1), cap - (kk + 1), qs.drop (kk + 1)⟩] := fun i hi => by
  have h' := h.keep hal (fun _ _ => id)
  match i, hi with
  | 0, _ =>
    refine ⟨?_, (h'.take kk).mono (fun _ h => h.2), hz⟩
    rw [cell_blk hgb]
    show some (Value.slice ao kk cap) = some (.slice ao (qs.take kk).length cap)
    rw [List.length_take, Nat.min_eq_left (by omega)]
  | 1, _ =>
    refine ⟨?_, (h'.low (by omega) (kk + 1)).mono (fun _ h => h.2), lowA_none hz⟩
    rw [cell_blk hgb]
    show some (Value.slice (lowA ao cap (kk + 1)) (n - (kk + 1)) (cap - (kk + 1))) = some (.slice (lowA ao cap (kk + 1)) (qs.drop (kk + 1)).length (cap - (kk + 1)))
    rw [List.length_drop, hn]
end Go.Proofs.Ytfpaoaflhbppgaa
