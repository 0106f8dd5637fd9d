/- The contract of the document's Tight, of layer 9. -/
import Derived.Test.YtmmkopdcbiiedaaKb14
import Derived.Test.YtmmkopdcbiiedaaKb16
namespace Go.Proofs.Ytmmkopdcbiiedaa
open Go.RowKit

theorem run_eqg_factl (x y : Operand) (a b : FactB) (w : World) : Sem.run Try.prog (eqGuard BinOp.eql 27 x y (.agg #[.string ⟨a.1.1.toArray⟩, .string ⟨a.1.2.toArray⟩, .string ⟨a.2.toArray⟩]) (.agg #[.string ⟨b.1.1.toArray⟩, .string ⟨b.1.2.toArray⟩, .string ⟨b.2.toArray⟩])) w = .ok () w := by
  go_simp
theorem run_eql_factl (a b : FactB) (w : World) : Sem.run Try.prog (binOp BinOp.eql 27 (.agg #[.string ⟨a.1.1.toArray⟩, .string ⟨a.1.2.toArray⟩, .string ⟨a.2.toArray⟩]) (.agg #[.string ⟨b.1.1.toArray⟩, .string ⟨b.1.2.toArray⟩, .string ⟨b.2.toArray⟩])) w = .ok (.bool (decide (a = b))) w := by
  have : decide (a = b) = decide (a.1.1 = b.1.1 ∧ a.1.2 = b.1.2 ∧ a.2 = b.2) := by simp only [Prod.ext_iff, and_assoc]
  rw [this]
  go_simp
  by_cases h1 : a.1.1 = b.1.1 <;> by_cases h2 : a.1.2 = b.1.2 <;> by_cases h3 : a.2 = b.2 <;> simp [h1, h2, h3]
attribute [local go_sem ↓ high] run_eqg_factl run_eql_factl

open Classical in
/-- Is each step needed? -/
noncomputable def tightK (ls : List StepB) : Bool := decide ((∀ i j (hi : i < ls.length) (hj : j < ls.length), j < i → ls[i].f ≠ ls[j].f) ∧ standsK ls = true ∧ ∀ i, i + 1 < ls.length → standsK (ls.take i ++ ls.drop (i + 1)) = false)

open Classical in
theorem tightK_no {ls : List StepB} (h : ¬ ((∀ i j (hi : i < ls.length) (hj : j < ls.length), j < i → ls[i].f ≠ ls[j].f) ∧ standsK ls = true ∧ ∀ i, i + 1 < ls.length → standsK (ls.take i ++ ls.drop (i + 1)) = false)) : tightK ls = false := decide_eq_false h
open Classical in
theorem tightK_yes {ls : List StepB} (h : (∀ i j (hi : i < ls.length) (hj : j < ls.length), j < i → ls[i].f ≠ ls[j].f) ∧ standsK ls = true ∧ ∀ i, i + 1 < ls.length → standsK (ls.take i ++ ls.drop (i + 1)) = false) : tightK ls = true := decide_eq_true h

/-- What may change amid the joining. -/
def AppSt (B n : Nat) (full : List StepB) (w w' : World) : Prop := Chg (fun i => B ≤ i) w w' ∧ RowsSt B n full w w'
theorem AppSt.refl (B n : Nat) (full : List StepB) (w : World) : AppSt B n full w w := ⟨Chg.refl _ _, RowsSt.refl _ _ _ _⟩
theorem AppSt.trans {B n : Nat} {full : List StepB} {a b c : World} (h : AppSt B n full a b) (k : AppSt B n full b c) : AppSt B n full a c := ⟨h.1.trans k.1 (fun _ _ h => h), h.2.trans k.2⟩
theorem AppSt.of_chg {B n : Nat} {full : List StepB} {a b : World} (h : Chg (fun _ => False) a b) : AppSt B n full a b := ⟨h.mono (fun _ _ h => h.elim), RowsSt.of_chg h⟩

def SpecR.ownK (B n : Nat) (full zs : List StepB) (h : zs.length ≤ n ∨ zs = full) : SpecR (AppSt B n full) :=
  ⟨fun v w => OwnSt B w v zs ∧ (zs.length = 0 → capOfK v = 0), fun v _ _ hc ⟨h1, h2⟩ => ⟨hc.2 v zs h h1, h2⟩⟩

theorem own_zeroK {w : World} {B : Nat} (hB : B ≤ w.heap.size) : OwnSt B (w.alloc (.cells #[] 34)) (.slice (some ⟨w.heap.size, 0, none⟩) 0 0) [] :=
  ⟨rfl, .inr ⟨w.heap.size, 0, #[], rfl, hB, heap_alloc_new w _, Nat.le_refl _, by unfold maxLen; omega, rfl, rfl⟩⟩

/-- An append whose run is known. -/
theorem ob_appendK {o : Oper} {a : Act} {w : World} {K : Act → World → Prop} {Q : Exit → Act → World → Prop} {s x : Tmp} {v y : Value} (tt : TypeId)
    (ho : o.op = .call { callee := .builtin .append, args := #[.tmp s, .tmp x], argTypes := #[tt, tt] }) (hs : a.tmps[s]? = some v) (hx : a.tmps[x]? = some y) {v' : Value} {w' : World}
    (hr : (Builtin.append_ #[tt, tt] o.type #[v, y]).run Try.prog w = .ok v' w') (hK : K (a.put o.dst v') w') : o.wp Try.prog a w K Q := by
  have h1 : a.eval (.tmp s) = v := by simp [Act.eval, hs]
  have h2 : a.eval (.tmp x) = y := by simp [Act.eval, hx]
  unfold Oper.wp execOp
  simp only [ho, resolve, invoke, builtin, Sem.run_bind, Sem.run_pure, Result.andThen_ok, List.map_toArray, List.map_cons, List.map_nil, h1, h2, hr]
  exact hK

def tkSpecs15 (B b off cp k : Nat) (ls : List StepB) : List (SpecR (AppSt B k (ls.take k ++ ls.drop (k + 1)))) := [.eq (.slice (some ⟨b, off, none⟩) ls.length cp), .any, .any, .any, .any, .eq (.int .i64 k), .ownK B k (ls.take k ++ ls.drop (k + 1)) (ls.take k ++ ls.drop (k + 1)) (.inr rfl), .any, .any, .any, .any, .any, .any, .any, .any, .any, .any, .any, .any, .any, .any, .any, .any, .any, .any, .any, .any, .any, .any, .any, .any, .any, .any, .any, .any, .any, .any, .any, .any, .ownK B k (ls.take k ++ ls.drop (k + 1)) [] (.inl (Nat.zero_le _)), .eq (.slice (some ⟨b, off, none⟩) ls.length cp), .eq (.int .i64 k), .eq (.slice (some ⟨b, off, none⟩) k cp), .ownK B k (ls.take k ++ ls.drop (k + 1)) (ls.take k) (.inl (by rw [List.length_take]; omega)), .eq (.slice (some ⟨b, off, none⟩) ls.length cp), .eq (.int .i64 k), .eq (.int .i64 (k + 1 : Nat)), .eq (.slice (some ⟨b, off + (k + 1) * 12, none⟩) (ls.length - (k + 1)) (cp - (k + 1))), .ownK B k (ls.take k ++ ls.drop (k + 1)) (ls.take k ++ ls.drop (k + 1)) (.inr rfl), .any, .any]

set_option maxRecDepth 100000 in
set_option maxHeartbeats 8000000 in
theorem rktight {D : Nat → Prop} (ao : Option Addr) (cp : Nat) (ls : List StepB) (w : World) (hn : ls.length ≤ 1048576) (hcp : ls.length ≤ cp) (hcp2 : cp ≤ 9223372036854775807) (h : StepsAt D w ao ls) (hD : ∀ i, D i → i < w.heap.size) :
    Calls Try.prog 16 #[.slice ao ls.length cp] w fun e w' => e = .returned (.bool (tightK ls)) ∧ Chg (fun _ => False) w w' := by
  have HX := hid h
  have HD := hid hD
  have HSH := hid (steps_short h)
  clear h hD
  go_enter Try.func16, Try.ntmps16
  go_wp2
  go_loopw [9] (fun i wr => ∃ k : Nat, k ≤ ls.length ∧ i = .int .i64 k ∧ Hid (∀ i j (hi : i < ls.length) (hj : j < ls.length), i < k → j < i → ls[i].f ≠ ls[j].f) ∧ Hid (Chg (fun _ => False) w wr)) (fun i _ => ls.length - (intOf i).toNat)
  case atStart => exact ⟨0, Nat.zero_le _, rfl, hid (fun i j _ _ h => absurd h (by omega)), hid (Chg.refl _ _)⟩
  case round =>
    obtain ⟨k, hk, rfl, hup, hc⟩ := hrel
    by_cases hlt : k < ls.length
    · go_wp2
      go_loopw [4] (fun i wr => ∃ j : Nat, j ≤ k ∧ i = .int .i64 j ∧ Hid (∀ j' (hj : j' < ls.length), j' < j → ls[k].f ≠ ls[j'].f) ∧ Hid (Chg (fun _ => False) w wr)) (fun i _ => ls.length - (intOf i).toNat)
      case atStart => exact ⟨0, Nat.zero_le _, rfl, hid (fun j _ h => absurd h (by omega)), hc⟩
      case round =>
        obtain ⟨j, hj, rfl, hjp, hc2⟩ := hrel
        by_cases hjl : j < k
        · obtain ⟨b, off, hao, _, ⟨_, hfk⟩, _⟩ := (HX.out.keep hc2.out (fun _ _ => id)) k hlt
          obtain ⟨b', off', hao', _, ⟨_, hfj⟩, _⟩ := (HX.out.keep hc2.out (fun _ _ => id)) j (by omega)
          rw [hao] at hao'
          injection hao' with hao'
          injection hao' with e1 e2 _
          subst e1 e2
          have HNX : Hid ((ls[k].f ≠ ls[j].f → ∀ j' (hj : j' < ls.length), j' < j + 1 → ls[k].f ≠ ls[j'].f) ∧ (ls[k].f = ls[j].f → tightK ls = false)) := hid ⟨fun hne j' hj' hjj => by
            by_cases e : j' = j
            · subst e; exact hne
            · exact hjp.out j' hj' (by omega), fun he => tightK_no (fun hall => hall.1 k j hlt (by omega) hjl he)⟩
          have HKL : Hid (k < ls.length ∧ j < k) := hid ⟨hlt, hjl⟩
          generalize ls[k].f = fk at *
          generalize ls[j].f = fj at *
          have HFK := hid (And.intro hfk hfj)
          clear hfk hfj
          subst hao
          go_wp2_with fail
          refine wp_region_specs ([.eq (.slice (some ⟨b, off, none⟩) ls.length cp), .any, .any, .eq (.int .i64 k), .eq (.int .i64 j), .any, .any, .any, .any, .any, .any, .any, .any, .any, .any, .any, .any, .eq (.slice (some ⟨b, off, none⟩) ls.length cp), .eq (.int .i64 k), .eq (.pointer (some ⟨b, off + k * 12, none⟩)), .eq (.pointer (some ⟨b, off + k * 12 + 9, none⟩)), .eq (.agg #[.string ⟨fk.1.1.toArray⟩, .string ⟨fk.1.2.toArray⟩, .string ⟨fk.2.toArray⟩]), .eq (.slice (some ⟨b, off, none⟩) ls.length cp), .eq (.int .i64 j), .eq (.pointer (some ⟨b, off + j * 12, none⟩)), .eq (.pointer (some ⟨b, off + j * 12 + 9, none⟩)), .eq (.agg #[.string ⟨fj.1.1.toArray⟩, .string ⟨fj.1.2.toArray⟩, .string ⟨fj.2.toArray⟩]), .eq (.bool (decide (fk = fj))), .any, .any, .any, .any, .any, .any, .any, .any, .any, .any, .any, .any, .any, .any, .any, .any, .any, .any, .any, .any, .any, .any, .any] : List Spec) [17, 18, 19, 20, 21, 22, 23, 24, 25, 26, 27] [0, 3, 4] (by kernel_rfl) (by kernel_rfl) (by rfl) (by kernel_rfl) ?start ?obs ?fin
          case start =>
            simp only [List.forall_mem_cons]; exact ⟨⟨_, rfl, rfl⟩, ⟨_, rfl, rfl⟩, ⟨_, rfl, rfl⟩, fun _ h => by cases h⟩
          case obs =>
            refine Obs.cons none (by kernel_rfl) ?_ ?_
            · refine Ob.plain fun a w hR hk K k9 => ?_
              obtain ⟨_, e0, f0⟩ := hk 0 (by decide)
              clear hk
              go_simp
              exact k9 _ _ (Chg.refl _ _) f0
            refine Obs.cons none (by kernel_rfl) ?_ ?_
            · refine Ob.plain fun a w hR hk K k9 => ?_
              obtain ⟨_, e3, f3⟩ := hk 3 (by decide)
              clear hk
              go_simp
              exact k9 _ _ (Chg.refl _ _) f3
            refine Obs.cons none (by kernel_rfl) ?_ ?_
            · refine Ob.plain fun a w hR hk K k9 => ?_
              obtain ⟨_, e17, rfl⟩ := hk 17 (by decide)
              obtain ⟨_, e18, rfl⟩ := hk 18 (by decide)
              clear hk
              have hk3 : k < ls.length := HKL.out.1
              skip
              go_simp
              exact k9 _ _ (Chg.refl _ _) rfl
            refine Obs.cons none (by kernel_rfl) ?_ ?_
            · refine Ob.plain fun a w hR hk K k9 => ?_
              obtain ⟨_, e19, rfl⟩ := hk 19 (by decide)
              clear hk
              go_simp
              exact k9 _ _ (Chg.refl _ _) rfl
            refine Obs.cons none (by kernel_rfl) ?_ ?_
            · refine Ob.plain fun a w hR hk K k9 => ?_
              obtain ⟨_, e20, rfl⟩ := hk 20 (by decide)
              clear hk
              obtain ⟨y0, y1, y2⟩ := (HFK.out.1).keep hR id
              change w.cell? ⟨b, off + k * 12 + 10, none⟩ = _ at y1
              change w.cell? ⟨b, off + k * 12 + 11, none⟩ = _ at y2
              go_simp
              exact k9 _ _ (Chg.refl _ _) rfl
            refine Obs.cons none (by kernel_rfl) ?_ ?_
            · refine Ob.plain fun a w hR hk K k9 => ?_
              obtain ⟨_, e0, f0⟩ := hk 0 (by decide)
              clear hk
              go_simp
              exact k9 _ _ (Chg.refl _ _) f0
            refine Obs.cons none (by kernel_rfl) ?_ ?_
            · refine Ob.plain fun a w hR hk K k9 => ?_
              obtain ⟨_, e4, f4⟩ := hk 4 (by decide)
              clear hk
              go_simp
              exact k9 _ _ (Chg.refl _ _) f4
            refine Obs.cons none (by kernel_rfl) ?_ ?_
            · refine Ob.plain fun a w hR hk K k9 => ?_
              obtain ⟨_, e22, rfl⟩ := hk 22 (by decide)
              obtain ⟨_, e23, rfl⟩ := hk 23 (by decide)
              clear hk
              have hk3 : j < ls.length := Nat.lt_trans HKL.out.2 HKL.out.1
              go_simp
              exact k9 _ _ (Chg.refl _ _) rfl
            refine Obs.cons none (by kernel_rfl) ?_ ?_
            · refine Ob.plain fun a w hR hk K k9 => ?_
              obtain ⟨_, e24, rfl⟩ := hk 24 (by decide)
              clear hk
              go_simp
              exact k9 _ _ (Chg.refl _ _) rfl
            refine Obs.cons none (by kernel_rfl) ?_ ?_
            · refine Ob.plain fun a w hR hk K k9 => ?_
              obtain ⟨_, e25, rfl⟩ := hk 25 (by decide)
              clear hk
              obtain ⟨y0, y1, y2⟩ := (HFK.out.2).keep hR id
              change w.cell? ⟨b, off + j * 12 + 10, none⟩ = _ at y1
              change w.cell? ⟨b, off + j * 12 + 11, none⟩ = _ at y2
              go_simp
              exact k9 _ _ (Chg.refl _ _) rfl
            refine Obs.cons none (by kernel_rfl) ?_ ?_
            · refine Ob.plain fun a w hR hk K k9 => ?_
              obtain ⟨_, e21, rfl⟩ := hk 21 (by decide)
              obtain ⟨_, e26, rfl⟩ := hk 26 (by decide)
              clear hk
              go_simp
              exact k9 _ _ (Chg.refl _ _) rfl
            exact Obs.nil
          case fin =>
            intro vals w9 hc9 hv
            have h27 : vals 27 = .bool (decide (fk = fj)) := hv 27 (by decide)
            have HC9 := hid (hc2.out.trans hc9 (fun _ _ h => h))
            simp only [putAll, List.setIfInBounds_toArray, List.set_cons_zero, List.set_cons_succ, h27]
            clear hv h27 hc9 hc2 hjp
            have HQ : Hid ((decide (fk = fj) = true → tightK ls = false) ∧ (decide (fk = fj) = false → ∀ j' (hj : j' < ls.length), j' < j + 1 → fk ≠ ls[j'].f)) := hid ⟨fun h => HNX.out.2 (of_decide_eq_true h), fun h => HNX.out.1 (of_decide_eq_false h)⟩
            clear HNX
            generalize decide (fk = fj) = qq at *
            cases qq with
            | true =>
              have HRES := hid (HQ.out.1 rfl)
              go_wp2
              go_ret
              exact ⟨by rw [HRES.out]; rfl, HC9.out⟩
            | false =>
              have HUP := hid (HQ.out.2 rfl)
              go_wp2
              go_roundw
              case rel => exact ⟨j + 1, by have := HKL.out.2; omega, by go_num, HUP, HC9⟩
              case measure => have := HKL.out; simp [intOf]; omega
        · have HUP : Hid (∀ i j (hi : i < ls.length) (hj : j < ls.length), i < k + 1 → j < i → ls[i].f ≠ ls[j].f) := hid (fun i j' hi hj' h1 h2 => by
            by_cases e : i = k
            · subst e; exact hjp.out j' hj' (by omega)
            · exact hup.out i j' hi hj' (by omega) h2)
          have HKL := hid hlt
          clear hup hjp hc
          go_wp2
          go_roundw
          case rel => exact ⟨k + 1, by have := HKL.out; omega, by go_num, HUP, hc2⟩
          case measure => have := HKL.out; simp [intOf]; omega
    · have HUN : Hid (∀ i j (hi : i < ls.length) (hj : j < ls.length), j < i → ls[i].f ≠ ls[j].f) := hid (fun i j hi hj hji => hup.out i j hi hj (by omega) hji)
      have HSTD := hid (rkstands ao cp ls wr hn hcp hcp2 (HX.out.keep hc.out (fun _ _ => id)))
      clear hup
      go_wp2_with fail
      clear hlt hk
      refine HSTD.out.mono ?_
      rintro e w3 ⟨rfl, hc3⟩
      have HC3 := hid (hc.out.trans hc3 (fun _ _ h => h))
      clear HSTD hc3 hc
      cases hst : standsK ls with
      | false =>
        have HRES : Hid (tightK ls = false) := hid (tightK_no (fun hall => by rw [hall.2.1] at hst; cases hst))
        clear hst
        go_wp2
        go_ret
        exact ⟨by rw [HRES.out]; rfl, HC3.out⟩
      | true =>
        have HSTT := hid hst
        clear hst
        go_wp2
        go_loopw [5] (fun i wr => ∃ k : Nat, (k = 0 ∨ k < ls.length) ∧ i = .int .i64 k ∧ Hid (∀ i, i < k → i + 1 < ls.length → standsK (ls.take i ++ ls.drop (i + 1)) = false) ∧ Hid (Chg (fun _ => False) w wr)) (fun i _ => ls.length - (intOf i).toNat)
        case atStart => exact ⟨0, .inl rfl, rfl, hid (fun i h => absurd h (by omega)), HC3⟩
        case round =>
          rename World => w5
          obtain ⟨k, hk, rfl, hup, hc⟩ := hrel
          have e0 : IntKind.i64.wrap ((k : Int) + 1) = (k : Int) + 1 := by rw [IntKind.wrap_i64]; omega
          by_cases hlt : k + 1 < ls.length
          · have hkl : k < ls.length := by omega
            obtain ⟨b, off, hao, hDb, _, _⟩ := HX.out k hkl
            have HKL : Hid (k < ls.length ∧ ls.length ≤ cp ∧ k + 1 < ls.length) := hid ⟨hkl, hcp, hlt⟩
            have HUP2 : Hid ((standsK (ls.take k ++ ls.drop (k + 1)) = false → ∀ i, i < k + 1 → i + 1 < ls.length → standsK (ls.take i ++ ls.drop (i + 1)) = false) ∧ (standsK (ls.take k ++ ls.drop (k + 1)) = true → tightK ls = false)) := hid ⟨fun hf i h1 h2 => by
              by_cases e : i = k
              · subst e; exact hf
              · exact hup.out i (by omega) h2, fun ht => tightK_no (fun hall => by rw [hall.2.2 k hlt] at ht; cases ht)⟩
            have HSH2 : Hid (∀ x ∈ ls.take k ++ ls.drop (k + 1), stepShort x 9223372036854775807) := hid (fun x hx => (List.mem_append.1 hx).elim (fun h => HSH.out x (List.mem_of_mem_take h)) (fun h => HSH.out x (List.mem_of_mem_drop h)))
            subst hao
            have HST : Hid (∀ W, Chg (fun i => w5.heap.size ≤ i) w5 W → StepsAt D W (some ⟨b, off, none⟩) ls) := hid (fun W hW => (HX.out.keep hc.out (fun _ _ => id)).keep hW (fun i hi h => absurd (Nat.lt_of_lt_of_le (HD.out i hi) hc.out.size) (Nat.not_lt.2 h)))
            clear hup
            go_wp2_with fail
            refine wp_region_state (AppSt w5.heap.size k (ls.take k ++ ls.drop (k + 1))) (fun _ => AppSt w5.heap.size k (ls.take k ++ ls.drop (k + 1)) w5) (specAtR (tkSpecs15 w5.heap.size b off cp k ls)) [39, 40, 41, 42, 43, 44, 45, 46, 47, 48, 6] [0, 5] (by kernel_rfl) (by kernel_rfl) (AppSt.of_chg (Chg.refl _ _).drew) (fun t v w w' hc h => specAtR_st _ t v w w' hc h) (by rfl) (by kernel_rfl) ?start ?obs ?fin
            case start =>
              simp only [List.forall_mem_cons]; exact ⟨⟨_, rfl, rfl⟩, ⟨_, rfl, rfl⟩, fun _ h => by cases h⟩
            case obs =>
              refine ObsL.cons none (by kernel_rfl) ?_ ?_
              · refine ObL.plain fun L a w hi he hW hk K k9 => ?_
                clear hk
                have ho := own_zeroK (w := w) (B := w5.heap.size) hW.1.size
                have hc : Chg (fun _ => False) w (w.alloc (.cells #[] 34)) := (Chg.refl _ w).alloc _
                clear he hi
                go_simp
                exact k9 _ _ (AppSt.of_chg hc) (hW.trans (AppSt.of_chg hc)) ⟨ho, fun _ => rfl⟩
              refine ObsL.cons none (by kernel_rfl) ?_ ?_
              · refine ObL.plain fun L a w hi he hW hk K k9 => ?_
                obtain ⟨_, e0, f0⟩ := hk 0 (by decide)
                clear hk
                clear hi he
                go_simp
                exact k9 _ _ (AppSt.refl _ _ _ _) hW f0
              refine ObsL.cons none (by kernel_rfl) ?_ ?_
              · refine ObL.plain fun L a w hi he hW hk K k9 => ?_
                obtain ⟨_, e5, f5⟩ := hk 5 (by decide)
                clear hk
                clear hi he
                go_simp
                exact k9 _ _ (AppSt.refl _ _ _ _) hW f5
              refine ObsL.cons none (by kernel_rfl) ?_ ?_
              · refine ObL.plain fun L a w hi he hW hk K k9 => ?_
                obtain ⟨_, e40, rfl⟩ := hk 40 (by decide)
                obtain ⟨_, e41, rfl⟩ := hk 41 (by decide)
                clear hk
                have hk3 : k ≤ cp := Nat.le_trans (Nat.le_of_lt HKL.out.1) HKL.out.2.1
                clear he hi
                go_simp
                exact k9 _ _ (AppSt.refl _ _ _ _) hW rfl
              refine ObsL.cons none (by kernel_rfl) ?_ ?_
              · refine ObL.plain fun L a w hi he hW hk K k9 => ?_
                obtain ⟨_, e39, f39⟩ := hk 39 (by decide)
                obtain ⟨_, e42, rfl⟩ := hk 42 (by decide)
                clear hk
                obtain ⟨v', w', hr, ho, hch, hrk, hcp, hcl, hsz⟩ := run_append_steps2 (zs := []) (ls := ls.take k) (cp := cp) 22 f39.1 ((HST.out w hW.1).take k) (fun e => by cases e) (by simp; have := HKL.out.1; omega) hW.1.size
                have hc := hcp (f39.2 rfl)
                rw [List.length_take, Nat.min_eq_left (Nat.le_of_lt HKL.out.1)] at hr
                exact ob_appendK 22 rfl e39 e42 hr (k9 _ _ (AppSt.of_chg hc) (hW.trans (AppSt.of_chg hc)) ⟨ho, fun h => (hcl h).trans (f39.2 rfl)⟩)
              refine ObsL.cons none (by kernel_rfl) ?_ ?_
              · refine ObL.plain fun L a w hi he hW hk K k9 => ?_
                obtain ⟨_, e0, f0⟩ := hk 0 (by decide)
                clear hk
                clear hi he
                go_simp
                exact k9 _ _ (AppSt.refl _ _ _ _) hW f0
              refine ObsL.cons none (by kernel_rfl) ?_ ?_
              · refine ObL.plain fun L a w hi he hW hk K k9 => ?_
                obtain ⟨_, e5, f5⟩ := hk 5 (by decide)
                clear hk
                clear hi he
                go_simp
                exact k9 _ _ (AppSt.refl _ _ _ _) hW f5
              refine ObsL.cons none (by kernel_rfl) ?_ ?_
              · refine ObL.plain fun L a w hi he hW hk K k9 => ?_
                obtain ⟨_, e45, rfl⟩ := hk 45 (by decide)
                clear hk
                have e1 : IntKind.i64.wrap ((k : Int) + 1) = ((k + 1 : Nat) : Int) := by rw [IntKind.wrap_i64]; have := HKL.out.1; omega
                clear he hi
                go_simp
                exact k9 _ _ (AppSt.refl _ _ _ _) hW rfl
              refine ObsL.cons none (by kernel_rfl) ?_ ?_
              · refine ObL.plain fun L a w hi he hW hk K k9 => ?_
                obtain ⟨_, e44, rfl⟩ := hk 44 (by decide)
                obtain ⟨_, e46, rfl⟩ := hk 46 (by decide)
                clear hk
                have hk3 : k + 1 ≤ ls.length := HKL.out.1
                have hk4 : ls.length ≤ cp := HKL.out.2.1
                have hk5 : ¬ cp = k + 1 := by have := HKL.out.2.2; omega
                have hz1 : (0 : Int) ≤ (k : Int) + 1 := by omega
                have hz2 : (k : Int) + 1 ≤ (ls.length : Int) := by omega
                clear he hi
                go_simp
                exact k9 _ _ (AppSt.refl _ _ _ _) hW rfl
              refine ObsL.cons none (by kernel_rfl) ?_ ?_
              · refine ObL.plain fun L a w hi he hW hk K k9 => ?_
                obtain ⟨_, e43, f43⟩ := hk 43 (by decide)
                obtain ⟨_, e47, rfl⟩ := hk 47 (by decide)
                clear hk
                obtain ⟨v', w', hr, ho, hch, hrk, hcp, hcl, hsz⟩ := run_append_steps2 (zs := ls.take k) (ls := ls.drop (k + 1)) (cp := cp - (k + 1)) 22 f43.1 ((HST.out w hW.1).drop (k + 1)) (fun e => by cases e) (by rw [List.length_take, List.length_drop]; have := HKL.out.1; omega) hW.1.size
                rw [List.length_drop] at hr
                have hS : AppSt w5.heap.size k (ls.take k ++ ls.drop (k + 1)) w w' := ⟨hch _ (fun _ h => h), by rw [List.length_take, Nat.min_eq_left (Nat.le_of_lt HKL.out.1)] at hrk; exact hrk⟩
                exact ob_appendK 22 rfl e43 e47 hr (k9 _ _ hS (hW.trans hS) ⟨ho, fun h => absurd h (by rw [List.length_append, List.length_drop]; have := HKL.out.2.2; omega)⟩)
              refine ObsL.cons none (by kernel_rfl) ?_ ?_
              · refine ObL.plain fun L a w hi he hW hk K k9 => ?_
                obtain ⟨_, e48, f48⟩ := hk 48 (by decide)
                clear hk
                clear hi he
                go_simp
                exact k9 _ _ (AppSt.refl _ _ _ _) hW f48
              exact ObsL.nil
            case fin =>
              intro L vals w6 hL hW hv
              have h6 : OwnSt w5.heap.size w6 (vals 6) (ls.take k ++ ls.drop (k + 1)) ∧ ((ls.take k ++ ls.drop (k + 1)).length = 0 → capOfK (vals 6) = 0) := hv 6 (by decide)
              have hrl : (ls.take k ++ ls.drop (k + 1)).length + 1 = ls.length := by rw [List.length_append, List.length_take, List.length_drop]; have := HKL.out.1; omega
              have hc56 : Chg (fun _ => False) w5 w6 := hW.1.mono (fun i hi h => absurd hi (Nat.not_lt.2 h))
              obtain ⟨a6, c6, hv6, hst6, _⟩ := h6.1.steps HSH2.out
              have hcp6 : (ls.take k ++ ls.drop (k + 1)).length ≤ c6 ∧ c6 ≤ 9223372036854775807 := by
                rcases h6.1.2 with ⟨h9, h8⟩ | ⟨g9, cap9, cur9, h9, _, _, h7, h8, _⟩
                · rw [h9] at hv6; injection hv6 with _ e1 e2; rw [← e1, ← e2]; exact ⟨Nat.le_refl _, by omega⟩
                · rw [h9] at hv6; injection hv6 with _ e1 e2; rw [← e2]; exact ⟨h7, by unfold maxLen at h8; omega⟩
              obtain ⟨rs, hrs⟩ : ∃ rs, rs = ls.take k ++ ls.drop (k + 1) := ⟨_, rfl⟩
              rw [← hrs] at hv6 hst6 hcp6 HUP2 hrl
              have HSTD := hid (rkstands a6 c6 rs w6 (by omega) hcp6.1 hcp6.2 hst6)
              have HC6 := hid (hc.out.trans hc56 (fun _ _ h => h))
              simp only [putAll, List.setIfInBounds_toArray, List.set_cons_zero, List.set_cons_succ, hv6]
              clear hL hW hv h6 hrl hc56 hv6 hst6 hcp6 hrs hc HST HSH2
              go_wp2_with fail
              refine HSTD.out.mono ?_
              rintro e w7 ⟨rfl, hc7⟩
              have HC7 := hid (HC6.out.trans hc7 (fun _ _ h => h))
              clear HSTD hc7 HC6
              cases hs2 : standsK rs with
              | true =>
                have HRES := hid (HUP2.out.2 hs2)
                clear hs2
                go_wp2
                go_ret
                exact ⟨by rw [HRES.out]; rfl, HC7.out⟩
              | false =>
                have HUPN := hid (HUP2.out.1 hs2)
                clear hs2
                go_wp2
                go_roundw
                case rel => exact ⟨k + 1, .inr HKL.out.2.2, by go_num, HUPN, HC7⟩
                case measure => have := HKL.out.2.2; simp [intOf]; omega
          · have HRES : Hid (tightK ls = true) := hid (tightK_yes ⟨HUN.out, HSTT.out, fun i hi => hup.out i (by omega) hi⟩)
            clear hup
            go_wp2
            go_ret
            exact ⟨by rw [HRES.out]; rfl, hc.out⟩
end Go.Proofs.Ytmmkopdcbiiedaa
