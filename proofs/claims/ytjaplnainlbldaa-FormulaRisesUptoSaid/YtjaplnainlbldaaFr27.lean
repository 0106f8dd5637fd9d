/- Texts that the proof leans on, in one: FmRises, RoleCells, RefCredGreat, CredOpen. -/
import Derived.Test.YtjaplnainlbldaaFr24
import Derived.Test.YtjaplnainlbldaaFr5
import Derived.Test.YtjaplnainlbldaaFr26
import Derived.StillTailTactics
import Derived.Test.YtjaplnainlbldaaFr18
import Derived.Test.YtjaplnainlbldaaFr1
import Derived.Test.YtjaplnainlbldaaFr9
import Derived.Test.YtjaplnainlbldaaProg
import Derived.Test.YtjaplnainlbldaaChecked
import Derived.Deep.QuietTactic
import Derived.BigQuiet
/- The law FormulaRises, walked. -/
namespace Go.Proofs.Ytjaplnainlbldaa
open Go.RowKit
set_option maxRecDepth 100000 in
theorem fr_ask1 {D : Nat → Prop} (ls : List RoleB) (ao : Option Addr) (la cp : Nat) (b : Nat) (w : World) (hl : la = ls.length) (hn : ls.length ≤ 9223372036854775807) (hb : w.heap[b]? = some (.cells #[.slice ao la cp] 59 (0, 0))) (h : RolesAt D w ao ls) (_ : ∀ i, D i → i < w.heap.size) : AskR 26 #[] #[.pointer (some ⟨b, 0, none⟩)] (fun r => hasR ls r) w := by
  intro r W h1 h2 hW
  have hb2 := blk_keep hb hW id
  have y0 := cell_blk hb2 0
  simp only [List.getElem?_toArray, List.getElem?_cons_zero] at y0
  have hb3 := blk_keep hb2 ((Chg.refl (fun _ => False) W).alloc (.cells #[.string ⟨r.1.toArray⟩, .string ⟨r.2.toArray⟩] 24)) id
  have z0 := cell_blk hb3 0
  simp only [List.getElem?_toArray, List.getElem?_cons_zero] at z0
  subst hl
  have HH := hid (fun W2 (hc : Chg (fun _ => False) W W2) => rhas_ref ao cp ls r W2 hn (h.keep (hW.trans hc (fun _ _ h => h)) (fun _ _ => id)))
  unfold roleV at HH
  show Calls Try.prog 26 #[.agg #[.string ⟨r.1.toArray⟩, .string ⟨r.2.toArray⟩], .pointer (some ⟨b, 0, none⟩)] W _
  clear hb hb2 hb3 hW h hn
  go_enter Try.func26, Try.ntmps26
  go_wp2_with fail
  refine (HH.out _ ((Chg.refl _ _).alloc _)).mono ?_
  rintro e w5 ⟨rfl, hc5⟩
  have HC := hid (((Chg.refl (fun _ => False) W).alloc (.cells #[.string ⟨r.1.toArray⟩, .string ⟨r.2.toArray⟩] 24)).trans hc5 (fun _ _ h => h))
  clear hc5 HH
  go_wp2
  go_ret
  exact ⟨rfl, HC.out⟩
theorem fr_ent1 (args : Array Value) (w : World) : (callFunc 26 args).run Try.prog w = .ok (.enter 26 args) w := enters Try.func26 rfl rfl args w

set_option maxRecDepth 100000 in
theorem fr_ask2 {D : Nat → Prop} (ls : List RoleB) (ao : Option Addr) (la cp : Nat) (b : Nat) (w : World) (hl : la = ls.length) (hn : ls.length ≤ 9223372036854775807) (hb : w.heap[b]? = some (.cells #[.slice ao la cp] 59 (0, 0))) (h : RolesAt D w ao ls) (_ : ∀ i, D i → i < w.heap.size) : AskR 28 #[] #[.pointer (some ⟨b, 0, none⟩)] (fun r => hasR ls r) w := by
  intro r W h1 h2 hW
  have hb2 := blk_keep hb hW id
  have y0 := cell_blk hb2 0
  simp only [List.getElem?_toArray, List.getElem?_cons_zero] at y0
  have hb3 := blk_keep hb2 ((Chg.refl (fun _ => False) W).alloc (.cells #[.string ⟨r.1.toArray⟩, .string ⟨r.2.toArray⟩] 24)) id
  have z0 := cell_blk hb3 0
  simp only [List.getElem?_toArray, List.getElem?_cons_zero] at z0
  subst hl
  have HH := hid (fun W2 (hc : Chg (fun _ => False) W W2) => rhas_ref ao cp ls r W2 hn (h.keep (hW.trans hc (fun _ _ h => h)) (fun _ _ => id)))
  unfold roleV at HH
  show Calls Try.prog 28 #[.agg #[.string ⟨r.1.toArray⟩, .string ⟨r.2.toArray⟩], .pointer (some ⟨b, 0, none⟩)] W _
  clear hb hb2 hb3 hW h hn
  go_enter Try.func28, Try.ntmps28
  go_wp2_with fail
  refine (HH.out _ ((Chg.refl _ _).alloc _)).mono ?_
  rintro e w5 ⟨rfl, hc5⟩
  have HC := hid (((Chg.refl (fun _ => False) W).alloc (.cells #[.string ⟨r.1.toArray⟩, .string ⟨r.2.toArray⟩] 24)).trans hc5 (fun _ _ h => h))
  clear hc5 HH
  go_wp2
  go_ret
  exact ⟨rfl, HC.out⟩
theorem fr_ent2 (args : Array Value) (w : World) : (callFunc 28 args).run Try.prog w = .ok (.enter 28 args) w := enters Try.func28 rfl rfl args w

set_option maxRecDepth 100000 in
set_option maxHeartbeats 8000000 in
theorem frises_main {D : Nat → Prop} (n : Nat) (f : FmB) (ao : Option Addr) (cp : Nat) (xs ys : List RoleB) (a1 a2 : Option Addr) (la c1 lb c2 : Nat) (w : World) (h : FmsAt D w n ao f.kids) (hok : FmOk f) (hz : ao = none → cp = 0) (hra : RolesAt D w a1 xs) (hrb : RolesAt D w a2 ys) (hz1 : a1 = none → c1 = 0) (hz2 : a2 = none → c2 = 0) (hD : ∀ i, D i → i < w.heap.size) (hG : greatF f ≤ 4503599627370496) (hl1 : la = xs.length) (hl2 : lb = ys.length) (hla : xs.length ≤ 4611686018427387903) (hlb : ys.length ≤ 4611686018427387903) :
    Calls Try.prog 6 #[.agg #[.int .i64 f.op, .int .i64 f.k, .string ⟨f.r.1.toArray⟩, .string ⟨f.r.2.toArray⟩, .slice ao f.kids.length cp], .slice a1 la c1, .slice a2 lb c2] w fun e w' => e = .returned (.bool true) ∧ Chg (fun _ => False) w w' := by
  have hc2 : Chg (fun _ => False) w ((w.alloc (.cells #[.int .i64 f.op, .int .i64 f.k, .string ⟨f.r.1.toArray⟩, .string ⟨f.r.2.toArray⟩, .slice ao f.kids.length cp] 58)).alloc (.cells #[.slice a1 la c1] 59)) := ((Chg.refl _ w).alloc _).alloc _
  have hF := blk_keep (heap_alloc_new w (.cells #[.int .i64 f.op, .int .i64 f.k, .string ⟨f.r.1.toArray⟩, .string ⟨f.r.2.toArray⟩, .slice ao f.kids.length cp] 58)) ((Chg.refl (fun _ => False) (w.alloc (.cells #[.int .i64 f.op, .int .i64 f.k, .string ⟨f.r.1.toArray⟩, .string ⟨f.r.2.toArray⟩, .slice ao f.kids.length cp] 58))).alloc (.cells #[.slice a1 la c1] 59)) id
  have hA := heap_alloc_new (w.alloc (.cells #[.int .i64 f.op, .int .i64 f.k, .string ⟨f.r.1.toArray⟩, .string ⟨f.r.2.toArray⟩, .slice ao f.kids.length cp] 58)) (.cells #[.slice a1 la c1] 59)
  rw [show (w.alloc (.cells #[.int .i64 f.op, .int .i64 f.k, .string ⟨f.r.1.toArray⟩, .string ⟨f.r.2.toArray⟩, .slice ao f.kids.length cp] 58)).heap.size = w.heap.size + 1 by simp] at hA
  have HFI := hid (fm_first (fun ao cp ls w hn h hD hz => pset ao cp ls w hn h hD hz) ((w.alloc (.cells #[.int .i64 f.op, .int .i64 f.k, .string ⟨f.r.1.toArray⟩, .string ⟨f.r.2.toArray⟩, .slice ao f.kids.length cp] 58)).alloc (.cells #[.slice a1 la c1] 59)))
  have HB := hid (And.intro hF (And.intro hA hc2))
  have HY := hid (And.intro h (And.intro hok (And.intro hz (And.intro hra (And.intro hrb (And.intro hz1 (And.intro hz2 (And.intro hD (And.intro hG (And.intro hla hlb))))))))))
  have HL := hid (And.intro hl1 hl2)
  clear hc2 hF hA h hok hz hra hrb hz1 hz2 hD hG hla hlb hl1 hl2
  go_enter Try.func6, Try.ntmps6
  go_wp2_with fail
  refine HFI.out.mono ?_
  rintro e w3 ⟨rfl, hc3⟩
  have HC3 := hid hc3
  clear hc3
  have hf := blk_keep HB.out.1 HC3.out id
  have f0 := cell_blk hf 0
  have f1 := cell_blk hf 1
  have f2 := cell_blk hf 2
  have f3 := cell_blk hf 3
  have f4 := cell_blk hf 4
  simp only [List.getElem?_toArray, List.getElem?_cons_zero, List.getElem?_cons_succ] at f0 f1 f2 f3 f4
  clear hf
  have HGR := hid (fm_great (D := fun k => D k ∨ k = w3.heap.size) (n + 1) (some ⟨w3.heap.size, 0, none⟩) 1 [f] (w3.alloc (.cells #[.int .i64 f.op, .int .i64 f.k, .string ⟨f.r.1.toArray⟩, .string ⟨f.r.2.toArray⟩, .slice ao f.kids.length cp] 58)) (by have := HY.out.2.2.2.2.2.2.2.2.1; simp only [greatL]; omega) (fun i hi => by
    have hi : i < 1 := hi
    have h0 : i = 0 := by omega
    subst h0
    exact ⟨w3.heap.size, 0, rfl, .inr rfl, fm_at_blk (heap_alloc_new w3 _) HY.out.2.1 HY.out.2.2.1 (((HY.out.1.keep (HB.out.2.2.trans HC3.out (fun _ _ h => h)) (fun _ _ => id)).keep ((Chg.refl (fun _ => False) w3).alloc _) (fun _ _ => id)).mono (fun _ h => .inl h))⟩))
  go_wp2_with fail
  refine HGR.out.mono ?_
  rintro e w4 ⟨rfl, hc4⟩
  have HC4 := hid (HC3.out.trans (((Chg.refl (fun _ => False) w3).alloc (.cells #[.int .i64 f.op, .int .i64 f.k, .string ⟨f.r.1.toArray⟩, .string ⟨f.r.2.toArray⟩, .slice ao f.kids.length cp] 58)).trans hc4 (fun _ _ h => h)) (fun _ _ h => h))
  clear hc4 HGR HFI HC3 f0 f1 f2 f3 f4
  obtain ⟨g, hg⟩ : ∃ g, g = greatL [f] := ⟨_, rfl⟩
  rw [← hg]
  have HG := hid (show g = greatF f by rw [hg]; simp [greatL])
  clear hg
  have hgb : g ≤ 4503599627370496 := by rw [HG.out]; exact HY.out.2.2.2.2.2.2.2.2.1
  have hlab : la ≤ 4611686018427387903 := by rw [HL.out.1]; exact HY.out.2.2.2.2.2.2.2.2.2.1
  have hlbb : lb ≤ 4611686018427387903 := by rw [HL.out.2]; exact HY.out.2.2.2.2.2.2.2.2.2.2
  have a0 := cell_blk (blk_keep HB.out.2.1 HC4.out id) 0
  simp only [List.getElem?_toArray, List.getElem?_cons_zero] at a0
  have hwl : IntKind.i64.wrap ((la : Int) + (lb : Int)) = ((la + lb : Nat) : Int) := by rw [IntKind.wrap_i64]; omega
  have HEND := hid (HB.out.2.2.trans HC4.out (fun _ _ h => h))
  by_cases h300 : 300 < g
  · have z1 : (300 : Int) < (g : Int) := by omega
    clear h300
    go_wp2
    go_ret
    exact ⟨rfl, HEND.out⟩
  · have z1 : ¬ (300 : Int) < (g : Int) := by omega
    have HG3 := hid h300
    clear h300
    by_cases h60 : 60 < la + lb
    · have z2 : (60 : Int) < ((la + lb : Nat) : Int) := by omega
      clear h60
      go_wp2
      go_ret
      exact ⟨rfl, HEND.out⟩
    · have z2 : ¬ (60 : Int) < ((la + lb : Nat) : Int) := by omega
      have H60 := hid h60
      clear h60
      have HNB := hid (show nodesF f ≤ 300 by have := great_nodes f; have := HG.out; have := HG3.out; omega)
      have hyo := HY.out
      have hsz4 := Nat.le_trans HB.out.2.2.size HC4.out.size
      have cE : Chg (fun _ => False) w4 (w4.alloc (.cells #[] 24)) := (Chg.refl _ w4).alloc _
      have HE5 := hid (HEND.out.trans cE (fun _ _ h => h))
      have b0 := cell_blk (blk_keep (blk_keep HB.out.2.1 HC4.out id) cE id) 0
      simp only [List.getElem?_toArray, List.getElem?_cons_zero] at b0
      have hown0 : OwnR w4.heap.size (w4.alloc (.cells #[] 24)) (.slice (some ⟨w4.heap.size, 0, none⟩) 0 0) [] := ⟨rfl, .inr ⟨w4.heap.size, 0, _, rfl, Nat.le_refl _, heap_alloc_new w4 _, Nat.le_refl _, by unfold maxLen; omega, rfl, rfl⟩⟩
      obtain ⟨v6, w6, m1, o6, c6⟩ := run_append_roles 59 hown0 (hyo.2.2.2.1.keep HE5.out (fun _ _ => id)) hyo.2.2.2.2.2.1 (by have := HL.out.1; simp only [List.length_nil]; omega) (by have := cE.size; omega)
      rw [List.nil_append] at o6
      have k6 : Chg (fun k => w4.heap.size ≤ k) w w6 := (HE5.out.mono (fun _ _ h => h.elim)).trans (c6 (fun k => w4.heap.size ≤ k) (fun _ h => h)) (fun _ _ h => h)
      have hDk : ∀ i, D i → ¬ w4.heap.size ≤ i := fun i hi => by have := hyo.2.2.2.2.2.2.2.1 i hi; omega
      obtain ⟨v7, w7, m2, o7, c7⟩ := run_append_roles 59 o6 (hyo.2.2.2.2.1.keep k6 hDk) hyo.2.2.2.2.2.2.1 (by have := HL.out.1; have := HL.out.2; omega) (by have := k6.size; have := cE.size; have := (c6 (fun k => w4.heap.size ≤ k) (fun _ h => h)).size; omega)
      have k7 := c7 (fun k => w4.heap.size ≤ k) (fun _ h => h)
      have k47 : Chg (fun _ => False) w4 w7 := (cE.trans ((c6 (fun k => w4.heap.size ≤ k) (fun _ h => h)).trans k7 (fun _ _ h => h)) (fun i hi h => by omega))
      obtain ⟨a7, c7b, hv7, hr7, hz7⟩ := o7.roles (fun x hx => by
        rcases List.mem_append.1 hx with hx | hx
        · obtain ⟨i, hi, rfl⟩ := List.getElem_of_mem hx
          obtain ⟨_, _, _, _, _, _, q⟩ := hyo.2.2.2.1 i hi
          exact q
        · obtain ⟨i, hi, rfl⟩ := List.getElem_of_mem hx
          obtain ⟨_, _, _, _, _, _, q⟩ := hyo.2.2.2.2.1 i hi
          exact q)
      obtain ⟨l7, hl7⟩ : ∃ l7, l7 = (xs ++ ys).length := ⟨_, rfl⟩
      rw [← hl7] at hv7
      subst hv7
      have HX7 := hid (And.intro hr7 (And.intro hl7 (HC4.out.trans k47 (fun _ _ h => h))))
      rw [← HL.out.1] at m1
      rw [← HL.out.2] at m2
      clear hr7 hz7 hl7 hyo hsz4 cE hown0 o6 c6 k6 hDk o7 c7 k7 k47 HE5 HC4
      have HC8 := hid (HX7.out.2.2.alloc (.cells #[.slice a7 l7 c7b] 59))
      have HT1 := hid (fm_true (D := D) 26 #[] #[.pointer (some ⟨w.heap.size + 1, 0, none⟩)] (fun r => hasR xs r) fr_ent1 n f ao cp (w7.alloc (.cells #[.slice a7 l7 c7b] 59)) (HY.out.1.keep (HB.out.2.2.trans HC8.out (fun _ _ h => h)) (fun _ _ => id)) (fun i hi => Nat.lt_of_lt_of_le (HY.out.2.2.2.2.2.2.2.1 i hi) (HB.out.2.2.trans HC8.out (fun _ _ h => h)).size) HY.out.2.1 (by have := HNB.out; omega) (fr_ask1 xs a1 la c1 (w.heap.size + 1) (w7.alloc (.cells #[.slice a7 l7 c7b] 59)) HL.out.1 (by have := HY.out.2.2.2.2.2.2.2.2.2.1; omega) (blk_keep HB.out.2.1 HC8.out id) (HY.out.2.2.2.1.keep (HB.out.2.2.trans HC8.out (fun _ _ h => h)) (fun _ _ => id)) (fun i hi => Nat.lt_of_lt_of_le (HY.out.2.2.2.2.2.2.2.1 i hi) (HB.out.2.2.trans HC8.out (fun _ _ h => h)).size)))
      have hf := blk_keep HB.out.1 HC8.out id
      have f0 := cell_blk hf 0
      have f1 := cell_blk hf 1
      have f2 := cell_blk hf 2
      have f3 := cell_blk hf 3
      have f4 := cell_blk hf 4
      simp only [List.getElem?_toArray, List.getElem?_cons_zero, List.getElem?_cons_succ] at f0 f1 f2 f3 f4
      clear hf
      go_wp2_with (at_builtin; first | refine wpList_append_runQ rfl (.tmp 27) (.tmp 28) 59 rfl rfl rfl m1 ?_ | refine wpList_append_runQ rfl (.tmp 29) (.tmp 30) 59 rfl rfl rfl m2 ?_)
      refine HT1.out.mono ?_
      rintro e w9 ⟨rfl, hc9⟩
      have HC9 := hid (HC8.out.trans hc9 (fun _ _ h => h))
      have HT2 := hid (fm_true (D := D) 28 #[] #[.pointer (some ⟨w7.heap.size, 0, none⟩)] (fun r => hasR (xs ++ ys) r) fr_ent2 n f ao cp w9 (HY.out.1.keep (HB.out.2.2.trans HC9.out (fun _ _ h => h)) (fun _ _ => id)) (fun i hi => Nat.lt_of_lt_of_le (HY.out.2.2.2.2.2.2.2.1 i hi) (HB.out.2.2.trans HC9.out (fun _ _ h => h)).size) HY.out.2.1 (by have := HNB.out; omega) (fr_ask2 (xs ++ ys) a7 l7 c7b w7.heap.size w9 HX7.out.2.1 (by have := HY.out.2.2.2.2.2.2.2.2.2; rw [List.length_append]; omega) (blk_keep (heap_alloc_new w7 _) hc9 id) ((HX7.out.1.keep ((Chg.refl (fun _ => False) w7).alloc _) (fun _ _ => id)).keep hc9 (fun _ _ => id)) (fun i hi => by have := hc9.size; simp only [World.size_alloc] at this; omega)))
      clear hc9 HT1 f0 f1 f2 f3 f4 m1 m2 a0 b0
      have hf := blk_keep HB.out.1 HC9.out id
      have f0 := cell_blk hf 0
      have f1 := cell_blk hf 1
      have f2 := cell_blk hf 2
      have f3 := cell_blk hf 3
      have f4 := cell_blk hf 4
      simp only [List.getElem?_toArray, List.getElem?_cons_zero, List.getElem?_cons_succ] at f0 f1 f2 f3 f4
      clear hf
      go_wp2_with fail
      refine HT2.out.mono ?_
      rintro e w10 ⟨rfl, hc10⟩
      have HC10 := hid (HC9.out.trans hc10 (fun _ _ h => h))
      have HM : Hid ((isF f && holdsF (fun r => hasR xs r) f) = true → (isF f && holdsF (fun r => hasR (xs ++ ys) r) f) = true) := hid (fun h => by
        rw [Bool.and_eq_true] at h ⊢
        exact ⟨h.1, holds_mono (fun r hr => by
          unfold hasR at hr ⊢
          rw [List.contains_eq_mem, decide_eq_true_eq] at hr ⊢
          exact List.mem_append_left _ hr) f (isF_right h.1).2.2 h.2⟩)
      clear hc10 HT2 f0 f1 f2 f3 f4
      obtain ⟨p1, hp1⟩ : ∃ p1, p1 = (isF f && holdsF (fun r => hasR xs r) f) := ⟨_, rfl⟩
      obtain ⟨p2, hp2⟩ : ∃ p2, p2 = (isF f && holdsF (fun r => hasR (xs ++ ys) r) f) := ⟨_, rfl⟩
      rw [← hp1, ← hp2] at HM
      rw [← hp1, ← hp2]
      have hcase : (p1 = false ∧ p2 = false) ∨ (p1 = false ∧ p2 = true) ∨ (p1 = true ∧ p2 = true) := by
        have h1 := HM.out
        rcases p1 with _ | _ <;> rcases p2 with _ | _
        · exact .inl ⟨rfl, rfl⟩
        · exact .inr (.inl ⟨rfl, rfl⟩)
        · exact absurd (h1 rfl) (by decide)
        · exact .inr (.inr ⟨rfl, rfl⟩)
      clear hp1 hp2 HM
      have HC11 := hid (HC10.out.alloc (.cells #[.slice none 0 0] 67))
      have HPN := hid (pen_new w10 (w10.heap.size + 1))
      have hPs := Nat.le_trans HB.out.2.2.size HC10.out.size
      have hs2 : ((w.alloc (.cells #[.int .i64 f.op, .int .i64 f.k, .string ⟨f.r.1.toArray⟩, .string ⟨f.r.2.toArray⟩, .slice ao f.kids.length cp] 58)).alloc (.cells #[.slice a1 la c1] 59)).heap.size = w.heap.size + 2 := by simp
      have hPs2 := HC10.out.size
      rw [hs2] at hPs2
      have HPS := hid hPs2
      obtain ⟨is, his⟩ : ∃ is, is = isF f := ⟨_, rfl⟩
      have HIS := hid his
      clear his hPs hs2 hPs2
      cases is with
      | false =>
        have HPU := hid (fm_putno (D := D) (.pointer (some ⟨w10.heap.size, 0, none⟩)) n f ao cp (w10.alloc (.cells #[.slice none 0 0] 67)) (HY.out.1.keep (HB.out.2.2.trans HC11.out (fun _ _ h => h)) (fun _ _ => id)) (fun i hi => Nat.lt_of_lt_of_le (HY.out.2.2.2.2.2.2.2.1 i hi) (HB.out.2.2.trans HC11.out (fun _ _ h => h)).size) HY.out.2.1 (by have := HNB.out; omega) HIS.out.symm)
        have hf := blk_keep HB.out.1 HC11.out id
        have f0 := cell_blk hf 0
        have f1 := cell_blk hf 1
        have f2 := cell_blk hf 2
        have f3 := cell_blk hf 3
        have f4 := cell_blk hf 4
        simp only [List.getElem?_toArray, List.getElem?_cons_zero, List.getElem?_cons_succ] at f0 f1 f2 f3 f4
        clear hf
        rcases hcase with ⟨rfl, rfl⟩ | ⟨rfl, rfl⟩ | ⟨rfl, rfl⟩
        all_goals
          go_wp2_with fail
          refine HPU.out.mono ?_
          rintro e w12 ⟨rfl, hc12⟩
          have HC12 := hid (HC11.out.trans hc12 (fun _ _ h => h))
          have HPA := hid (HPN.out.keep hc12 id (fun _ _ => id))
          have HRT := hid (fm_right (D := D) n f ao cp w12 (HY.out.1.keep (HB.out.2.2.trans HC12.out (fun _ _ h => h)) (fun _ _ => id)) (fun i hi => Nat.lt_of_lt_of_le (HY.out.2.2.2.2.2.2.2.1 i hi) (HB.out.2.2.trans HC12.out (fun _ _ h => h)).size) HY.out.2.1 (by have := HNB.out; omega))
          rw [← HIS.out] at HRT
          clear hc12 f0 f1 f2 f3 f4
          have hf := blk_keep HB.out.1 HC12.out id
          have f0 := cell_blk hf 0
          have f1 := cell_blk hf 1
          have f2 := cell_blk hf 2
          have f3 := cell_blk hf 3
          have f4 := cell_blk hf 4
          simp only [List.getElem?_toArray, List.getElem?_cons_zero, List.getElem?_cons_succ] at f0 f1 f2 f3 f4
          clear hf
          go_wp2_with fail
          refine HRT.out.mono ?_
          rintro e w13 ⟨rfl, hc13⟩
          have HC13 := hid (HC12.out.trans hc13 (fun _ _ h => h))
          have HBY := hid (bytes_any (w10.heap.size + 1) w10.heap.size 0 none [] w13 (HPA.out.keep hc13 id (fun _ _ => id)) (by simp))
          clear hc13 HRT f0 f1 f2 f3 f4
          go_wp2_with fail
          refine HBY.out.mono ?_
          rintro e w14 ⟨a9, c9, rfl, _, hc14⟩
          have HC14 := hid (HB.out.2.2.trans (HC13.out.trans hc14 (fun _ _ h => h)) (fun _ _ h => h))
          clear hc14
          go_wp2
          go_ret
          exact ⟨rfl, HC14.out⟩
      | true =>
        have HEL := hid (show (encF f).length ≤ 12000 by have := encF_len f (isF_right HIS.out.symm).2.2; have := HNB.out; omega)
        have HPU := hid (fm_putyes (D := D) n f ao cp (w10.heap.size + 1) w10.heap.size 0 none [] (w10.alloc (.cells #[.slice none 0 0] 67)) (HY.out.1.keep (HB.out.2.2.trans HC11.out (fun _ _ h => h)) (fun _ _ => id)) HY.out.2.1 HIS.out.symm (by simp) HPN.out (by simp) (by omega) (fun i hi => by have := HY.out.2.2.2.2.2.2.2.1 i hi; have := HPS.out; omega))
        have hf := blk_keep HB.out.1 HC11.out id
        have f0 := cell_blk hf 0
        have f1 := cell_blk hf 1
        have f2 := cell_blk hf 2
        have f3 := cell_blk hf 3
        have f4 := cell_blk hf 4
        simp only [List.getElem?_toArray, List.getElem?_cons_zero, List.getElem?_cons_succ] at f0 f1 f2 f3 f4
        clear hf
        rcases hcase with ⟨rfl, rfl⟩ | ⟨rfl, rfl⟩ | ⟨rfl, rfl⟩
        all_goals
          go_wp2_with fail
          refine HPU.out.mono ?_
          rintro e w12 ⟨rfl, a3, c3, hp3, hch3⟩
          rw [List.nil_append] at hp3
          have HC12 := hid (pchg_new (B := w10.heap.size + 1) (P := w10.heap.size) (ao := none) (cap := 0) (xs := []) HC11.out HPN.out (by omega) HC10.out.size hch3)
          have HBY := hid (bytes_any (w10.heap.size + 1) w10.heap.size c3 a3 (encF f) (w12.alloc (.cells #[.int .i64 0, .int .i64 0, .string ⟨#[]⟩, .string ⟨#[]⟩, .slice none 0 0] 58)) (hp3.keep ((Chg.refl (fun _ => False) w12).alloc (.cells #[.int .i64 0, .int .i64 0, .string ⟨#[]⟩, .string ⟨#[]⟩, .slice none 0 0] 58)) id (fun _ _ => id)) (by have := HEL.out; omega))
          clear hp3 hch3 HPU f0 f1 f2 f3 f4
          go_wp2_with fail
          refine HBY.out.mono ?_
          rintro e w14 ⟨a9, c9, rfl, hby, hc14⟩
          have cX : Chg (fun _ => False) w12 (w12.alloc (.cells #[.int .i64 0, .int .i64 0, .string ⟨#[]⟩, .string ⟨#[]⟩, .slice none 0 0] 58)) := (Chg.refl _ w12).alloc _
          have hX4 := blk_keep (heap_alloc_new w12 (.cells #[.int .i64 0, .int .i64 0, .string ⟨#[]⟩, .string ⟨#[]⟩, .slice none 0 0] 58)) hc14 id
          have hsX : (w12.alloc (.cells #[.int .i64 0, .int .i64 0, .string ⟨#[]⟩, .string ⟨#[]⟩, .slice none 0 0] 58)).heap.size = w12.heap.size + 1 := by simp
          have HC14 := hid (HC12.out.trans (cX.trans hc14 (fun _ _ h => h)) (fun _ _ h => h))
          have HX12 := hid HC12.out.size
          obtain ⟨Xb, hXb⟩ : ∃ Xb, Xb = w12.heap.size := ⟨_, rfl⟩
          rw [hsX, ← hXb] at hby
          rw [← hXb] at hX4 HX12 ⊢
          have HRD := hid (fm_read3 f HIS.out.symm a9 c9 (encF f).length Xb w14 rfl hby hX4 (fun h => by omega) (fun i hi => hi.2) (by have := HEL.out; omega))
          have HXL := hid (lt_blk hX4)
          clear cX hX4 hsX hby hc14 HBY hXb
          go_wp2_with fail
          refine HRD.out.mono ?_
          rintro e w15 ⟨rfl, t, ao2, q, cp2, ht, htv, hX5, hown, hnd, hc15⟩
          have HC15 := hid (HC14.out.trans hc15 (fun i hi e => by have := HX12.out; omega))
          obtain ⟨op, k, r, v, kids⟩ := t
          have htv : v = .slice ao2 q cp2 := htv
          subst htv
          obtain ⟨ao3, cp3, hv3, hz3, hfs, hok3⟩ := own_fms hown
          have hv3 : Value.slice ao2 q cp2 = .slice ao3 kids.length cp3 := hv3
          injection hv3 with e1 e2 e3
          subst e1
          subst e3
          have hq2 : (eraseL kids).length = q := by rw [eraseL_len, e2]
          have HSM := hid (fm_same (D := D) w14.heap.size op k r ao2 q cp2 kids f n ao cp w15 e2 hown hnd (by rw [ht]; have := HNB.out; omega) (HY.out.1.keep (HB.out.2.2.trans HC15.out (fun _ _ h => h)) (fun _ _ => id)) (fun i hi => Nat.lt_of_lt_of_le (HY.out.2.2.2.2.2.2.2.1 i hi) (HB.out.2.2.trans HC15.out (fun _ _ h => h)).size) HY.out.2.1 HY.out.2.2.1 (by have := HNB.out; have := nodesF_eq f; have := nodesL_len f.kids; omega))
          have HCM := hid (fun W (hW : Chg (fun _ => False) w15 W) => show Calls Try.prog 36 #[.agg #[.int .i64 op, .int .i64 k, .string ⟨r.1.toArray⟩, .string ⟨r.2.toArray⟩, .slice ao2 q cp2], .agg #[.int .i64 f.op, .int .i64 f.k, .string ⟨f.r.1.toArray⟩, .string ⟨f.r.2.toArray⟩, .slice ao f.kids.length cp]] W (fun e w' => e = .returned (.int .i64 0) ∧ Chg (fun _ => False) W w') by
            have h9 := fm_compare (D := fun i => w14.heap.size ≤ i ∧ i < w15.heap.size) (E := D) _ (eraseA (.mk op k r (.slice ao2 q cp2) kids)) ao2 cp2 W (hfs.keep hW (fun _ _ => id)) (fun i hi => Nat.lt_of_lt_of_le hi.2 hW.size) hok3 (by rw [ht]; have := HNB.out; omega) n f ao cp ((HY.out.1.keep (HB.out.2.2.trans HC15.out (fun _ _ h => h)) (fun _ _ => id)).keep hW (fun _ _ => id)) (fun i hi => Nat.lt_of_lt_of_le (HY.out.2.2.2.2.2.2.2.1 i hi) ((HB.out.2.2.trans HC15.out (fun _ _ h => h)).trans hW (fun _ _ h => h)).size) HY.out.2.1 (by have := HNB.out; omega)
            have hc0 : Lib.compareBytes (wrF (eraseA (.mk op k r (.slice ao2 q cp2) kids))) (wrF f) = 0 := by rw [ht]; exact (cmpB_zero _ _).2 rfl
            rw [hc0] at h9
            simp only [eraseA, FmB.op, FmB.k, FmB.r, FmB.kids, hq2] at h9
            exact h9)
          have HT := hid ht
          have HX5 := hid hX5
          clear hown hnd ht hc15 HRD HXL e2 hq2 hfs hok3 hz3 hX5
          have hf := blk_keep HB.out.1 HC15.out id
          have f0 := cell_blk hf 0
          have f1 := cell_blk hf 1
          have f2 := cell_blk hf 2
          have f3 := cell_blk hf 3
          have f4 := cell_blk hf 4
          simp only [List.getElem?_toArray, List.getElem?_cons_zero, List.getElem?_cons_succ] at f0 f1 f2 f3 f4
          clear hf
          have x0 := cell_blk HX5.out 0
          have x1 := cell_blk HX5.out 1
          have x2 := cell_blk HX5.out 2
          have x3 := cell_blk HX5.out 3
          have x4 := cell_blk HX5.out 4
          simp only [List.getElem?_toArray, List.getElem?_cons_zero, List.getElem?_cons_succ, AT.op, AT.k, AT.r] at x0 x1 x2 x3 x4
          go_wp2_with fail
          refine HSM.out.mono ?_
          rintro e w16 ⟨b, rfl, hbb, hc16⟩
          have hbt : b = true := hbb.2 HT.out
          subst hbt
          have HCW := hid (HCM.out w16 hc16)
          have HC16 := hid (HC15.out.trans hc16 (fun _ _ h => h))
          have hX6 := blk_keep HX5.out hc16 id
          clear hbb hc16 HSM HCM f0 f1 f2 f3 f4 x0 x1 x2 x3 x4
          have hf := blk_keep HB.out.1 HC16.out id
          have f0 := cell_blk hf 0
          have f1 := cell_blk hf 1
          have f2 := cell_blk hf 2
          have f3 := cell_blk hf 3
          have f4 := cell_blk hf 4
          simp only [List.getElem?_toArray, List.getElem?_cons_zero, List.getElem?_cons_succ] at f0 f1 f2 f3 f4
          clear hf
          have x0 := cell_blk hX6 0
          have x1 := cell_blk hX6 1
          have x2 := cell_blk hX6 2
          have x3 := cell_blk hX6 3
          have x4 := cell_blk hX6 4
          simp only [List.getElem?_toArray, List.getElem?_cons_zero, List.getElem?_cons_succ, AT.op, AT.k, AT.r] at x0 x1 x2 x3 x4
          clear hX6
          go_wp2_with fail
          refine HCW.out.mono ?_
          rintro e w17 ⟨rfl, hc17⟩
          have HC17 := hid (HB.out.2.2.trans (HC16.out.trans hc17 (fun _ _ h => h)) (fun _ _ h => h))
          clear hc17
          go_wp2
          go_ret
          exact ⟨rfl, HC17.out⟩
end Go.Proofs.Ytjaplnainlbldaa

/- A role that came in, opened to its cells. -/
namespace Go.Proofs.Ytjaplnainlbldaa
open Go.ChangeShapes Go.WideShapes Go.ChangeAt Go.RowKit Go.Deep

theorem choose_roles {α : Type} (n : Nat) (p : Nat → α → Prop) (h : ∀ i, i < n → ∃ x, p i x) : ∃ l : List α, l.length = n ∧ ∀ i (hi : i < l.length), p i l[i] := by
  induction n with
  | zero => exact ⟨[], rfl, fun i hi => by simp at hi⟩
  | succ n ih =>
    obtain ⟨l, hl, hp⟩ := ih (fun i hi => h i (by omega))
    obtain ⟨x, hx⟩ := h n (by omega)
    refine ⟨l ++ [x], by simp [hl], fun i hi => ?_⟩
    by_cases hin : i < l.length
    · rw [List.getElem_append_left hin]
      exact hp i hin
    · have : i = n := by simp [hl] at hi; omega
      subst this
      rw [List.getElem_append_right (by omega)]
      simpa [hl] using hx

section
variable {H : Type} {enc : TypeId × Value → H} {w : World} {base : Nat} {held : Bool} {fuel : Nat}

set_option maxRecDepth 100000 in
/-- Two cells that are read as a role. -/
theorem open_role_cells {spare : Nat → Bool} {cs : List Value} {x : DataW H × List MemPlace} (h : DataW.trod enc Try.prog w base spare held fuel 24 cs = some x) :
    ∃ r : RoleB, cs = roleCells r ∧ r.1.length ≤ 9223372036854775807 ∧ r.2.length ≤ 9223372036854775807 ∧ 1 + r.1.length + r.2.length ≤ Rows.uptoBulk x.1 := by
  obtain ⟨y0, y1, n, rfl, hl, h0, h1⟩ := trod_struct2 Try.underlying24 h
  have hc : Try.prog.cellsOf 24 = 2 := by kernel_rfl
  rw [hc] at hl
  match cs, hl with
  | [c0, c1], _ =>
    have e0 : DataW.trod enc Try.prog w base spare held n 9 [c0] = some y0 := h0
    have e1 : DataW.trod enc Try.prog w base spare held n 9 [c1] = some y1 := h1
    obtain ⟨s0, hs0, rfl, hm0⟩ := DataW.trod_string Try.underlying9 e0
    obtain ⟨s1, hs1, rfl, hm1⟩ := DataW.trod_string Try.underlying9 e1
    simp only [List.cons.injEq, and_true] at hs0 hs1
    subst hs0
    subst hs1
    unfold maxLen at hm0 hm1
    refine ⟨(s0.data.toList, s1.data.toList), rfl, hm0, hm1, ?_⟩
    simp [Rows.uptoBulk, Rows.uptoBulkAll]
    omega

end
end Go.Proofs.Ytjaplnainlbldaa

/- How great credentials are: the contract of the law's Great. -/
namespace Go.Proofs.Ytjaplnainlbldaa
open Go.RowKit

end Go.Proofs.Ytjaplnainlbldaa

/- Credentials that came in, one or a list, opened to cells; how much they hold. -/
namespace Go.Proofs.Ytjaplnainlbldaa
open Go.ChangeShapes Go.WideShapes Go.ChangeAt Go.RowKit Go.Deep

section
variable {H : Type} {enc : TypeId × Value → H} {w : World} {base : Nat} {held : Bool} {fuel : Nat}

end
end Go.Proofs.Ytjaplnainlbldaa
