/- The document's sorted: formulas in order, each once or as often as they come. -/
import Derived.Test.YtcbfieodjbfjdaaNc30
import Derived.StillTailTactics
namespace Go.Proofs.Ytcbfieodjbfjdaa
open Go.RowKit

theorem KeptN.len {once : Bool} {ks out : List FmB} (h : KeptN once ks out) : out.length ≤ ks.length := by
  obtain ⟨S, h1, _, rfl⟩ := h
  rw [← h1.length_eq]
  cases once with
  | false => exact Nat.le_refl _
  | true => exact cmpct_len S
theorem rd_take {w : World} {ao : Option Addr} {ls : List DE} (h : RdD w ao ls) (i : Nat) : RdD w ao (ls.take i) := fun j hj => by
  have hj2 : j < ls.length := by rw [List.length_take] at hj; omega
  rw [List.getElem_take]
  exact h j hj2
theorem rd_drop {w : World} {G : Nat} {ls : List DE} (h : RdD w (some ⟨G, 0, none⟩) ls) (i : Nat) : RdD w (some ⟨G, i * 5, none⟩) (ls.drop i) := fun j hj => by
  have hj2 : i + j < ls.length := by rw [List.length_drop] at hj; omega
  obtain ⟨b, off, e, hc⟩ := h (i + j) hj2
  cases e
  rw [List.getElem_drop]
  exact ⟨G, i * 5, rfl, by rw [show i * 5 + j * 5 = 0 + (i + j) * 5 by omega]; exact hc⟩
theorem rd_drop_nil {w : World} {ao : Option Addr} {ls : List DE} (_h : RdD w ao ls) {i : Nat} (hi : ls.length ≤ i) (bo : Option Addr) : RdD w bo (ls.drop i) := fun j hj => by
  rw [List.length_drop] at hj; omega
theorem insD {B : Nat} {w8 : World} (k : DE) (hB : B ≤ w8.heap.size) (a1 : Option Addr) (n1 c1 : Nat) {As : List DE} (hn1 : n1 = As.length) (hz1 : a1 = none → c1 = 0) (hp1 : ∀ a, a1 = some a → a.spot = none) (hs1 : RdD w8 a1 As) (a3 : Option Addr) (n3 c3 : Nat) {Cs : List DE} (hn3 : n3 = Cs.length) (hz3 : a3 = none → c3 = 0) (hp3 : ∀ a, a3 = some a → a.spot = none) (hs3 : RdD w8 a3 Cs) (hlen : As.length + Cs.length ≤ 1000000) :
    ∃ v1 w1 v2 w2 v3 w3, (Builtin.append_ #[24, 24] 24 #[.slice (some ⟨w8.heap.size, 0, none⟩) 0 0, .slice a1 n1 c1]).run Try.prog (w8.alloc (.cells #[] 26)) = .ok v1 w1 ∧ Chg (fun _ => False) w8 w1 ∧
      (Builtin.append_ #[24, 24] 24 #[v1, .slice (some ⟨w1.heap.size, 0, none⟩) 1 1]).run Try.prog (w1.alloc (.cells #[.int .i64 k.f.op, .int .i64 k.f.k, .string ⟨k.f.r.1.toArray⟩, .string ⟨k.f.r.2.toArray⟩, .slice k.ao k.f.kids.length k.cp] 26)) = .ok v2 w2 ∧
      (Builtin.append_ #[24, 24] 24 #[v2, .slice a3 n3 c3]).run Try.prog w2 = .ok v3 w3 ∧ w3.ownsRow B 26 5 v3 (As ++ k :: Cs).length (rowD (As ++ k :: Cs)) ∧ Chg (fun _ => False) w8 w3 := by
  have c0 : Chg (fun _ => False) w8 (w8.alloc (.cells #[] 26)) := (Chg.refl _ w8).alloc _
  have h0 : (w8.alloc (.cells #[] 26)).ownsRow w8.heap.size 26 5 (.slice (some ⟨w8.heap.size, 0, none⟩) 0 0) ([] : List DE).length (rowD []) := World.ownsRow_made w8 #[] 0 (Nat.le_refl _) (by decide) rfl
  obtain ⟨v1, w1, k1, r1, d1, _⟩ := runD 24 h0 a1 n1 c1 hn1 hz1 hp1 (hs1.keep c0) (by simp; omega) (by have := c0.size; omega)
  have c1' : Chg (fun _ => False) w8 w1 := c0.trans d1 (fun i hi e => by simp [Value.ownBlock] at e; omega)
  have c2 : Chg (fun _ => False) w1 (w1.alloc (.cells #[.int .i64 k.f.op, .int .i64 k.f.k, .string ⟨k.f.r.1.toArray⟩, .string ⟨k.f.r.2.toArray⟩, .slice k.ao k.f.kids.length k.cp] 26)) := (Chg.refl _ w1).alloc _
  obtain ⟨v2, w2, k2, r2, d2, _⟩ := runD 24 (ownsRow_keep r1 c2 (fun _ _ => id)) (some ⟨w1.heap.size, 0, none⟩) 1 1 (us := [k]) rfl (fun e => by cases e) (fun a e => by cases e; rfl) (rd_new w1 k) (by simp; omega) (by have := c1'.size; have := c2.size; omega)
  have c3' : Chg (fun _ => False) w8 w2 := (c1'.trans c2 (fun _ _ h => h)).trans d2 (fun i hi e => by have := (r1.lt i e).1; omega)
  obtain ⟨v3, w3, k3, r3, d3, _⟩ := runD 24 r2 a3 n3 c3 hn3 hz3 hp3 (hs3.keep c3') (by simp; omega) (by have := c3'.size; omega)
  refine ⟨v1, w1, v2, w2, v3, w3, k1, c1', k2, k3, ?_, c3'.trans d3 (fun i hi e => by have := (r2.lt i e).1; omega)⟩
  have e : As ++ k :: Cs = ([] ++ As ++ [k]) ++ Cs := by simp
  rw [e]
  exact ownsRow_lowK r3 hB
/-- All behind the first i are greater than k. -/
def AllGt (k : DE) (os : List DE) (i : Nat) : Prop := ∀ m (h : m < os.length), i ≤ m → gtN k.f os[m].f = true
theorem AllGt.drop {k : DE} {os : List DE} {i : Nat} (h : AllGt k os i) : ∀ x ∈ (os.drop i).map (·.f), gtN k.f x = true := by
  intro x hx
  obtain ⟨e, he, rfl⟩ := List.mem_map.1 hx
  obtain ⟨m, hm, rfl⟩ := List.getElem_of_mem he
  rw [List.getElem_drop]
  have hm2 : i + m < os.length := by rw [List.length_drop] at hm; omega
  exact h (i + m) hm2 (by omega)
def SortedPost (once : Bool) (ls : List DE) (w : World) (e : Ending) (w' : World) : Prop :=
  ∃ (os : List DE) (oo : Option Addr) (oc : Nat), e = .returned (.slice oo os.length oc) ∧ w'.ownsRow w.heap.size 26 5 (.slice oo os.length oc) os.length (rowD os) ∧ (∀ o ∈ os, o ∈ ls) ∧ KeptN once (ls.map (·.f)) (os.map (·.f)) ∧ Chg (fun _ => False) w w'

set_option maxRecDepth 100000 in
set_option maxHeartbeats 16000000 in
theorem rnsorted {D : Nat → Prop} (once : Bool) (ao : Option Addr) (n cp : Nat) (ls : List DE) (w : World) (hn : n = ls.length) (hrd : RdD w ao ls) (hok : ∀ e ∈ ls, DOk D w e) (hl : ls.length ≤ 4000) :
    Calls Try.prog 52 #[.slice ao n cp, .bool once] w (SortedPost once ls w) := by
  have H := hid (And.intro hn (And.intro hrd (And.intro hok hl)))
  have hnb : n ≤ 4000 := by omega
  obtain ⟨B, hB⟩ : ∃ B, B = w.heap.size := ⟨_, rfl⟩
  have HB := hid hB
  clear hn hrd hok hl hB
  go_enter Try.func52, Try.ntmps52
  go_wp2
  go_loopw [5, 12] (fun v i wr => ∃ (j : Nat) (os : List DE) (oo : Option Addr) (on oc : Nat), j ≤ n ∧ i = .int .i64 j ∧ v = .slice oo on oc ∧ Hid (on = os.length ∧ wr.ownsRow B 26 5 (.slice oo on oc) os.length (rowD os) ∧ (∀ o ∈ os, o ∈ ls) ∧ KeptN once ((ls.take j).map (·.f)) (os.map (·.f)) ∧ Chg (fun _ => False) w wr)) (fun _ i _ => n - (intOf i).toNat)
  case atStart => exact ⟨0, [], none, 0, 0, Nat.zero_le _, rfl, rfl, hid ⟨rfl, World.ownsRow_nil _ _ _ _, fun _ h => (by cases h), KeptN.nil once, Chg.refl _ _⟩⟩
  case round =>
    obtain ⟨j, os, oo, on, oc, hj, rfl, rfl, hrel⟩ := hrel
    by_cases hlt : j < n
    · have hjk : j < ls.length := by rw [← H.out.1]; exact hlt
      obtain ⟨b0, off0, rfl, a0, a1, a2, a3, a4⟩ := (H.out.2.1.keep hrel.out.2.2.2.2) j hjk
      have hkm := List.getElem_mem hjk
      have hkd := (H.out.2.2.1 _ hkm).keep hrel.out.2.2.2.2 (fun _ _ => id)
      have htk : (ls.take (j + 1)).map (·.f) = (ls.take j).map (·.f) ++ [ls[j].f] := by rw [List.take_succ_eq_append_getElem hjk, List.map_append]; rfl
      have hol : os.length ≤ 4000 := by
        have h1 := hrel.out.2.2.2.1.len
        rw [List.length_map, List.length_map, List.length_take] at h1
        omega
      generalize ls[j] = k at *
      have hcB : Chg (fun _ => False) wr (wr.alloc (.cells #[.int .i64 k.f.op, .int .i64 k.f.k, .string ⟨k.f.r.1.toArray⟩, .string ⟨k.f.r.2.toArray⟩, .slice k.ao k.f.kids.length k.cp] 26)) := (Chg.refl _ wr).alloc _
      have hyb := heap_alloc_new wr (.cells #[.int .i64 k.f.op, .int .i64 k.f.k, .string ⟨k.f.r.1.toArray⟩, .string ⟨k.f.r.2.toArray⟩, .slice k.ao k.f.kids.length k.cp] 26)
      have HYY := hid hyb
      have HR := hid (show on = os.length ∧ (wr.alloc (.cells #[.int .i64 k.f.op, .int .i64 k.f.k, .string ⟨k.f.r.1.toArray⟩, .string ⟨k.f.r.2.toArray⟩, .slice k.ao k.f.kids.length k.cp] 26)).ownsRow B 26 5 (.slice oo on oc) os.length (rowD os) ∧ B ≤ (wr.alloc (.cells #[.int .i64 k.f.op, .int .i64 k.f.k, .string ⟨k.f.r.1.toArray⟩, .string ⟨k.f.r.2.toArray⟩, .slice k.ao k.f.kids.length k.cp] 26)).heap.size ∧ Chg (fun _ => False) w (wr.alloc (.cells #[.int .i64 k.f.op, .int .i64 k.f.k, .string ⟨k.f.r.1.toArray⟩, .string ⟨k.f.r.2.toArray⟩, .slice k.ao k.f.kids.length k.cp] 26)) ∧ os.length ≤ 4000 from ⟨hrel.out.1, ownsRow_keep hrel.out.2.1 hcB (fun _ _ => id), by rw [HB.out]; exact Nat.le_trans hrel.out.2.2.2.2.size hcB.size, hrel.out.2.2.2.2.trans hcB (fun _ _ h => h), hol⟩)
      have HK := hid (And.intro hkm (And.intro (hkd.keep hcB (fun _ _ => id)) (And.intro htk (And.intro hrel.out.2.2.1 hrel.out.2.2.2.1))))
      have hob : on ≤ 4000 := by have := hrel.out.1; omega
      clear hrel hkm hkd htk hol hcB hyb hjk
      go_wp2
      clear a0 a1 a2 a3 a4
      generalize wr.alloc (.cells #[.int .i64 k.f.op, .int .i64 k.f.k, .string ⟨k.f.r.1.toArray⟩, .string ⟨k.f.r.2.toArray⟩, .slice k.ao k.f.kids.length k.cp] 26) = wy at *
      generalize wr.heap.size = Y at *
      go_loopw [8] (fun s8 wr => ∃ i : Nat, i ≤ on ∧ s8 = .int .i64 i ∧ Hid (AllGt k os i ∧ Chg (fun _ => False) wy wr)) (fun s8 _ => (intOf s8).toNat)
      case atStart => exact ⟨on, Nat.le_refl _, rfl, hid ⟨fun m hm hle => by have := HR.out.1; omega, Chg.refl _ _⟩⟩
      case round =>
        obtain ⟨i, hi, rfl, hrel2⟩ := hrel
        have HY := hid (blk_keep HYY.out hrel2.out.2 id)
        have HE0 := hid (show on = os.length ∧ wr.ownsRow B 26 5 (.slice oo on oc) os.length (rowD os) ∧ B ≤ wr.heap.size ∧ Chg (fun _ => False) w wr ∧ os.length ≤ 4000 from ⟨HR.out.1, ownsRow_keep HR.out.2.1 hrel2.out.2 (fun _ _ => id), Nat.le_trans HR.out.2.2.1 hrel2.out.2.size, HR.out.2.2.2.1.trans hrel2.out.2 (fun _ _ h => h), HR.out.2.2.2.2⟩)
        have hsplit : os.map (·.f) = (os.take i).map (·.f) ++ (os.drop i).map (·.f) := by rw [← List.map_append, List.take_append_drop]
        have hkp := HK.out.2.2.2.2
        rw [hsplit] at hkp
        have hparts := fun hA => hkp.parts (k := k.f) hrel2.out.1.drop hA
        have hmi : ∀ o ∈ os.take i ++ k :: os.drop i, o ∈ ls := fun o ho => by
          rw [List.mem_append, List.mem_cons] at ho
          rcases ho with h | rfl | h
          · exact HK.out.2.2.2.1 o (List.mem_of_mem_take h)
          · exact HK.out.1
          · exact HK.out.2.2.2.1 o (List.mem_of_mem_drop h)
        have hmp : (os.take i).map (·.f) ++ k.f :: (os.drop i).map (·.f) = (os.take i ++ k :: os.drop i).map (·.f) := by simp
        by_cases hi0 : i = 0
        · have HLN : Hid (((os.take i).map (·.f)).getLast? ≠ some k.f) := hid (by rw [hi0]; simp)
          have HPJ : Hid ((once = false ∨ ((os.take i).map (·.f)).getLast? ≠ some k.f) → (∀ o ∈ os.take i ++ k :: os.drop i, o ∈ ls) ∧ KeptN once ((ls.take (j + 1)).map (·.f)) ((os.take i ++ k :: os.drop i).map (·.f))) := hid (fun h => ⟨hmi, by
            have := (hparts (fun x hx => by rw [hi0] at hx; simp at hx)).2 h
            rw [hmp, ← HK.out.2.2.1] at this
            exact this⟩)
          have HI0 := hid hi0
          clear hrel2 hsplit hkp hparts hmi hmp HR HYY hi0
          go_wp2
          refine wp_region_specs [.any, .any, .any, .any, .any, .eq (.slice oo on oc), .any, .eq (.pointer (some ⟨Y, 0, none⟩)), .eq (.int .i64 i), .any, .any, .any, .any, .any, .any, .any, .any, .any, .eq (.int .i64 i), .eq (.bool false), .eq (.bool false), .any, .any, .any, .any, .any, .any, .any, .any, .eq (.bool false), .any, .any, .any, .any, .any, .any, .any, .any, .any, .any, .any, .any, .any, .any, .any, .any, .any, .any, .any, .any, .any, .any, .any, .any, .any, .any, .any, .any, .any, .any, .any, .any] [18, 19, 20, 21, 22, 23, 24, 25, 26, 27, 28, 29] [5, 7, 8] (by kernel_rfl) (by kernel_rfl) (by rfl) (by kernel_rfl) ?startB ?obsB ?finB
          case startB =>
            simp only [List.forall_mem_cons]; exact ⟨⟨_, rfl, rfl⟩, ⟨_, rfl, rfl⟩, ⟨_, rfl, rfl⟩, fun _ h => by cases h⟩
          case obsB =>
            clear HE0 HPJ
            refine Obs.cons none (by kernel_rfl) ?_ ?_
            · refine Ob.plain fun a w9 hR hk K k9 => ?_
              obtain ⟨_, e8, f8⟩ := hk 8 (by decide)
              clear hk
              go_simp
              exact k9 _ _ (Chg.refl _ _) f8
            refine Obs.cons none (by kernel_rfl) ?_ ?_
            · refine Ob.plain fun a w9 hR hk K k9 => ?_
              obtain ⟨_, e18, rfl⟩ := hk 18 (by decide)
              clear hk
              have hz9 : decide ((0 : Int) < (i : Int)) = false := decide_eq_false (by have := HI0.out; omega)
              have hz8 : decide (0 < i) = false := decide_eq_false (by have := HI0.out; omega)
              have hz7 : ¬ 0 < i := by have := HI0.out; omega
              go_simp
              exact k9 _ _ (Chg.refl _ _) rfl
            refine Obs.cons none (by kernel_rfl) ?_ ?_
            · refine Ob.plain fun a w9 hR hk K k9 => ?_
              obtain ⟨_, e19, f19⟩ := hk 19 (by decide)
              clear hk
              go_simp
              exact k9 _ _ (Chg.refl _ _) f19
            refine Obs.cons (some (20, true)) (by kernel_rfl) ?_ ?_
            · exact Ob.no (fun _ _ h => h) (Chg.refl _) (fun _ _ => trivial)
            refine Obs.cons (some (20, true)) (by kernel_rfl) ?_ ?_
            · exact Ob.no (fun _ _ h => h) (Chg.refl _) (fun _ _ => trivial)
            refine Obs.cons (some (20, true)) (by kernel_rfl) ?_ ?_
            · exact Ob.no (fun _ _ h => h) (Chg.refl _) (fun _ _ => trivial)
            refine Obs.cons (some (20, true)) (by kernel_rfl) ?_ ?_
            · exact Ob.no (fun _ _ h => h) (Chg.refl _) (fun _ _ => trivial)
            refine Obs.cons (some (20, true)) (by kernel_rfl) ?_ ?_
            · exact Ob.no (fun _ _ h => h) (Chg.refl _) (fun _ _ => trivial)
            refine Obs.cons (some (20, true)) (by kernel_rfl) ?_ ?_
            · exact Ob.no (fun _ _ h => h) (Chg.refl _) (fun _ _ => trivial)
            refine Obs.cons (some (20, true)) (by kernel_rfl) ?_ ?_
            · exact Ob.no (fun _ _ h => h) (Chg.refl _) (fun _ _ => trivial)
            refine Obs.cons (some (20, true)) (by kernel_rfl) ?_ ?_
            · exact Ob.no (fun _ _ h => h) (Chg.refl _) (fun _ _ => trivial)
            refine Obs.cons none (by kernel_rfl) ?_ ?_
            · refine Ob.plain fun a w9 hR hk K k9 => ?_
              obtain ⟨_, e20, rfl⟩ := hk 20 (by decide)
              obtain ⟨_, e28, _⟩ := hk 28 (by decide)
              clear hk
              go_simp
              exact k9 _ _ (Chg.refl _ _) rfl
            exact Obs.nil
          case finB =>
            intro vals w9 hc9 hv
            have h29 : vals 29 = .bool false := hv 29 (by decide)
            simp only [putAll, List.setIfInBounds_toArray, List.set_cons_zero, List.set_cons_succ, h29]
            have HE := hid (show on = os.length ∧ w9.ownsRow B 26 5 (.slice oo on oc) os.length (rowD os) ∧ B ≤ w9.heap.size ∧ Chg (fun _ => False) w w9 ∧ os.length ≤ 4000 from ⟨HE0.out.1, ownsRow_keep HE0.out.2.1 hc9 (fun _ _ => id), Nat.le_trans HE0.out.2.2.1 hc9.size, HE0.out.2.2.2.1.trans hc9 (fun _ _ h => h), HE0.out.2.2.2.2⟩)
            have HY2 := hid (blk_keep HY.out hc9 id)
            clear HE0 HY hc9 hv h29
            have HY := HY2
            clear HY2
            go_wp2
            cases once with
            | false =>
              refine wp_region_specs [.any, .eq (.bool false), .any, .any, .any, .eq (.slice oo on oc), .any, .eq (.pointer (some ⟨Y, 0, none⟩)), .eq (.int .i64 i), .any, .any, .any, .any, .any, .any, .any, .any, .any, .any, .any, .any, .any, .any, .any, .any, .any, .any, .any, .any, .any, .any, .any, .eq (.bool false), .eq (.bool false), .any, .any, .eq (.bool false), .eq (.bool false), .any, .any, .any, .any, .any, .any, .any, .eq (.bool false), .any, .any, .any, .any, .any, .any, .any, .any, .any, .any, .any, .any, .any, .any, .any, .any] [32, 33, 34, 35, 36, 37, 38, 39, 40, 41, 42, 43, 44, 45] [1, 5, 7, 8] (by kernel_rfl) (by kernel_rfl) (by rfl) (by kernel_rfl) ?startC ?obsC ?finC
              case startC =>
                simp only [List.forall_mem_cons]; exact ⟨⟨_, rfl, rfl⟩, ⟨_, rfl, rfl⟩, ⟨_, rfl, rfl⟩, ⟨_, rfl, rfl⟩, fun _ h => by cases h⟩
              case obsC =>
                clear HPJ
                refine Obs.cons none (by kernel_rfl) ?_ ?_
                · refine Ob.plain fun a w9 hR hk K k9 => ?_
                  obtain ⟨_, e1, f1⟩ := hk 1 (by decide)
                  clear hk
                  go_simp
                  exact k9 _ _ (Chg.refl _ _) f1
                refine Obs.cons none (by kernel_rfl) ?_ ?_
                · refine Ob.plain fun a w9 hR hk K k9 => ?_
                  obtain ⟨_, e32, f32⟩ := hk 32 (by decide)
                  clear hk
                  go_simp
                  exact k9 _ _ (Chg.refl _ _) f32
                refine Obs.cons (some (33, true)) (by kernel_rfl) ?_ ?_
                · exact Ob.no (fun _ _ h => h) (Chg.refl _) (fun _ _ => trivial)
                refine Obs.cons (some (33, true)) (by kernel_rfl) ?_ ?_
                · exact Ob.no (fun _ _ h => h) (Chg.refl _) (fun _ _ => trivial)
                refine Obs.cons none (by kernel_rfl) ?_ ?_
                · refine Ob.plain fun a w9 hR hk K k9 => ?_
                  obtain ⟨_, e33, rfl⟩ := hk 33 (by decide)
                  obtain ⟨_, e35, _⟩ := hk 35 (by decide)
                  clear hk
                  go_simp
                  exact k9 _ _ (Chg.refl _ _) rfl
                refine Obs.cons none (by kernel_rfl) ?_ ?_
                · refine Ob.plain fun a w9 hR hk K k9 => ?_
                  obtain ⟨_, e36, f36⟩ := hk 36 (by decide)
                  clear hk
                  go_simp
                  exact k9 _ _ (Chg.refl _ _) f36
                refine Obs.cons (some (37, true)) (by kernel_rfl) ?_ ?_
                · exact Ob.no (fun _ _ h => h) (Chg.refl _) (fun _ _ => trivial)
                refine Obs.cons (some (37, true)) (by kernel_rfl) ?_ ?_
                · exact Ob.no (fun _ _ h => h) (Chg.refl _) (fun _ _ => trivial)
                refine Obs.cons (some (37, true)) (by kernel_rfl) ?_ ?_
                · exact Ob.no (fun _ _ h => h) (Chg.refl _) (fun _ _ => trivial)
                refine Obs.cons (some (37, true)) (by kernel_rfl) ?_ ?_
                · exact Ob.no (fun _ _ h => h) (Chg.refl _) (fun _ _ => trivial)
                refine Obs.cons (some (37, true)) (by kernel_rfl) ?_ ?_
                · exact Ob.no (fun _ _ h => h) (Chg.refl _) (fun _ _ => trivial)
                refine Obs.cons (some (37, true)) (by kernel_rfl) ?_ ?_
                · exact Ob.no (fun _ _ h => h) (Chg.refl _) (fun _ _ => trivial)
                refine Obs.cons (some (37, true)) (by kernel_rfl) ?_ ?_
                · exact Ob.no (fun _ _ h => h) (Chg.refl _) (fun _ _ => trivial)
                refine Obs.cons none (by kernel_rfl) ?_ ?_
                · refine Ob.plain fun a w9 hR hk K k9 => ?_
                  obtain ⟨_, e37, rfl⟩ := hk 37 (by decide)
                  obtain ⟨_, e44, _⟩ := hk 44 (by decide)
                  clear hk
                  go_simp
                  exact k9 _ _ (Chg.refl _ _) rfl
                exact Obs.nil
              case finC =>
                intro vals w9 hc9 hv
                have h45 : vals 45 = .bool false := hv 45 (by decide)
                simp only [putAll, List.setIfInBounds_toArray, List.set_cons_zero, List.set_cons_succ, h45]
                have HW8 := hid (show on = os.length ∧ w9.ownsRow B 26 5 (.slice oo on oc) os.length (rowD os) ∧ B ≤ w9.heap.size ∧ w9.heap[Y]? = some (.cells #[.int .i64 k.f.op, .int .i64 k.f.k, .string ⟨k.f.r.1.toArray⟩, .string ⟨k.f.r.2.toArray⟩, .slice k.ao k.f.kids.length k.cp] 26 (0, 0)) ∧ Chg (fun _ => False) w w9 ∧ os.length ≤ 4000 from ⟨HE.out.1, ownsRow_keep HE.out.2.1 hc9 (fun _ _ => id), Nat.le_trans HE.out.2.2.1 hc9.size, blk_keep HY.out hc9 id, HE.out.2.2.2.1.trans hc9 (fun _ _ h => h), HE.out.2.2.2.2⟩)
                clear hc9 hv h45
                have HPI := hid (HPJ.out (.inl rfl))
                clear HPJ
                have HRD := hid (own_rd HW8.out.2.1)
                obtain ⟨_, _, hsh, hz9, hoc, hp9⟩ := rowD_shape HW8.out.2.1
                injection hsh with hsh1 hshm hsh2
                rw [← hsh2, ← HW8.out.1] at hoc
                rw [← hsh1] at hp9
                rw [← hsh1, ← hsh2] at hz9
                clear hsh1 hshm hsh2
                cases oo with
                | none =>
                  have h0 := hz9 rfl
                  subst h0
                  have hi0 : i = 0 := by omega
                  have hn0 : on = 0 := by omega
                  subst hi0
                  subst hn0
                  clear hp9 hz9 hoc
                  obtain ⟨v1, w1, v2, w2, v3, w3, hap1, hc1, hap2, hap3, hrow3, hc3⟩ := insD (w8 := w9) k HW8.out.2.2.1 (none) 0 0 (As := os.take 0) (by rw [List.length_take]; have := HW8.out.1; omega) (fun e => by first | (cases e; done) | rfl) (fun a e => by first | (cases e; rfl) | cases e) (rd_take HRD.out 0) (none) (0) (0) (Cs := os.drop 0) (by rw [List.length_drop]; have := HW8.out.1; omega) (fun e => by first | (cases e; done) | rfl) (fun a e => by first | (cases e; rfl) | cases e) (rd_drop_nil HRD.out (by have := HW8.out.1; omega) none) (by rw [List.length_take, List.length_drop]; have := HW8.out.2.2.2.2.2; omega)
                  have hyb := blk_keep HW8.out.2.2.2.1 hc1 id
                  have y0 := cell_blk hyb 0
                  have y1 := cell_blk hyb 1
                  have y2 := cell_blk hyb 2
                  have y3 := cell_blk hyb 3
                  have y4 := cell_blk hyb 4
                  simp only [List.getElem?_toArray, List.getElem?_cons_zero, List.getElem?_cons_succ] at y0 y1 y2 y3 y4
                  obtain ⟨o9, c9, hv3, _⟩ := rowD_shape hrow3
                  subst hv3
                  obtain ⟨n9, hn9⟩ : ∃ n9, n9 = (os.take 0 ++ k :: os.drop 0).length := ⟨_, rfl⟩
                  have HEND := hid (show n9 = (os.take 0 ++ k :: os.drop 0).length ∧ w3.ownsRow B 26 5 (.slice o9 n9 c9) (os.take 0 ++ k :: os.drop 0).length (rowD (os.take 0 ++ k :: os.drop 0)) ∧ _ ∧ _ ∧ Chg (fun _ => False) w w3 from ⟨hn9, by rw [hn9]; exact hrow3, HPI.out.1, HPI.out.2, HW8.out.2.2.2.2.1.trans hc3 (fun _ _ h => h)⟩)
                  rw [← hn9] at hap3
                  skip
                  clear hyb hc1 hrow3 hc3 hn9 HPI HW8
                  go_wp2_with (at_builtin; first | refine wpList_append_runb rfl (.tmp 46) (.tmp 49) 24 rfl rfl rfl hap1 ?_ | refine wpList_append_runb rfl (.tmp 51) (.tmp 53) 24 rfl rfl rfl hap2 ?_ | refine wpList_append_runb rfl (.tmp 55) (.tmp 58) 24 rfl rfl rfl hap3 ?_)
                  clear hap1 hap2 hap3 y0 y1 y2 y3 y4
                  go_wp2
                  go_roundw
                  case rel => exact ⟨j + 1, os.take 0 ++ k :: os.drop 0, o9, n9, c9, hlt, by go_num, rfl, HEND⟩
                  case measure => simp [intOf]; omega
                | some a0 =>
                  obtain ⟨G, goff, gsp⟩ := a0
                  obtain ⟨q1, q2⟩ := hp9 _ rfl
                  simp only at q1 q2
                  subst q1 q2
                  clear hp9 hz9
                  by_cases hic : i = oc
                  · have hni : on = i := by omega
                    have hd0 : os.length ≤ i := by have := HW8.out.1; omega
                    obtain ⟨v1, w1, v2, w2, v3, w3, hap1, hc1, hap2, hap3, hrow3, hc3⟩ := insD (w8 := w9) k HW8.out.2.2.1 (some ⟨G, 0, none⟩) i oc (As := os.take i) (by rw [List.length_take]; have := HW8.out.1; omega) (fun e => by first | (cases e; done) | rfl) (fun a e => by first | (cases e; rfl) | cases e) (rd_take HRD.out i) (some ⟨G, 0, none⟩) (0) (0) (Cs := os.drop i) (by rw [List.length_drop]; have := HW8.out.1; omega) (fun e => by first | (cases e; done) | rfl) (fun a e => by first | (cases e; rfl) | cases e) (rd_drop_nil HRD.out hd0 _) (by rw [List.length_take, List.length_drop]; have := HW8.out.2.2.2.2.2; omega)
                    have hyb := blk_keep HW8.out.2.2.2.1 hc1 id
                    have y0 := cell_blk hyb 0
                    have y1 := cell_blk hyb 1
                    have y2 := cell_blk hyb 2
                    have y3 := cell_blk hyb 3
                    have y4 := cell_blk hyb 4
                    simp only [List.getElem?_toArray, List.getElem?_cons_zero, List.getElem?_cons_succ] at y0 y1 y2 y3 y4
                    obtain ⟨o9, c9, hv3, _⟩ := rowD_shape hrow3
                    subst hv3
                    obtain ⟨n9, hn9⟩ : ∃ n9, n9 = (os.take i ++ k :: os.drop i).length := ⟨_, rfl⟩
                    have HEND := hid (show n9 = (os.take i ++ k :: os.drop i).length ∧ w3.ownsRow B 26 5 (.slice o9 n9 c9) (os.take i ++ k :: os.drop i).length (rowD (os.take i ++ k :: os.drop i)) ∧ _ ∧ _ ∧ Chg (fun _ => False) w w3 from ⟨hn9, by rw [hn9]; exact hrow3, HPI.out.1, HPI.out.2, HW8.out.2.2.2.2.1.trans hc3 (fun _ _ h => h)⟩)
                    rw [← hn9] at hap3
                    subst hic
                    have hni2 := hni.symm
                    clear hni
                    subst hni2
                    clear hyb hc1 hrow3 hc3 hn9 HPI HW8
                    go_wp2_with (at_builtin; first | refine wpList_append_runb rfl (.tmp 46) (.tmp 49) 24 rfl rfl rfl hap1 ?_ | refine wpList_append_runb rfl (.tmp 51) (.tmp 53) 24 rfl rfl rfl hap2 ?_ | refine wpList_append_runb rfl (.tmp 55) (.tmp 58) 24 rfl rfl rfl hap3 ?_)
                    clear hap1 hap2 hap3 y0 y1 y2 y3 y4
                    go_wp2
                    go_roundw
                    case rel => exact ⟨j + 1, os.take i ++ k :: os.drop i, o9, n9, c9, hlt, by go_num, rfl, HEND⟩
                    case measure => simp [intOf]; omega
                  · have hil : i < oc := by omega
                    obtain ⟨v1, w1, v2, w2, v3, w3, hap1, hc1, hap2, hap3, hrow3, hc3⟩ := insD (w8 := w9) k HW8.out.2.2.1 (some ⟨G, 0, none⟩) i oc (As := os.take i) (by rw [List.length_take]; have := HW8.out.1; omega) (fun e => by first | (cases e; done) | rfl) (fun a e => by first | (cases e; rfl) | cases e) (rd_take HRD.out i) (some ⟨G, i * 5, none⟩) (on - i) (oc - i) (Cs := os.drop i) (by rw [List.length_drop]; have := HW8.out.1; omega) (fun e => by first | (cases e; done) | rfl) (fun a e => by first | (cases e; rfl) | cases e) (rd_drop HRD.out i) (by rw [List.length_take, List.length_drop]; have := HW8.out.2.2.2.2.2; omega)
                    have hyb := blk_keep HW8.out.2.2.2.1 hc1 id
                    have y0 := cell_blk hyb 0
                    have y1 := cell_blk hyb 1
                    have y2 := cell_blk hyb 2
                    have y3 := cell_blk hyb 3
                    have y4 := cell_blk hyb 4
                    simp only [List.getElem?_toArray, List.getElem?_cons_zero, List.getElem?_cons_succ] at y0 y1 y2 y3 y4
                    obtain ⟨o9, c9, hv3, _⟩ := rowD_shape hrow3
                    subst hv3
                    obtain ⟨n9, hn9⟩ : ∃ n9, n9 = (os.take i ++ k :: os.drop i).length := ⟨_, rfl⟩
                    have HEND := hid (show n9 = (os.take i ++ k :: os.drop i).length ∧ w3.ownsRow B 26 5 (.slice o9 n9 c9) (os.take i ++ k :: os.drop i).length (rowD (os.take i ++ k :: os.drop i)) ∧ _ ∧ _ ∧ Chg (fun _ => False) w w3 from ⟨hn9, by rw [hn9]; exact hrow3, HPI.out.1, HPI.out.2, HW8.out.2.2.2.2.1.trans hc3 (fun _ _ h => h)⟩)
                    rw [← hn9] at hap3
                    clear hic
                    clear hyb hc1 hrow3 hc3 hn9 HPI HW8
                    go_wp2_with (at_builtin; first | refine wpList_append_runb rfl (.tmp 46) (.tmp 49) 24 rfl rfl rfl hap1 ?_ | refine wpList_append_runb rfl (.tmp 51) (.tmp 53) 24 rfl rfl rfl hap2 ?_ | refine wpList_append_runb rfl (.tmp 55) (.tmp 58) 24 rfl rfl rfl hap3 ?_)
                    clear hap1 hap2 hap3 y0 y1 y2 y3 y4
                    go_wp2
                    go_roundw
                    case rel => exact ⟨j + 1, os.take i ++ k :: os.drop i, o9, n9, c9, hlt, by go_num, rfl, HEND⟩
                    case measure => simp [intOf]; omega
            | true =>
              refine wp_region_specs [.any, .eq (.bool true), .any, .any, .any, .eq (.slice oo on oc), .any, .eq (.pointer (some ⟨Y, 0, none⟩)), .eq (.int .i64 i), .any, .any, .any, .any, .any, .any, .any, .any, .any, .any, .any, .any, .any, .any, .any, .any, .any, .any, .any, .any, .any, .any, .any, .eq (.bool true), .eq (.bool true), .eq (.int .i64 i), .eq (.bool false), .eq (.bool false), .eq (.bool false), .any, .any, .any, .any, .any, .any, .any, .eq (.bool false), .any, .any, .any, .any, .any, .any, .any, .any, .any, .any, .any, .any, .any, .any, .any, .any] [32, 33, 34, 35, 36, 37, 38, 39, 40, 41, 42, 43, 44, 45] [1, 5, 7, 8] (by kernel_rfl) (by kernel_rfl) (by rfl) (by kernel_rfl) ?startC ?obsC ?finC
              case startC =>
                simp only [List.forall_mem_cons]; exact ⟨⟨_, rfl, rfl⟩, ⟨_, rfl, rfl⟩, ⟨_, rfl, rfl⟩, ⟨_, rfl, rfl⟩, fun _ h => by cases h⟩
              case obsC =>
                clear HPJ
                refine Obs.cons none (by kernel_rfl) ?_ ?_
                · refine Ob.plain fun a w9 hR hk K k9 => ?_
                  obtain ⟨_, e1, f1⟩ := hk 1 (by decide)
                  clear hk
                  go_simp
                  exact k9 _ _ (Chg.refl _ _) f1
                refine Obs.cons none (by kernel_rfl) ?_ ?_
                · refine Ob.plain fun a w9 hR hk K k9 => ?_
                  obtain ⟨_, e32, f32⟩ := hk 32 (by decide)
                  clear hk
                  go_simp
                  exact k9 _ _ (Chg.refl _ _) f32
                refine Obs.cons (some (33, true)) (by kernel_rfl) ?_ ?_
                · refine Ob.yes (fun _ _ h => h) fun a w9 hR hk K k9 => ?_
                  obtain ⟨_, e8, f8⟩ := hk 8 (by decide)
                  clear hk
                  go_simp
                  exact k9 _ _ (Chg.refl _ _) f8
                refine Obs.cons (some (33, true)) (by kernel_rfl) ?_ ?_
                · refine Ob.yes (fun _ _ h => h) fun a w9 hR hk K k9 => ?_
                  obtain ⟨_, e34, rfl⟩ := hk 34 (by decide)
                  clear hk
                  have hz9 : decide ((0 : Int) < (i : Int)) = false := decide_eq_false (by have := HI0.out; omega)
                  have hz7 : ¬ 0 < i := by have := HI0.out; omega
                  go_simp
                  exact k9 _ _ (Chg.refl _ _) rfl
                refine Obs.cons none (by kernel_rfl) ?_ ?_
                · refine Ob.plain fun a w9 hR hk K k9 => ?_
                  obtain ⟨_, e33, rfl⟩ := hk 33 (by decide)
                  obtain ⟨_, e35, rfl⟩ := hk 35 (by decide)
                  clear hk
                  go_simp
                  exact k9 _ _ (Chg.refl _ _) rfl
                refine Obs.cons none (by kernel_rfl) ?_ ?_
                · refine Ob.plain fun a w9 hR hk K k9 => ?_
                  obtain ⟨_, e36, f36⟩ := hk 36 (by decide)
                  clear hk
                  go_simp
                  exact k9 _ _ (Chg.refl _ _) f36
                refine Obs.cons (some (37, true)) (by kernel_rfl) ?_ ?_
                · exact Ob.no (fun _ _ h => h) (Chg.refl _) (fun _ _ => trivial)
                refine Obs.cons (some (37, true)) (by kernel_rfl) ?_ ?_
                · exact Ob.no (fun _ _ h => h) (Chg.refl _) (fun _ _ => trivial)
                refine Obs.cons (some (37, true)) (by kernel_rfl) ?_ ?_
                · exact Ob.no (fun _ _ h => h) (Chg.refl _) (fun _ _ => trivial)
                refine Obs.cons (some (37, true)) (by kernel_rfl) ?_ ?_
                · exact Ob.no (fun _ _ h => h) (Chg.refl _) (fun _ _ => trivial)
                refine Obs.cons (some (37, true)) (by kernel_rfl) ?_ ?_
                · exact Ob.no (fun _ _ h => h) (Chg.refl _) (fun _ _ => trivial)
                refine Obs.cons (some (37, true)) (by kernel_rfl) ?_ ?_
                · exact Ob.no (fun _ _ h => h) (Chg.refl _) (fun _ _ => trivial)
                refine Obs.cons (some (37, true)) (by kernel_rfl) ?_ ?_
                · exact Ob.no (fun _ _ h => h) (Chg.refl _) (fun _ _ => trivial)
                refine Obs.cons none (by kernel_rfl) ?_ ?_
                · refine Ob.plain fun a w9 hR hk K k9 => ?_
                  obtain ⟨_, e37, rfl⟩ := hk 37 (by decide)
                  obtain ⟨_, e44, _⟩ := hk 44 (by decide)
                  clear hk
                  go_simp
                  exact k9 _ _ (Chg.refl _ _) rfl
                exact Obs.nil
              case finC =>
                intro vals w9 hc9 hv
                have h45 : vals 45 = .bool false := hv 45 (by decide)
                simp only [putAll, List.setIfInBounds_toArray, List.set_cons_zero, List.set_cons_succ, h45]
                have HW8 := hid (show on = os.length ∧ w9.ownsRow B 26 5 (.slice oo on oc) os.length (rowD os) ∧ B ≤ w9.heap.size ∧ w9.heap[Y]? = some (.cells #[.int .i64 k.f.op, .int .i64 k.f.k, .string ⟨k.f.r.1.toArray⟩, .string ⟨k.f.r.2.toArray⟩, .slice k.ao k.f.kids.length k.cp] 26 (0, 0)) ∧ Chg (fun _ => False) w w9 ∧ os.length ≤ 4000 from ⟨HE.out.1, ownsRow_keep HE.out.2.1 hc9 (fun _ _ => id), Nat.le_trans HE.out.2.2.1 hc9.size, blk_keep HY.out hc9 id, HE.out.2.2.2.1.trans hc9 (fun _ _ h => h), HE.out.2.2.2.2⟩)
                clear hc9 hv h45
                have HPI := hid (HPJ.out (.inr HLN.out))
                clear HPJ
                have HRD := hid (own_rd HW8.out.2.1)
                obtain ⟨_, _, hsh, hz9, hoc, hp9⟩ := rowD_shape HW8.out.2.1
                injection hsh with hsh1 hshm hsh2
                rw [← hsh2, ← HW8.out.1] at hoc
                rw [← hsh1] at hp9
                rw [← hsh1, ← hsh2] at hz9
                clear hsh1 hshm hsh2
                cases oo with
                | none =>
                  have h0 := hz9 rfl
                  subst h0
                  have hi0 : i = 0 := by omega
                  have hn0 : on = 0 := by omega
                  subst hi0
                  subst hn0
                  clear hp9 hz9 hoc
                  obtain ⟨v1, w1, v2, w2, v3, w3, hap1, hc1, hap2, hap3, hrow3, hc3⟩ := insD (w8 := w9) k HW8.out.2.2.1 (none) 0 0 (As := os.take 0) (by rw [List.length_take]; have := HW8.out.1; omega) (fun e => by first | (cases e; done) | rfl) (fun a e => by first | (cases e; rfl) | cases e) (rd_take HRD.out 0) (none) (0) (0) (Cs := os.drop 0) (by rw [List.length_drop]; have := HW8.out.1; omega) (fun e => by first | (cases e; done) | rfl) (fun a e => by first | (cases e; rfl) | cases e) (rd_drop_nil HRD.out (by have := HW8.out.1; omega) none) (by rw [List.length_take, List.length_drop]; have := HW8.out.2.2.2.2.2; omega)
                  have hyb := blk_keep HW8.out.2.2.2.1 hc1 id
                  have y0 := cell_blk hyb 0
                  have y1 := cell_blk hyb 1
                  have y2 := cell_blk hyb 2
                  have y3 := cell_blk hyb 3
                  have y4 := cell_blk hyb 4
                  simp only [List.getElem?_toArray, List.getElem?_cons_zero, List.getElem?_cons_succ] at y0 y1 y2 y3 y4
                  obtain ⟨o9, c9, hv3, _⟩ := rowD_shape hrow3
                  subst hv3
                  obtain ⟨n9, hn9⟩ : ∃ n9, n9 = (os.take 0 ++ k :: os.drop 0).length := ⟨_, rfl⟩
                  have HEND := hid (show n9 = (os.take 0 ++ k :: os.drop 0).length ∧ w3.ownsRow B 26 5 (.slice o9 n9 c9) (os.take 0 ++ k :: os.drop 0).length (rowD (os.take 0 ++ k :: os.drop 0)) ∧ _ ∧ _ ∧ Chg (fun _ => False) w w3 from ⟨hn9, by rw [hn9]; exact hrow3, HPI.out.1, HPI.out.2, HW8.out.2.2.2.2.1.trans hc3 (fun _ _ h => h)⟩)
                  rw [← hn9] at hap3
                  skip
                  clear hyb hc1 hrow3 hc3 hn9 HPI HW8
                  go_wp2_with (at_builtin; first | refine wpList_append_runb rfl (.tmp 46) (.tmp 49) 24 rfl rfl rfl hap1 ?_ | refine wpList_append_runb rfl (.tmp 51) (.tmp 53) 24 rfl rfl rfl hap2 ?_ | refine wpList_append_runb rfl (.tmp 55) (.tmp 58) 24 rfl rfl rfl hap3 ?_)
                  clear hap1 hap2 hap3 y0 y1 y2 y3 y4
                  go_wp2
                  go_roundw
                  case rel => exact ⟨j + 1, os.take 0 ++ k :: os.drop 0, o9, n9, c9, hlt, by go_num, rfl, HEND⟩
                  case measure => simp [intOf]; omega
                | some a0 =>
                  obtain ⟨G, goff, gsp⟩ := a0
                  obtain ⟨q1, q2⟩ := hp9 _ rfl
                  simp only at q1 q2
                  subst q1 q2
                  clear hp9 hz9
                  by_cases hic : i = oc
                  · have hni : on = i := by omega
                    have hd0 : os.length ≤ i := by have := HW8.out.1; omega
                    obtain ⟨v1, w1, v2, w2, v3, w3, hap1, hc1, hap2, hap3, hrow3, hc3⟩ := insD (w8 := w9) k HW8.out.2.2.1 (some ⟨G, 0, none⟩) i oc (As := os.take i) (by rw [List.length_take]; have := HW8.out.1; omega) (fun e => by first | (cases e; done) | rfl) (fun a e => by first | (cases e; rfl) | cases e) (rd_take HRD.out i) (some ⟨G, 0, none⟩) (0) (0) (Cs := os.drop i) (by rw [List.length_drop]; have := HW8.out.1; omega) (fun e => by first | (cases e; done) | rfl) (fun a e => by first | (cases e; rfl) | cases e) (rd_drop_nil HRD.out hd0 _) (by rw [List.length_take, List.length_drop]; have := HW8.out.2.2.2.2.2; omega)
                    have hyb := blk_keep HW8.out.2.2.2.1 hc1 id
                    have y0 := cell_blk hyb 0
                    have y1 := cell_blk hyb 1
                    have y2 := cell_blk hyb 2
                    have y3 := cell_blk hyb 3
                    have y4 := cell_blk hyb 4
                    simp only [List.getElem?_toArray, List.getElem?_cons_zero, List.getElem?_cons_succ] at y0 y1 y2 y3 y4
                    obtain ⟨o9, c9, hv3, _⟩ := rowD_shape hrow3
                    subst hv3
                    obtain ⟨n9, hn9⟩ : ∃ n9, n9 = (os.take i ++ k :: os.drop i).length := ⟨_, rfl⟩
                    have HEND := hid (show n9 = (os.take i ++ k :: os.drop i).length ∧ w3.ownsRow B 26 5 (.slice o9 n9 c9) (os.take i ++ k :: os.drop i).length (rowD (os.take i ++ k :: os.drop i)) ∧ _ ∧ _ ∧ Chg (fun _ => False) w w3 from ⟨hn9, by rw [hn9]; exact hrow3, HPI.out.1, HPI.out.2, HW8.out.2.2.2.2.1.trans hc3 (fun _ _ h => h)⟩)
                    rw [← hn9] at hap3
                    subst hic
                    have hni2 := hni.symm
                    clear hni
                    subst hni2
                    clear hyb hc1 hrow3 hc3 hn9 HPI HW8
                    go_wp2_with (at_builtin; first | refine wpList_append_runb rfl (.tmp 46) (.tmp 49) 24 rfl rfl rfl hap1 ?_ | refine wpList_append_runb rfl (.tmp 51) (.tmp 53) 24 rfl rfl rfl hap2 ?_ | refine wpList_append_runb rfl (.tmp 55) (.tmp 58) 24 rfl rfl rfl hap3 ?_)
                    clear hap1 hap2 hap3 y0 y1 y2 y3 y4
                    go_wp2
                    go_roundw
                    case rel => exact ⟨j + 1, os.take i ++ k :: os.drop i, o9, n9, c9, hlt, by go_num, rfl, HEND⟩
                    case measure => simp [intOf]; omega
                  · have hil : i < oc := by omega
                    obtain ⟨v1, w1, v2, w2, v3, w3, hap1, hc1, hap2, hap3, hrow3, hc3⟩ := insD (w8 := w9) k HW8.out.2.2.1 (some ⟨G, 0, none⟩) i oc (As := os.take i) (by rw [List.length_take]; have := HW8.out.1; omega) (fun e => by first | (cases e; done) | rfl) (fun a e => by first | (cases e; rfl) | cases e) (rd_take HRD.out i) (some ⟨G, i * 5, none⟩) (on - i) (oc - i) (Cs := os.drop i) (by rw [List.length_drop]; have := HW8.out.1; omega) (fun e => by first | (cases e; done) | rfl) (fun a e => by first | (cases e; rfl) | cases e) (rd_drop HRD.out i) (by rw [List.length_take, List.length_drop]; have := HW8.out.2.2.2.2.2; omega)
                    have hyb := blk_keep HW8.out.2.2.2.1 hc1 id
                    have y0 := cell_blk hyb 0
                    have y1 := cell_blk hyb 1
                    have y2 := cell_blk hyb 2
                    have y3 := cell_blk hyb 3
                    have y4 := cell_blk hyb 4
                    simp only [List.getElem?_toArray, List.getElem?_cons_zero, List.getElem?_cons_succ] at y0 y1 y2 y3 y4
                    obtain ⟨o9, c9, hv3, _⟩ := rowD_shape hrow3
                    subst hv3
                    obtain ⟨n9, hn9⟩ : ∃ n9, n9 = (os.take i ++ k :: os.drop i).length := ⟨_, rfl⟩
                    have HEND := hid (show n9 = (os.take i ++ k :: os.drop i).length ∧ w3.ownsRow B 26 5 (.slice o9 n9 c9) (os.take i ++ k :: os.drop i).length (rowD (os.take i ++ k :: os.drop i)) ∧ _ ∧ _ ∧ Chg (fun _ => False) w w3 from ⟨hn9, by rw [hn9]; exact hrow3, HPI.out.1, HPI.out.2, HW8.out.2.2.2.2.1.trans hc3 (fun _ _ h => h)⟩)
                    rw [← hn9] at hap3
                    clear hic
                    clear hyb hc1 hrow3 hc3 hn9 HPI HW8
                    go_wp2_with (at_builtin; first | refine wpList_append_runb rfl (.tmp 46) (.tmp 49) 24 rfl rfl rfl hap1 ?_ | refine wpList_append_runb rfl (.tmp 51) (.tmp 53) 24 rfl rfl rfl hap2 ?_ | refine wpList_append_runb rfl (.tmp 55) (.tmp 58) 24 rfl rfl rfl hap3 ?_)
                    clear hap1 hap2 hap3 y0 y1 y2 y3 y4
                    go_wp2
                    go_roundw
                    case rel => exact ⟨j + 1, os.take i ++ k :: os.drop i, o9, n9, c9, hlt, by go_num, rfl, HEND⟩
                    case measure => simp [intOf]; omega
        · have hip : 0 < i := by omega
          have hil : i - 1 < os.length := by have := HR.out.1; omega
          obtain ⟨G, goff, rfl, hco⟩ := (own_rd HE0.out.2.1) (i - 1) hil
          obtain ⟨_, _, hsh, _, _, hp9⟩ := rowD_shape HE0.out.2.1
          injection hsh with hsh1 hshm hsh2
          obtain ⟨q1, _⟩ := hp9 _ hsh1.symm
          simp only at q1
          subst q1
          clear hsh1 hshm hsh2 hp9
          rw [Nat.zero_add] at hco
          have hod := (H.out.2.2.1 _ (HK.out.2.2.2.1 _ (List.getElem_mem hil)))
          have hlast : ((os.take i).map (·.f)).getLast? = some os[i - 1].f := by
            rw [List.getLast?_map, List.getLast?_take]
            rw [if_neg hi0, List.getElem?_eq_getElem hil]
            rfl
          have hnx : gtN k.f os[i - 1].f = true → AllGt k os (i - 1) := fun h m hm hle => by
            by_cases e : m = i - 1
            · subst e; exact h
            · exact hrel2.out.1 m hm (by omega)
          generalize os[i - 1] = o at *
          have HCY := hid hrel2.out.2
          have hkd := HK.out.2.1.keep hrel2.out.2 (fun _ _ => id)
          have hod2 := hod.keep HE0.out.2.2.2.1 (fun _ _ => id)
          have HCMP := hid (fun W (hW : Chg (fun _ => False) wr W) => by
            obtain ⟨n1, h1⟩ := hod2.at_
            obtain ⟨n2, h2⟩ := hkd.at_
            exact rncompare n1 o.f o.ao o.cp n2 k.f k.ao k.cp W (h1.keep hW (fun _ _ => id)) hod2.ok (by have := hod2.n; omega) (h2.keep hW (fun _ _ => id)) hkd.ok (by have := hkd.n; omega))
          have HSMF := hid (fun W (hW : Chg (fun _ => False) wr W) => by
            obtain ⟨n1, h1⟩ := hod2.at_
            obtain ⟨n2, h2⟩ := hkd.at_
            exact rn_same n1 o.f o.ao o.cp n2 k.f k.ao k.cp W (h1.keep hW (fun _ _ => id)) (h2.keep hW (fun _ _ => id)) (by have := hod2.n; omega) (by have := hkd.n; omega))
          have HZ : Hid (IntKind.i64.wrap ((i : Int) - 1) = ((i - 1 : Nat) : Int) ∧ (0 : Int) ≤ (i : Int) - 1 ∧ ((i : Int) - 1).toNat = i - 1 ∧ ((i - 1 : Nat) : Int) < (on : Int) ∧ ((i - 1 : Nat) : Int).toNat = i - 1) := hid ⟨by rw [IntKind.wrap_i64]; omega, by omega, by omega, by omega, by omega⟩
          have HI0 := hid hip
          obtain ⟨cm, hcm⟩ : ∃ cm, cm = cmpN o.f k.f := ⟨_, rfl⟩
          obtain ⟨gt, hgt⟩ : ∃ gt, gt = gtN k.f o.f := ⟨_, rfl⟩
          have HGT : Hid (decide ((0 : Int) < cm) = gt) := hid (by
            rw [hcm, hgt, Bool.eq_iff_iff, decide_eq_true_iff]
            exact cmpN_pos o.f k.f)
          rw [← hcm] at HCMP
          have HNX : Hid (gt = true → AllGt k os (i - 1)) := hid (by rw [hgt]; exact hnx)
          have HO := hid hco
          have HEX : Hid (gt = false → ∀ w9 : World, Chg (fun _ => False) wr w9 → ∃ b : Bool, Hid ((once = false ∨ ((os.take i).map (·.f)).getLast? ≠ some k.f) → (∀ o ∈ os.take i ++ k :: os.drop i, o ∈ ls) ∧ KeptN once ((ls.take (j + 1)).map (·.f)) ((os.take i ++ k :: os.drop i).map (·.f))) ∧ Hid (once = true → b = true → (∀ o ∈ os, o ∈ ls) ∧ KeptN once ((ls.take (j + 1)).map (·.f)) (os.map (·.f))) ∧ Hid (b = false → ((os.take i).map (·.f)).getLast? ≠ some k.f) ∧ ∀ W : World, Chg (fun _ => False) w9 W → Calls Try.prog 11 #[.agg #[.int .i64 o.f.op, .int .i64 o.f.k, .string ⟨o.f.r.1.toArray⟩, .string ⟨o.f.r.2.toArray⟩, .slice o.ao o.f.kids.length o.cp], .agg #[.int .i64 k.f.op, .int .i64 k.f.k, .string ⟨k.f.r.1.toArray⟩, .string ⟨k.f.r.2.toArray⟩, .slice k.ao k.f.kids.length k.cp]] W fun e w' => e = .returned (.bool b) ∧ Chg (fun _ => False) W w') := hid fun hgf w9 hc9 => by
            have hle : gtN k.f o.f = false := by rw [← hgt]; exact hgf
            have hp := hparts (fun x hx => by rw [hlast] at hx; cases hx; exact hle)
            obtain ⟨b, hb⟩ : ∃ b : Bool, b = true ↔ o.f = k.f := by
              classical exact ⟨decide (o.f = k.f), by simp⟩
            refine ⟨b, hid fun h => ⟨hmi, ?_⟩, hid fun ho hbt => ⟨HK.out.2.2.2.1, ?_⟩, hid fun hbf => ?_, fun W hW => ?_⟩
            · have := hp.2 h
              rw [hmp, ← HK.out.2.2.1] at this
              exact this
            · have := hp.1 ho (by rw [hlast, hb.1 hbt])
              rw [← hsplit, ← HK.out.2.2.1] at this
              exact this
            · rw [hlast]
              intro e
              rw [hb.2 (Option.some.inj e)] at hbf; cases hbf
            · refine (HSMF.out W (hc9.trans hW (fun _ _ h => h))).mono ?_
              rintro e w' ⟨b', rfl, hb', hc'⟩
              have : b' = b := by rw [Bool.eq_iff_iff, hb', hb]
              rw [this]
              exact ⟨rfl, hc'⟩
          clear hrel2 hsplit hkp hparts hmi hmp HR HYY hi0 hip hil hco hod hlast hnx hkd hod2 hcm hgt
          go_wp2
          refine wp_region_specs [.any, .any, .any, .any, .any, .eq (.slice (some ⟨G, 0, none⟩) on oc), .any, .eq (.pointer (some ⟨Y, 0, none⟩)), .eq (.int .i64 i), .any, .any, .any, .any, .any, .any, .any, .any, .any, .eq (.int .i64 i), .eq (.bool true), .eq (.bool true), .eq (.slice (some ⟨G, 0, none⟩) on oc), .eq (.int .i64 i), .eq (.int .i64 ((i - 1 : Nat) : Int)), .eq (.pointer (some ⟨G, (i - 1) * 5, none⟩)), .eq (.agg #[.int .i64 o.f.op, .int .i64 o.f.k, .string ⟨o.f.r.1.toArray⟩, .string ⟨o.f.r.2.toArray⟩, .slice o.ao o.f.kids.length o.cp]), .eq (.agg #[.int .i64 k.f.op, .int .i64 k.f.k, .string ⟨k.f.r.1.toArray⟩, .string ⟨k.f.r.2.toArray⟩, .slice k.ao k.f.kids.length k.cp]), .eq (.int .i64 cm), .eq (.bool gt), .eq (.bool gt), .any, .any, .any, .any, .any, .any, .any, .any, .any, .any, .any, .any, .any, .any, .any, .any, .any, .any, .any, .any, .any, .any, .any, .any, .any, .any, .any, .any, .any, .any, .any, .any] [18, 19, 20, 21, 22, 23, 24, 25, 26, 27, 28, 29] [5, 7, 8] (by kernel_rfl) (by kernel_rfl) (by rfl) (by kernel_rfl) ?startB ?obsB ?finB
          case startB =>
            simp only [List.forall_mem_cons]; exact ⟨⟨_, rfl, rfl⟩, ⟨_, rfl, rfl⟩, ⟨_, rfl, rfl⟩, fun _ h => by cases h⟩
          case obsB =>
            clear HE0 HSMF HNX HEX
            refine Obs.cons none (by kernel_rfl) ?_ ?_
            · refine Ob.plain fun a w9 hR hk K k9 => ?_
              obtain ⟨_, e8, f8⟩ := hk 8 (by decide)
              clear hk
              go_simp
              exact k9 _ _ (Chg.refl _ _) f8
            refine Obs.cons none (by kernel_rfl) ?_ ?_
            · refine Ob.plain fun a w9 hR hk K k9 => ?_
              obtain ⟨_, e18, rfl⟩ := hk 18 (by decide)
              clear hk
              have hz9 : decide ((0 : Int) < (i : Int)) = true := decide_eq_true (by have := HI0.out; omega)
              have hz8 : decide (0 < i) = true := decide_eq_true (by have := HI0.out; omega)
              have hz7 : 0 < i := by have := HI0.out; omega
              go_simp
              exact k9 _ _ (Chg.refl _ _) rfl
            refine Obs.cons none (by kernel_rfl) ?_ ?_
            · refine Ob.plain fun a w9 hR hk K k9 => ?_
              obtain ⟨_, e19, f19⟩ := hk 19 (by decide)
              clear hk
              go_simp
              exact k9 _ _ (Chg.refl _ _) f19
            refine Obs.cons (some (20, true)) (by kernel_rfl) ?_ ?_
            · refine Ob.yes (fun _ _ h => h) fun a w9 hR hk K k9 => ?_
              obtain ⟨_, e5, f5⟩ := hk 5 (by decide)
              clear hk
              go_simp
              exact k9 _ _ (Chg.refl _ _) f5
            refine Obs.cons (some (20, true)) (by kernel_rfl) ?_ ?_
            · refine Ob.yes (fun _ _ h => h) fun a w9 hR hk K k9 => ?_
              obtain ⟨_, e8, f8⟩ := hk 8 (by decide)
              clear hk
              go_simp
              exact k9 _ _ (Chg.refl _ _) f8
            refine Obs.cons (some (20, true)) (by kernel_rfl) ?_ ?_
            · refine Ob.yes (fun _ _ h => h) fun a w9 hR hk K k9 => ?_
              obtain ⟨_, e22, rfl⟩ := hk 22 (by decide)
              clear hk
              obtain ⟨z1, z2, z3, z4, z5⟩ := HZ.out
              go_simp
              exact k9 _ _ (Chg.refl _ _) rfl
            refine Obs.cons (some (20, true)) (by kernel_rfl) ?_ ?_
            · refine Ob.yes (fun _ _ h => h) fun a w9 hR hk K k9 => ?_
              obtain ⟨_, e21, rfl⟩ := hk 21 (by decide)
              obtain ⟨_, e23, rfl⟩ := hk 23 (by decide)
              clear hk
              obtain ⟨z1, z2, z3, z4, z5⟩ := HZ.out
              go_simp
              exact k9 _ _ (Chg.refl _ _) rfl
            refine Obs.cons (some (20, true)) (by kernel_rfl) ?_ ?_
            · refine Ob.yes (fun _ _ h => h) fun a w9 hR hk K k9 => ?_
              obtain ⟨_, e24, rfl⟩ := hk 24 (by decide)
              clear hk
              obtain ⟨c0, c1, c2, c3, c4⟩ := HO.out.keep hR id
              go_simp
              exact k9 _ _ (Chg.refl _ _) rfl
            refine Obs.cons (some (20, true)) (by kernel_rfl) ?_ ?_
            · refine Ob.yes (fun _ _ h => h) fun a w9 hR hk K k9 => ?_
              obtain ⟨_, e7, rfl⟩ := hk 7 (by decide)
              clear hk
              have hb9 := blk_keep HY.out hR id
              have c0 := cell_blk hb9 0
              have c1 := cell_blk hb9 1
              have c2 := cell_blk hb9 2
              have c3 := cell_blk hb9 3
              have c4 := cell_blk hb9 4
              simp only [List.getElem?_toArray, List.getElem?_cons_zero, List.getElem?_cons_succ] at c0 c1 c2 c3 c4
              clear hb9
              go_simp
              exact k9 _ _ (Chg.refl _ _) rfl
            refine Obs.cons (some (20, true)) (by kernel_rfl) ?_ ?_
            · refine Ob.yes (fun _ _ h => h) fun a w9 hR hk K k9 => ?_
              obtain ⟨_, e25, rfl⟩ := hk 25 (by decide)
              obtain ⟨_, e26, rfl⟩ := hk 26 (by decide)
              clear hk
              have hq := HCMP.out _ hR
              go_simp
              refine hq.mono ?_
              rintro e w5 ⟨rfl, hcc⟩
              exact k9 _ _ hcc rfl
            refine Obs.cons (some (20, true)) (by kernel_rfl) ?_ ?_
            · refine Ob.yes (fun _ _ h => h) fun a w9 hR hk K k9 => ?_
              obtain ⟨_, e27, rfl⟩ := hk 27 (by decide)
              clear hk
              have hz9 := HGT.out
              go_simp
              exact k9 _ _ (Chg.refl _ _) (by first | rfl | (show Value.bool _ = Value.bool _; simp [hz9]))
            refine Obs.cons none (by kernel_rfl) ?_ ?_
            · refine Ob.plain fun a w9 hR hk K k9 => ?_
              obtain ⟨_, e20, rfl⟩ := hk 20 (by decide)
              obtain ⟨_, e28, rfl⟩ := hk 28 (by decide)
              clear hk
              go_simp
              exact k9 _ _ (Chg.refl _ _) rfl
            exact Obs.nil
          case finB =>
            intro vals w9 hc9 hv
            have h29 : vals 29 = .bool gt := hv 29 (by decide)
            simp only [putAll, List.setIfInBounds_toArray, List.set_cons_zero, List.set_cons_succ, h29]
            clear hv h29 HCMP
            cases gt with
            | true =>
              have HNX2 := hid (show AllGt k os (i - 1) ∧ Chg (fun _ => False) wy w9 from ⟨HNX.out rfl, HCY.out.trans hc9 (fun _ _ h => h)⟩)
              have h7 := HI0.out
              clear HE0 hc9 HSMF HO HEX HGT
              go_wp2
              go_roundw
              case rel => exact ⟨i - 1, by omega, by first | rfl | (congr 1; omega) | go_num, HNX2⟩
              case measure => simp [intOf]; omega
            | false =>
              have HE := hid (show on = os.length ∧ w9.ownsRow B 26 5 (.slice (some ⟨G, 0, none⟩) on oc) os.length (rowD os) ∧ B ≤ w9.heap.size ∧ Chg (fun _ => False) w w9 ∧ os.length ≤ 4000 from ⟨HE0.out.1, ownsRow_keep HE0.out.2.1 hc9 (fun _ _ => id), Nat.le_trans HE0.out.2.2.1 hc9.size, HE0.out.2.2.2.1.trans hc9 (fun _ _ h => h), HE0.out.2.2.2.2⟩)
              have HY2 := hid (blk_keep HY.out hc9 id)
              have HO2 := hid (HO.out.keep hc9 id)
              obtain ⟨b, HPJ, HSK0, HLP, hsm⟩ := HEX.out rfl w9 hc9
              have HSM := hid hsm
              clear hsm
              clear HE0 HY hc9 HO HSMF HEX HNX HGT
              have HY := HY2
              have HO := HO2
              clear HY2 HO2
              go_wp2
              cases once with
              | false =>
                refine wp_region_specs [.any, .eq (.bool false), .any, .any, .any, .eq (.slice (some ⟨G, 0, none⟩) on oc), .any, .eq (.pointer (some ⟨Y, 0, none⟩)), .eq (.int .i64 i), .any, .any, .any, .any, .any, .any, .any, .any, .any, .any, .any, .any, .any, .any, .any, .any, .any, .any, .any, .any, .any, .any, .any, .eq (.bool false), .eq (.bool false), .any, .any, .eq (.bool false), .eq (.bool false), .any, .any, .any, .any, .any, .any, .any, .eq (.bool false), .any, .any, .any, .any, .any, .any, .any, .any, .any, .any, .any, .any, .any, .any, .any, .any] [32, 33, 34, 35, 36, 37, 38, 39, 40, 41, 42, 43, 44, 45] [1, 5, 7, 8] (by kernel_rfl) (by kernel_rfl) (by rfl) (by kernel_rfl) ?startC ?obsC ?finC
                case startC =>
                  simp only [List.forall_mem_cons]; exact ⟨⟨_, rfl, rfl⟩, ⟨_, rfl, rfl⟩, ⟨_, rfl, rfl⟩, ⟨_, rfl, rfl⟩, fun _ h => by cases h⟩
                case obsC =>
                  clear HPJ
                  refine Obs.cons none (by kernel_rfl) ?_ ?_
                  · refine Ob.plain fun a w9 hR hk K k9 => ?_
                    obtain ⟨_, e1, f1⟩ := hk 1 (by decide)
                    clear hk
                    go_simp
                    exact k9 _ _ (Chg.refl _ _) f1
                  refine Obs.cons none (by kernel_rfl) ?_ ?_
                  · refine Ob.plain fun a w9 hR hk K k9 => ?_
                    obtain ⟨_, e32, f32⟩ := hk 32 (by decide)
                    clear hk
                    go_simp
                    exact k9 _ _ (Chg.refl _ _) f32
                  refine Obs.cons (some (33, true)) (by kernel_rfl) ?_ ?_
                  · exact Ob.no (fun _ _ h => h) (Chg.refl _) (fun _ _ => trivial)
                  refine Obs.cons (some (33, true)) (by kernel_rfl) ?_ ?_
                  · exact Ob.no (fun _ _ h => h) (Chg.refl _) (fun _ _ => trivial)
                  refine Obs.cons none (by kernel_rfl) ?_ ?_
                  · refine Ob.plain fun a w9 hR hk K k9 => ?_
                    obtain ⟨_, e33, rfl⟩ := hk 33 (by decide)
                    obtain ⟨_, e35, _⟩ := hk 35 (by decide)
                    clear hk
                    go_simp
                    exact k9 _ _ (Chg.refl _ _) rfl
                  refine Obs.cons none (by kernel_rfl) ?_ ?_
                  · refine Ob.plain fun a w9 hR hk K k9 => ?_
                    obtain ⟨_, e36, f36⟩ := hk 36 (by decide)
                    clear hk
                    go_simp
                    exact k9 _ _ (Chg.refl _ _) f36
                  refine Obs.cons (some (37, true)) (by kernel_rfl) ?_ ?_
                  · exact Ob.no (fun _ _ h => h) (Chg.refl _) (fun _ _ => trivial)
                  refine Obs.cons (some (37, true)) (by kernel_rfl) ?_ ?_
                  · exact Ob.no (fun _ _ h => h) (Chg.refl _) (fun _ _ => trivial)
                  refine Obs.cons (some (37, true)) (by kernel_rfl) ?_ ?_
                  · exact Ob.no (fun _ _ h => h) (Chg.refl _) (fun _ _ => trivial)
                  refine Obs.cons (some (37, true)) (by kernel_rfl) ?_ ?_
                  · exact Ob.no (fun _ _ h => h) (Chg.refl _) (fun _ _ => trivial)
                  refine Obs.cons (some (37, true)) (by kernel_rfl) ?_ ?_
                  · exact Ob.no (fun _ _ h => h) (Chg.refl _) (fun _ _ => trivial)
                  refine Obs.cons (some (37, true)) (by kernel_rfl) ?_ ?_
                  · exact Ob.no (fun _ _ h => h) (Chg.refl _) (fun _ _ => trivial)
                  refine Obs.cons (some (37, true)) (by kernel_rfl) ?_ ?_
                  · exact Ob.no (fun _ _ h => h) (Chg.refl _) (fun _ _ => trivial)
                  refine Obs.cons none (by kernel_rfl) ?_ ?_
                  · refine Ob.plain fun a w9 hR hk K k9 => ?_
                    obtain ⟨_, e37, rfl⟩ := hk 37 (by decide)
                    obtain ⟨_, e44, _⟩ := hk 44 (by decide)
                    clear hk
                    go_simp
                    exact k9 _ _ (Chg.refl _ _) rfl
                  exact Obs.nil
                case finC =>
                  intro vals w9 hc9 hv
                  have h45 : vals 45 = .bool false := hv 45 (by decide)
                  simp only [putAll, List.setIfInBounds_toArray, List.set_cons_zero, List.set_cons_succ, h45]
                  have HW8 := hid (show on = os.length ∧ w9.ownsRow B 26 5 (.slice (some ⟨G, 0, none⟩) on oc) os.length (rowD os) ∧ B ≤ w9.heap.size ∧ w9.heap[Y]? = some (.cells #[.int .i64 k.f.op, .int .i64 k.f.k, .string ⟨k.f.r.1.toArray⟩, .string ⟨k.f.r.2.toArray⟩, .slice k.ao k.f.kids.length k.cp] 26 (0, 0)) ∧ Chg (fun _ => False) w w9 ∧ os.length ≤ 4000 from ⟨HE.out.1, ownsRow_keep HE.out.2.1 hc9 (fun _ _ => id), Nat.le_trans HE.out.2.2.1 hc9.size, blk_keep HY.out hc9 id, HE.out.2.2.2.1.trans hc9 (fun _ _ h => h), HE.out.2.2.2.2⟩)
                  clear hc9 hv h45
                  have HPI := hid (HPJ.out (.inl rfl))
                  clear HPJ
                  have HRD := hid (own_rd HW8.out.2.1)
                  obtain ⟨_, _, hsh, _, hoc, _⟩ := rowD_shape HW8.out.2.1
                  injection hsh with hsh1 hshm hsh2
                  rw [← hsh2, ← HW8.out.1] at hoc
                  clear hsh1 hshm hsh2
                  by_cases hic : i = oc
                  · have hni : on = i := by omega
                    have hd0 : os.length ≤ i := by have := HW8.out.1; omega
                    obtain ⟨v1, w1, v2, w2, v3, w3, hap1, hc1, hap2, hap3, hrow3, hc3⟩ := insD (w8 := w9) k HW8.out.2.2.1 (some ⟨G, 0, none⟩) i oc (As := os.take i) (by rw [List.length_take]; have := HW8.out.1; omega) (fun e => by first | (cases e; done) | rfl) (fun a e => by first | (cases e; rfl) | cases e) (rd_take HRD.out i) (some ⟨G, 0, none⟩) (0) (0) (Cs := os.drop i) (by rw [List.length_drop]; have := HW8.out.1; omega) (fun e => by first | (cases e; done) | rfl) (fun a e => by first | (cases e; rfl) | cases e) (rd_drop_nil HRD.out hd0 _) (by rw [List.length_take, List.length_drop]; have := HW8.out.2.2.2.2.2; omega)
                    have hyb := blk_keep HW8.out.2.2.2.1 hc1 id
                    have y0 := cell_blk hyb 0
                    have y1 := cell_blk hyb 1
                    have y2 := cell_blk hyb 2
                    have y3 := cell_blk hyb 3
                    have y4 := cell_blk hyb 4
                    simp only [List.getElem?_toArray, List.getElem?_cons_zero, List.getElem?_cons_succ] at y0 y1 y2 y3 y4
                    obtain ⟨o9, c9, hv3, _⟩ := rowD_shape hrow3
                    subst hv3
                    obtain ⟨n9, hn9⟩ : ∃ n9, n9 = (os.take i ++ k :: os.drop i).length := ⟨_, rfl⟩
                    have HEND := hid (show n9 = (os.take i ++ k :: os.drop i).length ∧ w3.ownsRow B 26 5 (.slice o9 n9 c9) (os.take i ++ k :: os.drop i).length (rowD (os.take i ++ k :: os.drop i)) ∧ _ ∧ _ ∧ Chg (fun _ => False) w w3 from ⟨hn9, by rw [hn9]; exact hrow3, HPI.out.1, HPI.out.2, HW8.out.2.2.2.2.1.trans hc3 (fun _ _ h => h)⟩)
                    rw [← hn9] at hap3
                    subst hic
                    have hni2 := hni.symm
                    clear hni
                    subst hni2
                    clear hyb hc1 hrow3 hc3 hn9 HPI HW8
                    go_wp2_with (at_builtin; first | refine wpList_append_runb rfl (.tmp 46) (.tmp 49) 24 rfl rfl rfl hap1 ?_ | refine wpList_append_runb rfl (.tmp 51) (.tmp 53) 24 rfl rfl rfl hap2 ?_ | refine wpList_append_runb rfl (.tmp 55) (.tmp 58) 24 rfl rfl rfl hap3 ?_)
                    clear hap1 hap2 hap3 y0 y1 y2 y3 y4
                    go_wp2
                    go_roundw
                    case rel => exact ⟨j + 1, os.take i ++ k :: os.drop i, o9, n9, c9, hlt, by go_num, rfl, HEND⟩
                    case measure => simp [intOf]; omega
                  · have hil : i < oc := by omega
                    obtain ⟨v1, w1, v2, w2, v3, w3, hap1, hc1, hap2, hap3, hrow3, hc3⟩ := insD (w8 := w9) k HW8.out.2.2.1 (some ⟨G, 0, none⟩) i oc (As := os.take i) (by rw [List.length_take]; have := HW8.out.1; omega) (fun e => by first | (cases e; done) | rfl) (fun a e => by first | (cases e; rfl) | cases e) (rd_take HRD.out i) (some ⟨G, i * 5, none⟩) (on - i) (oc - i) (Cs := os.drop i) (by rw [List.length_drop]; have := HW8.out.1; omega) (fun e => by first | (cases e; done) | rfl) (fun a e => by first | (cases e; rfl) | cases e) (rd_drop HRD.out i) (by rw [List.length_take, List.length_drop]; have := HW8.out.2.2.2.2.2; omega)
                    have hyb := blk_keep HW8.out.2.2.2.1 hc1 id
                    have y0 := cell_blk hyb 0
                    have y1 := cell_blk hyb 1
                    have y2 := cell_blk hyb 2
                    have y3 := cell_blk hyb 3
                    have y4 := cell_blk hyb 4
                    simp only [List.getElem?_toArray, List.getElem?_cons_zero, List.getElem?_cons_succ] at y0 y1 y2 y3 y4
                    obtain ⟨o9, c9, hv3, _⟩ := rowD_shape hrow3
                    subst hv3
                    obtain ⟨n9, hn9⟩ : ∃ n9, n9 = (os.take i ++ k :: os.drop i).length := ⟨_, rfl⟩
                    have HEND := hid (show n9 = (os.take i ++ k :: os.drop i).length ∧ w3.ownsRow B 26 5 (.slice o9 n9 c9) (os.take i ++ k :: os.drop i).length (rowD (os.take i ++ k :: os.drop i)) ∧ _ ∧ _ ∧ Chg (fun _ => False) w w3 from ⟨hn9, by rw [hn9]; exact hrow3, HPI.out.1, HPI.out.2, HW8.out.2.2.2.2.1.trans hc3 (fun _ _ h => h)⟩)
                    rw [← hn9] at hap3
                    clear hic
                    clear hyb hc1 hrow3 hc3 hn9 HPI HW8
                    go_wp2_with (at_builtin; first | refine wpList_append_runb rfl (.tmp 46) (.tmp 49) 24 rfl rfl rfl hap1 ?_ | refine wpList_append_runb rfl (.tmp 51) (.tmp 53) 24 rfl rfl rfl hap2 ?_ | refine wpList_append_runb rfl (.tmp 55) (.tmp 58) 24 rfl rfl rfl hap3 ?_)
                    clear hap1 hap2 hap3 y0 y1 y2 y3 y4
                    go_wp2
                    go_roundw
                    case rel => exact ⟨j + 1, os.take i ++ k :: os.drop i, o9, n9, c9, hlt, by go_num, rfl, HEND⟩
                    case measure => simp [intOf]; omega
              | true =>
                refine wp_region_specs [.any, .eq (.bool true), .any, .any, .any, .eq (.slice (some ⟨G, 0, none⟩) on oc), .any, .eq (.pointer (some ⟨Y, 0, none⟩)), .eq (.int .i64 i), .any, .any, .any, .any, .any, .any, .any, .any, .any, .any, .any, .any, .any, .any, .any, .any, .any, .any, .any, .any, .any, .any, .any, .eq (.bool true), .eq (.bool true), .eq (.int .i64 i), .eq (.bool true), .eq (.bool true), .eq (.bool true), .eq (.slice (some ⟨G, 0, none⟩) on oc), .eq (.int .i64 i), .eq (.int .i64 ((i - 1 : Nat) : Int)), .eq (.pointer (some ⟨G, (i - 1) * 5, none⟩)), .eq (.agg #[.int .i64 o.f.op, .int .i64 o.f.k, .string ⟨o.f.r.1.toArray⟩, .string ⟨o.f.r.2.toArray⟩, .slice o.ao o.f.kids.length o.cp]), .eq (.agg #[.int .i64 k.f.op, .int .i64 k.f.k, .string ⟨k.f.r.1.toArray⟩, .string ⟨k.f.r.2.toArray⟩, .slice k.ao k.f.kids.length k.cp]), .eq (.bool b), .eq (.bool b), .any, .any, .any, .any, .any, .any, .any, .any, .any, .any, .any, .any, .any, .any, .any, .any] [32, 33, 34, 35, 36, 37, 38, 39, 40, 41, 42, 43, 44, 45] [1, 5, 7, 8] (by kernel_rfl) (by kernel_rfl) (by rfl) (by kernel_rfl) ?startC ?obsC ?finC
                case startC =>
                  simp only [List.forall_mem_cons]; exact ⟨⟨_, rfl, rfl⟩, ⟨_, rfl, rfl⟩, ⟨_, rfl, rfl⟩, ⟨_, rfl, rfl⟩, fun _ h => by cases h⟩
                case obsC =>
                  clear HPJ HSK0
                  refine Obs.cons none (by kernel_rfl) ?_ ?_
                  · refine Ob.plain fun a w9 hR hk K k9 => ?_
                    obtain ⟨_, e1, f1⟩ := hk 1 (by decide)
                    clear hk
                    go_simp
                    exact k9 _ _ (Chg.refl _ _) f1
                  refine Obs.cons none (by kernel_rfl) ?_ ?_
                  · refine Ob.plain fun a w9 hR hk K k9 => ?_
                    obtain ⟨_, e32, f32⟩ := hk 32 (by decide)
                    clear hk
                    go_simp
                    exact k9 _ _ (Chg.refl _ _) f32
                  refine Obs.cons (some (33, true)) (by kernel_rfl) ?_ ?_
                  · refine Ob.yes (fun _ _ h => h) fun a w9 hR hk K k9 => ?_
                    obtain ⟨_, e8, f8⟩ := hk 8 (by decide)
                    clear hk
                    go_simp
                    exact k9 _ _ (Chg.refl _ _) f8
                  refine Obs.cons (some (33, true)) (by kernel_rfl) ?_ ?_
                  · refine Ob.yes (fun _ _ h => h) fun a w9 hR hk K k9 => ?_
                    obtain ⟨_, e34, rfl⟩ := hk 34 (by decide)
                    clear hk
                    have hz9 : decide ((0 : Int) < (i : Int)) = true := decide_eq_true (by have := HI0.out; omega)
                    have hz7 : 0 < i := by have := HI0.out; omega
                    go_simp
                    exact k9 _ _ (Chg.refl _ _) rfl
                  refine Obs.cons none (by kernel_rfl) ?_ ?_
                  · refine Ob.plain fun a w9 hR hk K k9 => ?_
                    obtain ⟨_, e33, rfl⟩ := hk 33 (by decide)
                    obtain ⟨_, e35, rfl⟩ := hk 35 (by decide)
                    clear hk
                    go_simp
                    exact k9 _ _ (Chg.refl _ _) rfl
                  refine Obs.cons none (by kernel_rfl) ?_ ?_
                  · refine Ob.plain fun a w9 hR hk K k9 => ?_
                    obtain ⟨_, e36, f36⟩ := hk 36 (by decide)
                    clear hk
                    go_simp
                    exact k9 _ _ (Chg.refl _ _) f36
                  refine Obs.cons (some (37, true)) (by kernel_rfl) ?_ ?_
                  · refine Ob.yes (fun _ _ h => h) fun a w9 hR hk K k9 => ?_
                    obtain ⟨_, e5, f5⟩ := hk 5 (by decide)
                    clear hk
                    go_simp
                    exact k9 _ _ (Chg.refl _ _) f5
                  refine Obs.cons (some (37, true)) (by kernel_rfl) ?_ ?_
                  · refine Ob.yes (fun _ _ h => h) fun a w9 hR hk K k9 => ?_
                    obtain ⟨_, e8, f8⟩ := hk 8 (by decide)
                    clear hk
                    go_simp
                    exact k9 _ _ (Chg.refl _ _) f8
                  refine Obs.cons (some (37, true)) (by kernel_rfl) ?_ ?_
                  · refine Ob.yes (fun _ _ h => h) fun a w9 hR hk K k9 => ?_
                    obtain ⟨_, e39, rfl⟩ := hk 39 (by decide)
                    clear hk
                    obtain ⟨z1, z2, z3, z4, z5⟩ := HZ.out
                    go_simp
                    exact k9 _ _ (Chg.refl _ _) rfl
                  refine Obs.cons (some (37, true)) (by kernel_rfl) ?_ ?_
                  · refine Ob.yes (fun _ _ h => h) fun a w9 hR hk K k9 => ?_
                    obtain ⟨_, e38, rfl⟩ := hk 38 (by decide)
                    obtain ⟨_, e40, rfl⟩ := hk 40 (by decide)
                    clear hk
                    obtain ⟨z1, z2, z3, z4, z5⟩ := HZ.out
                    go_simp
                    exact k9 _ _ (Chg.refl _ _) rfl
                  refine Obs.cons (some (37, true)) (by kernel_rfl) ?_ ?_
                  · refine Ob.yes (fun _ _ h => h) fun a w9 hR hk K k9 => ?_
                    obtain ⟨_, e41, rfl⟩ := hk 41 (by decide)
                    clear hk
                    obtain ⟨c0, c1, c2, c3, c4⟩ := HO.out.keep hR id
                    go_simp
                    exact k9 _ _ (Chg.refl _ _) rfl
                  refine Obs.cons (some (37, true)) (by kernel_rfl) ?_ ?_
                  · refine Ob.yes (fun _ _ h => h) fun a w9 hR hk K k9 => ?_
                    obtain ⟨_, e7, rfl⟩ := hk 7 (by decide)
                    clear hk
                    have hb9 := blk_keep HY.out hR id
                    have c0 := cell_blk hb9 0
                    have c1 := cell_blk hb9 1
                    have c2 := cell_blk hb9 2
                    have c3 := cell_blk hb9 3
                    have c4 := cell_blk hb9 4
                    simp only [List.getElem?_toArray, List.getElem?_cons_zero, List.getElem?_cons_succ] at c0 c1 c2 c3 c4
                    clear hb9
                    go_simp
                    exact k9 _ _ (Chg.refl _ _) rfl
                  refine Obs.cons (some (37, true)) (by kernel_rfl) ?_ ?_
                  · refine Ob.yes (fun _ _ h => h) fun a w9 hR hk K k9 => ?_
                    obtain ⟨_, e42, rfl⟩ := hk 42 (by decide)
                    obtain ⟨_, e43, rfl⟩ := hk 43 (by decide)
                    clear hk
                    have hq := HSM.out _ hR
                    go_simp
                    refine hq.mono ?_
                    rintro e w5 ⟨rfl, hcc⟩
                    exact k9 _ _ hcc rfl
                  refine Obs.cons none (by kernel_rfl) ?_ ?_
                  · refine Ob.plain fun a w9 hR hk K k9 => ?_
                    obtain ⟨_, e37, rfl⟩ := hk 37 (by decide)
                    obtain ⟨_, e44, rfl⟩ := hk 44 (by decide)
                    clear hk
                    go_simp
                    exact k9 _ _ (Chg.refl _ _) rfl
                  exact Obs.nil
                case finC =>
                  intro vals w9 hc9 hv
                  have h45 : vals 45 = .bool b := hv 45 (by decide)
                  simp only [putAll, List.setIfInBounds_toArray, List.set_cons_zero, List.set_cons_succ, h45]
                  have HW8 := hid (show on = os.length ∧ w9.ownsRow B 26 5 (.slice (some ⟨G, 0, none⟩) on oc) os.length (rowD os) ∧ B ≤ w9.heap.size ∧ w9.heap[Y]? = some (.cells #[.int .i64 k.f.op, .int .i64 k.f.k, .string ⟨k.f.r.1.toArray⟩, .string ⟨k.f.r.2.toArray⟩, .slice k.ao k.f.kids.length k.cp] 26 (0, 0)) ∧ Chg (fun _ => False) w w9 ∧ os.length ≤ 4000 from ⟨HE.out.1, ownsRow_keep HE.out.2.1 hc9 (fun _ _ => id), Nat.le_trans HE.out.2.2.1 hc9.size, blk_keep HY.out hc9 id, HE.out.2.2.2.1.trans hc9 (fun _ _ h => h), HE.out.2.2.2.2⟩)
                  clear hc9 hv h45
                  cases b with
                  | true =>
                    have HEND := hid (show on = os.length ∧ w9.ownsRow B 26 5 (.slice (some ⟨G, 0, none⟩) on oc) os.length (rowD os) ∧ _ ∧ _ ∧ Chg (fun _ => False) w w9 from ⟨HW8.out.1, HW8.out.2.1, (HSK0.out rfl rfl).1, (HSK0.out rfl rfl).2, HW8.out.2.2.2.2.1⟩)
                    clear HW8 HPJ
                    go_wp2
                    go_roundw
                    case rel => exact ⟨j + 1, os, _, on, oc, hlt, by go_num, rfl, HEND⟩
                    case measure => simp [intOf]; omega
                  | false =>
                    have HPI := hid (HPJ.out (.inr (HLP.out rfl)))
                    clear HPJ
                    have HRD := hid (own_rd HW8.out.2.1)
                    obtain ⟨_, _, hsh, _, hoc, _⟩ := rowD_shape HW8.out.2.1
                    injection hsh with hsh1 hshm hsh2
                    rw [← hsh2, ← HW8.out.1] at hoc
                    clear hsh1 hshm hsh2
                    by_cases hic : i = oc
                    · have hni : on = i := by omega
                      have hd0 : os.length ≤ i := by have := HW8.out.1; omega
                      obtain ⟨v1, w1, v2, w2, v3, w3, hap1, hc1, hap2, hap3, hrow3, hc3⟩ := insD (w8 := w9) k HW8.out.2.2.1 (some ⟨G, 0, none⟩) i oc (As := os.take i) (by rw [List.length_take]; have := HW8.out.1; omega) (fun e => by first | (cases e; done) | rfl) (fun a e => by first | (cases e; rfl) | cases e) (rd_take HRD.out i) (some ⟨G, 0, none⟩) (0) (0) (Cs := os.drop i) (by rw [List.length_drop]; have := HW8.out.1; omega) (fun e => by first | (cases e; done) | rfl) (fun a e => by first | (cases e; rfl) | cases e) (rd_drop_nil HRD.out hd0 _) (by rw [List.length_take, List.length_drop]; have := HW8.out.2.2.2.2.2; omega)
                      have hyb := blk_keep HW8.out.2.2.2.1 hc1 id
                      have y0 := cell_blk hyb 0
                      have y1 := cell_blk hyb 1
                      have y2 := cell_blk hyb 2
                      have y3 := cell_blk hyb 3
                      have y4 := cell_blk hyb 4
                      simp only [List.getElem?_toArray, List.getElem?_cons_zero, List.getElem?_cons_succ] at y0 y1 y2 y3 y4
                      obtain ⟨o9, c9, hv3, _⟩ := rowD_shape hrow3
                      subst hv3
                      obtain ⟨n9, hn9⟩ : ∃ n9, n9 = (os.take i ++ k :: os.drop i).length := ⟨_, rfl⟩
                      have HEND := hid (show n9 = (os.take i ++ k :: os.drop i).length ∧ w3.ownsRow B 26 5 (.slice o9 n9 c9) (os.take i ++ k :: os.drop i).length (rowD (os.take i ++ k :: os.drop i)) ∧ _ ∧ _ ∧ Chg (fun _ => False) w w3 from ⟨hn9, by rw [hn9]; exact hrow3, HPI.out.1, HPI.out.2, HW8.out.2.2.2.2.1.trans hc3 (fun _ _ h => h)⟩)
                      rw [← hn9] at hap3
                      subst hic
                      have hni2 := hni.symm
                      clear hni
                      subst hni2
                      clear hyb hc1 hrow3 hc3 hn9 HPI HW8
                      go_wp2_with (at_builtin; first | refine wpList_append_runb rfl (.tmp 46) (.tmp 49) 24 rfl rfl rfl hap1 ?_ | refine wpList_append_runb rfl (.tmp 51) (.tmp 53) 24 rfl rfl rfl hap2 ?_ | refine wpList_append_runb rfl (.tmp 55) (.tmp 58) 24 rfl rfl rfl hap3 ?_)
                      clear hap1 hap2 hap3 y0 y1 y2 y3 y4
                      go_wp2
                      go_roundw
                      case rel => exact ⟨j + 1, os.take i ++ k :: os.drop i, o9, n9, c9, hlt, by go_num, rfl, HEND⟩
                      case measure => simp [intOf]; omega
                    · have hil : i < oc := by omega
                      obtain ⟨v1, w1, v2, w2, v3, w3, hap1, hc1, hap2, hap3, hrow3, hc3⟩ := insD (w8 := w9) k HW8.out.2.2.1 (some ⟨G, 0, none⟩) i oc (As := os.take i) (by rw [List.length_take]; have := HW8.out.1; omega) (fun e => by first | (cases e; done) | rfl) (fun a e => by first | (cases e; rfl) | cases e) (rd_take HRD.out i) (some ⟨G, i * 5, none⟩) (on - i) (oc - i) (Cs := os.drop i) (by rw [List.length_drop]; have := HW8.out.1; omega) (fun e => by first | (cases e; done) | rfl) (fun a e => by first | (cases e; rfl) | cases e) (rd_drop HRD.out i) (by rw [List.length_take, List.length_drop]; have := HW8.out.2.2.2.2.2; omega)
                      have hyb := blk_keep HW8.out.2.2.2.1 hc1 id
                      have y0 := cell_blk hyb 0
                      have y1 := cell_blk hyb 1
                      have y2 := cell_blk hyb 2
                      have y3 := cell_blk hyb 3
                      have y4 := cell_blk hyb 4
                      simp only [List.getElem?_toArray, List.getElem?_cons_zero, List.getElem?_cons_succ] at y0 y1 y2 y3 y4
                      obtain ⟨o9, c9, hv3, _⟩ := rowD_shape hrow3
                      subst hv3
                      obtain ⟨n9, hn9⟩ : ∃ n9, n9 = (os.take i ++ k :: os.drop i).length := ⟨_, rfl⟩
                      have HEND := hid (show n9 = (os.take i ++ k :: os.drop i).length ∧ w3.ownsRow B 26 5 (.slice o9 n9 c9) (os.take i ++ k :: os.drop i).length (rowD (os.take i ++ k :: os.drop i)) ∧ _ ∧ _ ∧ Chg (fun _ => False) w w3 from ⟨hn9, by rw [hn9]; exact hrow3, HPI.out.1, HPI.out.2, HW8.out.2.2.2.2.1.trans hc3 (fun _ _ h => h)⟩)
                      rw [← hn9] at hap3
                      clear hic
                      clear hyb hc1 hrow3 hc3 hn9 HPI HW8
                      go_wp2_with (at_builtin; first | refine wpList_append_runb rfl (.tmp 46) (.tmp 49) 24 rfl rfl rfl hap1 ?_ | refine wpList_append_runb rfl (.tmp 51) (.tmp 53) 24 rfl rfl rfl hap2 ?_ | refine wpList_append_runb rfl (.tmp 55) (.tmp 58) 24 rfl rfl rfl hap3 ?_)
                      clear hap1 hap2 hap3 y0 y1 y2 y3 y4
                      go_wp2
                      go_roundw
                      case rel => exact ⟨j + 1, os.take i ++ k :: os.drop i, o9, n9, c9, hlt, by go_num, rfl, HEND⟩
                      case measure => simp [intOf]; omega
    · have hr := hrel.out
      have hje : j = n := by omega
      rw [hje, H.out.1, List.take_length] at hr
      have HR := hid hr
      clear hr hrel hje
      go_wp2
      go_ret
      obtain ⟨h1, h2, h3, h4, h5⟩ := HR.out
      subst h1
      exact ⟨os, oo, oc, rfl, by rw [← HB.out]; exact h2, h3, h4, h5⟩
end Go.Proofs.Ytcbfieodjbfjdaa
