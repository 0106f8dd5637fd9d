/- Texts that the proof leans on, in one: PkAdd, PkNew. -/
import Derived.Test.YtjflmhncgkbdmaaKm7
import Derived.Test.YtjflmhncgkbdmaaKm2
import Derived.Test.YtjflmhncgkbdmaaKm3
import Derived.Test.YtjflmhncgkbdmaaKm5
/- The contract of the program's way to add a key to a registry. -/
namespace Go.Proofs.Ytjflmhncgkbdmaa
open Go.RowKit Go.Maps

def SpecR.btsM (mb lo : Nat) (hB : mb < lo) (l : List UInt8) : SpecR (Chg (· = mb)) :=
  ⟨fun v w => ∃ ta cap, v = .slice ta l.length cap ∧ l = l ∧ BytesAt (fun k => lo ≤ k ∧ k < w.heap.size) w v l, fun _ _ _ hc ⟨ta, cap, h1, h2, h3⟩ => ⟨ta, cap, h1, h2, (h3.keep hc (fun i hi e => by have := hi.1; have : i = mb := e; omega)).mono (fun i hi => ⟨hi.1, Nat.lt_of_lt_of_le hi.2 hc.size⟩)⟩⟩

/-- What is so amid the adding. -/
def AddW (D : Nat → Prop) (mb lo : Nat) (l : List KeyB) (w2 : World) (L : Nat → Bool) (w9 : World) : Prop :=
  Chg (· = mb) w2 w9 ∧ (L 9 = true → L 8 = true) ∧ (L 9 = false → Chg (fun _ => False) w2 w9) ∧ (L 9 = true → MapAt (fun i => D i ∨ lo ≤ i ∧ i < w9.heap.size) w9 mb l)

theorem AddW.late {D : Nat → Prop} {mb lo : Nat} {l : List KeyB} {w2 w9 : World} {L : Nat → Bool} (h : AddW D mb lo l w2 L w9) (h8 : L 8 = false) : L 9 = false := by
  cases h9 : L 9 with
  | false => rfl
  | true => rw [h.2.1 h9] at h8; cases h8

theorem AddW.step {D : Nat → Prop} {mb lo : Nat} {l : List KeyB} {w2 w9 : World} {L : Nat → Bool} {i : Nat} (h : AddW D mb lo l w2 L w9) (hi : ¬ 8 = i ∧ ¬ 9 = i) : AddW D mb lo l w2 (upd L i) w9 := by
  have e8 : upd L i 8 = L 8 := if_neg hi.1
  have e9 : upd L i 9 = L 9 := if_neg hi.2
  exact ⟨h.1, fun h9 => by rw [e8]; exact h.2.1 (by rw [← e9]; exact h9), fun h9 => h.2.2.1 (by rw [← e9]; exact h9), fun h9 => h.2.2.2 (by rw [← e9]; exact h9)⟩

theorem AddW.call {D : Nat → Prop} {mb lo : Nat} {l : List KeyB} {w2 w9 w' : World} {L : Nat → Bool} (h : AddW D mb lo l w2 L w9) (h9 : L 9 = false) (hc : Chg (fun _ => False) w9 w') : AddW D mb lo l w2 L w' :=
  ⟨h.1.trans hc (fun _ _ h => h.elim), h.2.1, fun _ => (h.2.2.1 h9).trans hc (fun _ _ h => h), fun h' => by rw [h9] at h'; cases h'⟩

theorem AddW.step8 {D : Nat → Prop} {mb lo : Nat} {l : List KeyB} {w2 w9 : World} {L : Nat → Bool} (h : AddW D mb lo l w2 L w9) (h9 : L 9 = false) : AddW D mb lo l w2 (upd L 8) w9 := by
  have e8 : upd L 8 8 = true := if_pos rfl
  have e9 : upd L 8 9 = L 9 := if_neg (by decide)
  exact ⟨h.1, fun _ => e8, fun _ => h.2.2.1 h9, fun h' => by rw [e9, h9] at h'; cases h'⟩

theorem AddW.done {D : Nat → Prop} {mb lo : Nat} {l : List KeyB} {w2 w9 w' : World} {L : Nat → Bool} (h : AddW D mb lo l w2 L w9) (h8 : L 8 = true) (hc : Chg (· = mb) w9 w') (hm : MapAt (fun i => D i ∨ lo ≤ i ∧ i < w'.heap.size) w' mb l) : AddW D mb lo l w2 (upd L 9) w' := by
  have e8 : upd L 9 8 = L 8 := if_neg (by decide)
  have e9 : upd L 9 9 = true := if_pos rfl
  exact ⟨h.1.trans hc (fun _ _ h => h), fun _ => e8.trans h8, fun h' => (by rw [e9] at h'; cases h'), fun _ => hm⟩

def addSpecs (g A mb : Nat) (k : KeyB) (v : Value) (b : Bool) : List Spec := [.eq (.pointer (some ⟨g, 0, none⟩)), .any, .any, .eq (.pointer (some ⟨A, 0, none⟩)), .any, .eq (v), .eq (.bool b), .any, .any, .any, .any, .any, .any, .any, .any, .any, .any, .any, .any, .any, .any, .eq (.tuple #[v, .bool b]), .eq (.pointer (some ⟨g, 0, none⟩)), .eq (.pointer (some ⟨g, 0, none⟩)), .eq (.pointer (some ⟨g, 0, none⟩)), .eq (.map (some mb)), .eq (.pointer (some ⟨A, 0, none⟩)), .eq (.string ⟨k.who.toArray⟩), .eq (.tuple #[v, .bool b]), .eq (v), .eq (.bool b)]
def addSpecs8 (g A mb lo : Nat) (hm : mb < lo) (k : KeyB) (ka : Option Addr) (cap : Nat) : List (SpecR (Chg (· = mb))) := [.eq (.pointer (some ⟨g, 0, none⟩)), .any, .any, .eq (.pointer (some ⟨A, 0, none⟩)), .any, .any, .any, .any, .any, .any, .any, .any, .any, .any, .any, .any, .any, .any, .any, .any, .any, .any, .any, .any, .any, .any, .any, .any, .any, .any, .any, .any, .eq (.pointer (some ⟨g, 0, none⟩)), .eq (.pointer (some ⟨g, 0, none⟩)), .eq (.pointer (some ⟨g, 0, none⟩)), .eq (.map (some mb)), .eq (.pointer (some ⟨A, 0, none⟩)), .eq (.string ⟨k.who.toArray⟩), .eq (.pointer (some ⟨A, 1, none⟩)), .eq (.slice ka k.key.length cap), .btsM mb lo hm k.key]

/-- A registry that the call itself has made, or that lies in blocks from B on. -/
def RegOwn (B : Nat) (w : World) (g : Nat) (l : List KeyB) : Prop := RegAt (fun i => B ≤ i ∧ i < w.heap.size) w g l

def AddPost (B g : Nat) (l : List KeyB) (k : KeyB) (w : World) (e : Ending) (w' : World) : Prop :=
  e = .returned (.int .i64 (keyErr l k : Nat)) ∧ Chg (fun i => B ≤ i) w w' ∧ (keyErr l k = 0 → RegOwn B w' g (l ++ [k]))

theorem add_le {n : Nat} {a : Int} (h : (n : Int) = a) : Ending.returned (.int .i64 a) = .returned (.int .i64 (n : Int)) := by rw [h]

set_option maxRecDepth 100000 in
set_option maxHeartbeats 2000000 in
theorem padd {E : Nat → Prop} (B g : Nat) (l : List KeyB) (k : KeyB) (ka : Option Addr) (cap : Nat) (w : World) (h : RegOwn B w g l) (hl : l.length ≤ 4611686018427387904) (hwl : k.who.length ≤ 9223372036854775807) (hkl : k.key.length ≤ 9223372036854775807) (hb : BytesAt E w (.slice ka k.key.length cap) k.key) :
    Calls Try.prog 19 #[.pointer (some ⟨g, 0, none⟩), .agg #[.string ⟨k.who.toArray⟩, .slice ka k.key.length cap]] w (AddPost B g l k w) := by
  have hll : l.length < 9223372036854775807 := by omega
  obtain ⟨⟨mb, hg, hD, hM⟩, hDg⟩ := h
  have hA1 : (w.alloc (.cells #[.string ⟨k.who.toArray⟩, .slice ka k.key.length cap] 53)).heap[w.heap.size]? = some (.cells #[.string ⟨k.who.toArray⟩, .slice ka k.key.length cap] 53 (0, 0)) := heap_alloc_new w _
  have hc1 : Chg (fun _ => False) w (w.alloc (.cells #[.string ⟨k.who.toArray⟩, .slice ka k.key.length cap] 53)) := (Chg.refl _ w).alloc _
  have hg1 := blk_keep hg hc1 id
  have hM1 := hM.keep hc1 id (fun _ _ => id)
  have hgm : ¬ g = mb := fun e => by
    subst e
    obtain ⟨⟨M, ⟨es, cl, hx, _⟩, _⟩, _⟩ := hM
    rw [hg] at hx
    cases hx
  have hmw := hM.lt
  have hAm : ¬ w.heap.size = mb := by omega
  have hrt := right_any k.who (w.alloc (.cells #[.string ⟨k.who.toArray⟩, .slice ka k.key.length cap] 53)) hwl
  have HP := hid (And.intro hDg (And.intro hD hmw))
  have HW := hid (And.intro hgm hAm)
  have HH := hid (And.intro hrt (And.intro hA1 (And.intro hg1 (And.intro hc1 (And.intro hM1 (hb.keep hc1 (fun _ _ => id)))))))
  clear hrt hA1 hc1 hg1 hM1 hb hM hg hDg hD hmw hgm hAm
  go_enter Try.func19, Try.ntmps19
  go_wp2_with fail
  obtain ⟨hrt, hA, hg, hc1, hM, hb⟩ := HH.out
  clear HH
  generalize (w.alloc (.cells #[.string ⟨k.who.toArray⟩, .slice ka k.key.length cap] 53)) = w1 at *
  generalize hAe : w.heap.size = A at *
  have HAe := hid hAe
  clear hAe
  have z0 := cell_blk hA 0
  have z1 := cell_blk hA 1
  simp only [List.getElem?_toArray, List.getElem?_cons_zero, List.getElem?_cons_succ] at z0 z1
  refine hrt.mono ?_
  rintro e w2 ⟨rfl, rfl⟩
  have HX := hid (And.intro hg hA)
  have HC := hid hc1
  have HM := hid hM
  clear hrt hA hg hc1 hM
  by_cases hn : isName k.who = true
  · rw [hn]
    by_cases hs1 : 1 ≤ k.key.length
    · by_cases hs2 : k.key.length ≤ 32
      · have d1 : decide ((k.key.length : Int) < 1) = false := by simp; omega
        have d2 : decide ((32 : Int) < (k.key.length : Int)) = false := by simp; omega
        have hlen : k.key.length ≤ 140737488355328 := by omega
        have HS := hid (And.intro hn (show keySize k = true by simp [keySize, hs1, hs2]))
        have HB := hid hb
        clear hn hs1 hs2 hb
        go_wp2_with fail
        clear d1 d2
        by_cases hno : hasWho l k.who = true
        · obtain ⟨ao, cp, _, hlk⟩ := HM.out.look hwl hno
          generalize Value.slice ao (keyOf l k.who).length cp = v at *
          obtain ⟨b, hbv⟩ : ∃ b, true = b := ⟨_, rfl⟩
          have HL : Hid (∀ w', Chg (fun _ => False) w1 w' → (Instr.lookup 58 (.map (some mb)) (.string ⟨k.who.toArray⟩) true).run Try.prog w' = .ok (.tuple #[v, .bool b]) w') := hid (fun w' hc => by rw [← hbv]; exact hlk w' (hc.block mb HM.out.lt id))
          clear hlk
          have HBV := hid hbv
          clear hbv
          refine wp_region_specs (addSpecs g A mb k v b) [22, 23, 24, 25, 26, 27, 28, 21, 29, 30, 5, 6] [0, 3] (by kernel_rfl) (by kernel_rfl) (by rfl) (by kernel_rfl) ?start ?obs ?fin
          case start =>
            simp only [List.forall_mem_cons]; exact ⟨⟨_, rfl, rfl⟩, ⟨_, rfl, rfl⟩, fun _ h => by cases h⟩
          case obs =>
            clear HC HS HB HW HP
            refine Obs.cons none (by kernel_rfl) ?_ ?_
            · refine Ob.plain fun a w hR hk K k => ?_
              obtain ⟨_, e0, f0⟩ := hk 0 (by decide)
              clear hk
              go_simp
              exact k _ _ (Chg.refl _ _) f0
            refine Obs.cons none (by kernel_rfl) ?_ ?_
            · refine Ob.plain fun a w hR hk K k => ?_
              obtain ⟨_, e22, rfl⟩ := hk 22 (by decide)
              clear hk
              go_simp
              exact k _ _ (Chg.refl _ _) rfl
            refine Obs.cons none (by kernel_rfl) ?_ ?_
            · refine Ob.plain fun a w hR hk K k => ?_
              obtain ⟨_, e23, rfl⟩ := hk 23 (by decide)
              clear hk
              go_simp
              exact k _ _ (Chg.refl _ _) rfl
            refine Obs.cons none (by kernel_rfl) ?_ ?_
            · refine Ob.plain fun a w hR hk K k => ?_
              obtain ⟨_, e24, rfl⟩ := hk 24 (by decide)
              clear hk
              have zz := hR.cell (cell_blk HX.out.1 0) id
              go_simp
              exact k _ _ (Chg.refl _ _) rfl
            refine Obs.cons none (by kernel_rfl) ?_ ?_
            · refine Ob.plain fun a w hR hk K k => ?_
              obtain ⟨_, e3, rfl⟩ := hk 3 (by decide)
              clear hk
              go_simp
              exact k _ _ (Chg.refl _ _) rfl
            refine Obs.cons none (by kernel_rfl) ?_ ?_
            · refine Ob.plain fun a w hR hk K k => ?_
              obtain ⟨_, e26, rfl⟩ := hk 26 (by decide)
              clear hk
              have zz := hR.cell (cell_blk HX.out.2 0) id
              go_simp
              exact k _ _ (Chg.refl _ _) rfl
            refine Obs.cons none (by kernel_rfl) ?_ ?_
            · refine Ob.plain fun a w hR hk K k => ?_
              obtain ⟨_, e25, rfl⟩ := hk 25 (by decide)
              obtain ⟨_, e27, rfl⟩ := hk 27 (by decide)
              clear hk
              have q := HL.out w hR
              go_simp
              exact k _ _ (Chg.refl _ _) rfl
            refine Obs.cons none (by kernel_rfl) ?_ ?_
            · refine Ob.plain fun a w hR hk K k => ?_
              obtain ⟨_, e28, f28⟩ := hk 28 (by decide)
              clear hk
              go_simp
              exact k _ _ (Chg.refl _ _) f28
            refine Obs.cons none (by kernel_rfl) ?_ ?_
            · refine Ob.plain fun a w hR hk K k => ?_
              obtain ⟨_, e21, rfl⟩ := hk 21 (by decide)
              clear hk
              go_simp
              exact k _ _ (Chg.refl _ _) rfl
            refine Obs.cons none (by kernel_rfl) ?_ ?_
            · refine Ob.plain fun a w hR hk K k => ?_
              obtain ⟨_, e21, rfl⟩ := hk 21 (by decide)
              clear hk
              go_simp
              exact k _ _ (Chg.refl _ _) rfl
            refine Obs.cons none (by kernel_rfl) ?_ ?_
            · refine Ob.plain fun a w hR hk K k => ?_
              obtain ⟨_, e29, f29⟩ := hk 29 (by decide)
              clear hk
              go_simp
              exact k _ _ (Chg.refl _ _) f29
            refine Obs.cons none (by kernel_rfl) ?_ ?_
            · refine Ob.plain fun a w hR hk K k => ?_
              obtain ⟨_, e30, f30⟩ := hk 30 (by decide)
              clear hk
              go_simp
              exact k _ _ (Chg.refl _ _) f30
            exact Obs.nil
          case fin =>
            intro vals w9 hc9 hv
            have h6 : vals 6 = .bool b := hv 6 (by decide)
            simp only [putAll, List.setIfInBounds_toArray, List.set_cons_zero, List.set_cons_succ, h6]
            rw [← HBV.out]
            have HC9 := hid (HC.out.trans hc9 (fun _ _ h => h))
            have HF : Hid (keyErr l k = 41) := hid (by rw [keyErr, if_pos HS.out.1, if_pos HS.out.2, if_pos hno])
            clear hc9 hv h6 HC HX HL HM HB HBV hno
            go_wp2
            go_ret
            exact ⟨by rw [HF.out]; rfl, HC9.out.mono (fun _ _ h => h.elim), fun h0 => by rw [HF.out] at h0; cases h0⟩
        · have hno : hasWho l k.who = false := by simpa using hno
          obtain ⟨v, hve⟩ : ∃ v, Value.slice none 0 0 = v := ⟨_, rfl⟩
          obtain ⟨b, hbv⟩ : ∃ b, false = b := ⟨_, rfl⟩
          have HL : Hid (∀ w', Chg (fun _ => False) w1 w' → (Instr.lookup 58 (.map (some mb)) (.string ⟨k.who.toArray⟩) true).run Try.prog w' = .ok (.tuple #[v, .bool b]) w') := hid (fun w' hc => by rw [← hbv, ← hve]; exact (HM.out.keep hc id (fun _ _ => id)).miss hwl hno)
          clear hve
          have HBV := hid hbv
          clear hbv
          refine wp_region_specs (addSpecs g A mb k v b) [22, 23, 24, 25, 26, 27, 28, 21, 29, 30, 5, 6] [0, 3] (by kernel_rfl) (by kernel_rfl) (by rfl) (by kernel_rfl) ?start2 ?obs2 ?fin2
          case start2 =>
            simp only [List.forall_mem_cons]; exact ⟨⟨_, rfl, rfl⟩, ⟨_, rfl, rfl⟩, fun _ h => by cases h⟩
          case obs2 =>
            clear HC HS HB HW HP
            refine Obs.cons none (by kernel_rfl) ?_ ?_
            · refine Ob.plain fun a w hR hk K k => ?_
              obtain ⟨_, e0, f0⟩ := hk 0 (by decide)
              clear hk
              go_simp
              exact k _ _ (Chg.refl _ _) f0
            refine Obs.cons none (by kernel_rfl) ?_ ?_
            · refine Ob.plain fun a w hR hk K k => ?_
              obtain ⟨_, e22, rfl⟩ := hk 22 (by decide)
              clear hk
              go_simp
              exact k _ _ (Chg.refl _ _) rfl
            refine Obs.cons none (by kernel_rfl) ?_ ?_
            · refine Ob.plain fun a w hR hk K k => ?_
              obtain ⟨_, e23, rfl⟩ := hk 23 (by decide)
              clear hk
              go_simp
              exact k _ _ (Chg.refl _ _) rfl
            refine Obs.cons none (by kernel_rfl) ?_ ?_
            · refine Ob.plain fun a w hR hk K k => ?_
              obtain ⟨_, e24, rfl⟩ := hk 24 (by decide)
              clear hk
              have zz := hR.cell (cell_blk HX.out.1 0) id
              go_simp
              exact k _ _ (Chg.refl _ _) rfl
            refine Obs.cons none (by kernel_rfl) ?_ ?_
            · refine Ob.plain fun a w hR hk K k => ?_
              obtain ⟨_, e3, rfl⟩ := hk 3 (by decide)
              clear hk
              go_simp
              exact k _ _ (Chg.refl _ _) rfl
            refine Obs.cons none (by kernel_rfl) ?_ ?_
            · refine Ob.plain fun a w hR hk K k => ?_
              obtain ⟨_, e26, rfl⟩ := hk 26 (by decide)
              clear hk
              have zz := hR.cell (cell_blk HX.out.2 0) id
              go_simp
              exact k _ _ (Chg.refl _ _) rfl
            refine Obs.cons none (by kernel_rfl) ?_ ?_
            · refine Ob.plain fun a w hR hk K k => ?_
              obtain ⟨_, e25, rfl⟩ := hk 25 (by decide)
              obtain ⟨_, e27, rfl⟩ := hk 27 (by decide)
              clear hk
              have q := HL.out w hR
              go_simp
              exact k _ _ (Chg.refl _ _) rfl
            refine Obs.cons none (by kernel_rfl) ?_ ?_
            · refine Ob.plain fun a w hR hk K k => ?_
              obtain ⟨_, e28, f28⟩ := hk 28 (by decide)
              clear hk
              go_simp
              exact k _ _ (Chg.refl _ _) f28
            refine Obs.cons none (by kernel_rfl) ?_ ?_
            · refine Ob.plain fun a w hR hk K k => ?_
              obtain ⟨_, e21, rfl⟩ := hk 21 (by decide)
              clear hk
              go_simp
              exact k _ _ (Chg.refl _ _) rfl
            refine Obs.cons none (by kernel_rfl) ?_ ?_
            · refine Ob.plain fun a w hR hk K k => ?_
              obtain ⟨_, e21, rfl⟩ := hk 21 (by decide)
              clear hk
              go_simp
              exact k _ _ (Chg.refl _ _) rfl
            refine Obs.cons none (by kernel_rfl) ?_ ?_
            · refine Ob.plain fun a w hR hk K k => ?_
              obtain ⟨_, e29, f29⟩ := hk 29 (by decide)
              clear hk
              go_simp
              exact k _ _ (Chg.refl _ _) f29
            refine Obs.cons none (by kernel_rfl) ?_ ?_
            · refine Ob.plain fun a w hR hk K k => ?_
              obtain ⟨_, e30, f30⟩ := hk 30 (by decide)
              clear hk
              go_simp
              exact k _ _ (Chg.refl _ _) f30
            exact Obs.nil
          case fin2 =>
            intro vals w9 hc9 hv
            have h6 : vals 6 = .bool b := hv 6 (by decide)
            simp only [putAll, List.setIfInBounds_toArray, List.set_cons_zero, List.set_cons_succ, h6]
            rw [← HBV.out]
            have HC9 := hid (HC.out.trans hc9 (fun _ _ h => h))
            have HX9 := hid (And.intro (blk_keep HX.out.1 hc9 id) (blk_keep HX.out.2 hc9 id))
            have HM9 := hid (HM.out.keep hc9 id (fun _ _ => id))
            have HB9 := hid (HB.out.keep hc9 (fun _ _ => id))
            have HF : Hid (keyErr l k = 0) := hid (by rw [keyErr, if_pos HS.out.1, if_pos HS.out.2, if_neg (by rw [hno]; decide)])
            clear hc9 hv h6 HC HX HL HM HB HBV
            go_wp2_with fail
            have hmlo : mb < w9.heap.size := HM9.out.lt
            have hgm := HW.out.1
            have hAm := HW.out.2
            have HX := HX9
            have HM := HM9
            have hb := HB9.out
            obtain ⟨lo, hloe⟩ : ∃ lo, w9.heap.size = lo := ⟨_, rfl⟩
            have hlo : lo ≤ w9.heap.size := by omega
            rw [hloe] at hmlo
            have HLOE := hid hloe
            clear hloe
            refine wp_region_state (Chg (· = mb)) (AddW (fun i => B ≤ i ∧ i < A) mb lo (l ++ [k]) w9) (specAtR (addSpecs8 g A mb lo hmlo k ka cap)) [32, 33, 34, 35, 36, 37, 38, 39, 40] [0, 3] (by kernel_rfl) (by kernel_rfl) ⟨(Chg.refl _ _).drew, (fun h => by cases h), (fun _ => (Chg.refl _ _).drew), (fun h => by cases h)⟩ (fun t v w w' hc h => specAtR_st _ t v w w' hc h) (by rfl) (by kernel_rfl) ?start3 ?obs3 ?fin3
            case start3 =>
              simp only [List.forall_mem_cons]; exact ⟨⟨_, rfl, rfl⟩, ⟨_, rfl, rfl⟩, fun _ h => by cases h⟩
            case obs3 =>
              clear HC9 HX9 HM9 HB9 HF
              refine ObsL.cons none (by kernel_rfl) ?_ ?_
              · refine ObL.plain fun L a w hi he hW hk K k => ?_
                obtain ⟨_, e0, f0⟩ := hk 0 (by decide)
                clear hk
                clear hi he
                go_simp
                exact k _ _ (Chg.refl _ _) (hW.step (by decide)) f0
              refine ObsL.cons none (by kernel_rfl) ?_ ?_
              · refine ObL.plain fun L a w hi he hW hk K k => ?_
                obtain ⟨_, e32, rfl⟩ := hk 32 (by decide)
                clear hk
                clear hi he
                go_simp
                exact k _ _ (Chg.refl _ _) (hW.step (by decide)) rfl
              refine ObsL.cons none (by kernel_rfl) ?_ ?_
              · refine ObL.plain fun L a w hi he hW hk K k => ?_
                obtain ⟨_, e33, rfl⟩ := hk 33 (by decide)
                clear hk
                clear hi he
                go_simp
                exact k _ _ (Chg.refl _ _) (hW.step (by decide)) rfl
              refine ObsL.cons none (by kernel_rfl) ?_ ?_
              · refine ObL.plain fun L a w hi he hW hk K k => ?_
                obtain ⟨_, e34, rfl⟩ := hk 34 (by decide)
                clear hk
                have zz := hW.1.cell (cell_blk HX.out.1 0) hgm
                clear hi he
                go_simp
                exact k _ _ (Chg.refl _ _) (hW.step (by decide)) rfl
              refine ObsL.cons none (by kernel_rfl) ?_ ?_
              · refine ObL.plain fun L a w hi he hW hk K k => ?_
                obtain ⟨_, e3, rfl⟩ := hk 3 (by decide)
                clear hk
                clear hi he
                go_simp
                exact k _ _ (Chg.refl _ _) (hW.step (by decide)) rfl
              refine ObsL.cons none (by kernel_rfl) ?_ ?_
              · refine ObL.plain fun L a w hi he hW hk K k => ?_
                obtain ⟨_, e36, rfl⟩ := hk 36 (by decide)
                clear hk
                have zz := hW.1.cell (cell_blk HX.out.2 0) hAm
                clear hi he
                go_simp
                exact k _ _ (Chg.refl _ _) (hW.step (by decide)) rfl
              refine ObsL.cons none (by kernel_rfl) ?_ ?_
              · refine ObL.plain fun L a w hi he hW hk K k => ?_
                obtain ⟨_, e3, rfl⟩ := hk 3 (by decide)
                clear hk
                clear hi he
                go_simp
                exact k _ _ (Chg.refl _ _) (hW.step (by decide)) rfl
              refine ObsL.cons none (by kernel_rfl) ?_ ?_
              · refine ObL.plain fun L a w hi he hW hk K k => ?_
                obtain ⟨_, e38, rfl⟩ := hk 38 (by decide)
                clear hk
                have zz := hW.1.cell (cell_blk HX.out.2 1) hAm
                clear hi he
                go_simp
                exact k _ _ (Chg.refl _ _) (hW.step (by decide)) rfl
              refine ObsL.cons none (by kernel_rfl) ?_ ?_
              · refine ObL.plain fun L a w hi he hW hk K k => ?_
                obtain ⟨_, e39, rfl⟩ := hk 39 (by decide)
                clear hk
                have h9 : L 9 = false := hW.late hi
                have hw := hW.2.2.1 h9
                have hcl := clone_any (w := w) hlen (hb.keep hw (fun _ _ => id))
                clear hi he
                go_simp
                refine hcl.mono ?_
                rintro e w5 ⟨ao, cp, rfl, hba, hcc⟩
                exact k _ _ (hcc.mono (fun _ _ h => h.elim)) ((hW.call h9 hcc).step8 h9) ⟨ao, cp, rfl, rfl, hba.mono (fun i hi => ⟨Nat.le_trans (Nat.le_trans hlo hw.size) hi.1, hi.2⟩)⟩
              refine ObsL.cons none (by kernel_rfl) ?_ ?_
              · refine ObL.plain fun L a w hi he hW hk K k => ?_
                obtain ⟨_, e35, rfl⟩ := hk 35 (by decide)
                obtain ⟨_, e37, rfl⟩ := hk 37 (by decide)
                obtain ⟨_, e40, f40⟩ := hk 40 (by decide)
                clear hk
                have h9 : L 9 = false := hi
                have h8 : L 8 = true := he ⟨8, Ground.data⟩ (by simp) (by decide)
                have hw := hW.2.2.1 h9
                obtain ⟨ao, cp, rfl, _, hba⟩ := f40
                have hm := (HM.out.keep hw id (fun _ _ => id))
                obtain ⟨w7, hrun, hm7, hc7⟩ := hm.add (E := fun i => (B ≤ i ∧ i < A) ∨ lo ≤ i ∧ i < w.heap.size) hwl hll hno (fun i hi => .inl hi) (hba.mono (fun i hi => .inr hi))
                clear hi he
                go_simp
                exact k undef _ hc7 (hW.done h8 hc7 (hm7.mono (fun i hi => hi.imp id (fun h => ⟨h.1, Nat.lt_of_lt_of_le h.2 hc7.size⟩)))) trivial
              exact ObsL.nil
            case fin3 =>
              intro L vals w8 hL hW hv
              simp only [putAll, List.setIfInBounds_toArray, List.set_cons_zero, List.set_cons_succ]
              have HF8 := hid (And.intro hW.1 (hW.2.2.2 (hL 9 (by decide))))
              clear hW hv hL hb hno
              go_wp2
              go_ret
              have h1 := HF8.out.1
              have h2 := HC9.out
              obtain ⟨⟨hBg, hgA⟩, ⟨hBm, hmA⟩, _⟩ := HP.out
              have hAw := HAe.out
              have hlw := HLOE.out
              have hs1 := h1.size
              have hs2 := h2.size
              refine ⟨by rw [HF.out]; rfl, (h2.mono (fun _ _ h => h.elim)).trans h1 (fun i _ e => by have : i = mb := e; omega), fun _ => ⟨⟨mb, blk_keep HX9.out.1 h1 hgm, ⟨hBm, by omega⟩, HF8.out.2.mono (fun i hi => ?_)⟩, ⟨hBg, by omega⟩⟩⟩
              rcases hi with hi | hi
              · exact ⟨hi.1, by omega⟩
              · exact ⟨by omega, hi.2⟩
      · have d1 : decide ((k.key.length : Int) < 1) = false := by simp; omega
        have d2 : decide ((32 : Int) < (k.key.length : Int)) = true := by simp; omega
        have HF : Hid (keyErr l k = 21) := hid (by rw [keyErr, if_pos hn, if_neg (by simp [keySize, hs2])])
        clear hn hs1 hs2 hb
        go_wp2
        go_ret
        exact ⟨by rw [HF.out]; rfl, HC.out.mono (fun _ _ h => h.elim), fun h0 => by rw [HF.out] at h0; cases h0⟩
    · have d1 : decide ((k.key.length : Int) < 1) = true := by simp; omega
      have HF : Hid (keyErr l k = 21) := hid (by rw [keyErr, if_pos hn, if_neg (by simp [keySize, hs1])])
      clear hn hs1 hb
      go_wp2
      go_ret
      exact ⟨by rw [HF.out]; rfl, HC.out.mono (fun _ _ h => h.elim), fun h0 => by rw [HF.out] at h0; cases h0⟩
  · have hn : isName k.who = false := by simpa using hn
    rw [hn]
    have HF : Hid (keyErr l k = 30) := hid (by rw [keyErr, if_neg (by rw [hn]; decide)])
    clear hn hb
    go_wp2
    go_ret
    exact ⟨by rw [HF.out]; rfl, HC.out.mono (fun _ _ h => h.elim), fun h0 => by rw [HF.out] at h0; cases h0⟩
end Go.Proofs.Ytjflmhncgkbdmaa

/- The contract of keys.New. -/
namespace Go.Proofs.Ytjflmhncgkbdmaa
open Go.RowKit Go.Maps

def NewPost (l : List KeyB) (w : World) (e : Ending) (w' : World) : Prop :=
  (newErr l = 0 ∧ ∃ g, e = .returned (.tuple #[.pointer (some ⟨g, 0, none⟩), .int .i64 0]) ∧ RegOwn w.heap.size w' g l ∧ Chg (fun _ => False) w w') ∨
  (newErr l ≠ 0 ∧ e = .returned (.tuple #[.pointer none, .int .i64 (newErr l : Nat)]) ∧ Chg (fun _ => False) w w')

theorem RegOwn.keep {B : Nat} {S : Nat → Prop} {w w' : World} {g : Nat} {l : List KeyB} (h : RegOwn B w g l) (hc : Chg S w w') (hS : ∀ i, S i → i < B ∨ w.heap.size ≤ i) : RegOwn B w' g l :=
  (RegAt.keep h hc (fun i hi hs => by rcases hS i hs with h | h <;> omega)).mono (fun i hi => ⟨hi.1, Nat.lt_of_lt_of_le hi.2 hc.size⟩)

theorem RegOwn.same {B : Nat} {w w' : World} {g : Nat} {l : List KeyB} (h : RegOwn B w g l) (hc : Chg (fun _ => False) w w') : RegOwn B w' g l := h.keep hc (fun _ h => h.elim)

set_option maxRecDepth 100000 in
set_option maxHeartbeats 2000000 in
theorem pnew {D : Nat → Prop} (ao : Option Addr) (cp : Nat) (l : List KeyB) (w : World) (hn : l.length ≤ 4611686018427387904) (h : KeysAt D w ao l) :
    Calls Try.prog 7 #[.slice ao l.length cp] w (NewPost l w) := by
  have hmm := @run_makeMap Try.prog
  have hsz : (w.alloc (.map #[] 0)).heap.size = w.heap.size + 1 := by simp
  have hM0 := map_made (fun i => w.heap.size ≤ i ∧ i < w.heap.size + 2) w
  have hal : Chg (fun _ => False) (w.alloc (.map #[] 0)) ((w.alloc (.map #[] 0)).alloc (.cells #[.map (some w.heap.size)] 60)) := (Chg.refl _ _).alloc _
  have hg0 : ((w.alloc (.map #[] 0)).alloc (.cells #[.map (some w.heap.size)] 60)).heap[w.heap.size + 1]? = some (.cells #[.map (some w.heap.size)] 60 (0, 0)) := by
    have := heap_alloc_new (w.alloc (.map #[] 0)) (.cells #[.map (some w.heap.size)] 60)
    rw [hsz] at this
    exact this
  have hsz2 : ((w.alloc (.map #[] 0)).alloc (.cells #[.map (some w.heap.size)] 60)).heap.size = w.heap.size + 2 := by simp
  have hR0 : RegOwn w.heap.size ((w.alloc (.map #[] 0)).alloc (.cells #[.map (some w.heap.size)] 60)) (w.heap.size + 1) [] := ⟨⟨w.heap.size, hg0, ⟨Nat.le_refl _, by omega⟩, (hM0.keep hal id (fun _ _ => id)).mono (fun i hi => ⟨hi.1, by omega⟩)⟩, ⟨by omega, by omega⟩⟩
  have hc0 : Chg (fun _ => False) w ((w.alloc (.map #[] 0)).alloc (.cells #[.map (some w.heap.size)] 60)) := ((Chg.refl _ w).alloc _).alloc _
  have H0 := hid (And.intro hR0 hc0)
  clear hsz hM0 hal hg0 hsz2 hR0 hc0
  go_enter Try.func7, Try.ntmps7
  go_wp2
  clear hmm
  obtain ⟨hR0, hc0⟩ := H0.out
  clear H0
  generalize ((w.alloc (.map #[] 0)).alloc (.cells #[.map (some w.heap.size)] 60)) = w2 at *
  obtain ⟨g, hge⟩ : ∃ g, w.heap.size + 1 = g := ⟨_, rfl⟩
  rw [hge] at hR0
  simp only [hge]
  clear hge
  go_loopw [13] (fun i wr => ∃ k : Nat, k ≤ l.length ∧ i = .int .i64 k ∧ Hid (okUpto l k) ∧ RegOwn w.heap.size wr g (l.take k) ∧ Chg (fun _ => False) w wr) (fun i _ => l.length - (intOf i).toNat)
  case atStart => exact ⟨0, Nat.zero_le _, rfl, okUpto_zero l, by rw [List.take_zero]; exact hR0, hc0⟩
  case round =>
    obtain ⟨k, hk, rfl, hok, hR, hc⟩ := hrel
    by_cases hlt : k < l.length
    · obtain ⟨b, off, rfl, _, hka⟩ := (h.keep hc (fun _ _ => id)) k hlt
      obtain ⟨q, hq⟩ : ∃ q, q = l[k] := ⟨_, rfl⟩
      rw [← hq] at hka
      obtain ⟨c0, ⟨ka, cap, c1, hb⟩, l0, l1⟩ := hka
      have hal : Chg (fun _ => False) wr (wr.alloc (.cells #[.string ⟨q.who.toArray⟩, .slice ka q.key.length cap] 53)) := (Chg.refl _ wr).alloc _
      have hB3 : (wr.alloc (.cells #[.string ⟨q.who.toArray⟩, .slice ka q.key.length cap] 53)).heap[wr.heap.size]? = some (.cells #[.string ⟨q.who.toArray⟩, .slice ka q.key.length cap] 53 (0, 0)) := heap_alloc_new wr _
      have hadd := padd w.heap.size g (l.take k) q ka cap (wr.alloc (.cells #[.string ⟨q.who.toArray⟩, .slice ka q.key.length cap] 53)) (hR.same hal) (by rw [List.length_take]; omega) l0 l1 (hb.keep hal (fun _ _ => id))
      have HQ := hid hq
      have HC := hid (And.intro (hc.trans hal (fun _ _ h => h)) hadd)
      clear hq hB3 hal hc hb hR hR0 hc0 h hadd
      go_wp2_with fail
      clear c0 c1
      obtain ⟨hc3, hadd⟩ := HC.out
      clear HC
      generalize wr.alloc (.cells #[.string ⟨q.who.toArray⟩, .slice ka q.key.length cap] 53) = w3 at *
      generalize wr.heap.size = B3 at *
      refine hadd.mono ?_
      rintro e w4 ⟨rfl, hcg, hreg⟩
      have hc4 : Chg (fun _ => False) w w4 := hc3.trans hcg (fun i hi h => by omega)
      clear hadd hc3 hcg
      by_cases h0 : keyErr (l.take k) q = 0
      · have hR4 := hreg h0
        have hX : Hid (okUpto l (k + 1)) := hid (okUpto_succ hok.out hlt (by rw [← HQ.out]; exact h0))
        have HR4 : Hid (RegOwn w.heap.size w4 g (l.take (k + 1))) := hid (by rw [List.take_succ_eq_append_getElem hlt, ← HQ.out]; exact hR4)
        have HC4 := hid hc4
        rw [h0]
        clear hreg hR4 hc4 h0
        go_wp2
        go_roundw
        case rel => exact ⟨k + 1, by omega, by go_num, hX, HR4.out, HC4.out⟩
        case measure => simp [intOf]; omega
      · have HF : Hid (newErr l = keyErr (l.take k) q ∧ newErr l ≠ 0) := hid (by
          have e1 := newErr_bad hok.out hlt (by rw [← HQ.out]; exact h0)
          rw [← HQ.out] at e1
          exact ⟨e1, by rw [e1]; exact h0⟩)
        obtain ⟨e0, he0⟩ : ∃ e0 : Int, ((keyErr (l.take k) q : Nat) : Int) = e0 := ⟨_, rfl⟩
        have hne : (e0 == 0) = false := beq_eq_false_iff_ne.2 (by omega)
        have hne2 : (e0 != 0) = true := bne_iff_ne.2 (by omega)
        rw [he0]
        have HE := hid he0
        have HC4 := hid hc4
        clear hreg hc4 h0 he0
        go_wp2
        go_ret2
        exact .inr ⟨HF.out.2, by rw [HF.out.1, HE.out]; rfl, HC4.out⟩
    · have HF : Hid (newErr l = 0) := hid (newErr_ok (by have := hok.out; rwa [show k = l.length by omega] at this))
      have HC := hid (And.intro (show RegOwn w.heap.size wr g l by rw [List.take_of_length_le (by omega)] at hR; exact hR) hc)
      clear hc h hR hR0 hc0
      go_wp2
      go_ret2
      exact .inl ⟨HF.out, g, rfl, HC.out.1, HC.out.2⟩
end Go.Proofs.Ytjflmhncgkbdmaa
