/- Text of a formula. -/
import Derived.Test.YtojbhlbknjnioaaGreatDoorPt23
import Derived.Test.YtojbhlbknjnioaaGreatDoorPt10
import Derived.Test.YtojbhlbknjnioaaGreatDoorPt24
import Derived.Test.YtojbhlbknjnioaaGreatDoorPt7
namespace Go.Proofs.YtojbhlbknjnioaaGreatDoor
open Go.RowKit

theorem textF_eq (f : FmB) : textF f = if f.op = 1 then roleText f.r else headW f.op f.k ++ (40 :: (textL f.kids ++ [41])) := by cases f; rw [textF]; rfl
theorem role_len16 {r : RoleB} (h : isRole r = true) : r.1.length ≤ 16 ∧ r.2.length ≤ 16 := by
  simp only [isRole, Bool.and_eq_true] at h
  have key : ∀ l : List UInt8, isName l = true → l.length ≤ 16 := by
    intro l hl
    cases l with
    | nil => cases hl
    | cons c l =>
      simp only [isName, Bool.and_eq_true, decide_eq_true_eq] at hl
      rw [List.length_cons]
      omega
  exact ⟨key _ h.1, key _ h.2⟩
/-- How long a formula's text is, at most. -/
theorem text_len : ∀ f : FmB, rightF f = true → (textF f).length + 2 ≤ 40 * nodesF f := by
  refine nodes_ind fun f ih hr => ?_
  obtain ⟨op, k, r, kids⟩ := f
  simp only [rightF, Bool.and_eq_true] at hr
  simp only [FmB.kids] at ih
  have hT : ∀ l : List FmB, (∀ g ∈ l, (textF g).length + 2 ≤ 40 * nodesF g) → (textT l).length ≤ 40 * nodesL l := by
    intro l
    induction l with
    | nil => intro _; simp [textT, nodesL]
    | cons g l ihl =>
      intro h
      have h1 := h g (by simp)
      have h2 := ihl (fun x hx => h x (List.mem_cons_of_mem _ hx))
      rw [textT, nodesL]
      simp only [List.length_cons, List.length_append]
      omega
  have hL : (textL kids).length ≤ 40 * nodesL kids := by
    have ihk : ∀ g ∈ kids, (textF g).length + 2 ≤ 40 * nodesF g := fun g hg => ih g hg (rightL_mem hr.1 g hg)
    cases kids with
    | nil => simp [textL, nodesL]
    | cons g l =>
      have h1 := ihk g (by simp)
      have h2 := hT l (fun x hx => ihk x (List.mem_cons_of_mem _ hx))
      rw [textL, nodesL, List.length_append]
      omega
  rw [textF, nodesF]
  by_cases h1 : op = 1
  · rw [if_pos h1]
    have := hr.2
    unfold rightN at this
    rw [if_pos h1, Bool.and_eq_true] at this
    have := role_len16 this.1
    simp only [roleText, List.length_append, List.length_cons]
    omega
  · rw [if_neg h1]
    have hh : (headW op k).length ≤ 4 := by
      unfold headW
      split
      · decide
      · split
        · simp [atW]
        · decide
    simp only [List.length_append, List.length_cons, List.length_nil]
    omega
/-- strings.Join makes it. -/
theorem join_textL (l : List FmB) : Lib.join (l.map textF) [44, 32] = textL l := by
  have hT : ∀ l : List FmB, Lib.joinTail [44, 32] (l.map textF) = textT l := by
    intro l
    induction l with
    | nil => simp [Lib.joinTail, textT]
    | cons g l ih =>
      rw [textT, ← ih]
      simp [Lib.joinTail]
  cases l with
  | nil => simp [textL, Lib.join_nil]
  | cons g l => rw [List.map_cons, Lib.join_cons, hT, textL]

/-- A row of n texts; the first ones are xs. -/
def SRow (xs : List Tok) (n : Nat) (w : World) (N : Nat) : Prop := ∃ cur : Array Value, w.heap[N]? = some (.cells cur 9 (0, 0)) ∧ cur.size = n ∧ ∀ i, (h : i < xs.length) → cur[i]? = some (.string ⟨xs[i].toArray⟩)
theorem SRow.keep {S : Nat → Prop} {xs : List Tok} {n N : Nat} {w w' : World} (h : SRow xs n w N) (hc : Chg S w w') (hs : ¬ S N) : SRow xs n w' N := by
  obtain ⟨cur, h1, h2⟩ := h
  exact ⟨cur, blk_keep h1 hc hs, h2⟩
theorem SRow.any {xs : List Tok} {n N : Nat} {w : World} (h : SRow xs n w N) {i : Nat} (hi : i < n) : (∃ v, w.cell? ⟨N, i, none⟩ = some v) ∧ w.frozen? ⟨N, i, none⟩ = false := by
  obtain ⟨cur, h1, h2, h3⟩ := h
  refine ⟨⟨cur[i]'(by omega), ?_⟩, froz_blk h1 i⟩
  rw [cell_blk h1 i, Array.getElem?_eq_getElem (by omega)]
theorem SRow.set {xs : List Tok} {n N : Nat} {w : World} (h : SRow xs n w N) (hi : xs.length < n) (y : Tok) : SRow (xs ++ [y]) n (w.setCell ⟨N, xs.length, none⟩ (.string ⟨y.toArray⟩)) N := by
  obtain ⟨cur, h1, h2, h3⟩ := h
  refine ⟨cur.setIfInBounds xs.length (.string ⟨y.toArray⟩), ?_, by simpa using h2, fun k hk => ?_⟩
  · simp only [World.setCell, Array.getElem?_modify]
    rw [if_pos trivial, h1]
    rfl
  · by_cases e : xs.length = k
    · subst e
      rw [Array.getElem?_setIfInBounds_self_of_lt (by omega)]
      simp
    · have hk2 : k < xs.length := by simp at hk; omega
      rw [Array.getElem?_setIfInBounds_ne e, h3 k hk2, List.getElem_append_left hk2]
theorem SRow.cells {xs : List Tok} {n N : Nat} {w : World} (h : SRow xs n w N) : ∀ (j : Nat) x, (xs.map (fun l => (⟨l.toArray⟩ : ByteArray)))[j]? = some x → w.cell? ⟨N, 0 + j, none⟩ = some (.string x) := by
  intro j x hj
  obtain ⟨cur, h1, h2, h3⟩ := h
  rw [List.getElem?_map] at hj
  obtain ⟨y, hy, rfl⟩ := Option.map_eq_some_iff.1 hj
  obtain ⟨hlt, rfl⟩ := List.getElem?_eq_some_iff.1 hy
  rw [Nat.zero_add, cell_blk h1 j, h3 j hlt]
theorem run_makeStrs (n : Nat) (hn : n ≤ 1000000) (w : World) : (Instr.makeSlice 45 (.int .i64 n) (.int .i64 n)).run Tryz.prog w = .ok (.slice (some ⟨w.heap.size, 0, none⟩) n n) (w.alloc (.cells (madeCells #[.string ⟨#[]⟩] n) 9)) := by
  have := run_makeSlice (P := Tryz.prog) w 45 9 Tryz.t9 (.string ⟨#[]⟩) Tryz.underlying45 (by kernel_rfl) (by kernel_rfl) .i64 .i64 n n (by omega) (Int.le_refl _) (by show (n : Int).toNat * 1 ≤ _; omega) (by show ((16 : Nat) : Int) * (n : Int) ≤ _; omega) (by omega)
  simpa [show Tryz.t9.size = 1 from rfl, Value.cells] using this
theorem srow_made (w : World) (n : Nat) : SRow [] n (w.alloc (.cells (madeCells #[.string ⟨#[]⟩] n) 9)) w.heap.size := by
  refine ⟨_, heap_alloc_new w _, ?_, fun i hi => absurd hi (by simp)⟩
  have hs := size_madeCells #[Value.string ⟨#[]⟩] n
  simpa using hs

set_option maxRecDepth 100000 in
theorem popening (op k : Int) (r : RoleB) (ao : Option Addr) (n cp : Nat) (w : World) (hr : rightN op k r n = true) (h1 : op ≠ 1) :
    Calls Tryz.prog 39 #[.agg #[.int .i64 op, .int .i64 k, .string ⟨r.1.toArray⟩, .string ⟨r.2.toArray⟩, .slice ao n cp]] w fun e w' => e = .returned (.string ⟨(headW op k).toArray⟩) ∧ Chg (fun _ => False) w w' := by
  have hc : Chg (fun _ => False) w (w.alloc (.cells #[.int .i64 op, .int .i64 k, .string ⟨r.1.toArray⟩, .string ⟨r.2.toArray⟩, .slice ao n cp] 26)) := (Chg.refl _ w).alloc _
  have hb := heap_alloc_new w (.cells #[.int .i64 op, .int .i64 k, .string ⟨r.1.toArray⟩, .string ⟨r.2.toArray⟩, .slice ao n cp] 26)
  have s0 := cell_blk hb 0
  have s1 := cell_blk hb 1
  have s2 := cell_blk hb 2
  have s3 := cell_blk hb 3
  have s4 := cell_blk hb 4
  simp only [List.getElem?_toArray, List.getElem?_cons_zero, List.getElem?_cons_succ] at s0 s1 s2 s3 s4
  have HC := hid hc
  have hop := (rightN_k hr h1).2
  clear hc hb hr
  rcases hop with ⟨rfl, rfl⟩ | ⟨rfl, rfl⟩ | ⟨rfl, h0, h8⟩
  · go_enter Tryz.func39, Tryz.ntmps39
    go_wp2
    go_ret
    exact ⟨rfl, HC.out⟩
  · go_enter Tryz.func39, Tryz.ntmps39
    go_wp2
    go_ret
    exact ⟨rfl, HC.out⟩
  · obtain ⟨m, rfl⟩ : ∃ m : Nat, k = (m : Int) := ⟨k.toNat, by omega⟩
    have hd : Lib.decDigits m = [digitP (m : Int)] := by
      rw [dec_small m (by omega), digN, if_pos (by omega)]
      rfl
    have hi := Tryz.strconv_Itoa_small m (by omega) (w.alloc (.cells #[.int .i64 4, .int .i64 m, .string ⟨r.1.toArray⟩, .string ⟨r.2.toArray⟩, .slice ao n cp] 26))
    rw [hd] at hi
    have HI := hid hi
    clear hi hd
    go_enter Tryz.func39, Tryz.ntmps39
    go_wp2_with fail
    refine HI.out.mono ?_
    rintro e w1 ⟨rfl, rfl⟩
    clear HI
    go_wp2
    go_ret
    exact ⟨rfl, HC.out⟩

set_option maxRecDepth 100000 in
set_option maxHeartbeats 4000000 in
theorem ptold {D : Nat → Prop} : ∀ (n : Nat) (f : FmB) (ao : Option Addr) (cp : Nat) (w : World), FmsAt D w n ao f.kids → FmOk f → rightF f = true → nodesF f ≤ 64 →
    Calls Tryz.prog 24 #[.agg #[.int .i64 f.op, .int .i64 f.k, .string ⟨f.r.1.toArray⟩, .string ⟨f.r.2.toArray⟩, .slice ao f.kids.length cp]] w fun e w' => e = .returned (.string ⟨(textF f).toArray⟩) ∧ Chg (fun _ => False) w w' := by
  intro n
  induction n using Nat.strongRecOn with
  | _ n ih =>
  intro f ao cp w h hok hr hN
  have hnl := nodesL_len f.kids
  have hnf := nodesF_eq f
  have hrk := rightF_eq f
  rw [hr, eq_comm, Bool.and_eq_true] at hrk
  have HX := hid h
  have HIN := hid ih
  have HOK := hid hok
  have HRL := hid (rightL_mem hrk.1)
  have HTL := hid (text_len f hr)
  have HEQ := hid (textF_eq f)
  have hcA : Chg (fun _ => False) w (w.alloc (.cells #[.int .i64 f.op, .int .i64 f.k, .string ⟨f.r.1.toArray⟩, .string ⟨f.r.2.toArray⟩, .slice ao f.kids.length cp] 26)) := (Chg.refl _ w).alloc _
  have hb := heap_alloc_new w (.cells #[.int .i64 f.op, .int .i64 f.k, .string ⟨f.r.1.toArray⟩, .string ⟨f.r.2.toArray⟩, .slice ao f.kids.length cp] 26)
  have s0 := cell_blk hb 0
  have s1 := cell_blk hb 1
  have s2 := cell_blk hb 2
  have s3 := cell_blk hb 3
  have s4 := cell_blk hb 4
  simp only [List.getElem?_toArray, List.getElem?_cons_zero, List.getElem?_cons_succ] at s0 s1 s2 s3 s4
  by_cases h1 : f.op = 1
  · have hro : f.r.1.length ≤ 1048576 ∧ f.r.2.length ≤ 1048576 := by
      have := hrk.2
      unfold rightN at this
      rw [if_pos h1, Bool.and_eq_true] at this
      have := role_len16 this.1
      omega
    have HP := hid (ptext f.r (w.alloc (.cells #[.int .i64 f.op, .int .i64 f.k, .string ⟨f.r.1.toArray⟩, .string ⟨f.r.2.toArray⟩, .slice ao f.kids.length cp] 26)) hro.1 hro.2)
    have HC0 := hid hcA
    have HE : Hid (textF f = roleText f.r) := hid (by rw [HEQ.out, if_pos h1])
    rw [h1] at s0
    have HC1 := HC0.out
    rw [h1] at HC1
    have HC9 := hid HC1
    rw [h1] at HP
    clear h ih hok hr hrk hcA hb hro HC1
    unfold roleV at HP
    go_enter Tryz.func24, Tryz.ntmps24
    go_wp2_with fail
    refine HP.out.mono ?_
    rintro e w1 ⟨rfl, hc1⟩
    have HC2 := hid (HC9.out.trans hc1 (fun _ _ h => h))
    clear hc1 HP s0 s1 s2 s3 s4
    go_wp2
    go_ret
    rw [HE.out]
    exact ⟨rfl, HC2.out⟩
  · have z0 : (f.op == 1) = false := by simpa using h1
    have hkl : f.kids.length ≤ 64 := by omega
    have hmk := run_makeStrs f.kids.length (by omega)
    have hsz : (w.alloc (.cells #[.int .i64 f.op, .int .i64 f.k, .string ⟨f.r.1.toArray⟩, .string ⟨f.r.2.toArray⟩, .slice ao f.kids.length cp] 26)).heap.size = w.heap.size + 1 := by simp
    have hal : Chg (fun _ => False) (w.alloc (.cells #[.int .i64 f.op, .int .i64 f.k, .string ⟨f.r.1.toArray⟩, .string ⟨f.r.2.toArray⟩, .slice ao f.kids.length cp] 26)) ((w.alloc (.cells #[.int .i64 f.op, .int .i64 f.k, .string ⟨f.r.1.toArray⟩, .string ⟨f.r.2.toArray⟩, .slice ao f.kids.length cp] 26)).alloc (.cells (madeCells #[.string ⟨#[]⟩] f.kids.length) 9)) := (Chg.refl _ _).alloc _
    have hrow := srow_made (w.alloc (.cells #[.int .i64 f.op, .int .i64 f.k, .string ⟨f.r.1.toArray⟩, .string ⟨f.r.2.toArray⟩, .slice ao f.kids.length cp] 26)) f.kids.length
    have HB0 := hid (And.intro hb (And.intro hcA (And.intro hsz hrk.2)))
    rw [hsz] at hrow
    have HROW := hid hrow
    have HE : Hid (textF f = headW f.op f.k ++ (40 :: (textL f.kids ++ [41]))) := hid (by rw [HEQ.out, if_neg h1])
    have HAL := hid (hcA.trans hal (fun _ _ h => h))
    have hb1 := blk_keep hb hal id
    have HB1 := hid hb1
    have HOP := hid h1
    have t0 := cell_blk hb1 0
    have t1 := cell_blk hb1 1
    have t2 := cell_blk hb1 2
    have t3 := cell_blk hb1 3
    have t4 := cell_blk hb1 4
    simp only [List.getElem?_toArray, List.getElem?_cons_zero, List.getElem?_cons_succ] at t0 t1 t2 t3 t4
    clear h ih hok hr hrk hcA hb hal hrow hb1 h1
    go_enter Tryz.func24, Tryz.ntmps24
    go_wp2_with fail
    clear hmk
    generalize hw1 : ((w.alloc (.cells #[.int .i64 f.op, .int .i64 f.k, .string ⟨f.r.1.toArray⟩, .string ⟨f.r.2.toArray⟩, .slice ao f.kids.length cp] 26)).alloc (.cells (madeCells #[.string ⟨#[]⟩] f.kids.length) 9)) = w1 at *
    clear hw1
    generalize hA : w.heap.size = A at *
    have HA := hid hA
    clear hA
    go_loopw [19] (fun i wr => ∃ j : Nat, j ≤ f.kids.length ∧ i = .int .i64 j ∧ Hid (SRow ((f.kids.take j).map textF) f.kids.length wr (A + 1) ∧ Chg (fun _ => False) w wr ∧ wr.heap[A]? = some (.cells #[.int .i64 f.op, .int .i64 f.k, .string ⟨f.r.1.toArray⟩, .string ⟨f.r.2.toArray⟩, .slice ao f.kids.length cp] 26 (0, 0)))) (fun i _ => f.kids.length - (intOf i).toNat)
    case atStart => exact ⟨0, Nat.zero_le _, rfl, hid ⟨HROW.out, HAL.out, HB1.out⟩⟩
    case round =>
      obtain ⟨j, hj, rfl, hrel⟩ := hrel
      by_cases hlt : j < f.kids.length
      · have hcw := hrel.out.2.1
        obtain ⟨b, off, hao, hDb, hat⟩ := (HX.out.keep hcw (fun _ _ => id)) j hlt
        obtain ⟨d, ao2, cp2, hd2, ⟨a0, a1, a2, a3, a4⟩, hok2, hz2, hkids⟩ := hat.open_
        have hrg := HRL.out _ (List.getElem_mem hlt)
        have hle1 := nodesL_mem (List.getElem_mem hlt)
        have htk : (f.kids.take (j + 1)).map textF = (f.kids.take j).map textF ++ [textF f.kids[j]] := by rw [List.take_succ_eq_append_getElem hlt, List.map_append]; rfl
        have hln : ((f.kids.take j).map textF).length = j := by rw [List.length_map, List.length_take]; omega
        generalize f.kids[j] = g at *
        have hcB : Chg (fun _ => False) wr (wr.alloc (.cells #[.int .i64 g.op, .int .i64 g.k, .string ⟨g.r.1.toArray⟩, .string ⟨g.r.2.toArray⟩, .slice ao2 g.kids.length cp2] 26)) := (Chg.refl _ wr).alloc _
        have hnb := heap_alloc_new wr (.cells #[.int .i64 g.op, .int .i64 g.k, .string ⟨g.r.1.toArray⟩, .string ⟨g.r.2.toArray⟩, .slice ao2 g.kids.length cp2] 26)
        have t0 := cell_blk hnb 0
        have t1 := cell_blk hnb 1
        have t2 := cell_blk hnb 2
        have t3 := cell_blk hnb 3
        have t4 := cell_blk hnb 4
        simp only [List.getElem?_toArray, List.getElem?_cons_zero, List.getElem?_cons_succ] at t0 t1 t2 t3 t4
        have HIH := hid (HIN.out d hd2 g ao2 cp2 (wr.alloc (.cells #[.int .i64 g.op, .int .i64 g.k, .string ⟨g.r.1.toArray⟩, .string ⟨g.r.2.toArray⟩, .slice ao2 g.kids.length cp2] 26)) (hkids.keep hcB (fun _ _ => id)) hok2 hrg (by omega))
        have HR1 := hid (And.intro (hrel.out.1.keep hcB id) (And.intro (hcw.trans hcB (fun _ _ h => h)) (And.intro (blk_keep hrel.out.2.2 hcB id) (And.intro htk hln))))
        have HLT := hid hlt
        clear hcB hnb hrel hkids hat hle1 hok2 hd2 hcw hrg htk hln
        subst hao
        go_wp2_with fail
        refine HIH.out.mono ?_
        rintro e w3 ⟨rfl, hc3⟩
        have hsr := HR1.out.1.keep hc3 id
        obtain ⟨⟨v9, x9⟩, y9⟩ := hsr.any HLT.out
        have hset := hsr.set (by rw [HR1.out.2.2.2.2]; exact HLT.out) (textF g)
        rw [HR1.out.2.2.2.2, ← HR1.out.2.2.2.1] at hset
        have HS := hid (And.intro hset (And.intro ((HR1.out.2.1.trans hc3 (fun _ _ h => h)).trans (setCell_chg w3 (A + 1) j (.string ⟨(textF g).toArray⟩)) (fun i hi e => by have := HA.out; have : i = A + 1 := e; omega)) (blk_keep (blk_keep HR1.out.2.2.1 hc3 id) (setCell_chg w3 (A + 1) j (.string ⟨(textF g).toArray⟩)) (fun e => by have : A = A + 1 := e; omega))))
        clear HIH hsr hset hc3 HR1 a0 a1 a2 a3 a4 t0 t1 t2 t3 t4
        go_wp2
        go_roundw
        case rel => exact ⟨j + 1, HLT.out, by go_num, HS⟩
        case measure => have := HLT.out; simp [intOf]; omega
      · have hje : j = f.kids.length := by omega
        have hr := hrel.out
        rw [hje, List.take_length] at hr
        have HR := hid hr
        have hb := hr.2.2
        have HOPN := hid (popening f.op f.k f.r ao f.kids.length cp wr HB0.out.2.2.2 HOP.out)
        clear s0 s1 s2 s3 s4 t0 t1 t2 t3 t4 hr hrel
        have s0 := cell_blk hb 0
        have s1 := cell_blk hb 1
        have s2 := cell_blk hb 2
        have s3 := cell_blk hb 3
        have s4 := cell_blk hb 4
        simp only [List.getElem?_toArray, List.getElem?_cons_zero, List.getElem?_cons_succ] at s0 s1 s2 s3 s4
        clear hb hje
        go_wp2_with fail
        refine HOPN.out.mono ?_
        rintro e w3 ⟨rfl, hc3⟩
        have hsr := HR.out.1.keep hc3 id
        have hj := Tryz.strings_Join (A + 1) 0 f.kids.length ((f.kids.map textF).map (fun l => (⟨l.toArray⟩ : ByteArray))) ⟨#[44, 32]⟩ w3 hsr.cells
        have hxl : ((f.kids.map textF).map (fun l => (⟨l.toArray⟩ : ByteArray))).length = f.kids.length := by simp
        have hxm : ((f.kids.map textF).map (fun l => (⟨l.toArray⟩ : ByteArray))).map (·.data.toList) = f.kids.map textF := by simp [Function.comp_def]
        rw [hxl, hxm] at hj
        have hsep : (⟨#[44, 32]⟩ : ByteArray).data.toList = [44, 32] := rfl
        rw [hsep, join_textL] at hj
        have hlt3 : A + 1 < w3.heap.size := by
          obtain ⟨cur, h1, _⟩ := hsr
          exact lt_blk h1
        have htl := HTL.out
        rw [HE.out] at htl
        have hE2 := HE.out
        simp only [List.length_append, List.length_cons, List.length_nil] at htl
        obtain ⟨hh, hhe⟩ : ∃ hh, hh = headW f.op f.k := ⟨_, rfl⟩
        obtain ⟨jj, hje⟩ : ∃ jj, jj = textL f.kids := ⟨_, rfl⟩
        rw [← hhe, ← hje] at htl
        rw [← hje] at hj
        rw [← hhe, ← hje] at hE2
        have HE2 := hid hE2
        rw [← hhe]
        have HJ := hid (hj hlt3 (by omega) (Nat.le_refl _) (by omega))
        have HC3 := hid (HR.out.2.1.trans hc3 (fun _ _ h => h))
        have HTL2 := hid htl
        have hb1 : ¬ 9223372036854775807 < hh.length + 1 := by omega
        have hb2 : ¬ 9223372036854775807 < hh.length + 1 + jj.length := by omega
        have hb3 : ¬ 9223372036854775807 < hh.length + 1 + jj.length + 1 := by omega
        clear hsr hj hxl hxm hsep hlt3 htl hhe hje hc3 hE2 HR HOPN s0 s1 s2 s3 s4 HTL HEQ HE
        go_wp2_with fail
        refine HJ.out.mono ?_
        rintro e w4 ⟨rfl, hb4⟩
        have HC4 := hid (HC3.out.trans (chg_of_below hb4) (fun _ _ h => h))
        clear hb4 HJ HC3
        go_wp2
        go_ret
        rw [HE2.out]
        refine ⟨congrArg (fun b => Ending.returned (.string b)) ?_, HC4.out⟩
        show (⟨hh.toArray⟩ : ByteArray) ++ ⟨([40] : List UInt8).toArray⟩ ++ ⟨jj.toArray⟩ ++ ⟨([41] : List UInt8).toArray⟩ = ⟨(hh ++ (40 :: (jj ++ [41]))).toArray⟩
        rw [ByteArray.mk_append_mk, ByteArray.mk_append_mk, ByteArray.mk_append_mk]
        simp

theorem isF_right9 {f : FmB} (h : isF f = true) : nodesF f ≤ 64 ∧ deepF f ≤ 6 ∧ rightF f = true := by simpa only [isF, Bool.and_eq_true, decide_eq_true_eq] using h
/-- Text. -/
def textP (f : FmB) : Tok := if isF f = true then textF f else []

set_option maxRecDepth 100000 in
set_option maxHeartbeats 1000000 in
theorem pText {D : Nat → Prop} (n : Nat) (f : FmB) (ao : Option Addr) (cp : Nat) (w : World) (h : FmsAt D w n ao f.kids) (hD : ∀ i, D i → i < w.heap.size) (hok : FmOk f) (hN : nodesF f ≤ 4096) :
    Calls Tryz.prog 11 #[.agg #[.int .i64 f.op, .int .i64 f.k, .string ⟨f.r.1.toArray⟩, .string ⟨f.r.2.toArray⟩, .slice ao f.kids.length cp]] w fun e w' => e = .returned (.string ⟨(textP f).toArray⟩) ∧ Chg (fun _ => False) w w' := by
  have hcA : Chg (fun _ => False) w (w.alloc (.cells #[.int .i64 f.op, .int .i64 f.k, .string ⟨f.r.1.toArray⟩, .string ⟨f.r.2.toArray⟩, .slice ao f.kids.length cp] 26)) := (Chg.refl _ w).alloc _
  have hb := heap_alloc_new w (.cells #[.int .i64 f.op, .int .i64 f.k, .string ⟨f.r.1.toArray⟩, .string ⟨f.r.2.toArray⟩, .slice ao f.kids.length cp] 26)
  have HRT := hid (fm_right n f ao cp (w.alloc (.cells #[.int .i64 f.op, .int .i64 f.k, .string ⟨f.r.1.toArray⟩, .string ⟨f.r.2.toArray⟩, .slice ao f.kids.length cp] 26)) (h.keep hcA (fun _ _ => id)) (fun i hi => Nat.lt_of_lt_of_le (hD i hi) hcA.size) hok hN)
  have s0 := cell_blk hb 0
  have s1 := cell_blk hb 1
  have s2 := cell_blk hb 2
  have s3 := cell_blk hb 3
  have s4 := cell_blk hb 4
  simp only [List.getElem?_toArray, List.getElem?_cons_zero, List.getElem?_cons_succ] at s0 s1 s2 s3 s4
  have HX := hid (And.intro h (And.intro hok (And.intro hcA hb)))
  clear h hD hok hcA hb
  go_enter Tryz.func11, Tryz.ntmps11
  go_wp2_with fail
  refine HRT.out.mono ?_
  rintro e w1 ⟨rfl, hc1⟩
  have hc := HX.out.2.2.1.trans hc1 (fun _ _ h => h)
  have hb1 := blk_keep HX.out.2.2.2 hc1 id
  clear HRT s0 s1 s2 s3 s4
  cases hf : isF f with
  | false =>
    have HF : Hid (textP f = []) := hid (by unfold textP; rw [hf]; rfl)
    have HC := hid hc
    clear hf hc hc1 hb1
    go_wp2
    go_ret
    rw [HF.out]
    exact ⟨rfl, HC.out⟩
  | true =>
    have HF : Hid (textP f = textF f) := hid (by unfold textP; rw [hf]; rfl)
    have hif := isF_right9 hf
    have HT := hid (ptold n f ao cp w1 (HX.out.1.keep hc (fun _ _ => id)) HX.out.2.1 hif.2.2 hif.1)
    have HC := hid hc
    have s0 := cell_blk hb1 0
    have s1 := cell_blk hb1 1
    have s2 := cell_blk hb1 2
    have s3 := cell_blk hb1 3
    have s4 := cell_blk hb1 4
    simp only [List.getElem?_toArray, List.getElem?_cons_zero, List.getElem?_cons_succ] at s0 s1 s2 s3 s4
    clear hf hc hc1 hb1 hif
    go_wp2_with fail
    refine HT.out.mono ?_
    rintro e w2 ⟨rfl, hc2⟩
    have HC2 := hid (HC.out.trans hc2 (fun _ _ h => h))
    clear hc2 HT s0 s1 s2 s3 s4
    go_wp2
    go_ret
    rw [HF.out]
    exact ⟨rfl, HC2.out⟩
end Go.Proofs.YtojbhlbknjnioaaGreatDoor
