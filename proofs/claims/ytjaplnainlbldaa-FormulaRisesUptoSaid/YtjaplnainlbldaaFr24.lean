/- Texts that the proof leans on, in one: FmFirst, FmRoleApp, RoleSpec, RoleClear. -/
import Derived.Test.YtjaplnainlbldaaFr15
import Derived.Test.YtjaplnainlbldaaFr16
import Derived.Test.YtjaplnainlbldaaFr18
import Derived.Test.YtjaplnainlbldaaFr22
import Derived.Test.YtjaplnainlbldaaFr23
import Derived.Test.YtjaplnainlbldaaFr6
import Derived.StillTailTactics
import Derived.Test.YtjaplnainlbldaaFr13
import Derived.Test.YtjaplnainlbldaaFr2
import Derived.Test.YtjaplnainlbldaaFr3
import Derived.Lib.SliceRun
/- Law 11's first. -/
namespace Go.Proofs.Ytjaplnainlbldaa
open Go.RowKit

def fA1 : FmB := .mk 1 0 ([97], [114]) []
def fB1 : FmB := .mk 1 0 ([98], [114]) []
def fF1 : FmB := .mk 4 1 ([], []) [fA1, fB1]

theorem heap5 (w : World) (o0 o1 o2 o3 o4 : Obj) : (((((w.alloc o0).alloc o1).alloc o2).alloc o3).alloc o4).heap[w.heap.size]? = some o0 ∧ (((((w.alloc o0).alloc o1).alloc o2).alloc o3).alloc o4).heap[w.heap.size + 1]? = some o1 ∧ (((((w.alloc o0).alloc o1).alloc o2).alloc o3).alloc o4).heap[w.heap.size + 1 + 1]? = some o2 ∧ (((((w.alloc o0).alloc o1).alloc o2).alloc o3).alloc o4).heap[w.heap.size + 1 + 1 + 1]? = some o3 ∧ (((((w.alloc o0).alloc o1).alloc o2).alloc o3).alloc o4).heap[w.heap.size + 1 + 1 + 1 + 1]? = some o4 ∧ (((((w.alloc o0).alloc o1).alloc o2).alloc o3).alloc o4).heap.size = w.heap.size + 5 ∧ Chg (fun _ => False) w (((((w.alloc o0).alloc o1).alloc o2).alloc o3).alloc o4) := by
  have c : ∀ (v : World) (o : Obj), Chg (fun _ => False) v (v.alloc o) := fun v o => (Chg.refl _ v).alloc _
  have n0 := heap_alloc_new w o0
  have n1 := heap_alloc_new (w.alloc o0) o1
  have n2 := heap_alloc_new ((w.alloc o0).alloc o1) o2
  have n3 := heap_alloc_new (((w.alloc o0).alloc o1).alloc o2) o3
  have n4 := heap_alloc_new ((((w.alloc o0).alloc o1).alloc o2).alloc o3) o4
  simp only [World.size_alloc] at n1 n2 n3 n4
  exact ⟨blk_keep (blk_keep (blk_keep (blk_keep n0 (c _ o1) id) (c _ o2) id) (c _ o3) id) (c _ o4) id, blk_keep (blk_keep (blk_keep n1 (c _ o2) id) (c _ o3) id) (c _ o4) id, blk_keep (blk_keep n2 (c _ o3) id) (c _ o4) id, blk_keep n3 (c _ o4) id, n4, by simp, (((((Chg.refl _ w).alloc _).alloc _).alloc _).alloc _).alloc _⟩

attribute [local go_sem ↓ high] run_eql_role run_eqg_role
theorem fst_fms {w : World} {b : Nat} (hb : w.heap[b]? = some (.cells #[.int .i64 1, .int .i64 0, .string ⟨#[97]⟩, .string ⟨#[114]⟩, .slice none 0 0, .int .i64 1, .int .i64 0, .string ⟨#[98]⟩, .string ⟨#[114]⟩, .slice none 0 0] 58 (0, 0))) : FmsAt (fun k => k = b) w 1 (some ⟨b, 0, none⟩) fF1.kids := by
  intro i hi
  rcases i with _ | _ | i
  · exact ⟨b, 0, rfl, rfl, cell_blk hb 0, cell_blk hb 1, cell_blk hb 2, cell_blk hb 3, ⟨show ([97] : List UInt8).length ≤ _ by decide, show ([114] : List UInt8).length ≤ _ by decide⟩, none, 0, cell_blk hb 4, fun _ => rfl, fun i hi => absurd hi (by simp [fF1, fA1, FmB.kids])⟩
  · exact ⟨b, 0, rfl, rfl, cell_blk hb 5, cell_blk hb 6, cell_blk hb 7, cell_blk hb 8, ⟨show ([98] : List UInt8).length ≤ _ by decide, show ([114] : List UInt8).length ≤ _ by decide⟩, none, 0, cell_blk hb 9, fun _ => rfl, fun i hi => absurd hi (by simp [fF1, fB1, FmB.kids])⟩
  · have : i + 1 + 1 < 2 := hi
    omega
theorem fF1_is : isF fF1 = true := by decide +kernel
theorem fst_cmp : Lib.compareBytes (wrF fA1) (wrF fF1) = -1 := by decide +kernel
theorem fst_set {out : List RoleB} (h : SetR [fB1.r, fA1.r] out) : out = [fA1.r, fB1.r] := by
  refine h.one ⟨⟨by decide +kernel, ⟨fun y hy => (by cases hy), trivial⟩⟩, fun x => ⟨fun h => ?_, fun h => ?_⟩⟩
  · simp only [List.mem_cons, List.not_mem_nil, or_false] at h
    rcases h with rfl | rfl <;> decide +kernel
  · obtain ⟨h, hn⟩ := h
    simp only [List.mem_cons, List.not_mem_nil, or_false] at h
    rcases h with rfl | rfl
    · simp
    · simp

def tB1 (r : RoleB) : Bool := decide (r = fB1.r)
set_option maxRecDepth 100000 in
theorem fst_ask2 (w : World) (b : Nat) (hb : w.heap[b]? = some (.cells #[.int .i64 1, .int .i64 0, .string ⟨#[98]⟩, .string ⟨#[114]⟩, .slice none 0 0] 58 (0, 0))) : AskR 57 #[] #[.pointer (some ⟨b, 0, none⟩)] tB1 w := by
  intro r W h1 h2 hW
  have hb2 := blk_keep hb hW id
  have y2 : W.cell? ⟨b, 2, none⟩ = some (.string ⟨fB1.r.1.toArray⟩) := cell_blk hb2 2
  have y3 : W.cell? ⟨b, 3, none⟩ = some (.string ⟨fB1.r.2.toArray⟩) := cell_blk hb2 3
  show Calls Try.prog 57 #[.agg #[.string ⟨r.1.toArray⟩, .string ⟨r.2.toArray⟩], .pointer (some ⟨b, 0, none⟩)] W _
  have hb3 := blk_keep hb2 ((Chg.refl (fun _ => False) W).alloc (.cells #[.string ⟨r.1.toArray⟩, .string ⟨r.2.toArray⟩] 24)) id
  have z2 : (W.alloc (.cells #[.string ⟨r.1.toArray⟩, .string ⟨r.2.toArray⟩] 24)).cell? ⟨b, 2, none⟩ = some (.string ⟨fB1.r.1.toArray⟩) := cell_blk hb3 2
  have z3 : (W.alloc (.cells #[.string ⟨r.1.toArray⟩, .string ⟨r.2.toArray⟩] 24)).cell? ⟨b, 3, none⟩ = some (.string ⟨fB1.r.2.toArray⟩) := cell_blk hb3 3
  clear hb3
  obtain ⟨rb, hrb⟩ : ∃ rb, rb = fB1.r := ⟨_, rfl⟩
  unfold tB1
  rw [← hrb] at y2 y3 z2 z3 ⊢
  clear hb hb2 hW hrb
  go_enter Try.func57, Try.ntmps57
  go_wp2
  go_ret
  exact ⟨rfl, (Chg.refl _ _).alloc _⟩
theorem fst_ent2 (args : Array Value) (w : World) : (callFunc 57 args).run Try.prog w = .ok (.enter 57 args) w := enters Try.func57 rfl rfl args w
set_option maxRecDepth 100000 in
theorem fst_ask3 (w : World) (b : Nat) (hb : w.heap[b]? = some (.cells #[.int .i64 1, .int .i64 0, .string ⟨#[98]⟩, .string ⟨#[114]⟩, .slice none 0 0] 58 (0, 0))) : AskR 58 #[] #[.pointer (some ⟨b, 0, none⟩)] tB1 w := by
  intro r W h1 h2 hW
  have hb2 := blk_keep hb hW id
  have y2 : W.cell? ⟨b, 2, none⟩ = some (.string ⟨fB1.r.1.toArray⟩) := cell_blk hb2 2
  have y3 : W.cell? ⟨b, 3, none⟩ = some (.string ⟨fB1.r.2.toArray⟩) := cell_blk hb2 3
  show Calls Try.prog 58 #[.agg #[.string ⟨r.1.toArray⟩, .string ⟨r.2.toArray⟩], .pointer (some ⟨b, 0, none⟩)] W _
  have hb3 := blk_keep hb2 ((Chg.refl (fun _ => False) W).alloc (.cells #[.string ⟨r.1.toArray⟩, .string ⟨r.2.toArray⟩] 24)) id
  have z2 : (W.alloc (.cells #[.string ⟨r.1.toArray⟩, .string ⟨r.2.toArray⟩] 24)).cell? ⟨b, 2, none⟩ = some (.string ⟨fB1.r.1.toArray⟩) := cell_blk hb3 2
  have z3 : (W.alloc (.cells #[.string ⟨r.1.toArray⟩, .string ⟨r.2.toArray⟩] 24)).cell? ⟨b, 3, none⟩ = some (.string ⟨fB1.r.2.toArray⟩) := cell_blk hb3 3
  clear hb3
  obtain ⟨rb, hrb⟩ : ∃ rb, rb = fB1.r := ⟨_, rfl⟩
  unfold tB1
  rw [← hrb] at y2 y3 z2 z3 ⊢
  clear hb hb2 hW hrb
  go_enter Try.func58, Try.ntmps58
  go_wp2
  go_ret
  exact ⟨rfl, (Chg.refl _ _).alloc _⟩
theorem fst_ent3 (args : Array Value) (w : World) : (callFunc 58 args).run Try.prog w = .ok (.enter 58 args) w := enters Try.func58 rfl rfl args w
theorem fst_true : (isF fF1 && holdsF tB1 fF1) = true := by decide +kernel
theorem fst_false : (isF fA1 && holdsF tB1 fA1) = false := by decide +kernel
theorem fst_zero : isF (.mk 0 0 ([], []) []) = false := by decide +kernel
theorem fst_nodes : nodesF fF1 = 3 := by decide +kernel
theorem fst_deep : deepF fF1 = 2 := by decide +kernel

theorem fst_kids {w : World} {b : Nat} (hb : w.heap[b]? = some (.cells #[.int .i64 1, .int .i64 0, .string ⟨#[97]⟩, .string ⟨#[114]⟩, .slice none 0 0, .int .i64 1, .int .i64 0, .string ⟨#[98]⟩, .string ⟨#[114]⟩, .slice none 0 0] 58 (0, 0))) : ∀ j (h : j < [fA1.r, fB1.r].length), w.cell? ⟨b, j * 5, none⟩ = some (.int .i64 1) ∧ w.cell? ⟨b, j * 5 + 2, none⟩ = some (.string ⟨[fA1.r, fB1.r][j].1.toArray⟩) ∧ w.cell? ⟨b, j * 5 + 3, none⟩ = some (.string ⟨[fA1.r, fB1.r][j].2.toArray⟩) ∧ [fA1.r, fB1.r][j].1.length ≤ 9223372036854775807 ∧ [fA1.r, fB1.r][j].2.length ≤ 9223372036854775807 := by
  intro j hj
  rcases j with _ | _ | j
  · exact ⟨cell_blk hb 0, cell_blk hb 2, cell_blk hb 3, show ([97] : List UInt8).length ≤ _ by decide, show ([114] : List UInt8).length ≤ _ by decide⟩
  · exact ⟨cell_blk hb 5, cell_blk hb 7, cell_blk hb 8, show ([98] : List UInt8).length ≤ _ by decide, show ([114] : List UInt8).length ≤ _ by decide⟩
  · have : j + 1 + 1 < 2 := hj
    omega

set_option maxRecDepth 100000 in
set_option maxHeartbeats 8000000 in
theorem fm_first (HSET : (∀ {D : Nat → Prop} (ao : Option Addr) (cp : Nat) (ls : List RoleB) (w : World), ls.length ≤ 4194304 → RolesAt D w ao ls → (∀ i, D i → i < w.heap.size) → (ao = none → cp = 0) → Calls Try.prog 92 #[.slice ao ls.length cp] w (SetPostR ls w))) (w : World) : Calls Try.prog 23 #[] w fun e w' => e = .returned (.bool true) ∧ Chg (fun _ => False) w w' := by
  go_enter Try.func23, Try.ntmps23
  obtain ⟨hA, hB, hK, hF, hP, hsz, hc5⟩ := heap5 w (.cells #[.int .i64 1, .int .i64 0, .string ⟨#[97]⟩, .string ⟨#[114]⟩, .slice none 0 0] 58) (.cells #[.int .i64 1, .int .i64 0, .string ⟨#[98]⟩, .string ⟨#[114]⟩, .slice none 0 0] 58) (.cells #[.int .i64 1, .int .i64 0, .string ⟨#[97]⟩, .string ⟨#[114]⟩, .slice none 0 0, .int .i64 1, .int .i64 0, .string ⟨#[98]⟩, .string ⟨#[114]⟩, .slice none 0 0] 58) (.cells #[.int .i64 4, .int .i64 1, .string ⟨#[]⟩, .string ⟨#[]⟩, .slice (some ⟨w.heap.size + 1 + 1, 0, none⟩) 2 2] 58) (.cells #[.slice none 0 0] 67)
  have hfm := fst_fms hK
  have HP : Hid (Calls Try.prog 29 #[.pointer (some ⟨w.heap.size + 1 + 1 + 1 + 1, 0, none⟩), .agg #[.int .i64 4, .int .i64 1, .string ⟨#[]⟩, .string ⟨#[]⟩, .slice (some ⟨w.heap.size + 1 + 1, 0, none⟩) 2 2]] (((((w.alloc (.cells #[.int .i64 1, .int .i64 0, .string ⟨#[97]⟩, .string ⟨#[114]⟩, .slice none 0 0] 58)).alloc (.cells #[.int .i64 1, .int .i64 0, .string ⟨#[98]⟩, .string ⟨#[114]⟩, .slice none 0 0] 58)).alloc (.cells #[.int .i64 1, .int .i64 0, .string ⟨#[97]⟩, .string ⟨#[114]⟩, .slice none 0 0, .int .i64 1, .int .i64 0, .string ⟨#[98]⟩, .string ⟨#[114]⟩, .slice none 0 0] 58)).alloc (.cells #[.int .i64 4, .int .i64 1, .string ⟨#[]⟩, .string ⟨#[]⟩, .slice (some ⟨w.heap.size + 1 + 1, 0, none⟩) 2 2] 58)).alloc (.cells #[.slice none 0 0] 67)) fun e w' => e = .returned (.bool true) ∧ PenPost (w.heap.size + 5) (w.heap.size + 1 + 1 + 1 + 1) none ([] ++ encF fF1) (((((w.alloc (.cells #[.int .i64 1, .int .i64 0, .string ⟨#[97]⟩, .string ⟨#[114]⟩, .slice none 0 0] 58)).alloc (.cells #[.int .i64 1, .int .i64 0, .string ⟨#[98]⟩, .string ⟨#[114]⟩, .slice none 0 0] 58)).alloc (.cells #[.int .i64 1, .int .i64 0, .string ⟨#[97]⟩, .string ⟨#[114]⟩, .slice none 0 0, .int .i64 1, .int .i64 0, .string ⟨#[98]⟩, .string ⟨#[114]⟩, .slice none 0 0] 58)).alloc (.cells #[.int .i64 4, .int .i64 1, .string ⟨#[]⟩, .string ⟨#[]⟩, .slice (some ⟨w.heap.size + 1 + 1, 0, none⟩) 2 2] 58)).alloc (.cells #[.slice none 0 0] 67)) w') := hid (fm_putyes 1 fF1 (some ⟨w.heap.size + 1 + 1, 0, none⟩) 2 (w.heap.size + 5) (w.heap.size + 1 + 1 + 1 + 1) 0 none [] (((((w.alloc (.cells #[.int .i64 1, .int .i64 0, .string ⟨#[97]⟩, .string ⟨#[114]⟩, .slice none 0 0] 58)).alloc (.cells #[.int .i64 1, .int .i64 0, .string ⟨#[98]⟩, .string ⟨#[114]⟩, .slice none 0 0] 58)).alloc (.cells #[.int .i64 1, .int .i64 0, .string ⟨#[97]⟩, .string ⟨#[114]⟩, .slice none 0 0, .int .i64 1, .int .i64 0, .string ⟨#[98]⟩, .string ⟨#[114]⟩, .slice none 0 0] 58)).alloc (.cells #[.int .i64 4, .int .i64 1, .string ⟨#[]⟩, .string ⟨#[]⟩, .slice (some ⟨w.heap.size + 1 + 1, 0, none⟩) 2 2] 58)).alloc (.cells #[.slice none 0 0] 67)) hfm ⟨by decide, by decide⟩ fF1_is (by simp) ⟨hP, World.ownsRow_nil _ _ _ _⟩ (by omega) (by omega) (fun i hi => by omega))
  have HB := hid (And.intro hA (And.intro hB (And.intro hK (And.intro hF (And.intro hP (And.intro hsz hc5))))))
  clear hA hB hK hF hP hsz hc5 hfm
  go_wp2_with fail
  refine HP.out.mono ?_
  rintro e w3 ⟨rfl, a3, c3, hp3, hch3⟩
  rw [List.nil_append] at hp3
  obtain ⟨hA, hB, hK, hF, hP, hsz, hc5⟩ := HB.out
  have hs3 := hch3.chg.size
  have hA3 := blk_keep hA hch3.chg (fun e => e.elim (fun e => by omega) (fun e => by cases e))
  have hB3 := blk_keep hB hch3.chg (fun e => e.elim (fun e => by omega) (fun e => by cases e))
  have hK3 := blk_keep hK hch3.chg (fun e => e.elim (fun e => by omega) (fun e => by cases e))
  have hF3 := blk_keep hF hch3.chg (fun e => e.elim (fun e => by omega) (fun e => by cases e))
  have HC3 := hid (pchg_new (B := w.heap.size + 5) (P := w.heap.size + 1 + 1 + 1 + 1) (ao := none) (cap := 0) (xs := []) hc5 ⟨hP, World.ownsRow_nil _ _ _ _⟩ (by omega) (by omega) hch3)
  have H3 := hid (And.intro hA3 (And.intro hB3 (And.intro hK3 (And.intro hF3 (show w.heap.size + 5 ≤ w3.heap.size by omega)))))
  have HBY := hid (bytes_any (w.heap.size + 5) (w.heap.size + 1 + 1 + 1 + 1) c3 a3 (encF fF1) (w3.alloc (.cells #[.int .i64 0, .int .i64 0, .string ⟨#[]⟩, .string ⟨#[]⟩, .slice none 0 0] 58)) (hp3.keep ((Chg.refl (fun _ => False) w3).alloc (.cells #[.int .i64 0, .int .i64 0, .string ⟨#[]⟩, .string ⟨#[]⟩, .slice none 0 0] 58)) id (fun _ _ => id)) (by decide +kernel))
  clear hA hB hK hF hP hsz hc5 hs3 hA3 hB3 hK3 hF3 hp3 hch3 HP HB
  go_wp2_with fail
  refine HBY.out.mono ?_
  rintro e w4 ⟨ao, cap, rfl, hby, hc4⟩
  obtain ⟨hA3, hB3, hK3, hF3, hs3⟩ := H3.out
  have cX : Chg (fun _ => False) w3 (w3.alloc (.cells #[.int .i64 0, .int .i64 0, .string ⟨#[]⟩, .string ⟨#[]⟩, .slice none 0 0] 58)) := (Chg.refl _ w3).alloc _
  have cX4 := cX.trans hc4 (fun _ _ h => h)
  have hX4 := blk_keep (heap_alloc_new w3 (.cells #[.int .i64 0, .int .i64 0, .string ⟨#[]⟩, .string ⟨#[]⟩, .slice none 0 0] 58)) hc4 id
  have hsX : (w3.alloc (.cells #[.int .i64 0, .int .i64 0, .string ⟨#[]⟩, .string ⟨#[]⟩, .slice none 0 0] 58)).heap.size = w3.heap.size + 1 := by simp
  obtain ⟨Xb, hXb⟩ : ∃ Xb, Xb = w3.heap.size := ⟨_, rfl⟩
  rw [hsX, ← hXb] at hby
  rw [← hXb] at hX4 hs3 ⊢
  have HRD := hid (fm_readF fF1 fF1_is ao cap (encF fF1).length Xb w4 rfl hby hX4 (fun h => by omega) (fun i hi => hi.2) (by decide +kernel))
  have H4 := hid (And.intro (blk_keep hA3 cX4 id) (And.intro (blk_keep hB3 cX4 id) (And.intro (blk_keep hK3 cX4 id) (And.intro (blk_keep hF3 cX4 id) (And.intro hs3 hX4)))))
  have HC4 := hid (HC3.out.trans cX4 (fun _ _ h => h))
  have hXl := lt_blk hX4
  have HXL := hid hXl
  clear hA3 hB3 hK3 hF3 hs3 cX cX4 hX4 hsX hby hc4 HBY H3 hXl HC3 hXb
  go_wp2_with fail
  refine HRD.out.mono ?_
  rintro e w5 ⟨rfl, t, ao2, q, cp2, ht, htv, hX5, hown, hnd, hc5⟩
  obtain ⟨op, k, r, v, kids⟩ := t
  have htv : v = .slice ao2 q cp2 := htv
  subst htv
  obtain ⟨ao3, cp3, hv3, _, hfs, hok⟩ := own_fms hown
  have hq : q = kids.length := by
    have hv3 : Value.slice ao2 q cp2 = .slice ao3 kids.length cp3 := hv3
    injection hv3
  obtain ⟨hA4, hB4, hK4, hF4, hs4, hX4⟩ := H4.out
  have hA5 := blk_keep hA4 hc5 (fun e => by omega)
  have hB5 := blk_keep hB4 hc5 (fun e => by omega)
  have hK5 := blk_keep hK4 hc5 (fun e => by omega)
  have hF5 := blk_keep hF4 hc5 (fun e => by omega)
  have hlt5 := HXL.out
  have HSM := hid (fun W (hW : Chg (fun _ => False) w5 W) => fm_same (D := fun i => i = w.heap.size + 1 + 1) w4.heap.size op k r ao2 q cp2 kids fF1 1 (some ⟨w.heap.size + 1 + 1, 0, none⟩) 2 W hq (ownA_keep hW _ hown (fun _ _ => id)) hnd (by rw [ht]; decide +kernel) ((fst_fms hK5).keep hW (fun _ _ => id)) (fun i hi => by have := lt_blk (blk_keep hK5 hW id); omega) ⟨by decide, by decide⟩ (fun e => by cases e) (by decide))
  have HT := hid ht
  have H5 := hid (And.intro hA5 (And.intro hB5 (And.intro hK5 (And.intro hF5 hX5))))
  have HC5 := hid (HC4.out.trans hc5 (fun i hi e => by have := HC4.out.size; omega))
  have HSZ := hid (fm_size (D := fun i => i = w.heap.size + 1 + 1) 1 fF1 (some ⟨w.heap.size + 1 + 1, 0, none⟩) 2 w5 (fst_fms hK5) (fun i hi => by have := lt_blk hK5; omega) (by decide +kernel))
  have f0 := cell_blk hF5 0
  have f1 := cell_blk hF5 1
  have f2 := cell_blk hF5 2
  have f3 := cell_blk hF5 3
  have f4 := cell_blk hF5 4
  simp only [List.getElem?_toArray, List.getElem?_cons_zero, List.getElem?_cons_succ] at f0 f1 f2 f3 f4
  clear hfs hok hv3 hA4 hB4 hK4 hF4 hs4 hX4 hA5 hB5 hK5 hF5 hX5 hown hnd ht hc5 HRD H4 HXL hq hlt5
  go_wp2_with fail
  refine HSZ.out.mono ?_
  rintro e w6 ⟨rfl, hc6⟩
  rw [fst_nodes, fst_deep]
  have HC6 := hid (HC5.out.trans hc6 (fun _ _ h => h))
  have HG6 := hid hc6
  clear hc6 HSZ
  have hx := blk_keep H5.out.2.2.2.2 HG6.out id
  have x0 := cell_blk hx 0
  have x1 := cell_blk hx 1
  have x2 := cell_blk hx 2
  have x3 := cell_blk hx 3
  have x4 := cell_blk hx 4
  simp only [List.getElem?_toArray, List.getElem?_cons_zero, List.getElem?_cons_succ] at x0 x1 x2 x3 x4
  clear hx
  have hf := blk_keep H5.out.2.2.2.1 HG6.out id
  have f0 := cell_blk hf 0
  have f1 := cell_blk hf 1
  have f2 := cell_blk hf 2
  have f3 := cell_blk hf 3
  have f4 := cell_blk hf 4
  simp only [List.getElem?_toArray, List.getElem?_cons_zero, List.getElem?_cons_succ] at f0 f1 f2 f3 f4
  clear hf
  have HQ := hid (HSM.out w6 HG6.out)
  go_wp2_with fail
  refine HQ.out.mono ?_
  rintro e w7 ⟨b, rfl, hbb, hcn⟩
  have HG7 := hid (HG6.out.trans hcn (fun _ _ h => h))
  have hbt : b = true := hbb.2 HT.out
  subst hbt
  clear hbb
  clear HQ hcn HG6 x0 x1 x2 x3 x4 f0 f1 f2 f3 f4
  have hf := blk_keep H5.out.2.2.2.1 HG7.out id
  have f0 := cell_blk hf 0
  have f1 := cell_blk hf 1
  have f2 := cell_blk hf 2
  have f3 := cell_blk hf 3
  have f4 := cell_blk hf 4
  simp only [List.getElem?_toArray, List.getElem?_cons_zero, List.getElem?_cons_succ] at f0 f1 f2 f3 f4
  clear hf
  have HQ := hid (fm_atoms HSET 4 1 ([], []) (w.heap.size + 1 + 1) 2 2 [fA1.r, fB1.r] w7 rfl (by decide) ⟨_, _, blk_keep H5.out.2.2.1 HG7.out id⟩ (fst_kids (blk_keep H5.out.2.2.1 HG7.out id)) (by decide) (by decide))
  go_wp2_with fail
  refine HQ.out.mono ?_
  rintro e w8 ⟨out, ao9, cap9, rfl, hset, hcn⟩
  have HG8 := hid (HG7.out.trans hcn (fun _ _ h => h))
  have hout := fst_set hset
  subst hout
  clear hset
  clear HQ hcn HG7 f0 f1 f2 f3 f4
  have hf := blk_keep H5.out.2.2.2.1 HG8.out id
  have f0 := cell_blk hf 0
  have f1 := cell_blk hf 1
  have f2 := cell_blk hf 2
  have f3 := cell_blk hf 3
  have f4 := cell_blk hf 4
  simp only [List.getElem?_toArray, List.getElem?_cons_zero, List.getElem?_cons_succ] at f0 f1 f2 f3 f4
  clear hf
  have HQ := hid (fm_true (D := fun i => i = w.heap.size + 1 + 1) 57 #[] #[.pointer (some ⟨w.heap.size + 1, 0, none⟩)] tB1 fst_ent2 1 fF1 (some ⟨w.heap.size + 1 + 1, 0, none⟩) 2 w8 ((fst_fms H5.out.2.2.1).keep HG8.out (fun _ _ => id)) (fun i hi => by have := lt_blk (blk_keep H5.out.2.2.1 HG8.out id); omega) ⟨by decide, by decide⟩ (by decide +kernel) (fst_ask2 w8 (w.heap.size + 1) (blk_keep H5.out.2.1 HG8.out id)))
  go_wp2_with fail
  refine HQ.out.mono ?_
  rintro e w9 ⟨rfl, hcn⟩
  have HG9 := hid (HG8.out.trans hcn (fun _ _ h => h))
  rw [fst_true]
  clear HQ hcn HG8 f0 f1 f2 f3 f4
  have hx := blk_keep H5.out.1 HG9.out id
  have x0 := cell_blk hx 0
  have x1 := cell_blk hx 1
  have x2 := cell_blk hx 2
  have x3 := cell_blk hx 3
  have x4 := cell_blk hx 4
  simp only [List.getElem?_toArray, List.getElem?_cons_zero, List.getElem?_cons_succ] at x0 x1 x2 x3 x4
  clear hx
  have HQ := hid (fm_true (D := fun _ => False) 58 #[] #[.pointer (some ⟨w.heap.size + 1, 0, none⟩)] tB1 fst_ent3 1 fA1 none 0 w9 (fun i hi => absurd hi (Nat.not_lt_zero i)) (fun i hi => hi.elim) ⟨by decide, by decide⟩ (by decide +kernel) (fst_ask3 w9 (w.heap.size + 1) (blk_keep H5.out.2.1 HG9.out id)))
  go_wp2_with fail
  refine HQ.out.mono ?_
  rintro e w10 ⟨rfl, hcn⟩
  have HG10 := hid (HG9.out.trans hcn (fun _ _ h => h))
  rw [fst_false]
  clear HQ hcn HG9 x0 x1 x2 x3 x4
  have hf := blk_keep H5.out.2.2.2.1 HG10.out id
  have f0 := cell_blk hf 0
  have f1 := cell_blk hf 1
  have f2 := cell_blk hf 2
  have f3 := cell_blk hf 3
  have f4 := cell_blk hf 4
  simp only [List.getElem?_toArray, List.getElem?_cons_zero, List.getElem?_cons_succ] at f0 f1 f2 f3 f4
  clear hf
  have HQ := hid (fm_right (D := fun i => i = w.heap.size + 1 + 1) 1 fF1 (some ⟨w.heap.size + 1 + 1, 0, none⟩) 2 w10 ((fst_fms H5.out.2.2.1).keep HG10.out (fun _ _ => id)) (fun i hi => by have := lt_blk (blk_keep H5.out.2.2.1 HG10.out id); omega) ⟨by decide, by decide⟩ (by decide +kernel))
  go_wp2_with fail
  refine HQ.out.mono ?_
  rintro e w11 ⟨rfl, hcn⟩
  have HG11 := hid (HG10.out.trans hcn (fun _ _ h => h))
  rw [fF1_is]
  clear HQ hcn HG10 f0 f1 f2 f3 f4

  have HQ := hid (fm_right (D := fun _ => False) 1 (.mk 0 0 ([], []) []) none 0 w11 (fun i hi => absurd hi (Nat.not_lt_zero i)) (fun i hi => hi.elim) ⟨by decide, by decide⟩ (by decide +kernel))
  go_wp2_with fail
  refine HQ.out.mono ?_
  rintro e w12 ⟨rfl, hcn⟩
  have HG12 := hid (HG11.out.trans hcn (fun _ _ h => h))
  rw [fst_zero]
  clear HQ hcn HG11 
  have hx := blk_keep H5.out.1 HG12.out id
  have x0 := cell_blk hx 0
  have x1 := cell_blk hx 1
  have x2 := cell_blk hx 2
  have x3 := cell_blk hx 3
  have x4 := cell_blk hx 4
  simp only [List.getElem?_toArray, List.getElem?_cons_zero, List.getElem?_cons_succ] at x0 x1 x2 x3 x4
  clear hx
  have hf := blk_keep H5.out.2.2.2.1 HG12.out id
  have f0 := cell_blk hf 0
  have f1 := cell_blk hf 1
  have f2 := cell_blk hf 2
  have f3 := cell_blk hf 3
  have f4 := cell_blk hf 4
  simp only [List.getElem?_toArray, List.getElem?_cons_zero, List.getElem?_cons_succ] at f0 f1 f2 f3 f4
  clear hf
  have HQ := hid (fm_compare (D := fun _ => False) (E := fun i => i = w.heap.size + 1 + 1) 1 fA1 none 0 w12 (fun i hi => absurd hi (Nat.not_lt_zero i)) (fun i hi => hi.elim) ⟨by decide, by decide⟩ (by decide +kernel) 1 fF1 (some ⟨w.heap.size + 1 + 1, 0, none⟩) 2 ((fst_fms H5.out.2.2.1).keep HG12.out (fun _ _ => id)) (fun i hi => by have := lt_blk (blk_keep H5.out.2.2.1 HG12.out id); omega) ⟨by decide, by decide⟩ (by decide +kernel))
  go_wp2_with fail
  refine HQ.out.mono ?_
  rintro e w13 ⟨rfl, hcn⟩
  have HG13 := hid (HG12.out.trans hcn (fun _ _ h => h))
  rw [fst_cmp]
  have HE := hid (HC5.out.trans HG13.out (fun _ _ h => h))
  clear HQ hcn HG12 x0 x1 x2 x3 x4 f0 f1 f2 f3 f4
  go_wp2
  go_ret
  exact ⟨rfl, HE.out⟩

end Go.Proofs.Ytjaplnainlbldaa

/- append of a list of roles, onto a row of the call's own. -/
namespace Go.Proofs.Ytjaplnainlbldaa
open Go.RowKit

theorem roleRow_one8 (ls : List RoleB) : ∀ u ∈ roleRow ls, u.oneCell' = true := by
  intro u hu
  unfold roleRow at hu
  rw [List.mem_flatMap] at hu
  obtain ⟨x, _, hx⟩ := hu
  simp only [roleCells, List.mem_cons, List.not_mem_nil, or_false] at hx
  rcases hx with rfl | rfl <;> rfl

theorem roleRow_append8 (a b : List RoleB) : roleRow (a ++ b) = roleRow a ++ roleRow b := by simp [roleRow]

theorem roleRow_get8 : ∀ (ls : List RoleB) (i j : Nat) (h : i < ls.length) (_ : j < 2), (roleRow ls)[i * 2 + j]? = (roleCells ls[i])[j]?
  | x :: l, 0, j, _, hj => by
    rw [Nat.zero_mul, Nat.zero_add, roleRow, List.flatMap_cons, List.getElem?_append_left (by simpa [roleCells] using hj)]
    rfl
  | x :: l, i + 1, j, h, hj => by
    have hl : (roleCells x).length = 2 := rfl
    have := roleRow_get8 l i j (by simpa using h) hj
    rw [roleRow, List.flatMap_cons, List.getElem?_append_right (by rw [hl, Nat.add_mul]; omega), hl]
    rw [show (i + 1) * 2 + j - 2 = i * 2 + j by rw [Nat.add_mul]; omega]
    exact this

theorem rolesAt_row {D : Nat → Prop} {w : World} {ad : Addr} {ls : List RoleB} (hst : RolesAt D w (some ad) ls) (j : Nat) (u : Value) (hj : (roleRow ls)[j]? = some u) : w.cell? (ad.add j) = some u := by
  have hjl : j < (roleRow ls).length := (List.getElem?_eq_some_iff.1 hj).1
  rw [roleRow_length] at hjl
  have hq : j / 2 < ls.length := by omega
  obtain ⟨b, off, e, _, h3, h3', _⟩ := hst (j / 2) hq
  cases e
  have h5 := roleRow_get8 ls (j / 2) (j % 2) hq (by omega)
  have h6 : j / 2 * 2 + j % 2 = j := by omega
  rw [h6] at h5
  rw [add_off]
  rcases (show j % 2 = 0 ∨ j % 2 = 1 by omega) with hm | hm
  · rw [hm] at h5 h6
    rw [show off + j = off + j / 2 * 2 by omega, h3, ← hj, h5]
    rfl
  · rw [hm] at h5 h6
    rw [show off + j = off + j / 2 * 2 + 1 by omega, h3', ← hj, h5]
    rfl

theorem rolesAt_none {D : Nat → Prop} {w : World} {ls : List RoleB} (hst : RolesAt D w none ls) : ls = [] := by
  cases ls with
  | nil => rfl
  | cons y l => obtain ⟨_, _, e, _⟩ := hst 0 (by simp); cases e

theorem ownR_chg8 {B : Nat} {w wm w' : World} {v : Value} {n : Nat} {row : List Value} (hown : wm.ownsRow B 24 2 v n row) (hgr : w.grownBy w' v.ownBlock) (S : Nat → Prop) (hS : ∀ k, B ≤ k → S k) : Chg S w w' := by
  refine (Chg.refl S w).grown hgr fun k e _ => ?_
  rcases hown.2 with ⟨hx', _⟩ | ⟨g, cap', cur, hx', hg, _⟩
  · rw [hx'] at e; cases e
  · rw [hx'] at e; cases e; exact hS _ hg

theorem run_append_roles {D : Nat → Prop} {B : Nat} {w : World} {v : Value} {zs : List RoleB} (ty : TypeId) (hown : OwnR B w v zs)
    {ao : Option Addr} {cp : Nat} {ls : List RoleB} (hst : RolesAt D w ao ls) (h0 : ao = none → cp = 0) (hlen : zs.length + ls.length ≤ 33554432) (hB : B ≤ w.heap.size) :
    ∃ v' w', (Builtin.append_ #[59, 59] ty #[v, .slice ao ls.length cp]).run Try.prog w = .ok v' w' ∧ OwnR B w' v' (zs ++ ls) ∧ (∀ S : Nat → Prop, (∀ k, B ≤ k → S k) → Chg S w w') := by
  obtain ⟨i0, hi, hz0, hz1, hz2⟩ := info_parts Try.info24'
  cases ao with
  | none =>
    have hl := rolesAt_none hst
    subst hl
    have hcp := h0 rfl
    subst hcp
    exact ⟨v, w, run_append_owned_none (P := Try.prog) (w := w) B 59 ty 24 i0 2 Try.underlying59 hi v _ _ hown, by rw [List.append_nil]; exact hown, fun S _ => Chg.refl S w⟩
  | some ad =>
    obtain ⟨v', w', h1, h2, h3, _⟩ := run_append_own_at (P := Try.prog) w B 59 ty 24 i0 (.agg #[.string ⟨#[]⟩, .string ⟨#[]⟩]) 2 32 Try.underlying59 hi hz0 hz1 hz2 rfl (by decide) v _ _ hown ad ls.length cp (roleRow ls) (by rw [roleRow_length])
      (fun j u hj => rolesAt_row hst j u hj) (fun u hu => roleRow_one8 ls u hu) (by unfold maxLen; omega) (by omega) hB
    exact ⟨v', w', h1, by unfold OwnR; rw [roleRow_append8, List.length_append]; exact h2, fun S hS => ownR_chg8 hown h3 S hS⟩
end Go.Proofs.Ytjaplnainlbldaa

/- Roles in slots. -/
namespace Go.Proofs.Ytjaplnainlbldaa
open Go.RowKit

theorem name_len' {s : List UInt8} (hn : isName s = true) : 0 < s.length ∧ s.length ≤ 16 := isName_len hn
end Go.Proofs.Ytjaplnainlbldaa

/- clear over a slice of roles. -/
namespace Go.Proofs.Ytjaplnainlbldaa
open Go.RowKit

/-- 'clear(s)' where every cell of the zero value is one: the cells hold it; nothing else turns. -/
theorem run_clear_all {P : Program} (w : World) (t e ty : TypeId) (z u : Value) (s : Nat) (ht : P.underlying t = some (.slice e)) (hv : ∀ w, (zeroValue e).run P w = .ok z w) (hz : z.cells = Array.replicate s u) (hs : 0 < s) (h1 : u.oneCell' = true) (b o n c : Nat) (hn : 0 < n)
    (hc : ∀ j, j < n * s → (w.cell? ⟨b, o + j, none⟩).isSome = true) (hf : ∀ j, j < n * s → w.frozen? ⟨b, o + j, none⟩ = false) :
    (Builtin.clear_ #[t] ty #[.slice (some ⟨b, o, none⟩) n c]).run P w = .ok (.tuple #[]) (w.setCells b o (List.replicate (n * s) u)) := by
  have hzc : (Builtin.zeroCells z.cells n).toList = List.replicate (n * s) u := by
    rw [hz]
    apply List.ext_getElem
    · simp [Builtin.zeroCells]
    · intro i h1 h2
      simp [Builtin.zeroCells, Nat.mod_lt i hs]
  have hst := run_storeCells_cells (P := P) b o (List.replicate (n * s) u) 0 w (by simpa using hc) (by simpa using hf) (by intro v hv'; rw [List.eq_of_mem_replicate hv']; exact h1)
  simp only [Nat.add_zero] at hst
  obtain ⟨m, rfl⟩ : ∃ m, n = m + 1 := ⟨n - 1, by omega⟩
  simp [Builtin.clear_, run_underlying ht, hv, hzc, hst]
end Go.Proofs.Ytjaplnainlbldaa
