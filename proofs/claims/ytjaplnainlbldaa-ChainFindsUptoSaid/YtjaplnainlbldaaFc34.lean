/- The contract of the document's Set of layer 5. -/
import Derived.Test.YtjaplnainlbldaaFc5
import Derived.Test.YtjaplnainlbldaaFc25
import Derived.Test.YtjaplnainlbldaaFc33
namespace Go.Proofs.Ytjaplnainlbldaa
open Go.RowKit

/-- A pointer to a credential. -/
def Spec.credP (r : CredB) : Spec :=
 ⟨fun v w => ∃ b off, v = .pointer (some ⟨b, off, none⟩) ∧ CredAt w b off r, fun _ _ _ hc ⟨b, off, h1, h2⟩ => ⟨b, off, h1, h2.keep hc id⟩⟩

theorem candC_no {out : List CredB} {s : CredB} (h : isCred s = false) : candG ltC isCred out s = false := by simp [candG, h]
theorem candC_good {out : List CredB} {s : CredB} (h : candG ltC isCred out s = true) : isCred s = true := by
 simp only [candG, Bool.and_eq_true] at h
 exact h.1
theorem candC_nil {s : CredB} (h : isCred s = true) : candG ltC isCred [] s = true := by simp [candG, h]
theorem candC_last {out : List CredB} {s l : CredB} (hl : out.getLast? = some l) (h : isCred s = true) : candG ltC isCred out s = ltC l s := by simp [candG, h, hl]

def csetSpecsA (ao3 : Option Addr) (m cap3 Bb Sb _ _ : Nat) (okv : Bool) (s _ _ : CredB) : List Spec := [.any, .any, .any, .eq (.slice ao3 m cap3), .eq (.pointer (some ⟨Bb, 0, none⟩)), .eq (.bool okv), .any, .eq (.pointer (some ⟨Sb, 0, none⟩)), .any, .any, .any, .any, .any, .any, .eq (credV s), .eq (.bool false), .eq (.bool false), .any, .any, .any, .eq undef, .any, .any, .any, .any, .any, .any, .any, .any, .any, .any, .eq (.bool false), .eq (.bool false), .any, .any, .eq undef, .any, .any, .any, .any, .any, .eq (.bool false), .any, .any, .any, .any, .any, .any, .any, .any, .any]
def csetSpecsB (ao3 : Option Addr) (m cap3 Bb Sb _ _ : Nat) (_ : Bool) (s _ _ : CredB) : List Spec := [.any, .any, .any, .eq (.slice ao3 m cap3), .eq (.pointer (some ⟨Bb, 0, none⟩)), .eq (.bool false), .any, .eq (.pointer (some ⟨Sb, 0, none⟩)), .any, .any, .any, .any, .any, .any, .eq (credV s), .eq (.bool true), .eq (.bool true), .eq (.slice ao3 m cap3), .eq (.int .i64 m), .eq (.bool true), .eq (.bool true), .any, .any, .any, .any, .any, .any, .any, .any, .any, .eq (.bool true), .eq (.bool true), .eq (.bool true), .eq (.bool false), .eq (.bool true), .eq (.bool true), .any, .any, .any, .any, .eq (.bool true), .eq (.bool true), .any, .any, .any, .any, .any, .any, .any, .any, .any]
def csetSpecsC1 (ao3 : Option Addr) (m cap3 Bb Sb _ _ : Nat) (_ : Bool) (s _ b : CredB) : List Spec := [.any, .any, .any, .eq (.slice ao3 m cap3), .eq (.pointer (some ⟨Bb, 0, none⟩)), .eq (.bool true), .any, .eq (.pointer (some ⟨Sb, 0, none⟩)), .any, .any, .any, .any, .any, .any, .eq (credV s), .eq (.bool true), .eq (.bool true), .eq (.slice ao3 m cap3), .eq (.int .i64 m), .eq (.bool true), .eq (.bool true), .any, .any, .any, .any, .any, .any, .any, .any, .any, .eq (.bool true), .eq (.bool true), .eq (.bool true), .eq (.bool true), .eq (.bool false), .eq (.bool false), .eq (credV s), .eq (credV b), .eq (.int .i64 (cmpC s b)), .eq (.bool true), .eq (.bool true), .eq (.bool true), .any, .any, .any, .any, .any, .any, .any, .any, .any]
def csetSpecsC0 (ao3 : Option Addr) (m cap3 Bb Sb _ _ : Nat) (_ : Bool) (s _ b : CredB) : List Spec := [.any, .any, .any, .eq (.slice ao3 m cap3), .eq (.pointer (some ⟨Bb, 0, none⟩)), .eq (.bool true), .any, .eq (.pointer (some ⟨Sb, 0, none⟩)), .any, .any, .any, .any, .any, .any, .eq (credV s), .eq (.bool true), .eq (.bool true), .eq (.slice ao3 m cap3), .eq (.int .i64 m), .eq (.bool true), .eq (.bool true), .any, .any, .any, .any, .any, .any, .any, .any, .any, .eq (.bool true), .eq (.bool true), .eq (.bool true), .eq (.bool true), .eq (.bool false), .eq (.bool false), .eq (credV s), .eq (credV b), .eq (.int .i64 (cmpC s b)), .eq (.bool false), .eq (.bool false), .eq (.bool false), .any, .any, .any, .any, .any, .any, .any, .any, .any]
def csetSpecsD (_ : Option Addr) (m cap3 Bb Sb g _ : Nat) (okv : Bool) (s l _ : CredB) : List Spec := [.any, .any, .any, .eq (.slice (some ⟨g, 0, none⟩) m cap3), .eq (.pointer (some ⟨Bb, 0, none⟩)), .eq (.bool okv), .any, .eq (.pointer (some ⟨Sb, 0, none⟩)), .any, .any, .any, .any, .any, .any, .eq (credV s), .eq (.bool true), .eq (.bool true), .eq (.slice (some ⟨g, 0, none⟩) m cap3), .eq (.int .i64 m), .eq (.bool false), .eq (.bool false), .eq (.slice (some ⟨g, 0, none⟩) m cap3), .eq (.slice (some ⟨g, 0, none⟩) m cap3), .eq (.int .i64 m), .eq (.int .i64 ((m : Int) - 1)), .credP l, .eq (credV l), .eq (credV s), .eq (.int .i64 (cmpC l s)), .eq (.bool false), .eq (.bool false), .eq (.bool false), .eq (.bool false), .any, .any, .eq undef, .any, .any, .any, .any, .any, .eq (.bool false), .any, .any, .any, .any, .any, .any, .any, .any, .any]
def csetSpecsE (_ : Option Addr) (m cap3 Bb Sb g _ : Nat) (_ : Bool) (s l _ : CredB) : List Spec := [.any, .any, .any, .eq (.slice (some ⟨g, 0, none⟩) m cap3), .eq (.pointer (some ⟨Bb, 0, none⟩)), .eq (.bool false), .any, .eq (.pointer (some ⟨Sb, 0, none⟩)), .any, .any, .any, .any, .any, .any, .eq (credV s), .eq (.bool true), .eq (.bool true), .eq (.slice (some ⟨g, 0, none⟩) m cap3), .eq (.int .i64 m), .eq (.bool false), .eq (.bool false), .eq (.slice (some ⟨g, 0, none⟩) m cap3), .eq (.slice (some ⟨g, 0, none⟩) m cap3), .eq (.int .i64 m), .eq (.int .i64 ((m : Int) - 1)), .credP l, .eq (credV l), .eq (credV s), .eq (.int .i64 (cmpC l s)), .eq (.bool true), .eq (.bool true), .eq (.bool true), .eq (.bool true), .eq (.bool false), .eq (.bool true), .eq (.bool true), .any, .any, .any, .any, .eq (.bool true), .eq (.bool true), .any, .any, .any, .any, .any, .any, .any, .any, .any]
def csetSpecsF1 (_ : Option Addr) (m cap3 Bb Sb g _ : Nat) (_ : Bool) (s l b : CredB) : List Spec := [.any, .any, .any, .eq (.slice (some ⟨g, 0, none⟩) m cap3), .eq (.pointer (some ⟨Bb, 0, none⟩)), .eq (.bool true), .any, .eq (.pointer (some ⟨Sb, 0, none⟩)), .any, .any, .any, .any, .any, .any, .eq (credV s), .eq (.bool true), .eq (.bool true), .eq (.slice (some ⟨g, 0, none⟩) m cap3), .eq (.int .i64 m), .eq (.bool false), .eq (.bool false), .eq (.slice (some ⟨g, 0, none⟩) m cap3), .eq (.slice (some ⟨g, 0, none⟩) m cap3), .eq (.int .i64 m), .eq (.int .i64 ((m : Int) - 1)), .credP l, .eq (credV l), .eq (credV s), .eq (.int .i64 (cmpC l s)), .eq (.bool true), .eq (.bool true), .eq (.bool true), .eq (.bool true), .eq (.bool true), .eq (.bool false), .eq (.bool false), .eq (credV s), .eq (credV b), .eq (.int .i64 (cmpC s b)), .eq (.bool true), .eq (.bool true), .eq (.bool true), .any, .any, .any, .any, .any, .any, .any, .any, .any]
def csetSpecsF0 (_ : Option Addr) (m cap3 Bb Sb g _ : Nat) (_ : Bool) (s l b : CredB) : List Spec := [.any, .any, .any, .eq (.slice (some ⟨g, 0, none⟩) m cap3), .eq (.pointer (some ⟨Bb, 0, none⟩)), .eq (.bool true), .any, .eq (.pointer (some ⟨Sb, 0, none⟩)), .any, .any, .any, .any, .any, .any, .eq (credV s), .eq (.bool true), .eq (.bool true), .eq (.slice (some ⟨g, 0, none⟩) m cap3), .eq (.int .i64 m), .eq (.bool false), .eq (.bool false), .eq (.slice (some ⟨g, 0, none⟩) m cap3), .eq (.slice (some ⟨g, 0, none⟩) m cap3), .eq (.int .i64 m), .eq (.int .i64 ((m : Int) - 1)), .credP l, .eq (credV l), .eq (credV s), .eq (.int .i64 (cmpC l s)), .eq (.bool true), .eq (.bool true), .eq (.bool true), .eq (.bool true), .eq (.bool true), .eq (.bool false), .eq (.bool false), .eq (credV s), .eq (credV b), .eq (.int .i64 (cmpC s b)), .eq (.bool false), .eq (.bool false), .eq (.bool false), .any, .any, .any, .any, .any, .any, .any, .any, .any]

theorem SetC_len {ls out : List CredB} (h : SetPartG ltC isCred ls out) : out.length ≤ ls.length := SetPartG.len ltC_ord h

set_option maxRecDepth 100000 in
set_option maxHeartbeats 8000000 in
theorem cset_ref {D : Nat → Prop} (ao : Option Addr) (cp : Nat) (ls : List CredB) (w : World) (hn : ls.length ≤ 4194304) (h : CredsAt D w ao ls) (_ : ∀ i, D i → i < w.heap.size) :
  Calls Try.prog 14 #[.slice ao ls.length cp] w (SetPostC ls w) := by
 obtain ⟨i0, hi, hz0, hz1, hz2⟩ := info_parts Try.info36
 go_enter Try.func14, Try.ntmps14
 go_wp2
 go_loopw [3] (fun v wr => ∃ (out : List CredB) (ao' : Option Addr) (cap : Nat), v = .slice ao' out.length cap ∧ SetPartG ltC isCred ls out ∧ OwnC w.heap.size wr (.slice ao' out.length cap) out ∧ Chg (fun _ => False) w wr) (fun v _ => ls.length + 1 - lenOfV v)
 case atStart => exact ⟨[], none, 0, rfl, SetPartG.nil ls, World.ownsRow_nil _ _ _ _, Chg.refl _ _⟩
 case round =>
  obtain ⟨out, ao3, cap3, rfl, hp, ho, hc⟩ := hrel
  have hol := SetC_len hp
  have hbd : ∀ x ∈ out, credShort x 9223372036854775807 := fun x hx => (isCred_short (hp.2.1 x hx).2).mono (by omega)
  have hsz := hc.size
  have hB0 : (wr.alloc (.cells #[.int .i64 0, .string ⟨#[]⟩, .string ⟨#[]⟩, .string ⟨#[]⟩, .string ⟨#[]⟩, .string ⟨#[]⟩, .string ⟨#[]⟩, .string ⟨#[]⟩, .string ⟨#[]⟩] 36)).heap[wr.heap.size]? = some (.cells (credBox noCred) 36 (0, 0)) := heap_alloc_new wr _
  have hcB : Chg (fun _ => False) wr (wr.alloc (.cells #[.int .i64 0, .string ⟨#[]⟩, .string ⟨#[]⟩, .string ⟨#[]⟩, .string ⟨#[]⟩, .string ⟨#[]⟩, .string ⟨#[]⟩, .string ⟨#[]⟩, .string ⟨#[]⟩] 36)) := (Chg.refl _ wr).alloc _
  have hoB := ho.keep hcB (fun _ _ => id)
  have hrB : ∀ k, Value.ownBlock (.slice ao3 out.length cap3) = some k → k < wr.heap.size := fun k hk => (ownsRow_lt ho k hk).2
  have hc2 := hc.trans hcB (fun _ _ h => h)
  go_wp2
  clear ho hcB
  generalize wr.alloc (.cells #[.int .i64 0, .string ⟨#[]⟩, .string ⟨#[]⟩, .string ⟨#[]⟩, .string ⟨#[]⟩, .string ⟨#[]⟩, .string ⟨#[]⟩, .string ⟨#[]⟩, .string ⟨#[]⟩] 36) = w1 at *
  generalize wr.heap.size = Bb at *
  go_loopw [5, 10] (fun ok i wr => ∃ (k : Nat) (bo : Option CredB), i = .int .i64 k ∧ k ≤ ls.length ∧ ok = .bool bo.isSome ∧ Hid (BestG ltC isCred out (ls.take k) bo) ∧ wr.heap[Bb]? = some (.cells (credBox (bo.getD noCred)) 36 (0, 0)) ∧ OwnC w.heap.size wr (.slice ao3 out.length cap3) out ∧ Chg (fun _ => False) w wr) (fun _ i _ => ls.length - (intOf i).toNat)
  case atStart => exact ⟨0, none, rfl, Nat.zero_le _, rfl, hid (fun s hs => by simp at hs), hB0, hoB, hc2⟩
  case round =>
   obtain ⟨k, bo, rfl, hk, rfl, hb, hBb, hoq, hcq⟩ := hrel
   clear hB0 hoB hc2 hc
   by_cases hlt : k < ls.length
   ·obtain ⟨cb, co, rfl, _, hcat, hss⟩ := (h.keep hcq (fun _ _ => id)) k hlt
    have htk : Hid (ls.take (k + 1) = ls.take k ++ [ls[k]]) := hid (List.take_succ_eq_append_getElem hlt)
    generalize ls[k] = s at *
    obtain ⟨c0, c1, c2, c3, c4, c5, c6, c7, c8⟩ := hcat
    have hS : (wr.alloc (.cells #[.int .i64 s.kind, .string ⟨s.head.1.toArray⟩, .string ⟨s.head.2.toArray⟩, .string ⟨s.who.toArray⟩, .string ⟨s.b.1.toArray⟩, .string ⟨s.b.2.toArray⟩, .string ⟨s.c.1.toArray⟩, .string ⟨s.c.2.toArray⟩, .string ⟨s.w2.toArray⟩] 36)).heap[wr.heap.size]? = some (.cells (credBox s) 36 (0, 0)) := heap_alloc_new wr _
    have hcS : Chg (fun _ => False) wr (wr.alloc (.cells #[.int .i64 s.kind, .string ⟨s.head.1.toArray⟩, .string ⟨s.head.2.toArray⟩, .string ⟨s.who.toArray⟩, .string ⟨s.b.1.toArray⟩, .string ⟨s.b.2.toArray⟩, .string ⟨s.c.1.toArray⟩, .string ⟨s.c.2.toArray⟩, .string ⟨s.w2.toArray⟩] 36)) := (Chg.refl _ wr).alloc _
    have hBb2 := blk_keep hBb hcS id
    have hoq2 := hoq.keep hcS (fun _ _ => id)
    have hcq2 := hcq.trans hcS (fun _ _ h => h)
    have hBS : Bb < wr.heap.size := lt_blk hBb
    clear hBb hoq hcq hcS h
    go_wp2_with fail
    clear c0 c1 c2 c3 c4 c5 c6 c7 c8
    generalize wr.alloc (.cells #[.int .i64 s.kind, .string ⟨s.head.1.toArray⟩, .string ⟨s.head.2.toArray⟩, .string ⟨s.who.toArray⟩, .string ⟨s.b.1.toArray⟩, .string ⟨s.b.2.toArray⟩, .string ⟨s.c.1.toArray⟩, .string ⟨s.c.2.toArray⟩, .string ⟨s.w2.toArray⟩] 36) = w4 at *
    generalize wr.heap.size = Sb at *
    obtain ⟨s0, s1, s2, s3, s4, s5, s6, s7, s8⟩ := cred_at_blk hS
    simp only [Nat.zero_add] at s0 s1 s2 s3 s4 s5 s6 s7 s8
    have HP := hid hp
    have HBD := hid hbd
    have HGD : Hid (∀ x ∈ out, isCred x = true) := hid (fun x hx => (hp.2.1 x hx).2)
    clear hp hbd
    cases hrt : isCred s with
    | false =>
     have g : Nat := 0
     have l : CredB := s
     have b : CredB := s
     refine wp_region_specs (csetSpecsA ao3 out.length cap3 Bb Sb g 0 bo.isSome s l b) [14, 15, 16, 17, 18, 19, 20, 21, 22, 23, 24, 25, 26, 27, 28, 29, 30, 31, 32, 33, 34, 35, 36, 37, 38, 39, 40, 41] [3, 4, 5, 7] (by kernel_rfl) (by kernel_rfl) (by rfl) (by kernel_rfl) ?start ?obs ?fin
     case start =>
      simp only [List.forall_mem_cons]
      exact ⟨⟨_, rfl, rfl⟩, ⟨_, rfl, rfl⟩, ⟨_, rfl, rfl⟩, ⟨_, rfl, rfl⟩, fun _ h => by cases h⟩
     case obs =>
      refine Obs.cons none (by kernel_rfl) ?_ ?_
      ·refine Ob.plain fun a w hR hk K k => ?_
       obtain ⟨_, e7, rfl⟩ := hk 7 (by decide)
       clear hk
       have q0 := hR.cell s0 id
       have q1 := hR.cell s1 id
       have q2 := hR.cell s2 id
       have q3 := hR.cell s3 id
       have q4 := hR.cell s4 id
       have q5 := hR.cell s5 id
       have q6 := hR.cell s6 id
       have q7 := hR.cell s7 id
       have q8 := hR.cell s8 id
       go_simp
       exact k _ _ (Chg.refl _ _) rfl
      refine Obs.cons none (by kernel_rfl) ?_ ?_
      ·refine Ob.plain fun a w hR hk K k => ?_
       obtain ⟨_, e14, rfl⟩ := hk 14 (by decide)
       clear hk
       go_simp
       refine (cright_ref s _ hss).mono ?_
       rintro e w2 ⟨rfl, hc⟩
       exact k _ _ hc (congrArg Value.bool hrt)
      refine Obs.cons none (by kernel_rfl) ?_ ?_
      ·refine Ob.plain fun a w hR hk K k => ?_
       obtain ⟨_, e15, f15⟩ := hk 15 (by decide)
       clear hk
       go_simp
       exact k _ _ (Chg.refl _ _) f15
      refine Obs.cons (some (16, true)) (by kernel_rfl) ?_ ?_
      ·exact Ob.no (fun _ _ h => h) (Chg.refl _) (fun _ _ => trivial)
      refine Obs.cons (some (16, true)) (by kernel_rfl) ?_ ?_
      ·exact Ob.no (fun _ _ h => h) (Chg.refl _) (fun _ _ => trivial)
      refine Obs.cons (some (16, true)) (by kernel_rfl) ?_ ?_
      ·exact Ob.no (fun _ _ h => h) (Chg.refl _) (fun _ _ => trivial)
      refine Obs.cons (some (16, true)) (by kernel_rfl) ?_ ?_
      ·exact Ob.no (fun _ _ h => h) (Chg.refl _) (fun _ _ => rfl)
      refine Obs.cons (some (20, false)) (by kernel_rfl) ?_ ?_
      ·exact Ob.und (fun _ _ h => h) (Chg.refl _) (fun _ _ => trivial)
      refine Obs.cons (some (20, false)) (by kernel_rfl) ?_ ?_
      ·exact Ob.und (fun _ _ h => h) (Chg.refl _) (fun _ _ => trivial)
      refine Obs.cons (some (20, false)) (by kernel_rfl) ?_ ?_
      ·exact Ob.und (fun _ _ h => h) (Chg.refl _) (fun _ _ => trivial)
      refine Obs.cons (some (20, false)) (by kernel_rfl) ?_ ?_
      ·exact Ob.und (fun _ _ h => h) (Chg.refl _) (fun _ _ => trivial)
      refine Obs.cons (some (20, false)) (by kernel_rfl) ?_ ?_
      ·exact Ob.und (fun _ _ h => h) (Chg.refl _) (fun _ _ => trivial)
      refine Obs.cons (some (20, false)) (by kernel_rfl) ?_ ?_
      ·exact Ob.und (fun _ _ h => h) (Chg.refl _) (fun _ _ => trivial)
      refine Obs.cons (some (20, false)) (by kernel_rfl) ?_ ?_
      ·exact Ob.und (fun _ _ h => h) (Chg.refl _) (fun _ _ => trivial)
      refine Obs.cons (some (20, false)) (by kernel_rfl) ?_ ?_
      ·exact Ob.und (fun _ _ h => h) (Chg.refl _) (fun _ _ => trivial)
      refine Obs.cons (some (20, false)) (by kernel_rfl) ?_ ?_
      ·exact Ob.und (fun _ _ h => h) (Chg.refl _) (fun _ _ => trivial)
      refine Obs.cons (some (16, true)) (by kernel_rfl) ?_ ?_
      ·exact Ob.no (fun _ _ h => h) (Chg.refl _) (fun _ _ => trivial)
      refine Obs.cons none (by kernel_rfl) ?_ ?_
      ·refine Ob.plain fun a w hR hk K k => ?_
       obtain ⟨_, e16, rfl⟩ := hk 16 (by decide)
       obtain ⟨_, e30, _⟩ := hk 30 (by decide)
       clear hk
       go_simp
       exact k _ _ (Chg.refl _ _) rfl
      refine Obs.cons none (by kernel_rfl) ?_ ?_
      ·refine Ob.plain fun a w hR hk K k => ?_
       obtain ⟨_, e31, f31⟩ := hk 31 (by decide)
       clear hk
       go_simp
       exact k _ _ (Chg.refl _ _) f31
      refine Obs.cons (some (32, true)) (by kernel_rfl) ?_ ?_
      ·exact Ob.no (fun _ _ h => h) (Chg.refl _) (fun _ _ => trivial)
      refine Obs.cons (some (32, true)) (by kernel_rfl) ?_ ?_
      ·exact Ob.no (fun _ _ h => h) (Chg.refl _) (fun _ _ => trivial)
      refine Obs.cons (some (32, true)) (by kernel_rfl) ?_ ?_
      ·exact Ob.no (fun _ _ h => h) (Chg.refl _) (fun _ _ => rfl)
      refine Obs.cons (some (35, false)) (by kernel_rfl) ?_ ?_
      ·exact Ob.und (fun _ _ h => h) (Chg.refl _) (fun _ _ => trivial)
      refine Obs.cons (some (35, false)) (by kernel_rfl) ?_ ?_
      ·exact Ob.und (fun _ _ h => h) (Chg.refl _) (fun _ _ => trivial)
      refine Obs.cons (some (35, false)) (by kernel_rfl) ?_ ?_
      ·exact Ob.und (fun _ _ h => h) (Chg.refl _) (fun _ _ => trivial)
      refine Obs.cons (some (35, false)) (by kernel_rfl) ?_ ?_
      ·exact Ob.und (fun _ _ h => h) (Chg.refl _) (fun _ _ => trivial)
      refine Obs.cons (some (32, true)) (by kernel_rfl) ?_ ?_
      ·exact Ob.no (fun _ _ h => h) (Chg.refl _) (fun _ _ => trivial)
      refine Obs.cons none (by kernel_rfl) ?_ ?_
      ·refine Ob.plain fun a w hR hk K k => ?_
       obtain ⟨_, e32, rfl⟩ := hk 32 (by decide)
       obtain ⟨_, e40, _⟩ := hk 40 (by decide)
       clear hk
       go_simp
       exact k _ _ (Chg.refl _ _) rfl
      exact Obs.nil
     case fin =>
      intro vals w9 hc9 hv
      have h41 : vals 41 = .bool false := hv 41 (by decide)
      simp only [putAll, List.setIfInBounds_toArray, List.set_cons_zero, List.set_cons_succ, h41]
      clear hv h41
      have hn2 : Hid (BestG ltC isCred out (ls.take (k + 1)) bo) := hid (by rw [htk.out]; exact hb.out.skip (candC_no hrt))
      have HX := hid (And.intro (blk_keep hBb2 hc9 id) (And.intro (hoq2.keep hc9 (fun _ _ => id)) (hcq2.trans hc9 (fun _ _ h => h))))
      clear s0 s1 s2 s3 s4 s5 s6 s7 s8 hS hBb2 hoq2 hcq2 hc9 htk hb
      go_wp2
      go_roundw
      case rel => exact ⟨k + 1, bo, by go_num, by omega, rfl, hn2, HX.out.1, HX.out.2.1, HX.out.2.2⟩
      case measure => simp [intOf]; omega
    | true =>
     by_cases h0 : out = []
     ·have z1 : ((out.length : Int) == 0) = true := by subst h0; rfl
      have H0 := hid h0
      have hcand : Hid (candG ltC isCred out s = true) := hid (by rw [h0]; exact candC_nil hrt)
      clear h0
      have g : Nat := 0
      have l : CredB := s
      cases bo with
      | none =>
       have b : CredB := s
       refine wp_region_specs (csetSpecsB ao3 out.length cap3 Bb Sb g 0 false s l b) [14, 15, 16, 17, 18, 19, 20, 21, 22, 23, 24, 25, 26, 27, 28, 29, 30, 31, 32, 33, 34, 35, 36, 37, 38, 39, 40, 41] [3, 4, 5, 7] (by kernel_rfl) (by kernel_rfl) (by rfl) (by kernel_rfl) ?start ?obs ?fin
       case start =>
        simp only [List.forall_mem_cons]
        exact ⟨⟨_, rfl, rfl⟩, ⟨_, rfl, rfl⟩, ⟨_, rfl, rfl⟩, ⟨_, rfl, rfl⟩, fun _ h => by cases h⟩
       case obs =>
        refine Obs.cons none (by kernel_rfl) ?_ ?_
        ·refine Ob.plain fun a w hR hk K k => ?_
         obtain ⟨_, e7, rfl⟩ := hk 7 (by decide)
         clear hk
         have q0 := hR.cell s0 id
         have q1 := hR.cell s1 id
         have q2 := hR.cell s2 id
         have q3 := hR.cell s3 id
         have q4 := hR.cell s4 id
         have q5 := hR.cell s5 id
         have q6 := hR.cell s6 id
         have q7 := hR.cell s7 id
         have q8 := hR.cell s8 id
         go_simp
         exact k _ _ (Chg.refl _ _) rfl
        refine Obs.cons none (by kernel_rfl) ?_ ?_
        ·refine Ob.plain fun a w hR hk K k => ?_
         obtain ⟨_, e14, rfl⟩ := hk 14 (by decide)
         clear hk
         go_simp
         refine (cright_ref s _ hss).mono ?_
         rintro e w2 ⟨rfl, hc⟩
         exact k _ _ hc (congrArg Value.bool hrt)
        refine Obs.cons none (by kernel_rfl) ?_ ?_
        ·refine Ob.plain fun a w hR hk K k => ?_
         obtain ⟨_, e15, f15⟩ := hk 15 (by decide)
         clear hk
         go_simp
         exact k _ _ (Chg.refl _ _) f15
        refine Obs.cons (some (16, true)) (by kernel_rfl) ?_ ?_
        ·refine Ob.yes (fun _ _ h => h) fun a w hR hk K k => ?_
         obtain ⟨_, e3, f3⟩ := hk 3 (by decide)
         clear hk
         go_simp
         exact k _ _ (Chg.refl _ _) f3
        refine Obs.cons (some (16, true)) (by kernel_rfl) ?_ ?_
        ·refine Ob.yes (fun _ _ h => h) fun a w hR hk K k => ?_
         obtain ⟨_, e17, rfl⟩ := hk 17 (by decide)
         clear hk
         go_simp
         exact k _ _ (Chg.refl _ _) rfl
        refine Obs.cons (some (16, true)) (by kernel_rfl) ?_ ?_
        ·refine Ob.yes (fun _ _ h => h) fun a w hR hk K k => ?_
         obtain ⟨_, e18, rfl⟩ := hk 18 (by decide)
         clear hk
         go_simp
         exact k _ _ (Chg.refl _ _) rfl
        refine Obs.cons (some (16, true)) (by kernel_rfl) ?_ ?_
        ·refine Ob.yes (fun _ _ h => h) fun a w hR hk K k => ?_
         obtain ⟨_, e19, f19⟩ := hk 19 (by decide)
         clear hk
         go_simp
         exact k _ _ (Chg.refl _ _) f19
        refine Obs.cons (some (20, false)) (by kernel_rfl) ?_ ?_
        ·exact Ob.no (fun _ _ h => h) (Chg.refl _) (fun _ _ => trivial)
        refine Obs.cons (some (20, false)) (by kernel_rfl) ?_ ?_
        ·exact Ob.no (fun _ _ h => h) (Chg.refl _) (fun _ _ => trivial)
        refine Obs.cons (some (20, false)) (by kernel_rfl) ?_ ?_
        ·exact Ob.no (fun _ _ h => h) (Chg.refl _) (fun _ _ => trivial)
        refine Obs.cons (some (20, false)) (by kernel_rfl) ?_ ?_
        ·exact Ob.no (fun _ _ h => h) (Chg.refl _) (fun _ _ => trivial)
        refine Obs.cons (some (20, false)) (by kernel_rfl) ?_ ?_
        ·exact Ob.no (fun _ _ h => h) (Chg.refl _) (fun _ _ => trivial)
        refine Obs.cons (some (20, false)) (by kernel_rfl) ?_ ?_
        ·exact Ob.no (fun _ _ h => h) (Chg.refl _) (fun _ _ => trivial)
        refine Obs.cons (some (20, false)) (by kernel_rfl) ?_ ?_
        ·exact Ob.no (fun _ _ h => h) (Chg.refl _) (fun _ _ => trivial)
        refine Obs.cons (some (20, false)) (by kernel_rfl) ?_ ?_
        ·exact Ob.no (fun _ _ h => h) (Chg.refl _) (fun _ _ => trivial)
        refine Obs.cons (some (20, false)) (by kernel_rfl) ?_ ?_
        ·exact Ob.no (fun _ _ h => h) (Chg.refl _) (fun _ _ => trivial)
        refine Obs.cons (some (16, true)) (by kernel_rfl) ?_ ?_
        ·refine Ob.yes (fun _ _ h => h) fun a w hR hk K k => ?_
         obtain ⟨_, e20, rfl⟩ := hk 20 (by decide)
         obtain ⟨_, e29, _⟩ := hk 29 (by decide)
         clear hk
         go_simp
         exact k _ _ (Chg.refl _ _) rfl
        refine Obs.cons none (by kernel_rfl) ?_ ?_
        ·refine Ob.plain fun a w hR hk K k => ?_
         obtain ⟨_, e16, rfl⟩ := hk 16 (by decide)
         obtain ⟨_, e30, rfl⟩ := hk 30 (by decide)
         clear hk
         go_simp
         exact k _ _ (Chg.refl _ _) rfl
        refine Obs.cons none (by kernel_rfl) ?_ ?_
        ·refine Ob.plain fun a w hR hk K k => ?_
         obtain ⟨_, e31, f31⟩ := hk 31 (by decide)
         clear hk
         go_simp
         exact k _ _ (Chg.refl _ _) f31
        refine Obs.cons (some (32, true)) (by kernel_rfl) ?_ ?_
        ·refine Ob.yes (fun _ _ h => h) fun a w hR hk K k => ?_
         obtain ⟨_, e5, f5⟩ := hk 5 (by decide)
         clear hk
         go_simp
         exact k _ _ (Chg.refl _ _) f5
        refine Obs.cons (some (32, true)) (by kernel_rfl) ?_ ?_
        ·refine Ob.yes (fun _ _ h => h) fun a w hR hk K k => ?_
         obtain ⟨_, e33, rfl⟩ := hk 33 (by decide)
         clear hk
         go_simp
         exact k _ _ (Chg.refl _ _) rfl
        refine Obs.cons (some (32, true)) (by kernel_rfl) ?_ ?_
        ·refine Ob.yes (fun _ _ h => h) fun a w hR hk K k => ?_
         obtain ⟨_, e34, f34⟩ := hk 34 (by decide)
         clear hk
         go_simp
         exact k _ _ (Chg.refl _ _) f34
        refine Obs.cons (some (35, false)) (by kernel_rfl) ?_ ?_
        ·exact Ob.no (fun _ _ h => h) (Chg.refl _) (fun _ _ => trivial)
        refine Obs.cons (some (35, false)) (by kernel_rfl) ?_ ?_
        ·exact Ob.no (fun _ _ h => h) (Chg.refl _) (fun _ _ => trivial)
        refine Obs.cons (some (35, false)) (by kernel_rfl) ?_ ?_
        ·exact Ob.no (fun _ _ h => h) (Chg.refl _) (fun _ _ => trivial)
        refine Obs.cons (some (35, false)) (by kernel_rfl) ?_ ?_
        ·exact Ob.no (fun _ _ h => h) (Chg.refl _) (fun _ _ => trivial)
        refine Obs.cons (some (32, true)) (by kernel_rfl) ?_ ?_
        ·refine Ob.yes (fun _ _ h => h) fun a w hR hk K k => ?_
         obtain ⟨_, e35, rfl⟩ := hk 35 (by decide)
         obtain ⟨_, e39, _⟩ := hk 39 (by decide)
         clear hk
         go_simp
         exact k _ _ (Chg.refl _ _) rfl
        refine Obs.cons none (by kernel_rfl) ?_ ?_
        ·refine Ob.plain fun a w hR hk K k => ?_
         obtain ⟨_, e32, rfl⟩ := hk 32 (by decide)
         obtain ⟨_, e40, rfl⟩ := hk 40 (by decide)
         clear hk
         go_simp
         exact k _ _ (Chg.refl _ _) rfl
        exact Obs.nil
       case fin =>
        intro vals w9 hc9 hv
        have h41 : vals 41 = .bool true := hv 41 (by decide)
        simp only [putAll, List.setIfInBounds_toArray, List.set_cons_zero, List.set_cons_succ, h41]
        clear hv h41
        have hn2 : Hid (BestG ltC isCred out (ls.take (k + 1)) (some s)) := hid (by rw [htk.out]; exact hb.out.take ltC_ord hcand.out (fun c h => by cases h))
        have hB9 := blk_keep hBb2 hc9 id
        have hS9 := blk_keep hS hc9 id
        obtain ⟨q0, q1, q2, q3, q4, q5, q6, q7, q8⟩ := cred_at_blk hB9
        obtain ⟨t0, t1, t2, t3, t4, t5, t6, t7, t8⟩ := cred_at_blk hS9
        simp only [Nat.zero_add, Option.getD_none, noCred, noneR] at q0 q1 q2 q3 q4 q5 q6 q7 q8 t0 t1 t2 t3 t4 t5 t6 t7 t8
        have f0 := froz_blk hB9 0
        have f1 := froz_blk hB9 1
        have f2 := froz_blk hB9 2
        have f3 := froz_blk hB9 3
        have f4 := froz_blk hB9 4
        have f5 := froz_blk hB9 5
        have f6 := froz_blk hB9 6
        have f7 := froz_blk hB9 7
        have f8 := froz_blk hB9 8
        have hD := setCred_blk s hB9
        have hgs := setCred_chg w9 Bb s
        have ho9 := (hoq2.keep hc9 (fun _ _ => id)).keep hgs (fun k hk e => by have := hrB k hk; omega)
        have hc10 : Chg (fun _ => False) w (setCred w9 Bb s) := (hcq2.trans hc9 (fun _ _ h => h)).trans hgs (fun i hi e => by omega)
        have HX := hid (And.intro hD (And.intro ho9 hc10))
        clear s0 s1 s2 s3 s4 s5 s6 s7 s8 hS hBb2 hoq2 hcq2 hc9 htk hb hB9 hS9 hD hgs ho9 hc10
        go_wp2
        go_roundw
        case rel => exact ⟨k + 1, some s, by go_num, by omega, rfl, hn2, HX.out.1, HX.out.2.1, HX.out.2.2⟩
        case measure => simp [intOf]; omega
      | some b =>
       obtain ⟨p0, p1, p2, p3, p4, p5, p6, p7, p8⟩ := cred_at_blk hBb2
       simp only [Nat.zero_add, Option.getD_some] at p0 p1 p2 p3 p4 p5 p6 p7 p8
       have hib : isCred b = true := candC_good hb.out.2.1
       cases hlb : ltC s b with
       | true =>
        refine wp_region_specs (csetSpecsC1 ao3 out.length cap3 Bb Sb g 0 true s l b) [14, 15, 16, 17, 18, 19, 20, 21, 22, 23, 24, 25, 26, 27, 28, 29, 30, 31, 32, 33, 34, 35, 36, 37, 38, 39, 40, 41] [3, 4, 5, 7] (by kernel_rfl) (by kernel_rfl) (by rfl) (by kernel_rfl) ?start ?obs ?fin
        case start =>
         simp only [List.forall_mem_cons]
         exact ⟨⟨_, rfl, rfl⟩, ⟨_, rfl, rfl⟩, ⟨_, rfl, rfl⟩, ⟨_, rfl, rfl⟩, fun _ h => by cases h⟩
        case obs =>
         refine Obs.cons none (by kernel_rfl) ?_ ?_
         ·refine Ob.plain fun a w hR hk K k => ?_
          obtain ⟨_, e7, rfl⟩ := hk 7 (by decide)
          clear hk
          have q0 := hR.cell s0 id
          have q1 := hR.cell s1 id
          have q2 := hR.cell s2 id
          have q3 := hR.cell s3 id
          have q4 := hR.cell s4 id
          have q5 := hR.cell s5 id
          have q6 := hR.cell s6 id
          have q7 := hR.cell s7 id
          have q8 := hR.cell s8 id
          go_simp
          exact k _ _ (Chg.refl _ _) rfl
         refine Obs.cons none (by kernel_rfl) ?_ ?_
         ·refine Ob.plain fun a w hR hk K k => ?_
          obtain ⟨_, e14, rfl⟩ := hk 14 (by decide)
          clear hk
          go_simp
          refine (cright_ref s _ hss).mono ?_
          rintro e w2 ⟨rfl, hc⟩
          exact k _ _ hc (congrArg Value.bool hrt)
         refine Obs.cons none (by kernel_rfl) ?_ ?_
         ·refine Ob.plain fun a w hR hk K k => ?_
          obtain ⟨_, e15, f15⟩ := hk 15 (by decide)
          clear hk
          go_simp
          exact k _ _ (Chg.refl _ _) f15
         refine Obs.cons (some (16, true)) (by kernel_rfl) ?_ ?_
         ·refine Ob.yes (fun _ _ h => h) fun a w hR hk K k => ?_
          obtain ⟨_, e3, f3⟩ := hk 3 (by decide)
          clear hk
          go_simp
          exact k _ _ (Chg.refl _ _) f3
         refine Obs.cons (some (16, true)) (by kernel_rfl) ?_ ?_
         ·refine Ob.yes (fun _ _ h => h) fun a w hR hk K k => ?_
          obtain ⟨_, e17, rfl⟩ := hk 17 (by decide)
          clear hk
          go_simp
          exact k _ _ (Chg.refl _ _) rfl
         refine Obs.cons (some (16, true)) (by kernel_rfl) ?_ ?_
         ·refine Ob.yes (fun _ _ h => h) fun a w hR hk K k => ?_
          obtain ⟨_, e18, rfl⟩ := hk 18 (by decide)
          clear hk
          go_simp
          exact k _ _ (Chg.refl _ _) rfl
         refine Obs.cons (some (16, true)) (by kernel_rfl) ?_ ?_
         ·refine Ob.yes (fun _ _ h => h) fun a w hR hk K k => ?_
          obtain ⟨_, e19, f19⟩ := hk 19 (by decide)
          clear hk
          go_simp
          exact k _ _ (Chg.refl _ _) f19
         refine Obs.cons (some (20, false)) (by kernel_rfl) ?_ ?_
         ·exact Ob.no (fun _ _ h => h) (Chg.refl _) (fun _ _ => trivial)
         refine Obs.cons (some (20, false)) (by kernel_rfl) ?_ ?_
         ·exact Ob.no (fun _ _ h => h) (Chg.refl _) (fun _ _ => trivial)
         refine Obs.cons (some (20, false)) (by kernel_rfl) ?_ ?_
         ·exact Ob.no (fun _ _ h => h) (Chg.refl _) (fun _ _ => trivial)
         refine Obs.cons (some (20, false)) (by kernel_rfl) ?_ ?_
         ·exact Ob.no (fun _ _ h => h) (Chg.refl _) (fun _ _ => trivial)
         refine Obs.cons (some (20, false)) (by kernel_rfl) ?_ ?_
         ·exact Ob.no (fun _ _ h => h) (Chg.refl _) (fun _ _ => trivial)
         refine Obs.cons (some (20, false)) (by kernel_rfl) ?_ ?_
         ·exact Ob.no (fun _ _ h => h) (Chg.refl _) (fun _ _ => trivial)
         refine Obs.cons (some (20, false)) (by kernel_rfl) ?_ ?_
         ·exact Ob.no (fun _ _ h => h) (Chg.refl _) (fun _ _ => trivial)
         refine Obs.cons (some (20, false)) (by kernel_rfl) ?_ ?_
         ·exact Ob.no (fun _ _ h => h) (Chg.refl _) (fun _ _ => trivial)
         refine Obs.cons (some (20, false)) (by kernel_rfl) ?_ ?_
         ·exact Ob.no (fun _ _ h => h) (Chg.refl _) (fun _ _ => trivial)
         refine Obs.cons (some (16, true)) (by kernel_rfl) ?_ ?_
         ·refine Ob.yes (fun _ _ h => h) fun a w hR hk K k => ?_
          obtain ⟨_, e20, rfl⟩ := hk 20 (by decide)
          obtain ⟨_, e29, _⟩ := hk 29 (by decide)
          clear hk
          go_simp
          exact k _ _ (Chg.refl _ _) rfl
         refine Obs.cons none (by kernel_rfl) ?_ ?_
         ·refine Ob.plain fun a w hR hk K k => ?_
          obtain ⟨_, e16, rfl⟩ := hk 16 (by decide)
          obtain ⟨_, e30, rfl⟩ := hk 30 (by decide)
          clear hk
          go_simp
          exact k _ _ (Chg.refl _ _) rfl
         refine Obs.cons none (by kernel_rfl) ?_ ?_
         ·refine Ob.plain fun a w hR hk K k => ?_
          obtain ⟨_, e31, f31⟩ := hk 31 (by decide)
          clear hk
          go_simp
          exact k _ _ (Chg.refl _ _) f31
         refine Obs.cons (some (32, true)) (by kernel_rfl) ?_ ?_
         ·refine Ob.yes (fun _ _ h => h) fun a w hR hk K k => ?_
          obtain ⟨_, e5, f5⟩ := hk 5 (by decide)
          clear hk
          go_simp
          exact k _ _ (Chg.refl _ _) f5
         refine Obs.cons (some (32, true)) (by kernel_rfl) ?_ ?_
         ·refine Ob.yes (fun _ _ h => h) fun a w hR hk K k => ?_
          obtain ⟨_, e33, rfl⟩ := hk 33 (by decide)
          clear hk
          go_simp
          exact k _ _ (Chg.refl _ _) rfl
         refine Obs.cons (some (32, true)) (by kernel_rfl) ?_ ?_
         ·refine Ob.yes (fun _ _ h => h) fun a w hR hk K k => ?_
          obtain ⟨_, e34, f34⟩ := hk 34 (by decide)
          clear hk
          go_simp
          exact k _ _ (Chg.refl _ _) f34
         refine Obs.cons (some (35, false)) (by kernel_rfl) ?_ ?_
         ·refine Ob.yes (fun _ _ h => h) fun a w hR hk K k => ?_
          obtain ⟨_, e7, rfl⟩ := hk 7 (by decide)
          clear hk
          have q0 := hR.cell s0 id
          have q1 := hR.cell s1 id
          have q2 := hR.cell s2 id
          have q3 := hR.cell s3 id
          have q4 := hR.cell s4 id
          have q5 := hR.cell s5 id
          have q6 := hR.cell s6 id
          have q7 := hR.cell s7 id
          have q8 := hR.cell s8 id
          go_simp
          exact k _ _ (Chg.refl _ _) rfl
         refine Obs.cons (some (35, false)) (by kernel_rfl) ?_ ?_
         ·refine Ob.yes (fun _ _ h => h) fun a w hR hk K k => ?_
          obtain ⟨_, e4, rfl⟩ := hk 4 (by decide)
          clear hk
          have q0 := hR.cell p0 id
          have q1 := hR.cell p1 id
          have q2 := hR.cell p2 id
          have q3 := hR.cell p3 id
          have q4 := hR.cell p4 id
          have q5 := hR.cell p5 id
          have q6 := hR.cell p6 id
          have q7 := hR.cell p7 id
          have q8 := hR.cell p8 id
          go_simp
          exact k _ _ (Chg.refl _ _) rfl
         refine Obs.cons (some (35, false)) (by kernel_rfl) ?_ ?_
         ·refine Ob.yes (fun _ _ h => h) fun a w hR hk K k => ?_
          obtain ⟨_, e36, rfl⟩ := hk 36 (by decide)
          obtain ⟨_, e37, rfl⟩ := hk 37 (by decide)
          clear hk
          go_simp
          refine (ccompare_ref s b _ ((isCred_short hrt).mono (by omega)) ((isCred_short hib).mono (by omega))).mono ?_
          rintro e w2 ⟨rfl, hc⟩
          exact k _ _ hc rfl
         refine Obs.cons (some (35, false)) (by kernel_rfl) ?_ ?_
         ·refine Ob.yes (fun _ _ h => h) fun a w hR hk K k => ?_
          obtain ⟨_, e38, rfl⟩ := hk 38 (by decide)
          clear hk
          have hz : decide (cmpC s b < 0) = true := (cmpC_lt hrt hib).trans hlb
          go_simp
          exact k _ _ (Chg.refl _ _) (by simp only []; rfl)
         refine Obs.cons (some (32, true)) (by kernel_rfl) ?_ ?_
         ·refine Ob.yes (fun _ _ h => h) fun a w hR hk K k => ?_
          obtain ⟨_, e35, rfl⟩ := hk 35 (by decide)
          obtain ⟨_, e39, rfl⟩ := hk 39 (by decide)
          clear hk
          go_simp
          exact k _ _ (Chg.refl _ _) rfl
         refine Obs.cons none (by kernel_rfl) ?_ ?_
         ·refine Ob.plain fun a w hR hk K k => ?_
          obtain ⟨_, e32, rfl⟩ := hk 32 (by decide)
          obtain ⟨_, e40, rfl⟩ := hk 40 (by decide)
          clear hk
          go_simp
          exact k _ _ (Chg.refl _ _) rfl
         exact Obs.nil
        case fin =>
         intro vals w9 hc9 hv
         have h41 : vals 41 = .bool true := hv 41 (by decide)
         simp only [putAll, List.setIfInBounds_toArray, List.set_cons_zero, List.set_cons_succ, h41]
         clear hv h41
         have hn2 : Hid (BestG ltC isCred out (ls.take (k + 1)) (some s)) := hid (by rw [htk.out]; exact hb.out.take ltC_ord hcand.out (fun c h => by cases h; exact hlb))
         have hB9 := blk_keep hBb2 hc9 id
         have hS9 := blk_keep hS hc9 id
         obtain ⟨q0, q1, q2, q3, q4, q5, q6, q7, q8⟩ := cred_at_blk hB9
         obtain ⟨t0, t1, t2, t3, t4, t5, t6, t7, t8⟩ := cred_at_blk hS9
         simp only [Nat.zero_add, Option.getD_some, noCred, noneR] at q0 q1 q2 q3 q4 q5 q6 q7 q8 t0 t1 t2 t3 t4 t5 t6 t7 t8
         have f0 := froz_blk hB9 0
         have f1 := froz_blk hB9 1
         have f2 := froz_blk hB9 2
         have f3 := froz_blk hB9 3
         have f4 := froz_blk hB9 4
         have f5 := froz_blk hB9 5
         have f6 := froz_blk hB9 6
         have f7 := froz_blk hB9 7
         have f8 := froz_blk hB9 8
         have hD := setCred_blk s hB9
         have hgs := setCred_chg w9 Bb s
         have ho9 := (hoq2.keep hc9 (fun _ _ => id)).keep hgs (fun k hk e => by have := hrB k hk; omega)
         have hc10 : Chg (fun _ => False) w (setCred w9 Bb s) := (hcq2.trans hc9 (fun _ _ h => h)).trans hgs (fun i hi e => by omega)
         have HX := hid (And.intro hD (And.intro ho9 hc10))
         clear s0 s1 s2 s3 s4 s5 s6 s7 s8 hS hBb2 hoq2 hcq2 hc9 htk hb hB9 hS9 hD hgs ho9 hc10
         go_wp2
         go_roundw
         case rel => exact ⟨k + 1, some s, by go_num, by omega, rfl, hn2, HX.out.1, HX.out.2.1, HX.out.2.2⟩
         case measure => simp [intOf]; omega
       | false =>
        refine wp_region_specs (csetSpecsC0 ao3 out.length cap3 Bb Sb g 0 true s l b) [14, 15, 16, 17, 18, 19, 20, 21, 22, 23, 24, 25, 26, 27, 28, 29, 30, 31, 32, 33, 34, 35, 36, 37, 38, 39, 40, 41] [3, 4, 5, 7] (by kernel_rfl) (by kernel_rfl) (by rfl) (by kernel_rfl) ?start ?obs ?fin
        case start =>
         simp only [List.forall_mem_cons]
         exact ⟨⟨_, rfl, rfl⟩, ⟨_, rfl, rfl⟩, ⟨_, rfl, rfl⟩, ⟨_, rfl, rfl⟩, fun _ h => by cases h⟩
        case obs =>
         refine Obs.cons none (by kernel_rfl) ?_ ?_
         ·refine Ob.plain fun a w hR hk K k => ?_
          obtain ⟨_, e7, rfl⟩ := hk 7 (by decide)
          clear hk
          have q0 := hR.cell s0 id
          have q1 := hR.cell s1 id
          have q2 := hR.cell s2 id
          have q3 := hR.cell s3 id
          have q4 := hR.cell s4 id
          have q5 := hR.cell s5 id
          have q6 := hR.cell s6 id
          have q7 := hR.cell s7 id
          have q8 := hR.cell s8 id
          go_simp
          exact k _ _ (Chg.refl _ _) rfl
         refine Obs.cons none (by kernel_rfl) ?_ ?_
         ·refine Ob.plain fun a w hR hk K k => ?_
          obtain ⟨_, e14, rfl⟩ := hk 14 (by decide)
          clear hk
          go_simp
          refine (cright_ref s _ hss).mono ?_
          rintro e w2 ⟨rfl, hc⟩
          exact k _ _ hc (congrArg Value.bool hrt)
         refine Obs.cons none (by kernel_rfl) ?_ ?_
         ·refine Ob.plain fun a w hR hk K k => ?_
          obtain ⟨_, e15, f15⟩ := hk 15 (by decide)
          clear hk
          go_simp
          exact k _ _ (Chg.refl _ _) f15
         refine Obs.cons (some (16, true)) (by kernel_rfl) ?_ ?_
         ·refine Ob.yes (fun _ _ h => h) fun a w hR hk K k => ?_
          obtain ⟨_, e3, f3⟩ := hk 3 (by decide)
          clear hk
          go_simp
          exact k _ _ (Chg.refl _ _) f3
         refine Obs.cons (some (16, true)) (by kernel_rfl) ?_ ?_
         ·refine Ob.yes (fun _ _ h => h) fun a w hR hk K k => ?_
          obtain ⟨_, e17, rfl⟩ := hk 17 (by decide)
          clear hk
          go_simp
          exact k _ _ (Chg.refl _ _) rfl
         refine Obs.cons (some (16, true)) (by kernel_rfl) ?_ ?_
         ·refine Ob.yes (fun _ _ h => h) fun a w hR hk K k => ?_
          obtain ⟨_, e18, rfl⟩ := hk 18 (by decide)
          clear hk
          go_simp
          exact k _ _ (Chg.refl _ _) rfl
         refine Obs.cons (some (16, true)) (by kernel_rfl) ?_ ?_
         ·refine Ob.yes (fun _ _ h => h) fun a w hR hk K k => ?_
          obtain ⟨_, e19, f19⟩ := hk 19 (by decide)
          clear hk
          go_simp
          exact k _ _ (Chg.refl _ _) f19
         refine Obs.cons (some (20, false)) (by kernel_rfl) ?_ ?_
         ·exact Ob.no (fun _ _ h => h) (Chg.refl _) (fun _ _ => trivial)
         refine Obs.cons (some (20, false)) (by kernel_rfl) ?_ ?_
         ·exact Ob.no (fun _ _ h => h) (Chg.refl _) (fun _ _ => trivial)
         refine Obs.cons (some (20, false)) (by kernel_rfl) ?_ ?_
         ·exact Ob.no (fun _ _ h => h) (Chg.refl _) (fun _ _ => trivial)
         refine Obs.cons (some (20, false)) (by kernel_rfl) ?_ ?_
         ·exact Ob.no (fun _ _ h => h) (Chg.refl _) (fun _ _ => trivial)
         refine Obs.cons (some (20, false)) (by kernel_rfl) ?_ ?_
         ·exact Ob.no (fun _ _ h => h) (Chg.refl _) (fun _ _ => trivial)
         refine Obs.cons (some (20, false)) (by kernel_rfl) ?_ ?_
         ·exact Ob.no (fun _ _ h => h) (Chg.refl _) (fun _ _ => trivial)
         refine Obs.cons (some (20, false)) (by kernel_rfl) ?_ ?_
         ·exact Ob.no (fun _ _ h => h) (Chg.refl _) (fun _ _ => trivial)
         refine Obs.cons (some (20, false)) (by kernel_rfl) ?_ ?_
         ·exact Ob.no (fun _ _ h => h) (Chg.refl _) (fun _ _ => trivial)
         refine Obs.cons (some (20, false)) (by kernel_rfl) ?_ ?_
         ·exact Ob.no (fun _ _ h => h) (Chg.refl _) (fun _ _ => trivial)
         refine Obs.cons (some (16, true)) (by kernel_rfl) ?_ ?_
         ·refine Ob.yes (fun _ _ h => h) fun a w hR hk K k => ?_
          obtain ⟨_, e20, rfl⟩ := hk 20 (by decide)
          obtain ⟨_, e29, _⟩ := hk 29 (by decide)
          clear hk
          go_simp
          exact k _ _ (Chg.refl _ _) rfl
         refine Obs.cons none (by kernel_rfl) ?_ ?_
         ·refine Ob.plain fun a w hR hk K k => ?_
          obtain ⟨_, e16, rfl⟩ := hk 16 (by decide)
          obtain ⟨_, e30, rfl⟩ := hk 30 (by decide)
          clear hk
          go_simp
          exact k _ _ (Chg.refl _ _) rfl
         refine Obs.cons none (by kernel_rfl) ?_ ?_
         ·refine Ob.plain fun a w hR hk K k => ?_
          obtain ⟨_, e31, f31⟩ := hk 31 (by decide)
          clear hk
          go_simp
          exact k _ _ (Chg.refl _ _) f31
         refine Obs.cons (some (32, true)) (by kernel_rfl) ?_ ?_
         ·refine Ob.yes (fun _ _ h => h) fun a w hR hk K k => ?_
          obtain ⟨_, e5, f5⟩ := hk 5 (by decide)
          clear hk
          go_simp
          exact k _ _ (Chg.refl _ _) f5
         refine Obs.cons (some (32, true)) (by kernel_rfl) ?_ ?_
         ·refine Ob.yes (fun _ _ h => h) fun a w hR hk K k => ?_
          obtain ⟨_, e33, rfl⟩ := hk 33 (by decide)
          clear hk
          go_simp
          exact k _ _ (Chg.refl _ _) rfl
         refine Obs.cons (some (32, true)) (by kernel_rfl) ?_ ?_
         ·refine Ob.yes (fun _ _ h => h) fun a w hR hk K k => ?_
          obtain ⟨_, e34, f34⟩ := hk 34 (by decide)
          clear hk
          go_simp
          exact k _ _ (Chg.refl _ _) f34
         refine Obs.cons (some (35, false)) (by kernel_rfl) ?_ ?_
         ·refine Ob.yes (fun _ _ h => h) fun a w hR hk K k => ?_
          obtain ⟨_, e7, rfl⟩ := hk 7 (by decide)
          clear hk
          have q0 := hR.cell s0 id
          have q1 := hR.cell s1 id
          have q2 := hR.cell s2 id
          have q3 := hR.cell s3 id
          have q4 := hR.cell s4 id
          have q5 := hR.cell s5 id
          have q6 := hR.cell s6 id
          have q7 := hR.cell s7 id
          have q8 := hR.cell s8 id
          go_simp
          exact k _ _ (Chg.refl _ _) rfl
         refine Obs.cons (some (35, false)) (by kernel_rfl) ?_ ?_
         ·refine Ob.yes (fun _ _ h => h) fun a w hR hk K k => ?_
          obtain ⟨_, e4, rfl⟩ := hk 4 (by decide)
          clear hk
          have q0 := hR.cell p0 id
          have q1 := hR.cell p1 id
          have q2 := hR.cell p2 id
          have q3 := hR.cell p3 id
          have q4 := hR.cell p4 id
          have q5 := hR.cell p5 id
          have q6 := hR.cell p6 id
          have q7 := hR.cell p7 id
          have q8 := hR.cell p8 id
          go_simp
          exact k _ _ (Chg.refl _ _) rfl
         refine Obs.cons (some (35, false)) (by kernel_rfl) ?_ ?_
         ·refine Ob.yes (fun _ _ h => h) fun a w hR hk K k => ?_
          obtain ⟨_, e36, rfl⟩ := hk 36 (by decide)
          obtain ⟨_, e37, rfl⟩ := hk 37 (by decide)
          clear hk
          go_simp
          refine (ccompare_ref s b _ ((isCred_short hrt).mono (by omega)) ((isCred_short hib).mono (by omega))).mono ?_
          rintro e w2 ⟨rfl, hc⟩
          exact k _ _ hc rfl
         refine Obs.cons (some (35, false)) (by kernel_rfl) ?_ ?_
         ·refine Ob.yes (fun _ _ h => h) fun a w hR hk K k => ?_
          obtain ⟨_, e38, rfl⟩ := hk 38 (by decide)
          clear hk
          have hz : decide (cmpC s b < 0) = false := (cmpC_lt hrt hib).trans hlb
          go_simp
          exact k _ _ (Chg.refl _ _) (by simp only []; rfl)
         refine Obs.cons (some (32, true)) (by kernel_rfl) ?_ ?_
         ·refine Ob.yes (fun _ _ h => h) fun a w hR hk K k => ?_
          obtain ⟨_, e35, rfl⟩ := hk 35 (by decide)
          obtain ⟨_, e39, rfl⟩ := hk 39 (by decide)
          clear hk
          go_simp
          exact k _ _ (Chg.refl _ _) rfl
         refine Obs.cons none (by kernel_rfl) ?_ ?_
         ·refine Ob.plain fun a w hR hk K k => ?_
          obtain ⟨_, e32, rfl⟩ := hk 32 (by decide)
          obtain ⟨_, e40, rfl⟩ := hk 40 (by decide)
          clear hk
          go_simp
          exact k _ _ (Chg.refl _ _) rfl
         exact Obs.nil
        case fin =>
         intro vals w9 hc9 hv
         have h41 : vals 41 = .bool false := hv 41 (by decide)
         simp only [putAll, List.setIfInBounds_toArray, List.set_cons_zero, List.set_cons_succ, h41]
         clear hv h41
         have hn2 : Hid (BestG ltC isCred out (ls.take (k + 1)) (some b)) := hid (by rw [htk.out]; exact hb.out.keep hlb)
         have HX := hid (And.intro (blk_keep hBb2 hc9 id) (And.intro (hoq2.keep hc9 (fun _ _ => id)) (hcq2.trans hc9 (fun _ _ h => h))))
         clear s0 s1 s2 s3 s4 s5 s6 s7 s8 hS hBb2 hoq2 hcq2 hc9 htk hb
         go_wp2
         go_roundw
         case rel => exact ⟨k + 1, some b, by go_num, by omega, rfl, hn2, HX.out.1, HX.out.2.1, HX.out.2.2⟩
         case measure => simp [intOf]; omega
     ·obtain ⟨l, hl⟩ : ∃ l, out.getLast? = some l := by cases hx : out.getLast? with | none => exact absurd (List.getLast?_eq_none_iff.1 hx) h0 | some l => exact ⟨l, rfl⟩
      have hpos : 0 < out.length := List.length_pos_iff.2 h0
      have z1 : ((out.length : Int) == 0) = false := by rw [beq_eq_false_iff_ne]; omega
      obtain ⟨ao6, cap6, hv6, hst6, _⟩ := hoq2.creds HBD.out
      cases hv6
      obtain ⟨g, goff, hg, hgB, hlr, hls⟩ := hst6 (out.length - 1) (by omega)
      clear hls
      have hgo : goff = 0 := by
       rcases hoq2.2 with ⟨e, _⟩ | ⟨g', cap', cur, e, _⟩
       ·rw [hg] at e; cases e
       ·rw [hg] at e; cases e; rfl
      subst hgo
      subst hg
      rw [show out[out.length - 1]'(by omega) = l by
       have := List.getLast?_eq_getElem? (l := out)
       rw [hl, List.getElem?_eq_getElem (by omega)] at this
       exact (Option.some.inj this).symm, Nat.zero_add] at hlr
      have e0 : (0 : Int) ≤ (out.length : Int) - 1 := by omega
      have e1 : (out.length : Int) - 1 < (out.length : Int) := by omega
      have e4 : (1 : Int) ≤ (out.length : Int) := by omega
      have e2 : ((out.length : Int) - 1).toNat = out.length - 1 := by omega
      have e3 : IntKind.i64.wrap ((out.length : Int) - 1) = (out.length : Int) - 1 := by rw [IntKind.wrap_i64]; omega
      have hil : isCred l = true := HGD.out l (List.mem_of_getLast? hl)
      have hcl := candC_last (out := out) hl hrt
      have HCL := hid hcl
      have HL0 := hid (And.intro hl (And.intro hpos h0))
      clear hl hpos h0 hcl hst6 hgB
      cases hll : ltC l s with
      | false =>
       have b : CredB := s
       refine wp_region_specs (csetSpecsD none out.length cap3 Bb Sb g 0 bo.isSome s l b) [14, 15, 16, 17, 18, 19, 20, 21, 22, 23, 24, 25, 26, 27, 28, 29, 30, 31, 32, 33, 34, 35, 36, 37, 38, 39, 40, 41] [3, 4, 5, 7] (by kernel_rfl) (by kernel_rfl) (by rfl) (by kernel_rfl) ?start ?obs ?fin
       case start =>
        simp only [List.forall_mem_cons]
        exact ⟨⟨_, rfl, rfl⟩, ⟨_, rfl, rfl⟩, ⟨_, rfl, rfl⟩, ⟨_, rfl, rfl⟩, fun _ h => by cases h⟩
       case obs =>
        refine Obs.cons none (by kernel_rfl) ?_ ?_
        ·refine Ob.plain fun a w hR hk K k => ?_
         obtain ⟨_, e7, rfl⟩ := hk 7 (by decide)
         clear hk
         have q0 := hR.cell s0 id
         have q1 := hR.cell s1 id
         have q2 := hR.cell s2 id
         have q3 := hR.cell s3 id
         have q4 := hR.cell s4 id
         have q5 := hR.cell s5 id
         have q6 := hR.cell s6 id
         have q7 := hR.cell s7 id
         have q8 := hR.cell s8 id
         go_simp
         exact k _ _ (Chg.refl _ _) rfl
        refine Obs.cons none (by kernel_rfl) ?_ ?_
        ·refine Ob.plain fun a w hR hk K k => ?_
         obtain ⟨_, e14, rfl⟩ := hk 14 (by decide)
         clear hk
         go_simp
         refine (cright_ref s _ hss).mono ?_
         rintro e w2 ⟨rfl, hc⟩
         exact k _ _ hc (congrArg Value.bool hrt)
        refine Obs.cons none (by kernel_rfl) ?_ ?_
        ·refine Ob.plain fun a w hR hk K k => ?_
         obtain ⟨_, e15, f15⟩ := hk 15 (by decide)
         clear hk
         go_simp
         exact k _ _ (Chg.refl _ _) f15
        refine Obs.cons (some (16, true)) (by kernel_rfl) ?_ ?_
        ·refine Ob.yes (fun _ _ h => h) fun a w hR hk K k => ?_
         obtain ⟨_, e3, f3⟩ := hk 3 (by decide)
         clear hk
         go_simp
         exact k _ _ (Chg.refl _ _) f3
        refine Obs.cons (some (16, true)) (by kernel_rfl) ?_ ?_
        ·refine Ob.yes (fun _ _ h => h) fun a w hR hk K k => ?_
         obtain ⟨_, e17, rfl⟩ := hk 17 (by decide)
         clear hk
         go_simp
         exact k _ _ (Chg.refl _ _) rfl
        refine Obs.cons (some (16, true)) (by kernel_rfl) ?_ ?_
        ·refine Ob.yes (fun _ _ h => h) fun a w hR hk K k => ?_
         obtain ⟨_, e18, rfl⟩ := hk 18 (by decide)
         clear hk
         go_simp
         exact k _ _ (Chg.refl _ _) rfl
        refine Obs.cons (some (16, true)) (by kernel_rfl) ?_ ?_
        ·refine Ob.yes (fun _ _ h => h) fun a w hR hk K k => ?_
         obtain ⟨_, e19, f19⟩ := hk 19 (by decide)
         clear hk
         go_simp
         exact k _ _ (Chg.refl _ _) f19
        refine Obs.cons (some (20, false)) (by kernel_rfl) ?_ ?_
        ·refine Ob.yes (fun _ _ h => h) fun a w hR hk K k => ?_
         obtain ⟨_, e3, f3⟩ := hk 3 (by decide)
         clear hk
         go_simp
         exact k _ _ (Chg.refl _ _) f3
        refine Obs.cons (some (20, false)) (by kernel_rfl) ?_ ?_
        ·refine Ob.yes (fun _ _ h => h) fun a w hR hk K k => ?_
         obtain ⟨_, e3, f3⟩ := hk 3 (by decide)
         clear hk
         go_simp
         exact k _ _ (Chg.refl _ _) f3
        refine Obs.cons (some (20, false)) (by kernel_rfl) ?_ ?_
        ·refine Ob.yes (fun _ _ h => h) fun a w hR hk K k => ?_
         obtain ⟨_, e22, rfl⟩ := hk 22 (by decide)
         clear hk
         go_simp
         exact k _ _ (Chg.refl _ _) rfl
        refine Obs.cons (some (20, false)) (by kernel_rfl) ?_ ?_
        ·refine Ob.yes (fun _ _ h => h) fun a w hR hk K k => ?_
         obtain ⟨_, e23, rfl⟩ := hk 23 (by decide)
         clear hk
         go_simp
         exact k _ _ (Chg.refl _ _) rfl
        refine Obs.cons (some (20, false)) (by kernel_rfl) ?_ ?_
        ·refine Ob.yes (fun _ _ h => h) fun a w hR hk K k => ?_
         obtain ⟨_, e21, rfl⟩ := hk 21 (by decide)
         obtain ⟨_, e24, rfl⟩ := hk 24 (by decide)
         clear hk
         obtain ⟨c0, c1, c2, c3, c4, c5, c6, c7, c8⟩ := hlr.keep hR id
         go_simp
         exact k _ _ (Chg.refl _ _) ⟨_, _, rfl, hlr.keep hR id⟩
        refine Obs.cons (some (20, false)) (by kernel_rfl) ?_ ?_
        ·refine Ob.yes (fun _ _ h => h) fun a w hR hk K k => ?_
         obtain ⟨_, e25, f25⟩ := hk 25 (by decide)
         clear hk
         obtain ⟨b, off, rfl, c0, c1, c2, c3, c4, c5, c6, c7, c8⟩ := f25
         go_simp
         exact k _ _ (Chg.refl _ _) rfl
        refine Obs.cons (some (20, false)) (by kernel_rfl) ?_ ?_
        ·refine Ob.yes (fun _ _ h => h) fun a w hR hk K k => ?_
         obtain ⟨_, e7, rfl⟩ := hk 7 (by decide)
         clear hk
         have q0 := hR.cell s0 id
         have q1 := hR.cell s1 id
         have q2 := hR.cell s2 id
         have q3 := hR.cell s3 id
         have q4 := hR.cell s4 id
         have q5 := hR.cell s5 id
         have q6 := hR.cell s6 id
         have q7 := hR.cell s7 id
         have q8 := hR.cell s8 id
         go_simp
         exact k _ _ (Chg.refl _ _) rfl
        refine Obs.cons (some (20, false)) (by kernel_rfl) ?_ ?_
        ·refine Ob.yes (fun _ _ h => h) fun a w hR hk K k => ?_
         obtain ⟨_, e26, rfl⟩ := hk 26 (by decide)
         obtain ⟨_, e27, rfl⟩ := hk 27 (by decide)
         clear hk
         go_simp
         refine (ccompare_ref l s _ ((isCred_short hil).mono (by omega)) ((isCred_short hrt).mono (by omega))).mono ?_
         rintro e w2 ⟨rfl, hc⟩
         exact k _ _ hc rfl
        refine Obs.cons (some (20, false)) (by kernel_rfl) ?_ ?_
        ·refine Ob.yes (fun _ _ h => h) fun a w hR hk K k => ?_
         obtain ⟨_, e28, rfl⟩ := hk 28 (by decide)
         clear hk
         have hz : decide (cmpC l s < 0) = false := (cmpC_lt hil hrt).trans hll
         go_simp
         exact k _ _ (Chg.refl _ _) (by simp only []; rfl)
        refine Obs.cons (some (16, true)) (by kernel_rfl) ?_ ?_
        ·refine Ob.yes (fun _ _ h => h) fun a w hR hk K k => ?_
         obtain ⟨_, e20, rfl⟩ := hk 20 (by decide)
         obtain ⟨_, e29, rfl⟩ := hk 29 (by decide)
         clear hk
         go_simp
         exact k _ _ (Chg.refl _ _) rfl
        refine Obs.cons none (by kernel_rfl) ?_ ?_
        ·refine Ob.plain fun a w hR hk K k => ?_
         obtain ⟨_, e16, rfl⟩ := hk 16 (by decide)
         obtain ⟨_, e30, rfl⟩ := hk 30 (by decide)
         clear hk
         go_simp
         exact k _ _ (Chg.refl _ _) rfl
        refine Obs.cons none (by kernel_rfl) ?_ ?_
        ·refine Ob.plain fun a w hR hk K k => ?_
         obtain ⟨_, e31, f31⟩ := hk 31 (by decide)
         clear hk
         go_simp
         exact k _ _ (Chg.refl _ _) f31
        refine Obs.cons (some (32, true)) (by kernel_rfl) ?_ ?_
        ·exact Ob.no (fun _ _ h => h) (Chg.refl _) (fun _ _ => trivial)
        refine Obs.cons (some (32, true)) (by kernel_rfl) ?_ ?_
        ·exact Ob.no (fun _ _ h => h) (Chg.refl _) (fun _ _ => trivial)
        refine Obs.cons (some (32, true)) (by kernel_rfl) ?_ ?_
        ·exact Ob.no (fun _ _ h => h) (Chg.refl _) (fun _ _ => rfl)
        refine Obs.cons (some (35, false)) (by kernel_rfl) ?_ ?_
        ·exact Ob.und (fun _ _ h => h) (Chg.refl _) (fun _ _ => trivial)
        refine Obs.cons (some (35, false)) (by kernel_rfl) ?_ ?_
        ·exact Ob.und (fun _ _ h => h) (Chg.refl _) (fun _ _ => trivial)
        refine Obs.cons (some (35, false)) (by kernel_rfl) ?_ ?_
        ·exact Ob.und (fun _ _ h => h) (Chg.refl _) (fun _ _ => trivial)
        refine Obs.cons (some (35, false)) (by kernel_rfl) ?_ ?_
        ·exact Ob.und (fun _ _ h => h) (Chg.refl _) (fun _ _ => trivial)
        refine Obs.cons (some (32, true)) (by kernel_rfl) ?_ ?_
        ·exact Ob.no (fun _ _ h => h) (Chg.refl _) (fun _ _ => trivial)
        refine Obs.cons none (by kernel_rfl) ?_ ?_
        ·refine Ob.plain fun a w hR hk K k => ?_
         obtain ⟨_, e32, rfl⟩ := hk 32 (by decide)
         obtain ⟨_, e40, _⟩ := hk 40 (by decide)
         clear hk
         go_simp
         exact k _ _ (Chg.refl _ _) rfl
        exact Obs.nil
       case fin =>
        intro vals w9 hc9 hv
        have h41 : vals 41 = .bool false := hv 41 (by decide)
        simp only [putAll, List.setIfInBounds_toArray, List.set_cons_zero, List.set_cons_succ, h41]
        clear hv h41
        have hn2 : Hid (BestG ltC isCred out (ls.take (k + 1)) bo) := hid (by rw [htk.out]; exact hb.out.skip (HCL.out.trans hll))
        have HX := hid (And.intro (blk_keep hBb2 hc9 id) (And.intro (hoq2.keep hc9 (fun _ _ => id)) (hcq2.trans hc9 (fun _ _ h => h))))
        clear s0 s1 s2 s3 s4 s5 s6 s7 s8 hS hBb2 hoq2 hcq2 hc9 htk hb
        go_wp2
        go_roundw
        case rel => exact ⟨k + 1, bo, by go_num, by omega, rfl, hn2, HX.out.1, HX.out.2.1, HX.out.2.2⟩
        case measure => simp [intOf]; omega
      | true =>
       cases bo with
       | none =>
        have b : CredB := s
        refine wp_region_specs (csetSpecsE none out.length cap3 Bb Sb g 0 false s l b) [14, 15, 16, 17, 18, 19, 20, 21, 22, 23, 24, 25, 26, 27, 28, 29, 30, 31, 32, 33, 34, 35, 36, 37, 38, 39, 40, 41] [3, 4, 5, 7] (by kernel_rfl) (by kernel_rfl) (by rfl) (by kernel_rfl) ?start ?obs ?fin
        case start =>
         simp only [List.forall_mem_cons]
         exact ⟨⟨_, rfl, rfl⟩, ⟨_, rfl, rfl⟩, ⟨_, rfl, rfl⟩, ⟨_, rfl, rfl⟩, fun _ h => by cases h⟩
        case obs =>
         refine Obs.cons none (by kernel_rfl) ?_ ?_
         ·refine Ob.plain fun a w hR hk K k => ?_
          obtain ⟨_, e7, rfl⟩ := hk 7 (by decide)
          clear hk
          have q0 := hR.cell s0 id
          have q1 := hR.cell s1 id
          have q2 := hR.cell s2 id
          have q3 := hR.cell s3 id
          have q4 := hR.cell s4 id
          have q5 := hR.cell s5 id
          have q6 := hR.cell s6 id
          have q7 := hR.cell s7 id
          have q8 := hR.cell s8 id
          go_simp
          exact k _ _ (Chg.refl _ _) rfl
         refine Obs.cons none (by kernel_rfl) ?_ ?_
         ·refine Ob.plain fun a w hR hk K k => ?_
          obtain ⟨_, e14, rfl⟩ := hk 14 (by decide)
          clear hk
          go_simp
          refine (cright_ref s _ hss).mono ?_
          rintro e w2 ⟨rfl, hc⟩
          exact k _ _ hc (congrArg Value.bool hrt)
         refine Obs.cons none (by kernel_rfl) ?_ ?_
         ·refine Ob.plain fun a w hR hk K k => ?_
          obtain ⟨_, e15, f15⟩ := hk 15 (by decide)
          clear hk
          go_simp
          exact k _ _ (Chg.refl _ _) f15
         refine Obs.cons (some (16, true)) (by kernel_rfl) ?_ ?_
         ·refine Ob.yes (fun _ _ h => h) fun a w hR hk K k => ?_
          obtain ⟨_, e3, f3⟩ := hk 3 (by decide)
          clear hk
          go_simp
          exact k _ _ (Chg.refl _ _) f3
         refine Obs.cons (some (16, true)) (by kernel_rfl) ?_ ?_
         ·refine Ob.yes (fun _ _ h => h) fun a w hR hk K k => ?_
          obtain ⟨_, e17, rfl⟩ := hk 17 (by decide)
          clear hk
          go_simp
          exact k _ _ (Chg.refl _ _) rfl
         refine Obs.cons (some (16, true)) (by kernel_rfl) ?_ ?_
         ·refine Ob.yes (fun _ _ h => h) fun a w hR hk K k => ?_
          obtain ⟨_, e18, rfl⟩ := hk 18 (by decide)
          clear hk
          go_simp
          exact k _ _ (Chg.refl _ _) rfl
         refine Obs.cons (some (16, true)) (by kernel_rfl) ?_ ?_
         ·refine Ob.yes (fun _ _ h => h) fun a w hR hk K k => ?_
          obtain ⟨_, e19, f19⟩ := hk 19 (by decide)
          clear hk
          go_simp
          exact k _ _ (Chg.refl _ _) f19
         refine Obs.cons (some (20, false)) (by kernel_rfl) ?_ ?_
         ·refine Ob.yes (fun _ _ h => h) fun a w hR hk K k => ?_
          obtain ⟨_, e3, f3⟩ := hk 3 (by decide)
          clear hk
          go_simp
          exact k _ _ (Chg.refl _ _) f3
         refine Obs.cons (some (20, false)) (by kernel_rfl) ?_ ?_
         ·refine Ob.yes (fun _ _ h => h) fun a w hR hk K k => ?_
          obtain ⟨_, e3, f3⟩ := hk 3 (by decide)
          clear hk
          go_simp
          exact k _ _ (Chg.refl _ _) f3
         refine Obs.cons (some (20, false)) (by kernel_rfl) ?_ ?_
         ·refine Ob.yes (fun _ _ h => h) fun a w hR hk K k => ?_
          obtain ⟨_, e22, rfl⟩ := hk 22 (by decide)
          clear hk
          go_simp
          exact k _ _ (Chg.refl _ _) rfl
         refine Obs.cons (some (20, false)) (by kernel_rfl) ?_ ?_
         ·refine Ob.yes (fun _ _ h => h) fun a w hR hk K k => ?_
          obtain ⟨_, e23, rfl⟩ := hk 23 (by decide)
          clear hk
          go_simp
          exact k _ _ (Chg.refl _ _) rfl
         refine Obs.cons (some (20, false)) (by kernel_rfl) ?_ ?_
         ·refine Ob.yes (fun _ _ h => h) fun a w hR hk K k => ?_
          obtain ⟨_, e21, rfl⟩ := hk 21 (by decide)
          obtain ⟨_, e24, rfl⟩ := hk 24 (by decide)
          clear hk
          obtain ⟨c0, c1, c2, c3, c4, c5, c6, c7, c8⟩ := hlr.keep hR id
          go_simp
          exact k _ _ (Chg.refl _ _) ⟨_, _, rfl, hlr.keep hR id⟩
         refine Obs.cons (some (20, false)) (by kernel_rfl) ?_ ?_
         ·refine Ob.yes (fun _ _ h => h) fun a w hR hk K k => ?_
          obtain ⟨_, e25, f25⟩ := hk 25 (by decide)
          clear hk
          obtain ⟨b, off, rfl, c0, c1, c2, c3, c4, c5, c6, c7, c8⟩ := f25
          go_simp
          exact k _ _ (Chg.refl _ _) rfl
         refine Obs.cons (some (20, false)) (by kernel_rfl) ?_ ?_
         ·refine Ob.yes (fun _ _ h => h) fun a w hR hk K k => ?_
          obtain ⟨_, e7, rfl⟩ := hk 7 (by decide)
          clear hk
          have q0 := hR.cell s0 id
          have q1 := hR.cell s1 id
          have q2 := hR.cell s2 id
          have q3 := hR.cell s3 id
          have q4 := hR.cell s4 id
          have q5 := hR.cell s5 id
          have q6 := hR.cell s6 id
          have q7 := hR.cell s7 id
          have q8 := hR.cell s8 id
          go_simp
          exact k _ _ (Chg.refl _ _) rfl
         refine Obs.cons (some (20, false)) (by kernel_rfl) ?_ ?_
         ·refine Ob.yes (fun _ _ h => h) fun a w hR hk K k => ?_
          obtain ⟨_, e26, rfl⟩ := hk 26 (by decide)
          obtain ⟨_, e27, rfl⟩ := hk 27 (by decide)
          clear hk
          go_simp
          refine (ccompare_ref l s _ ((isCred_short hil).mono (by omega)) ((isCred_short hrt).mono (by omega))).mono ?_
          rintro e w2 ⟨rfl, hc⟩
          exact k _ _ hc rfl
         refine Obs.cons (some (20, false)) (by kernel_rfl) ?_ ?_
         ·refine Ob.yes (fun _ _ h => h) fun a w hR hk K k => ?_
          obtain ⟨_, e28, rfl⟩ := hk 28 (by decide)
          clear hk
          have hz : decide (cmpC l s < 0) = true := (cmpC_lt hil hrt).trans hll
          go_simp
          exact k _ _ (Chg.refl _ _) (by simp only []; rfl)
         refine Obs.cons (some (16, true)) (by kernel_rfl) ?_ ?_
         ·refine Ob.yes (fun _ _ h => h) fun a w hR hk K k => ?_
          obtain ⟨_, e20, rfl⟩ := hk 20 (by decide)
          obtain ⟨_, e29, rfl⟩ := hk 29 (by decide)
          clear hk
          go_simp
          exact k _ _ (Chg.refl _ _) rfl
         refine Obs.cons none (by kernel_rfl) ?_ ?_
         ·refine Ob.plain fun a w hR hk K k => ?_
          obtain ⟨_, e16, rfl⟩ := hk 16 (by decide)
          obtain ⟨_, e30, rfl⟩ := hk 30 (by decide)
          clear hk
          go_simp
          exact k _ _ (Chg.refl _ _) rfl
         refine Obs.cons none (by kernel_rfl) ?_ ?_
         ·refine Ob.plain fun a w hR hk K k => ?_
          obtain ⟨_, e31, f31⟩ := hk 31 (by decide)
          clear hk
          go_simp
          exact k _ _ (Chg.refl _ _) f31
         refine Obs.cons (some (32, true)) (by kernel_rfl) ?_ ?_
         ·refine Ob.yes (fun _ _ h => h) fun a w hR hk K k => ?_
          obtain ⟨_, e5, f5⟩ := hk 5 (by decide)
          clear hk
          go_simp
          exact k _ _ (Chg.refl _ _) f5
         refine Obs.cons (some (32, true)) (by kernel_rfl) ?_ ?_
         ·refine Ob.yes (fun _ _ h => h) fun a w hR hk K k => ?_
          obtain ⟨_, e33, rfl⟩ := hk 33 (by decide)
          clear hk
          go_simp
          exact k _ _ (Chg.refl _ _) rfl
         refine Obs.cons (some (32, true)) (by kernel_rfl) ?_ ?_
         ·refine Ob.yes (fun _ _ h => h) fun a w hR hk K k => ?_
          obtain ⟨_, e34, f34⟩ := hk 34 (by decide)
          clear hk
          go_simp
          exact k _ _ (Chg.refl _ _) f34
         refine Obs.cons (some (35, false)) (by kernel_rfl) ?_ ?_
         ·exact Ob.no (fun _ _ h => h) (Chg.refl _) (fun _ _ => trivial)
         refine Obs.cons (some (35, false)) (by kernel_rfl) ?_ ?_
         ·exact Ob.no (fun _ _ h => h) (Chg.refl _) (fun _ _ => trivial)
         refine Obs.cons (some (35, false)) (by kernel_rfl) ?_ ?_
         ·exact Ob.no (fun _ _ h => h) (Chg.refl _) (fun _ _ => trivial)
         refine Obs.cons (some (35, false)) (by kernel_rfl) ?_ ?_
         ·exact Ob.no (fun _ _ h => h) (Chg.refl _) (fun _ _ => trivial)
         refine Obs.cons (some (32, true)) (by kernel_rfl) ?_ ?_
         ·refine Ob.yes (fun _ _ h => h) fun a w hR hk K k => ?_
          obtain ⟨_, e35, rfl⟩ := hk 35 (by decide)
          obtain ⟨_, e39, _⟩ := hk 39 (by decide)
          clear hk
          go_simp
          exact k _ _ (Chg.refl _ _) rfl
         refine Obs.cons none (by kernel_rfl) ?_ ?_
         ·refine Ob.plain fun a w hR hk K k => ?_
          obtain ⟨_, e32, rfl⟩ := hk 32 (by decide)
          obtain ⟨_, e40, rfl⟩ := hk 40 (by decide)
          clear hk
          go_simp
          exact k _ _ (Chg.refl _ _) rfl
         exact Obs.nil
        case fin =>
         intro vals w9 hc9 hv
         have h41 : vals 41 = .bool true := hv 41 (by decide)
         simp only [putAll, List.setIfInBounds_toArray, List.set_cons_zero, List.set_cons_succ, h41]
         clear hv h41
         have hn2 : Hid (BestG ltC isCred out (ls.take (k + 1)) (some s)) := hid (by rw [htk.out]; exact hb.out.take ltC_ord (HCL.out.trans hll) (fun c h => by cases h))
         have hB9 := blk_keep hBb2 hc9 id
         have hS9 := blk_keep hS hc9 id
         obtain ⟨q0, q1, q2, q3, q4, q5, q6, q7, q8⟩ := cred_at_blk hB9
         obtain ⟨t0, t1, t2, t3, t4, t5, t6, t7, t8⟩ := cred_at_blk hS9
         simp only [Nat.zero_add, Option.getD_none, noCred, noneR] at q0 q1 q2 q3 q4 q5 q6 q7 q8 t0 t1 t2 t3 t4 t5 t6 t7 t8
         have f0 := froz_blk hB9 0
         have f1 := froz_blk hB9 1
         have f2 := froz_blk hB9 2
         have f3 := froz_blk hB9 3
         have f4 := froz_blk hB9 4
         have f5 := froz_blk hB9 5
         have f6 := froz_blk hB9 6
         have f7 := froz_blk hB9 7
         have f8 := froz_blk hB9 8
         have hD := setCred_blk s hB9
         have hgs := setCred_chg w9 Bb s
         have ho9 := (hoq2.keep hc9 (fun _ _ => id)).keep hgs (fun k hk e => by have := hrB k hk; omega)
         have hc10 : Chg (fun _ => False) w (setCred w9 Bb s) := (hcq2.trans hc9 (fun _ _ h => h)).trans hgs (fun i hi e => by omega)
         have HX := hid (And.intro hD (And.intro ho9 hc10))
         clear s0 s1 s2 s3 s4 s5 s6 s7 s8 hS hBb2 hoq2 hcq2 hc9 htk hb hB9 hS9 hD hgs ho9 hc10
         go_wp2
         go_roundw
         case rel => exact ⟨k + 1, some s, by go_num, by omega, rfl, hn2, HX.out.1, HX.out.2.1, HX.out.2.2⟩
         case measure => simp [intOf]; omega
       | some b =>
        obtain ⟨p0, p1, p2, p3, p4, p5, p6, p7, p8⟩ := cred_at_blk hBb2
        simp only [Nat.zero_add, Option.getD_some] at p0 p1 p2 p3 p4 p5 p6 p7 p8
        have hib : isCred b = true := candC_good hb.out.2.1
        cases hlb : ltC s b with
        | true =>
         refine wp_region_specs (csetSpecsF1 none out.length cap3 Bb Sb g 0 true s l b) [14, 15, 16, 17, 18, 19, 20, 21, 22, 23, 24, 25, 26, 27, 28, 29, 30, 31, 32, 33, 34, 35, 36, 37, 38, 39, 40, 41] [3, 4, 5, 7] (by kernel_rfl) (by kernel_rfl) (by rfl) (by kernel_rfl) ?start ?obs ?fin
         case start =>
          simp only [List.forall_mem_cons]
          exact ⟨⟨_, rfl, rfl⟩, ⟨_, rfl, rfl⟩, ⟨_, rfl, rfl⟩, ⟨_, rfl, rfl⟩, fun _ h => by cases h⟩
         case obs =>
          refine Obs.cons none (by kernel_rfl) ?_ ?_
          ·refine Ob.plain fun a w hR hk K k => ?_
           obtain ⟨_, e7, rfl⟩ := hk 7 (by decide)
           clear hk
           have q0 := hR.cell s0 id
           have q1 := hR.cell s1 id
           have q2 := hR.cell s2 id
           have q3 := hR.cell s3 id
           have q4 := hR.cell s4 id
           have q5 := hR.cell s5 id
           have q6 := hR.cell s6 id
           have q7 := hR.cell s7 id
           have q8 := hR.cell s8 id
           go_simp
           exact k _ _ (Chg.refl _ _) rfl
          refine Obs.cons none (by kernel_rfl) ?_ ?_
          ·refine Ob.plain fun a w hR hk K k => ?_
           obtain ⟨_, e14, rfl⟩ := hk 14 (by decide)
           clear hk
           go_simp
           refine (cright_ref s _ hss).mono ?_
           rintro e w2 ⟨rfl, hc⟩
           exact k _ _ hc (congrArg Value.bool hrt)
          refine Obs.cons none (by kernel_rfl) ?_ ?_
          ·refine Ob.plain fun a w hR hk K k => ?_
           obtain ⟨_, e15, f15⟩ := hk 15 (by decide)
           clear hk
           go_simp
           exact k _ _ (Chg.refl _ _) f15
          refine Obs.cons (some (16, true)) (by kernel_rfl) ?_ ?_
          ·refine Ob.yes (fun _ _ h => h) fun a w hR hk K k => ?_
           obtain ⟨_, e3, f3⟩ := hk 3 (by decide)
           clear hk
           go_simp
           exact k _ _ (Chg.refl _ _) f3
          refine Obs.cons (some (16, true)) (by kernel_rfl) ?_ ?_
          ·refine Ob.yes (fun _ _ h => h) fun a w hR hk K k => ?_
           obtain ⟨_, e17, rfl⟩ := hk 17 (by decide)
           clear hk
           go_simp
           exact k _ _ (Chg.refl _ _) rfl
          refine Obs.cons (some (16, true)) (by kernel_rfl) ?_ ?_
          ·refine Ob.yes (fun _ _ h => h) fun a w hR hk K k => ?_
           obtain ⟨_, e18, rfl⟩ := hk 18 (by decide)
           clear hk
           go_simp
           exact k _ _ (Chg.refl _ _) rfl
          refine Obs.cons (some (16, true)) (by kernel_rfl) ?_ ?_
          ·refine Ob.yes (fun _ _ h => h) fun a w hR hk K k => ?_
           obtain ⟨_, e19, f19⟩ := hk 19 (by decide)
           clear hk
           go_simp
           exact k _ _ (Chg.refl _ _) f19
          refine Obs.cons (some (20, false)) (by kernel_rfl) ?_ ?_
          ·refine Ob.yes (fun _ _ h => h) fun a w hR hk K k => ?_
           obtain ⟨_, e3, f3⟩ := hk 3 (by decide)
           clear hk
           go_simp
           exact k _ _ (Chg.refl _ _) f3
          refine Obs.cons (some (20, false)) (by kernel_rfl) ?_ ?_
          ·refine Ob.yes (fun _ _ h => h) fun a w hR hk K k => ?_
           obtain ⟨_, e3, f3⟩ := hk 3 (by decide)
           clear hk
           go_simp
           exact k _ _ (Chg.refl _ _) f3
          refine Obs.cons (some (20, false)) (by kernel_rfl) ?_ ?_
          ·refine Ob.yes (fun _ _ h => h) fun a w hR hk K k => ?_
           obtain ⟨_, e22, rfl⟩ := hk 22 (by decide)
           clear hk
           go_simp
           exact k _ _ (Chg.refl _ _) rfl
          refine Obs.cons (some (20, false)) (by kernel_rfl) ?_ ?_
          ·refine Ob.yes (fun _ _ h => h) fun a w hR hk K k => ?_
           obtain ⟨_, e23, rfl⟩ := hk 23 (by decide)
           clear hk
           go_simp
           exact k _ _ (Chg.refl _ _) rfl
          refine Obs.cons (some (20, false)) (by kernel_rfl) ?_ ?_
          ·refine Ob.yes (fun _ _ h => h) fun a w hR hk K k => ?_
           obtain ⟨_, e21, rfl⟩ := hk 21 (by decide)
           obtain ⟨_, e24, rfl⟩ := hk 24 (by decide)
           clear hk
           obtain ⟨c0, c1, c2, c3, c4, c5, c6, c7, c8⟩ := hlr.keep hR id
           go_simp
           exact k _ _ (Chg.refl _ _) ⟨_, _, rfl, hlr.keep hR id⟩
          refine Obs.cons (some (20, false)) (by kernel_rfl) ?_ ?_
          ·refine Ob.yes (fun _ _ h => h) fun a w hR hk K k => ?_
           obtain ⟨_, e25, f25⟩ := hk 25 (by decide)
           clear hk
           obtain ⟨b, off, rfl, c0, c1, c2, c3, c4, c5, c6, c7, c8⟩ := f25
           go_simp
           exact k _ _ (Chg.refl _ _) rfl
          refine Obs.cons (some (20, false)) (by kernel_rfl) ?_ ?_
          ·refine Ob.yes (fun _ _ h => h) fun a w hR hk K k => ?_
           obtain ⟨_, e7, rfl⟩ := hk 7 (by decide)
           clear hk
           have q0 := hR.cell s0 id
           have q1 := hR.cell s1 id
           have q2 := hR.cell s2 id
           have q3 := hR.cell s3 id
           have q4 := hR.cell s4 id
           have q5 := hR.cell s5 id
           have q6 := hR.cell s6 id
           have q7 := hR.cell s7 id
           have q8 := hR.cell s8 id
           go_simp
           exact k _ _ (Chg.refl _ _) rfl
          refine Obs.cons (some (20, false)) (by kernel_rfl) ?_ ?_
          ·refine Ob.yes (fun _ _ h => h) fun a w hR hk K k => ?_
           obtain ⟨_, e26, rfl⟩ := hk 26 (by decide)
           obtain ⟨_, e27, rfl⟩ := hk 27 (by decide)
           clear hk
           go_simp
           refine (ccompare_ref l s _ ((isCred_short hil).mono (by omega)) ((isCred_short hrt).mono (by omega))).mono ?_
           rintro e w2 ⟨rfl, hc⟩
           exact k _ _ hc rfl
          refine Obs.cons (some (20, false)) (by kernel_rfl) ?_ ?_
          ·refine Ob.yes (fun _ _ h => h) fun a w hR hk K k => ?_
           obtain ⟨_, e28, rfl⟩ := hk 28 (by decide)
           clear hk
           have hz : decide (cmpC l s < 0) = true := (cmpC_lt hil hrt).trans hll
           go_simp
           exact k _ _ (Chg.refl _ _) (by simp only []; rfl)
          refine Obs.cons (some (16, true)) (by kernel_rfl) ?_ ?_
          ·refine Ob.yes (fun _ _ h => h) fun a w hR hk K k => ?_
           obtain ⟨_, e20, rfl⟩ := hk 20 (by decide)
           obtain ⟨_, e29, rfl⟩ := hk 29 (by decide)
           clear hk
           go_simp
           exact k _ _ (Chg.refl _ _) rfl
          refine Obs.cons none (by kernel_rfl) ?_ ?_
          ·refine Ob.plain fun a w hR hk K k => ?_
           obtain ⟨_, e16, rfl⟩ := hk 16 (by decide)
           obtain ⟨_, e30, rfl⟩ := hk 30 (by decide)
           clear hk
           go_simp
           exact k _ _ (Chg.refl _ _) rfl
          refine Obs.cons none (by kernel_rfl) ?_ ?_
          ·refine Ob.plain fun a w hR hk K k => ?_
           obtain ⟨_, e31, f31⟩ := hk 31 (by decide)
           clear hk
           go_simp
           exact k _ _ (Chg.refl _ _) f31
          refine Obs.cons (some (32, true)) (by kernel_rfl) ?_ ?_
          ·refine Ob.yes (fun _ _ h => h) fun a w hR hk K k => ?_
           obtain ⟨_, e5, f5⟩ := hk 5 (by decide)
           clear hk
           go_simp
           exact k _ _ (Chg.refl _ _) f5
          refine Obs.cons (some (32, true)) (by kernel_rfl) ?_ ?_
          ·refine Ob.yes (fun _ _ h => h) fun a w hR hk K k => ?_
           obtain ⟨_, e33, rfl⟩ := hk 33 (by decide)
           clear hk
           go_simp
           exact k _ _ (Chg.refl _ _) rfl
          refine Obs.cons (some (32, true)) (by kernel_rfl) ?_ ?_
          ·refine Ob.yes (fun _ _ h => h) fun a w hR hk K k => ?_
           obtain ⟨_, e34, f34⟩ := hk 34 (by decide)
           clear hk
           go_simp
           exact k _ _ (Chg.refl _ _) f34
          refine Obs.cons (some (35, false)) (by kernel_rfl) ?_ ?_
          ·refine Ob.yes (fun _ _ h => h) fun a w hR hk K k => ?_
           obtain ⟨_, e7, rfl⟩ := hk 7 (by decide)
           clear hk
           have q0 := hR.cell s0 id
           have q1 := hR.cell s1 id
           have q2 := hR.cell s2 id
           have q3 := hR.cell s3 id
           have q4 := hR.cell s4 id
           have q5 := hR.cell s5 id
           have q6 := hR.cell s6 id
           have q7 := hR.cell s7 id
           have q8 := hR.cell s8 id
           go_simp
           exact k _ _ (Chg.refl _ _) rfl
          refine Obs.cons (some (35, false)) (by kernel_rfl) ?_ ?_
          ·refine Ob.yes (fun _ _ h => h) fun a w hR hk K k => ?_
           obtain ⟨_, e4, rfl⟩ := hk 4 (by decide)
           clear hk
           have q0 := hR.cell p0 id
           have q1 := hR.cell p1 id
           have q2 := hR.cell p2 id
           have q3 := hR.cell p3 id
           have q4 := hR.cell p4 id
           have q5 := hR.cell p5 id
           have q6 := hR.cell p6 id
           have q7 := hR.cell p7 id
           have q8 := hR.cell p8 id
           go_simp
           exact k _ _ (Chg.refl _ _) rfl
          refine Obs.cons (some (35, false)) (by kernel_rfl) ?_ ?_
          ·refine Ob.yes (fun _ _ h => h) fun a w hR hk K k => ?_
           obtain ⟨_, e36, rfl⟩ := hk 36 (by decide)
           obtain ⟨_, e37, rfl⟩ := hk 37 (by decide)
           clear hk
           go_simp
           refine (ccompare_ref s b _ ((isCred_short hrt).mono (by omega)) ((isCred_short hib).mono (by omega))).mono ?_
           rintro e w2 ⟨rfl, hc⟩
           exact k _ _ hc rfl
          refine Obs.cons (some (35, false)) (by kernel_rfl) ?_ ?_
          ·refine Ob.yes (fun _ _ h => h) fun a w hR hk K k => ?_
           obtain ⟨_, e38, rfl⟩ := hk 38 (by decide)
           clear hk
           have hz : decide (cmpC s b < 0) = true := (cmpC_lt hrt hib).trans hlb
           go_simp
           exact k _ _ (Chg.refl _ _) (by simp only []; rfl)
          refine Obs.cons (some (32, true)) (by kernel_rfl) ?_ ?_
          ·refine Ob.yes (fun _ _ h => h) fun a w hR hk K k => ?_
           obtain ⟨_, e35, rfl⟩ := hk 35 (by decide)
           obtain ⟨_, e39, rfl⟩ := hk 39 (by decide)
           clear hk
           go_simp
           exact k _ _ (Chg.refl _ _) rfl
          refine Obs.cons none (by kernel_rfl) ?_ ?_
          ·refine Ob.plain fun a w hR hk K k => ?_
           obtain ⟨_, e32, rfl⟩ := hk 32 (by decide)
           obtain ⟨_, e40, rfl⟩ := hk 40 (by decide)
           clear hk
           go_simp
           exact k _ _ (Chg.refl _ _) rfl
          exact Obs.nil
         case fin =>
          intro vals w9 hc9 hv
          have h41 : vals 41 = .bool true := hv 41 (by decide)
          simp only [putAll, List.setIfInBounds_toArray, List.set_cons_zero, List.set_cons_succ, h41]
          clear hv h41
          have hn2 : Hid (BestG ltC isCred out (ls.take (k + 1)) (some s)) := hid (by rw [htk.out]; exact hb.out.take ltC_ord (HCL.out.trans hll) (fun c h => by cases h; exact hlb))
          have hB9 := blk_keep hBb2 hc9 id
          have hS9 := blk_keep hS hc9 id
          obtain ⟨q0, q1, q2, q3, q4, q5, q6, q7, q8⟩ := cred_at_blk hB9
          obtain ⟨t0, t1, t2, t3, t4, t5, t6, t7, t8⟩ := cred_at_blk hS9
          simp only [Nat.zero_add, Option.getD_some, noCred, noneR] at q0 q1 q2 q3 q4 q5 q6 q7 q8 t0 t1 t2 t3 t4 t5 t6 t7 t8
          have f0 := froz_blk hB9 0
          have f1 := froz_blk hB9 1
          have f2 := froz_blk hB9 2
          have f3 := froz_blk hB9 3
          have f4 := froz_blk hB9 4
          have f5 := froz_blk hB9 5
          have f6 := froz_blk hB9 6
          have f7 := froz_blk hB9 7
          have f8 := froz_blk hB9 8
          have hD := setCred_blk s hB9
          have hgs := setCred_chg w9 Bb s
          have ho9 := (hoq2.keep hc9 (fun _ _ => id)).keep hgs (fun k hk e => by have := hrB k hk; omega)
          have hc10 : Chg (fun _ => False) w (setCred w9 Bb s) := (hcq2.trans hc9 (fun _ _ h => h)).trans hgs (fun i hi e => by omega)
          have HX := hid (And.intro hD (And.intro ho9 hc10))
          clear s0 s1 s2 s3 s4 s5 s6 s7 s8 hS hBb2 hoq2 hcq2 hc9 htk hb hB9 hS9 hD hgs ho9 hc10
          go_wp2
          go_roundw
          case rel => exact ⟨k + 1, some s, by go_num, by omega, rfl, hn2, HX.out.1, HX.out.2.1, HX.out.2.2⟩
          case measure => simp [intOf]; omega
        | false =>
         refine wp_region_specs (csetSpecsF0 none out.length cap3 Bb Sb g 0 true s l b) [14, 15, 16, 17, 18, 19, 20, 21, 22, 23, 24, 25, 26, 27, 28, 29, 30, 31, 32, 33, 34, 35, 36, 37, 38, 39, 40, 41] [3, 4, 5, 7] (by kernel_rfl) (by kernel_rfl) (by rfl) (by kernel_rfl) ?start ?obs ?fin
         case start =>
          simp only [List.forall_mem_cons]
          exact ⟨⟨_, rfl, rfl⟩, ⟨_, rfl, rfl⟩, ⟨_, rfl, rfl⟩, ⟨_, rfl, rfl⟩, fun _ h => by cases h⟩
         case obs =>
          refine Obs.cons none (by kernel_rfl) ?_ ?_
          ·refine Ob.plain fun a w hR hk K k => ?_
           obtain ⟨_, e7, rfl⟩ := hk 7 (by decide)
           clear hk
           have q0 := hR.cell s0 id
           have q1 := hR.cell s1 id
           have q2 := hR.cell s2 id
           have q3 := hR.cell s3 id
           have q4 := hR.cell s4 id
           have q5 := hR.cell s5 id
           have q6 := hR.cell s6 id
           have q7 := hR.cell s7 id
           have q8 := hR.cell s8 id
           go_simp
           exact k _ _ (Chg.refl _ _) rfl
          refine Obs.cons none (by kernel_rfl) ?_ ?_
          ·refine Ob.plain fun a w hR hk K k => ?_
           obtain ⟨_, e14, rfl⟩ := hk 14 (by decide)
           clear hk
           go_simp
           refine (cright_ref s _ hss).mono ?_
           rintro e w2 ⟨rfl, hc⟩
           exact k _ _ hc (congrArg Value.bool hrt)
          refine Obs.cons none (by kernel_rfl) ?_ ?_
          ·refine Ob.plain fun a w hR hk K k => ?_
           obtain ⟨_, e15, f15⟩ := hk 15 (by decide)
           clear hk
           go_simp
           exact k _ _ (Chg.refl _ _) f15
          refine Obs.cons (some (16, true)) (by kernel_rfl) ?_ ?_
          ·refine Ob.yes (fun _ _ h => h) fun a w hR hk K k => ?_
           obtain ⟨_, e3, f3⟩ := hk 3 (by decide)
           clear hk
           go_simp
           exact k _ _ (Chg.refl _ _) f3
          refine Obs.cons (some (16, true)) (by kernel_rfl) ?_ ?_
          ·refine Ob.yes (fun _ _ h => h) fun a w hR hk K k => ?_
           obtain ⟨_, e17, rfl⟩ := hk 17 (by decide)
           clear hk
           go_simp
           exact k _ _ (Chg.refl _ _) rfl
          refine Obs.cons (some (16, true)) (by kernel_rfl) ?_ ?_
          ·refine Ob.yes (fun _ _ h => h) fun a w hR hk K k => ?_
           obtain ⟨_, e18, rfl⟩ := hk 18 (by decide)
           clear hk
           go_simp
           exact k _ _ (Chg.refl _ _) rfl
          refine Obs.cons (some (16, true)) (by kernel_rfl) ?_ ?_
          ·refine Ob.yes (fun _ _ h => h) fun a w hR hk K k => ?_
           obtain ⟨_, e19, f19⟩ := hk 19 (by decide)
           clear hk
           go_simp
           exact k _ _ (Chg.refl _ _) f19
          refine Obs.cons (some (20, false)) (by kernel_rfl) ?_ ?_
          ·refine Ob.yes (fun _ _ h => h) fun a w hR hk K k => ?_
           obtain ⟨_, e3, f3⟩ := hk 3 (by decide)
           clear hk
           go_simp
           exact k _ _ (Chg.refl _ _) f3
          refine Obs.cons (some (20, false)) (by kernel_rfl) ?_ ?_
          ·refine Ob.yes (fun _ _ h => h) fun a w hR hk K k => ?_
           obtain ⟨_, e3, f3⟩ := hk 3 (by decide)
           clear hk
           go_simp
           exact k _ _ (Chg.refl _ _) f3
          refine Obs.cons (some (20, false)) (by kernel_rfl) ?_ ?_
          ·refine Ob.yes (fun _ _ h => h) fun a w hR hk K k => ?_
           obtain ⟨_, e22, rfl⟩ := hk 22 (by decide)
           clear hk
           go_simp
           exact k _ _ (Chg.refl _ _) rfl
          refine Obs.cons (some (20, false)) (by kernel_rfl) ?_ ?_
          ·refine Ob.yes (fun _ _ h => h) fun a w hR hk K k => ?_
           obtain ⟨_, e23, rfl⟩ := hk 23 (by decide)
           clear hk
           go_simp
           exact k _ _ (Chg.refl _ _) rfl
          refine Obs.cons (some (20, false)) (by kernel_rfl) ?_ ?_
          ·refine Ob.yes (fun _ _ h => h) fun a w hR hk K k => ?_
           obtain ⟨_, e21, rfl⟩ := hk 21 (by decide)
           obtain ⟨_, e24, rfl⟩ := hk 24 (by decide)
           clear hk
           obtain ⟨c0, c1, c2, c3, c4, c5, c6, c7, c8⟩ := hlr.keep hR id
           go_simp
           exact k _ _ (Chg.refl _ _) ⟨_, _, rfl, hlr.keep hR id⟩
          refine Obs.cons (some (20, false)) (by kernel_rfl) ?_ ?_
          ·refine Ob.yes (fun _ _ h => h) fun a w hR hk K k => ?_
           obtain ⟨_, e25, f25⟩ := hk 25 (by decide)
           clear hk
           obtain ⟨b, off, rfl, c0, c1, c2, c3, c4, c5, c6, c7, c8⟩ := f25
           go_simp
           exact k _ _ (Chg.refl _ _) rfl
          refine Obs.cons (some (20, false)) (by kernel_rfl) ?_ ?_
          ·refine Ob.yes (fun _ _ h => h) fun a w hR hk K k => ?_
           obtain ⟨_, e7, rfl⟩ := hk 7 (by decide)
           clear hk
           have q0 := hR.cell s0 id
           have q1 := hR.cell s1 id
           have q2 := hR.cell s2 id
           have q3 := hR.cell s3 id
           have q4 := hR.cell s4 id
           have q5 := hR.cell s5 id
           have q6 := hR.cell s6 id
           have q7 := hR.cell s7 id
           have q8 := hR.cell s8 id
           go_simp
           exact k _ _ (Chg.refl _ _) rfl
          refine Obs.cons (some (20, false)) (by kernel_rfl) ?_ ?_
          ·refine Ob.yes (fun _ _ h => h) fun a w hR hk K k => ?_
           obtain ⟨_, e26, rfl⟩ := hk 26 (by decide)
           obtain ⟨_, e27, rfl⟩ := hk 27 (by decide)
           clear hk
           go_simp
           refine (ccompare_ref l s _ ((isCred_short hil).mono (by omega)) ((isCred_short hrt).mono (by omega))).mono ?_
           rintro e w2 ⟨rfl, hc⟩
           exact k _ _ hc rfl
          refine Obs.cons (some (20, false)) (by kernel_rfl) ?_ ?_
          ·refine Ob.yes (fun _ _ h => h) fun a w hR hk K k => ?_
           obtain ⟨_, e28, rfl⟩ := hk 28 (by decide)
           clear hk
           have hz : decide (cmpC l s < 0) = true := (cmpC_lt hil hrt).trans hll
           go_simp
           exact k _ _ (Chg.refl _ _) (by simp only []; rfl)
          refine Obs.cons (some (16, true)) (by kernel_rfl) ?_ ?_
          ·refine Ob.yes (fun _ _ h => h) fun a w hR hk K k => ?_
           obtain ⟨_, e20, rfl⟩ := hk 20 (by decide)
           obtain ⟨_, e29, rfl⟩ := hk 29 (by decide)
           clear hk
           go_simp
           exact k _ _ (Chg.refl _ _) rfl
          refine Obs.cons none (by kernel_rfl) ?_ ?_
          ·refine Ob.plain fun a w hR hk K k => ?_
           obtain ⟨_, e16, rfl⟩ := hk 16 (by decide)
           obtain ⟨_, e30, rfl⟩ := hk 30 (by decide)
           clear hk
           go_simp
           exact k _ _ (Chg.refl _ _) rfl
          refine Obs.cons none (by kernel_rfl) ?_ ?_
          ·refine Ob.plain fun a w hR hk K k => ?_
           obtain ⟨_, e31, f31⟩ := hk 31 (by decide)
           clear hk
           go_simp
           exact k _ _ (Chg.refl _ _) f31
          refine Obs.cons (some (32, true)) (by kernel_rfl) ?_ ?_
          ·refine Ob.yes (fun _ _ h => h) fun a w hR hk K k => ?_
           obtain ⟨_, e5, f5⟩ := hk 5 (by decide)
           clear hk
           go_simp
           exact k _ _ (Chg.refl _ _) f5
          refine Obs.cons (some (32, true)) (by kernel_rfl) ?_ ?_
          ·refine Ob.yes (fun _ _ h => h) fun a w hR hk K k => ?_
           obtain ⟨_, e33, rfl⟩ := hk 33 (by decide)
           clear hk
           go_simp
           exact k _ _ (Chg.refl _ _) rfl
          refine Obs.cons (some (32, true)) (by kernel_rfl) ?_ ?_
          ·refine Ob.yes (fun _ _ h => h) fun a w hR hk K k => ?_
           obtain ⟨_, e34, f34⟩ := hk 34 (by decide)
           clear hk
           go_simp
           exact k _ _ (Chg.refl _ _) f34
          refine Obs.cons (some (35, false)) (by kernel_rfl) ?_ ?_
          ·refine Ob.yes (fun _ _ h => h) fun a w hR hk K k => ?_
           obtain ⟨_, e7, rfl⟩ := hk 7 (by decide)
           clear hk
           have q0 := hR.cell s0 id
           have q1 := hR.cell s1 id
           have q2 := hR.cell s2 id
           have q3 := hR.cell s3 id
           have q4 := hR.cell s4 id
           have q5 := hR.cell s5 id
           have q6 := hR.cell s6 id
           have q7 := hR.cell s7 id
           have q8 := hR.cell s8 id
           go_simp
           exact k _ _ (Chg.refl _ _) rfl
          refine Obs.cons (some (35, false)) (by kernel_rfl) ?_ ?_
          ·refine Ob.yes (fun _ _ h => h) fun a w hR hk K k => ?_
           obtain ⟨_, e4, rfl⟩ := hk 4 (by decide)
           clear hk
           have q0 := hR.cell p0 id
           have q1 := hR.cell p1 id
           have q2 := hR.cell p2 id
           have q3 := hR.cell p3 id
           have q4 := hR.cell p4 id
           have q5 := hR.cell p5 id
           have q6 := hR.cell p6 id
           have q7 := hR.cell p7 id
           have q8 := hR.cell p8 id
           go_simp
           exact k _ _ (Chg.refl _ _) rfl
          refine Obs.cons (some (35, false)) (by kernel_rfl) ?_ ?_
          ·refine Ob.yes (fun _ _ h => h) fun a w hR hk K k => ?_
           obtain ⟨_, e36, rfl⟩ := hk 36 (by decide)
           obtain ⟨_, e37, rfl⟩ := hk 37 (by decide)
           clear hk
           go_simp
           refine (ccompare_ref s b _ ((isCred_short hrt).mono (by omega)) ((isCred_short hib).mono (by omega))).mono ?_
           rintro e w2 ⟨rfl, hc⟩
           exact k _ _ hc rfl
          refine Obs.cons (some (35, false)) (by kernel_rfl) ?_ ?_
          ·refine Ob.yes (fun _ _ h => h) fun a w hR hk K k => ?_
           obtain ⟨_, e38, rfl⟩ := hk 38 (by decide)
           clear hk
           have hz : decide (cmpC s b < 0) = false := (cmpC_lt hrt hib).trans hlb
           go_simp
           exact k _ _ (Chg.refl _ _) (by simp only []; rfl)
          refine Obs.cons (some (32, true)) (by kernel_rfl) ?_ ?_
          ·refine Ob.yes (fun _ _ h => h) fun a w hR hk K k => ?_
           obtain ⟨_, e35, rfl⟩ := hk 35 (by decide)
           obtain ⟨_, e39, rfl⟩ := hk 39 (by decide)
           clear hk
           go_simp
           exact k _ _ (Chg.refl _ _) rfl
          refine Obs.cons none (by kernel_rfl) ?_ ?_
          ·refine Ob.plain fun a w hR hk K k => ?_
           obtain ⟨_, e32, rfl⟩ := hk 32 (by decide)
           obtain ⟨_, e40, rfl⟩ := hk 40 (by decide)
           clear hk
           go_simp
           exact k _ _ (Chg.refl _ _) rfl
          exact Obs.nil
         case fin =>
          intro vals w9 hc9 hv
          have h41 : vals 41 = .bool false := hv 41 (by decide)
          simp only [putAll, List.setIfInBounds_toArray, List.set_cons_zero, List.set_cons_succ, h41]
          clear hv h41
          have hn2 : Hid (BestG ltC isCred out (ls.take (k + 1)) (some b)) := hid (by rw [htk.out]; exact hb.out.keep hlb)
          have HX := hid (And.intro (blk_keep hBb2 hc9 id) (And.intro (hoq2.keep hc9 (fun _ _ => id)) (hcq2.trans hc9 (fun _ _ h => h))))
          clear s0 s1 s2 s3 s4 s5 s6 s7 s8 hS hBb2 hoq2 hcq2 hc9 htk hb
          go_wp2
          go_roundw
          case rel => exact ⟨k + 1, some b, by go_num, by omega, rfl, hn2, HX.out.1, HX.out.2.1, HX.out.2.2⟩
          case measure => simp [intOf]; omega
   ·have hk2 : k = ls.length := by omega
    have hb2 : Hid (BestG ltC isCred out ls bo) := hid (by have := hb.out; rwa [List.take_of_length_le (by omega)] at this)
    clear hb
    cases bo with
    | none =>
     have hso : SetC ls out := hp.done hb2.out
     obtain ⟨ao4, cap4, hv4, hst4, hz4⟩ := hoq.creds hbd
     cases hv4
     clear hBb
     go_wp2
     go_ret
     exact ⟨out, _, _, rfl, hso, hst4, hcq, hz4⟩
    | some b =>
     have hps := hp.step ltC_ord hb2.out
     have hpl := SetC_len hps
     rw [List.length_append, List.length_singleton] at hpl
     obtain ⟨p0, p1, p2, p3, p4, p5, p6, p7, p8⟩ := cred_at_blk hBb
     simp only [Nat.zero_add, Option.getD_some] at p0 p1 p2 p3 p4 p5 p6 p7 p8
     have hsq := hcq.size
     clear hb2 hBb
     have hrowx : Value.agg #[.int .i64 b.kind, .string ⟨b.head.1.toArray⟩, .string ⟨b.head.2.toArray⟩, .string ⟨b.who.toArray⟩, .string ⟨b.b.1.toArray⟩, .string ⟨b.b.2.toArray⟩, .string ⟨b.c.1.toArray⟩, .string ⟨b.c.2.toArray⟩, .string ⟨b.w2.toArray⟩] = credV b := rfl
     clear hrowx
     go_wp2_with (at_builtin; refine wpList_append_own_at _ rfl (.tmp 47) (.tmp 49) 22 rfl w.heap.size 36 i0 (.agg #[.int .i64 0, .string ⟨#[]⟩, .string ⟨#[]⟩, .string ⟨#[]⟩, .string ⟨#[]⟩, .string ⟨#[]⟩, .string ⟨#[]⟩, .string ⟨#[]⟩, .string ⟨#[]⟩]) 9 136 Try.underlying22 hi hz0 hz1 hz2 rfl (by decide) _ _ _ rfl (World.ownsRow.alloc hoq _) ⟨wr.heap.size, 0, none⟩ 1 1 (credCells b) rfl rfl ?c1 ?c2 ?c3 ?c4 ?c5 ?_)
     case c1 => exact fun j u hj => cred_cells_new wr b j u hj
     case c2 => intro u hu; simp only [credCells, List.mem_cons, List.not_mem_nil, or_false] at hu; rcases hu with rfl | rfl | rfl | rfl | rfl | rfl | rfl | rfl | rfl <;> rfl
     case c3 => unfold maxLen; omega
     case c4 => omega
     case c5 => simp; omega
     intro v' w2 hown hgrow _ hat
     have hl : (out ++ [b]).length = out.length + 1 := by simp
     have ho2 : OwnC w.heap.size w2 v' (out ++ [b]) := by
      unfold OwnC
      rw [hl, credRow_snoc]
      exact hown
     have hrow : ∀ k, Value.ownBlock (.slice ao3 out.length cap3) = some k → w.heap.size ≤ k := fun k hk => (ownsRow_lt hoq k hk).1
     have hc2 : Chg (fun _ => False) w w2 := (hcq.alloc _).grown hgrow (fun k e hk => by have := hrow k e; omega)
     obtain ⟨ao5, cap5, hv5⟩ := ho2.shape
     subst hv5
     clear hown hgrow hat hrow hoq hcq
     rw [hl]
     go_wp2
     go_roundw
     case rel => exact ⟨out ++ [b], ao5, cap5, by rw [hl], hps, ho2, hc2⟩
     case measure => simp [lenOfV]; omega
end Go.Proofs.Ytjaplnainlbldaa
