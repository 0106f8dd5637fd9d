/- Texts that the proof leans on, in one: Conv, RefRight, RoleRef, RoleOwn, FmCells. -/
import Derived.Test.YtjaplnainlbldaaRows
import Derived.Test.YtjaplnainlbldaaFr1
import Derived.Lib.SlBytesConst
import Derived.Deep.QuietTactic
import Derived.BigQuiet
import Derived.Maps.AppendAt
/- Conversions between strings and bytes; blocks of bytes. -/
namespace Go.Proofs.Ytjaplnainlbldaa
open Go.RowKit

theorem Try.info5 : (Try.prog.info? 5).map (fun i => (i.zero, i.size, i.bytes)) = some (some (.int .u8 0), 1, 1) := by kernel_rfl

theorem conv_bytes {D : Nat → Prop} {v : Value} {l : List UInt8} {w : World} (h : BytesAt D w v l) : (convert 65 9 v).run Try.prog w = .ok (.string ⟨l.toArray⟩) w := by
  rcases h with ⟨ao, cp, rfl, rfl, h0⟩ | ⟨b, off, cap, rfl, h1, h2, h3, h4⟩
  · cases ao with
    | none => exact run_convert_bytes_nil w 65 5 Try.underlying65 Try.underlying5 0 cp 9 Try.underlying9
    | some x => exact run_convert_bytes_back w 65 9 5 x cp [] Try.underlying65 Try.underlying5 Try.underlying9 (fun j hj => by simp at hj)
  · refine run_convert_bytes_back w 65 9 5 ⟨b, off, none⟩ cap l Try.underlying65 Try.underlying5 Try.underlying9 (fun j hj => ?_)
    rw [add_off]
    exact h4 j hj

theorem bytesRow_list (acc : List UInt8) (cap : Nat) (i : Nat) (h : i < acc.length) : (bytesRow ⟨acc.toArray⟩ cap)[i]? = some (.int .u8 (acc[i].toNat : Int)) := by
  have := bytesRow_at ⟨acc.toArray⟩ cap i (by simpa using h)
  simpa using this

/-- '[]byte(s)'. -/
theorem bytes_of (acc : List UInt8) (w : World) (c : Nat) (hc : acc.length ≤ c) (hm : c ≤ maxLen) (f : Nat × Nat) :
    BytesAt (fun k => k = w.heap.size) (w.alloc (.cells (bytesRow ⟨acc.toArray⟩ c) 5 f)) (.slice (some ⟨w.heap.size, 0, none⟩) acc.length c) acc := by
  refine .inr ⟨_, 0, c, rfl, hc, hm, rfl, fun i hi => ?_⟩
  rw [cell_blk (heap_alloc_new w _), Nat.zero_add]
  exact bytesRow_list acc c i hi

theorem conv_str (acc : List UInt8) (w : World) : (convert 9 65 (.string ⟨acc.toArray⟩)).run Try.prog w = .ok (.slice (some ⟨w.heap.size, 0, none⟩) acc.length (grownCap w acc.length 0 5))
      (w.drew.alloc (.cells (bytesRow ⟨acc.toArray⟩ (grownCap w acc.length 0 5)) 5 ((bytesRow ⟨acc.toArray⟩ (grownCap w acc.length 0 5)).size, (bytesRow ⟨acc.toArray⟩ (grownCap w acc.length 0 5)).size + 1))) := by
  have := run_bytes_of_string (P := Try.prog) w 9 65 5 ⟨acc.toArray⟩ Try.underlying9 Try.underlying65 Try.underlying5
  exact this

end Go.Proofs.Ytjaplnainlbldaa

/- The contracts of the document's Right. -/
namespace Go.Proofs.Ytjaplnainlbldaa
open Go.RowKit
end Go.Proofs.Ytjaplnainlbldaa

/- The contracts of the document's Right of layer 4. -/
namespace Go.Proofs.Ytjaplnainlbldaa
open Go.RowKit

end Go.Proofs.Ytjaplnainlbldaa

/- Lists of roles of the call's own. -/
namespace Go.Proofs.Ytjaplnainlbldaa
open Go.RowKit

theorem Try.info24 : (Try.prog.info? 24).map (fun i => (i.zero, i.size, i.bytes)) = some (some (.agg #[.string ⟨#[]⟩, .string ⟨#[]⟩]), 2, 32) := by kernel_rfl

theorem ownsRow_keep {S : Nat → Prop} {B E n s : Nat} {w w' : World} {v : Value} {xs : List Value} (h : w.ownsRow B E s v n xs) (hc : Chg S w w') (hr : ∀ k, v.ownBlock = some k → ¬ S k) : w'.ownsRow B E s v n xs := by
  refine ⟨h.1, ?_⟩
  rcases h.2 with hn | ⟨g, cap, cur, hv, hg, hh, r⟩
  · exact .inl hn
  · exact .inr ⟨g, cap, cur, hv, hg, blk_keep hh hc (hr g (by rw [hv]; rfl)), r⟩

theorem ownsRow_lt {B E n s : Nat} {w : World} {v : Value} {xs : List Value} (h : w.ownsRow B E s v n xs) (k : Nat) (hk : v.ownBlock = some k) : B ≤ k ∧ k < w.heap.size := by
  rcases h.2 with ⟨hn, _⟩ | ⟨g, cap, cur, hv, hg, hh, r⟩
  · rw [hn] at hk; cases hk
  · rw [hv] at hk; cases hk; exact ⟨hg, lt_blk hh⟩

def roleRow (ls : List RoleB) : List Value := ls.flatMap roleCells

theorem roleRow_length (ls : List RoleB) : (roleRow ls).length = ls.length * 2 := by
  induction ls with
  | nil => rfl
  | cons x l ih => simp only [roleRow, List.flatMap_cons, List.length_append, List.length_cons] at ih ⊢; rw [ih]; simp [roleCells]; omega

theorem roleRow_get : ∀ (ls : List RoleB) (i : Nat) (h : i < ls.length), (roleRow ls)[i * 2]? = some (.string ⟨ls[i].1.toArray⟩) ∧ (roleRow ls)[i * 2 + 1]? = some (.string ⟨ls[i].2.toArray⟩)
  | x :: l, 0, _ => ⟨rfl, rfl⟩
  | x :: l, i + 1, h => by
    have := roleRow_get l i (by simpa using h)
    have e : roleRow (x :: l) = .string ⟨x.1.toArray⟩ :: .string ⟨x.2.toArray⟩ :: roleRow l := rfl
    rw [e, show (i + 1) * 2 = i * 2 + 1 + 1 by omega]
    exact this

theorem roleRow_snoc (ls : List RoleB) (x : RoleB) : roleRow (ls ++ [x]) = roleRow ls ++ roleCells x := by
  simp [roleRow]

/-- A list of roles of the call's own. -/
def OwnR (B : Nat) (w : World) (v : Value) (ls : List RoleB) : Prop := w.ownsRow B 24 2 v ls.length (roleRow ls)

theorem OwnR.roles {B : Nat} {w : World} {v : Value} {ls : List RoleB} (h : OwnR B w v ls) (hb : ∀ x ∈ ls, x.1.length ≤ 9223372036854775807 ∧ x.2.length ≤ 9223372036854775807) :
    ∃ ao cap, v = .slice ao ls.length cap ∧ RolesAt (fun k => B ≤ k ∧ k < w.heap.size) w ao ls ∧ (ao = none → cap = 0) := by
  rcases h.2 with ⟨rfl, h0⟩ | ⟨g, cap, cur, rfl, hg, hh, h1, h2, h3, h4⟩
  · have : ls = [] := List.eq_nil_of_length_eq_zero h0
    subst this
    exact ⟨none, 0, rfl, RolesAt.nil _ _ _, fun _ => rfl⟩
  · refine ⟨_, _, rfl, fun i hi => ⟨g, 0, rfl, ⟨hg, lt_blk hh⟩, ?_, ?_, hb _ (List.getElem_mem hi)⟩, fun e => by cases e⟩
    · have := h.cells (g := g) rfl (i * 2) _ (roleRow_get ls i hi).1
      rw [add_off] at this
      exact this
    · have := h.cells (g := g) rfl (i * 2 + 1) _ (roleRow_get ls i hi).2
      rw [add_off] at this
      exact this

theorem OwnR.shape {B : Nat} {w : World} {v : Value} {ls : List RoleB} (h : OwnR B w v ls) : ∃ ao cap, v = .slice ao ls.length cap := by
  rcases h.2 with ⟨rfl, h0⟩ | ⟨g, cap, cur, rfl, _⟩
  · exact ⟨none, 0, by rw [h0]⟩
  · exact ⟨_, _, rfl⟩

theorem OwnR.keep {S : Nat → Prop} {B : Nat} {w w' : World} {v : Value} {ls : List RoleB} (h : OwnR B w v ls) (hc : Chg S w w') (hr : ∀ k, v.ownBlock = some k → ¬ S k) : OwnR B w' v ls := ownsRow_keep h hc hr

theorem role_cells_new (w : World) (x : RoleB) (j : Nat) (u : Value) (h : (roleCells x)[j]? = some u) : (w.alloc (.cells #[.string ⟨x.1.toArray⟩, .string ⟨x.2.toArray⟩] 24)).cell? ((⟨w.heap.size, 0, none⟩ : Addr).add j) = some u := by
  rw [add_off, cell_blk (heap_alloc_new w _), Nat.zero_add]
  match j, h with
  | 0, h => exact h
  | 1, h => exact h

/-- What Set leaves: the set, in new memory. -/
def SetPostR (ls : List RoleB) (w : World) (e : Ending) (w' : World) : Prop :=
  ∃ out ao cap, e = .returned (.slice ao out.length cap) ∧ SetR ls out ∧ RolesAt (fun k => w.heap.size ≤ k ∧ k < w'.heap.size) w' ao out ∧ Chg (fun _ => False) w w' ∧ (ao = none → cap = 0)

def lenOfV : Value → Nat
  | .slice _ n _ => n
  | _ => 0

end Go.Proofs.Ytjaplnainlbldaa

/- Formulas as they lie in memory: those that came in, and those of the call's own. -/
namespace Go.Proofs.Ytjaplnainlbldaa
open Go.RowKit

/-- The formula f, at most n deep, lies at the five cells from o on. -/
def FmAt (D : Nat → Prop) (w : World) : Nat → Nat → Nat → FmB → Prop
  | 0, _, _, _ => False
  | n + 1, b, o, f => w.cell? ⟨b, o, none⟩ = some (.int .i64 f.op) ∧ w.cell? ⟨b, o + 1, none⟩ = some (.int .i64 f.k) ∧ w.cell? ⟨b, o + 2, none⟩ = some (.string ⟨f.r.1.toArray⟩) ∧ w.cell? ⟨b, o + 3, none⟩ = some (.string ⟨f.r.2.toArray⟩) ∧
    (f.r.1.length ≤ 9223372036854775807 ∧ f.r.2.length ≤ 9223372036854775807) ∧
    ∃ ao cp, w.cell? ⟨b, o + 4, none⟩ = some (.slice ao f.kids.length cp) ∧ (ao = none → cp = 0) ∧ ∀ i (h : i < f.kids.length), ∃ b' off, ao = some ⟨b', off, none⟩ ∧ D b' ∧ FmAt D w n b' (off + i * 5) f.kids[i]

/-- The formulas ls, each at most n deep, can be read from the address ao on. -/
def FmsAt (D : Nat → Prop) (w : World) (n : Nat) (ao : Option Addr) (ls : List FmB) : Prop :=
  ∀ i (h : i < ls.length), ∃ b off, ao = some ⟨b, off, none⟩ ∧ D b ∧ FmAt D w n b (off + i * 5) ls[i]

/-- What else is asked of a formula that is handed over. -/
def FmOk (f : FmB) : Prop := f.r.1.length ≤ 9223372036854775807 ∧ f.r.2.length ≤ 9223372036854775807

theorem FmAt.keep {S D : Nat → Prop} {w w' : World} (hc : Chg S w w') (hD : ∀ i, D i → ¬ S i) : ∀ {n b o : Nat} {f : FmB}, FmAt D w n b o f → ¬ S b → FmAt D w' n b o f
  | 0, _, _, _, h, _ => h
  | n + 1, b, o, f, ⟨h0, h1, h2, h3, h4, ao, cp, h5, h6, h7⟩, hb =>
    ⟨hc.cell h0 hb, hc.cell h1 hb, hc.cell h2 hb, hc.cell h3 hb, h4, ao, cp, hc.cell h5 hb, h6, fun i hi => by
      obtain ⟨b', off, k1, k2, k3⟩ := h7 i hi
      exact ⟨b', off, k1, k2, FmAt.keep hc hD k3 (hD _ k2)⟩⟩

theorem FmsAt.keep {S D : Nat → Prop} {w w' : World} {n : Nat} {ao : Option Addr} {ls : List FmB} (h : FmsAt D w n ao ls) (hc : Chg S w w') (hD : ∀ i, D i → ¬ S i) : FmsAt D w' n ao ls := fun i hi => by
  obtain ⟨b', off, k1, k2, k3⟩ := h i hi
  exact ⟨b', off, k1, k2, FmAt.keep hc hD k3 (hD _ k2)⟩

theorem FmAt.mono {D E : Nat → Prop} {w : World} (hD : ∀ i, D i → E i) : ∀ {n b o : Nat} {f : FmB}, FmAt D w n b o f → FmAt E w n b o f
  | 0, _, _, _, h => h
  | n + 1, b, o, f, ⟨h0, h1, h2, h3, h4, ao, cp, h5, h6, h7⟩ =>
    ⟨h0, h1, h2, h3, h4, ao, cp, h5, h6, fun i hi => by
      obtain ⟨b', off, k1, k2, k3⟩ := h7 i hi
      exact ⟨b', off, k1, hD _ k2, FmAt.mono hD k3⟩⟩
theorem FmsAt.mono {D E : Nat → Prop} {w : World} {n : Nat} {ao : Option Addr} {ls : List FmB} (h : FmsAt D w n ao ls) (hD : ∀ i, D i → E i) : FmsAt E w n ao ls := fun i hi => by
  obtain ⟨b', off, k1, k2, k3⟩ := h i hi
  exact ⟨b', off, k1, hD _ k2, FmAt.mono hD k3⟩

def fmBox (f : FmB) (ao : Option Addr) (cp : Nat) : Array Value := #[.int .i64 f.op, .int .i64 f.k, .string ⟨f.r.1.toArray⟩, .string ⟨f.r.2.toArray⟩, .slice ao f.kids.length cp]

theorem fm_at_blk {D : Nat → Prop} {w : World} {g n : Nat} {f : FmB} {ao : Option Addr} {cp : Nat} {ty : TypeId} {z : Nat × Nat} (h : w.heap[g]? = some (.cells (fmBox f ao cp) ty z)) (hok : FmOk f) (hz : ao = none → cp = 0) (hk : FmsAt D w n ao f.kids) : FmAt D w (n + 1) g 0 f :=
  ⟨cell_blk h 0, cell_blk h 1, cell_blk h 2, cell_blk h 3, hok, ao, cp, cell_blk h 4, hz, hk⟩

theorem Try.info58 : (Try.prog.info? 58).map (fun i => (i.zero, i.size, i.bytes)) = some (some (.agg #[.int .i64 0, .int .i64 0, .string ⟨#[]⟩, .string ⟨#[]⟩, .slice none 0 0]), 5, 72) := by kernel_rfl

theorem FmAt.open_ {D : Nat → Prop} {w : World} {n b o : Nat} {f : FmB} (h : FmAt D w n b o f) : ∃ m ao cp, m < n ∧ (w.cell? ⟨b, o, none⟩ = some (.int .i64 f.op) ∧ w.cell? ⟨b, o + 1, none⟩ = some (.int .i64 f.k) ∧ w.cell? ⟨b, o + 2, none⟩ = some (.string ⟨f.r.1.toArray⟩) ∧ w.cell? ⟨b, o + 3, none⟩ = some (.string ⟨f.r.2.toArray⟩) ∧ w.cell? ⟨b, o + 4, none⟩ = some (.slice ao f.kids.length cp)) ∧ FmOk f ∧ (ao = none → cp = 0) ∧ FmsAt D w m ao f.kids := by
  cases n with
  | zero => exact h.elim
  | succ m =>
    obtain ⟨h0, h1, h2, h3, h4, ao, cp, h5, h6, h7⟩ := h
    exact ⟨m, ao, cp, Nat.lt_succ_self m, ⟨h0, h1, h2, h3, h5⟩, h4, h6, h7⟩
end Go.Proofs.Ytjaplnainlbldaa
