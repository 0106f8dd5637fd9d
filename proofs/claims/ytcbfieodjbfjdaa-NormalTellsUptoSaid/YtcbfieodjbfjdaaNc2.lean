/- Texts that the proof leans on, in one: RefRight, RoleRef, RoleOwn, FmCells. -/
import Derived.Test.YtcbfieodjbfjdaaNc1
import Derived.Deep.QuietTactic
import Derived.BigQuiet
import Derived.Maps.AppendAt
/- The contracts of the document's Right. -/
namespace Go.Proofs.Ytcbfieodjbfjdaa
open Go.RowKit
theorem refright_any (l : List UInt8) (w : World) (hs : l.length ≤ 9223372036854775807) :
    Calls Try.prog 101 #[.string ⟨l.toArray⟩] w fun e w' => e = .returned (.bool (isName l)) ∧ w = w' := by
  by_cases h0 : l.length = 0
  · have he : l = [] := List.eq_nil_of_length_eq_zero h0
    subst he
    go_enter Try.func101, Try.ntmps101
    go_wp2
    go_ret
    exact ⟨rfl, rfl⟩
  · have hpos : 0 < l.length := by omega
    have hem : l.isEmpty = false := by cases l with | nil => simp at h0 | cons _ _ => rfl
    have gx := ba_get l
    by_cases h16 : 16 < l.length
    · have hx : Hid (isName l = false) := isName_long h16
      have d1 : decide (16 < (l.length : Int)) = true := by simp; omega
      go_enter Try.func101, Try.ntmps101
      go_wp2
      go_ret
      exact ⟨by rw [hx.out]; rfl, rfl⟩
    · have d1 : decide (16 < (l.length : Int)) = false := by simp; omega
      by_cases h97 : l[0].toNat < 97
      · have hx : Hid (isName l = false) := isName_first hpos (by simp [okFirst]; omega)
        have d2 : decide ((l[0].toNat : Int) < 97) = true := by simp; omega
        go_enter Try.func101, Try.ntmps101
        go_wp2
        go_ret
        exact ⟨by rw [hx.out]; rfl, rfl⟩
      · have d2 : decide ((l[0].toNat : Int) < 97) = false := by simp; omega
        by_cases h122 : 122 < l[0].toNat
        · have hx : Hid (isName l = false) := isName_first hpos (by simp [okFirst]; omega)
          have d3 : decide (122 < (l[0].toNat : Int)) = true := by simp; omega
          go_enter Try.func101, Try.ntmps101
          go_wp2
          go_ret
          exact ⟨by rw [hx.out]; rfl, rfl⟩
        · have d3 : decide (122 < (l[0].toNat : Int)) = false := by simp; omega
          have hx : Hid (isName l = l.all okByte) := isName_all hpos (by simp [okFirst]; omega) (by omega)
          go_enter Try.func101, Try.ntmps101
          go_wp2
          clear d1 d2 d3 hem
          go_loop [3] (fun i => ∃ k : Nat, k ≤ l.length ∧ i = .int .i64 k ∧ Hid ((l.take k).all okByte = true)) (fun i => l.length - (intOf i).toNat)
          case atStart => exact ⟨0, Nat.zero_le _, rfl, rfl⟩
          case round =>
            obtain ⟨k, hk, rfl, ha⟩ := hrel
            by_cases hlt : k < l.length
            · by_cases hok : okByte l[k] = true
              · have hn : Hid ((l.take (k + 1)).all okByte = true) := hid (by rw [all_take_succ _ k hlt ha.out, hok])
                clear ha
                rcases okByte_yes hok with hc | hc | hc
                · have p1 : decide ((l[k].toNat : Int) < 97) = false := by simp; omega
                  have p2 : decide (122 < (l[k].toNat : Int)) = false := by simp; omega
                  clear hok
                  have HC := hid hc
                  clear hc
                  go_wp2
                  go_round
                  case rel => exact ⟨k + 1, by omega, by go_num, hn⟩
                  case measure => simp [intOf]; omega
                · have p1 : decide ((l[k].toNat : Int) < 97) = true := by simp; omega
                  have p3 : decide ((l[k].toNat : Int) < 48) = false := by simp; omega
                  have p4 : decide (57 < (l[k].toNat : Int)) = false := by simp; omega
                  clear hok
                  have HC := hid hc
                  clear hc
                  go_wp2
                  go_round
                  case rel => exact ⟨k + 1, by omega, by go_num, hn⟩
                  case measure => simp [intOf]; omega
                · have p1 : decide ((l[k].toNat : Int) < 97) = true := by simp; omega
                  have p3 : decide ((l[k].toNat : Int) < 48) = true := by simp; omega
                  have p5 : ((l[k].toNat : Int) != 45) = false := by simp; omega
                  clear hok
                  have HC := hid hc
                  clear hc
                  go_wp2
                  go_round
                  case rel => exact ⟨k + 1, by omega, by go_num, hn⟩
                  case measure => simp [intOf]; omega
              · have hn : Hid (l.all okByte = false) := hid (all_of_bad l k hlt (by simpa using hok))
                clear ha
                rcases okByte_no (by simpa using hok) with hc | hc | hc
                · have p1 : decide ((l[k].toNat : Int) < 97) = true := by simp; omega
                  have p3 : decide ((l[k].toNat : Int) < 48) = true := by simp; omega
                  have p5 : ((l[k].toNat : Int) != 45) = true := by simp; omega
                  clear hok
                  have HC := hid hc
                  clear hc
                  go_wp2
                  go_ret
                  exact ⟨by rw [hx.out, hn.out]; rfl, rfl⟩
                · have p1 : decide ((l[k].toNat : Int) < 97) = true := by simp; omega
                  have p3 : decide ((l[k].toNat : Int) < 48) = false := by simp; omega
                  have p4 : decide (57 < (l[k].toNat : Int)) = true := by simp; omega
                  have p5 : ((l[k].toNat : Int) != 45) = true := by simp; omega
                  clear hok
                  have HC := hid hc
                  clear hc
                  go_wp2
                  go_ret
                  exact ⟨by rw [hx.out, hn.out]; rfl, rfl⟩
                · have p1 : decide ((l[k].toNat : Int) < 97) = false := by simp; omega
                  have p2 : decide (122 < (l[k].toNat : Int)) = true := by simp; omega
                  have p3 : decide ((l[k].toNat : Int) < 48) = false := by simp; omega
                  have p4 : decide (57 < (l[k].toNat : Int)) = true := by simp; omega
                  have p5 : ((l[k].toNat : Int) != 45) = true := by simp; omega
                  clear hok
                  have HC := hid hc
                  clear hc
                  go_wp2
                  go_ret
                  exact ⟨by rw [hx.out, hn.out]; rfl, rfl⟩
            · have hk2 : k = l.length := by omega
              subst hk2
              have hn : Hid (l.all okByte = true) := hid (by have := ha.out; rwa [List.take_of_length_le (Nat.le_refl _)] at this)
              go_wp2
              go_ret
              exact ⟨by rw [hx.out, hn.out]; rfl, rfl⟩
end Go.Proofs.Ytcbfieodjbfjdaa

/- The contracts of the document's Right of layer 4. -/
namespace Go.Proofs.Ytcbfieodjbfjdaa
open Go.RowKit

theorem rright_ref (r : RoleB) (w : World) (h1 : r.1.length ≤ 9223372036854775807) (h2 : r.2.length ≤ 9223372036854775807) :
    Calls Try.prog 79 #[roleV r] w fun e w' => e = .returned (.bool (isRole r)) ∧ Chg (fun _ => False) w w' := by
  obtain ⟨o, x⟩ := r
  have hc : Chg (fun _ => False) w (w.alloc (.cells #[.string ⟨o.toArray⟩, .string ⟨x.toArray⟩] 23)) := (Chg.refl _ w).alloc _
  have HC := hid hc
  clear hc
  cases ho : isName o with
  | false =>
    have hh : Hid (isRole (o, x) = false) := hid (by simp [isRole, ho])
    show Calls Try.prog 79 #[.agg #[.string ⟨o.toArray⟩, .string ⟨x.toArray⟩]] w _
    go_enter Try.func79, Try.ntmps79
    go_wp2_with (go_at_call 101; refine (refright_any o _ h1).mono ?_; rintro e w' ⟨rfl, rfl⟩; rw [ho])
    go_ret
    exact ⟨by rw [hh.out]; rfl, HC.out⟩
  | true =>
    have hh : Hid (isRole (o, x) = isName x) := hid (by simp [isRole, ho])
    show Calls Try.prog 79 #[.agg #[.string ⟨o.toArray⟩, .string ⟨x.toArray⟩]] w _
    go_enter Try.func79, Try.ntmps79
    go_wp2_with fail
    refine (refright_any o _ h1).mono ?_
    rintro e w' ⟨rfl, rfl⟩
    rw [ho]
    go_wp2_with fail
    refine (refright_any x _ h2).mono ?_
    rintro e w' ⟨rfl, rfl⟩
    go_wp2
    go_ret
    exact ⟨by rw [hh.out]; rfl, HC.out⟩
end Go.Proofs.Ytcbfieodjbfjdaa

/- Lists of roles of the call's own. -/
namespace Go.Proofs.Ytcbfieodjbfjdaa
open Go.RowKit

theorem ownsRow_keep {S : Nat → Prop} {B E n s : Nat} {w w' : World} {v : Value} {xs : List Value} (h : w.ownsRow B E s v n xs) (hc : Chg S w w') (hr : ∀ k, v.ownBlock = some k → ¬ S k) : w'.ownsRow B E s v n xs := by
  refine ⟨h.1, ?_⟩
  rcases h.2 with hn | ⟨g, cap, cur, hv, hg, hh, r⟩
  · exact .inl hn
  · exact .inr ⟨g, cap, cur, hv, hg, blk_keep hh hc (hr g (by rw [hv]; rfl)), r⟩

def lenOfV : Value → Nat
  | .slice _ n _ => n
  | _ => 0

end Go.Proofs.Ytcbfieodjbfjdaa

/- Formulas as they lie in memory: those that came in, and those of the call's own. -/
namespace Go.Proofs.Ytcbfieodjbfjdaa
open Go.RowKit

/-- The formula f, at most n deep, lies at the five cells from o on. -/
def FmAt (D : Nat → Prop) (w : World) : Nat → Nat → Nat → FmB → Prop
  | 0, _, _, _ => False
  | n + 1, b, o, f => w.cell? ⟨b, o, none⟩ = some (.int .i64 f.op) ∧ w.cell? ⟨b, o + 1, none⟩ = some (.int .i64 f.k) ∧ w.cell? ⟨b, o + 2, none⟩ = some (.string ⟨f.r.1.toArray⟩) ∧ w.cell? ⟨b, o + 3, none⟩ = some (.string ⟨f.r.2.toArray⟩) ∧
    (f.r.1.length ≤ 9223372036854775807 ∧ f.r.2.length ≤ 9223372036854775807) ∧
    ∃ ao cp, w.cell? ⟨b, o + 4, none⟩ = some (.slice ao f.kids.length cp) ∧ (ao = none → cp = 0) ∧ ∀ i (h : i < f.kids.length), ∃ b' off, ao = some ⟨b', off, none⟩ ∧ D b' ∧ FmAt D w n b' (off + i * 5) f.kids[i]

/-- The formulas ls, each at most n deep, can be read from the address ao on. -/
def FmsAt (D : Nat → Prop) (w : World) (n : Nat) (ao : Option Addr) (ls : List FmB) : Prop :=
  ∀ i (h : i < ls.length), ∃ b off, ao = some ⟨b, off, none⟩ ∧ D b ∧ FmAt D w n b (off + i * 5) ls[i]

/-- What else is asked of a formula that is handed over. -/
def FmOk (f : FmB) : Prop := f.r.1.length ≤ 9223372036854775807 ∧ f.r.2.length ≤ 9223372036854775807

theorem FmAt.keep {S D : Nat → Prop} {w w' : World} (hc : Chg S w w') (hD : ∀ i, D i → ¬ S i) : ∀ {n b o : Nat} {f : FmB}, FmAt D w n b o f → ¬ S b → FmAt D w' n b o f
  | 0, _, _, _, h, _ => h
  | n + 1, b, o, f, ⟨h0, h1, h2, h3, h4, ao, cp, h5, h6, h7⟩, hb =>
    ⟨hc.cell h0 hb, hc.cell h1 hb, hc.cell h2 hb, hc.cell h3 hb, h4, ao, cp, hc.cell h5 hb, h6, fun i hi => by
      obtain ⟨b', off, k1, k2, k3⟩ := h7 i hi
      exact ⟨b', off, k1, k2, FmAt.keep hc hD k3 (hD _ k2)⟩⟩

theorem FmsAt.keep {S D : Nat → Prop} {w w' : World} {n : Nat} {ao : Option Addr} {ls : List FmB} (h : FmsAt D w n ao ls) (hc : Chg S w w') (hD : ∀ i, D i → ¬ S i) : FmsAt D w' n ao ls := fun i hi => by
  obtain ⟨b', off, k1, k2, k3⟩ := h i hi
  exact ⟨b', off, k1, k2, FmAt.keep hc hD k3 (hD _ k2)⟩

theorem FmAt.mono {D E : Nat → Prop} {w : World} (hD : ∀ i, D i → E i) : ∀ {n b o : Nat} {f : FmB}, FmAt D w n b o f → FmAt E w n b o f
  | 0, _, _, _, h => h
  | n + 1, b, o, f, ⟨h0, h1, h2, h3, h4, ao, cp, h5, h6, h7⟩ =>
    ⟨h0, h1, h2, h3, h4, ao, cp, h5, h6, fun i hi => by
      obtain ⟨b', off, k1, k2, k3⟩ := h7 i hi
      exact ⟨b', off, k1, hD _ k2, FmAt.mono hD k3⟩⟩
theorem FmsAt.mono {D E : Nat → Prop} {w : World} {n : Nat} {ao : Option Addr} {ls : List FmB} (h : FmsAt D w n ao ls) (hD : ∀ i, D i → E i) : FmsAt E w n ao ls := fun i hi => by
  obtain ⟨b', off, k1, k2, k3⟩ := h i hi
  exact ⟨b', off, k1, hD _ k2, FmAt.mono hD k3⟩

/-- Deeper does no harm. -/
theorem FmAt.up {D : Nat → Prop} {w : World} : ∀ {n b o : Nat} {f : FmB}, FmAt D w n b o f → FmAt D w (n + 1) b o f
  | 0, _, _, _, h => h.elim
  | n + 1, b, o, f, ⟨h0, h1, h2, h3, h4, ao, cp, h5, h6, h7⟩ =>
    ⟨h0, h1, h2, h3, h4, ao, cp, h5, h6, fun i hi => by
      obtain ⟨b', off, k1, k2, k3⟩ := h7 i hi
      exact ⟨b', off, k1, k2, FmAt.up k3⟩⟩

theorem FmsAt.nil (D : Nat → Prop) (w : World) (n : Nat) (ao : Option Addr) : FmsAt D w n ao [] := fun i h => absurd h (by simp)

def fmBox (f : FmB) (ao : Option Addr) (cp : Nat) : Array Value := #[.int .i64 f.op, .int .i64 f.k, .string ⟨f.r.1.toArray⟩, .string ⟨f.r.2.toArray⟩, .slice ao f.kids.length cp]

theorem fm_at_blk {D : Nat → Prop} {w : World} {g n : Nat} {f : FmB} {ao : Option Addr} {cp : Nat} {ty : TypeId} {z : Nat × Nat} (h : w.heap[g]? = some (.cells (fmBox f ao cp) ty z)) (hok : FmOk f) (hz : ao = none → cp = 0) (hk : FmsAt D w n ao f.kids) : FmAt D w (n + 1) g 0 f :=
  ⟨cell_blk h 0, cell_blk h 1, cell_blk h 2, cell_blk h 3, hok, ao, cp, cell_blk h 4, hz, hk⟩

theorem Try.info26 : (Try.prog.info? 26).map (fun i => (i.zero, i.size, i.bytes)) = some (some (.agg #[.int .i64 0, .int .i64 0, .string ⟨#[]⟩, .string ⟨#[]⟩, .slice none 0 0]), 5, 72) := by kernel_rfl

theorem FmAt.open_ {D : Nat → Prop} {w : World} {n b o : Nat} {f : FmB} (h : FmAt D w n b o f) : ∃ m ao cp, m < n ∧ (w.cell? ⟨b, o, none⟩ = some (.int .i64 f.op) ∧ w.cell? ⟨b, o + 1, none⟩ = some (.int .i64 f.k) ∧ w.cell? ⟨b, o + 2, none⟩ = some (.string ⟨f.r.1.toArray⟩) ∧ w.cell? ⟨b, o + 3, none⟩ = some (.string ⟨f.r.2.toArray⟩) ∧ w.cell? ⟨b, o + 4, none⟩ = some (.slice ao f.kids.length cp)) ∧ FmOk f ∧ (ao = none → cp = 0) ∧ FmsAt D w m ao f.kids := by
  cases n with
  | zero => exact h.elim
  | succ m =>
    obtain ⟨h0, h1, h2, h3, h4, ao, cp, h5, h6, h7⟩ := h
    exact ⟨m, ao, cp, Nat.lt_succ_self m, ⟨h0, h1, h2, h3, h5⟩, h4, h6, h7⟩
end Go.Proofs.Ytcbfieodjbfjdaa
