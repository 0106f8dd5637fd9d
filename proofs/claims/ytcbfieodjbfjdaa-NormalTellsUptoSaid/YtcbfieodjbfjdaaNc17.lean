/- Texts that the proof leans on, in one: RegAD, RegAl. -/
import Derived.Test.YtcbfieodjbfjdaaNc16
import Derived.Test.YtcbfieodjbfjdaaNc4
/- The rule for a region that draws its order, with a state that hangs on the slots too, where all that an operation leans on has come up; and states for two writers, one behind the other. -/
namespace Go.Proofs.Ytcbfieodjbfjdaa
open Go.RowKit

def ObAD (P : Program) (Q : Exit → Act → World → Prop) (S : World → World → Prop) (W : (Nat → Bool) → Act → World → Prop) (G : Tmp → Value → World → Prop) (ops : Array Oper) (i : Nat) (g : Option (Tmp × Bool)) (o : Oper) : Prop :=
  ∀ (L : Nat → Bool) (a : Act) (w : World), L i = false → (∀ e ∈ o.after, Region.binds .any e = true → L e.on = true) → ClosedL ops L → W L a w → (∀ t ∈ looks g o, Knows G a w t) →
    ∀ K : Act → World → Prop, (∀ v w', S w w' → W (upd L i) (a.put o.dst v) w' → Gd G o.dst v w' → K (a.put o.dst v) w') →
      match g with
      | none => o.wp P a w K Q
      | some (t, b) => if says b a.tmps[t]? = true then o.wp P a w K Q else K (a.put o.dst undef) w

inductive ObsAD (P : Program) (Q : Exit → Act → World → Prop) (S : World → World → Prop) (W : (Nat → Bool) → Act → World → Prop) (G : Tmp → Value → World → Prop) (ops : Array Oper) : Nat → List Oper → Prop
  | nil {n : Nat} : ObsAD P Q S W G ops n []
  | cons {n : Nat} {o : Oper} {l : List Oper} (g : Option (Tmp × Bool)) (hg : gSlot ops o = g) (h : ObAD P Q S W G ops n g o) (hs : ObsAD P Q S W G ops (n + 1) l) : ObsAD P Q S W G ops n (o :: l)

theorem ObsAD.toA {P : Program} {Q : Exit → Act → World → Prop} {S : World → World → Prop} {W : (Nat → Bool) → Act → World → Prop} {G : Tmp → Value → World → Prop} {ops : Array Oper} {n : Nat} {l : List Oper} (h : ObsAD P Q S W G ops n l) :
    (∀ (k : Nat) (o : Oper), l[k]? = some o → ops[n + k]? = some o) → ObsA P Q S (fun L a w => ClosedL ops L ∧ W L a w) G ops n l := by
  induction h with
  | nil => exact fun _ => ObsA.nil
  | @cons n o l g hg h hs ih =>
    intro hl
    have ho : ops[n]? = some o := hl 0 o rfl
    refine ObsA.cons g hg ?_ (ih (fun k p hk => ?_))
    · intro L a w hi he hW hk K hK
      exact h L a w hi he hW.1 hW.2 hk K (fun v w' h1 h2 h3 => hK v w' h1 ⟨hW.1.upd ho he, h2⟩ h3)
    · rw [show n + 1 + k = n + (k + 1) from by omega]
      exact hl (k + 1) p hk

theorem wp_region_stateAD {P : Program} {Q : Exit → Act → World → Prop} {id : Nat} {l : List Oper} {w0 : World} {a0 : Act} (S : World → World → Prop) (W : (Nat → Bool) → Act → World → Prop) (G : Tmp → Value → World → Prop) (ds outs : List Tmp) (hm : P.follows .mixedOrders = true) (hok : regOk l.toArray ds = true)
    (hW : W (fun _ => false) a0 w0.drew) (hG : ∀ t v w w', S w w' → G t v w → G t v w')
    (hsize : (ds.all fun t => decide (t < a0.tmps.size)) = true) (houts : ((outsOf l.toArray ds).all fun t => outs.contains t) = true)
    (hstart : ∀ t ∈ outs, Knows G a0 w0.drew t)
    (hobs : ObsAD P Q S W G l.toArray 0 l)
    (hfin : ∀ (L : Nat → Bool) (vals : Tmp → Value) (w : World), (∀ i, i < l.length → L i = true) → W L ⟨putAll vals ds a0.tmps, a0.defers⟩ w → (∀ t ∈ ds, G t (vals t) w) → Q .normal ⟨putAll vals ds a0.tmps, a0.defers⟩ w) :
    (Code.region id l.toArray true).wp P Q a0 w0 :=
  wp_region_stateA S (fun L a w => ClosedL l.toArray L ∧ W L a w) G ds outs hm hok ⟨fun _ _ _ h => (by cases h), hW⟩ hG hsize houts hstart (hobs.toA (fun k o hk => by rw [Nat.zero_add]; simpa using hk)) (fun L vals w h1 h2 h3 => hfin L vals w h1 h2.2 h3)

theorem ObAD.plain {P : Program} {Q : Exit → Act → World → Prop} {S : World → World → Prop} {W : (Nat → Bool) → Act → World → Prop} {G : Tmp → Value → World → Prop} {ops : Array Oper} {i : Nat} {o : Oper}
    (h : ∀ (L : Nat → Bool) (a : Act) (w : World), L i = false → (∀ e ∈ o.after, Region.binds .any e = true → L e.on = true) → ClosedL ops L → W L a w → (∀ t ∈ looks none o, Knows G a w t) →
      ∀ K : Act → World → Prop, (∀ v w', S w w' → W (upd L i) (a.put o.dst v) w' → Gd G o.dst v w' → K (a.put o.dst v) w') → o.wp P a w K Q) : ObAD P Q S W G ops i none o := h

theorem upd_self (L : Nat → Bool) (i : Nat) : upd L i i = true := by unfold upd; rw [if_pos rfl]
theorem upd_ne {L : Nat → Bool} {i j : Nat} (h : j ≠ i) : upd L i j = L j := by unfold upd; rw [if_neg h]
theorem upd_mono {L : Nat → Bool} {i j : Nat} (h : L j = true) : upd L i j = true := by
  by_cases e : j = i
  · rw [e]; exact upd_self _ _
  · rw [upd_ne e]; exact h

theorem put_tmps {a : Act} {d : Option Tmp} {v u : Value} {t : Tmp} (h : a.tmps[t]? = some u) (hd : d ≠ some t) : (a.put d v).tmps[t]? = some u := by
  cases d with
  | none => exact h
  | some s =>
    have : s ≠ t := fun e => hd (by rw [e])
    simp [Act.put, Array.getElem?_setIfInBounds_ne this, h]
theorem put_size (a : Act) (d : Option Tmp) (v : Value) : (a.put d v).tmps.size = a.tmps.size := by
  cases d with
  | none => rfl
  | some s => simp [Act.put]

section
variable {m n : Nat} {t : Tmp} {F0 : World → Prop} {F1 : Value → World → Prop} {F2 : World → Prop} {L : Nat → Bool} {a : Act} {w w' : World}

end
end Go.Proofs.Ytcbfieodjbfjdaa

/- A region that draws its order, in which a variable is laid and then set: its slot is told to the end. -/
namespace Go.Proofs.Ytcbfieodjbfjdaa
open Go.RowKit

/-- Operation m lays the variable, its slot t tells where; n sets it, behind all that stand ahead of it. -/
structure AlS (m n : Nat) (t : Tmp) (F0 : World → Prop) (F1 F2 : Value → World → Prop) (L : Nat → Bool) (a : Act) (w : World) : Prop where
  size : t < a.tmps.size
  em : L n = true → L m = true
  p0 : L m = false → F0 w
  p1 : L m = true → L n = false → ∃ v, a.tmps[t]? = some v ∧ F1 v w
  p2 : L n = true → ∃ v, a.tmps[t]? = some v ∧ F2 v w

section
variable {m n : Nat} {t : Tmp} {F0 : World → Prop} {F1 F2 : Value → World → Prop} {L : Nat → Bool} {a : Act} {w w' : World}

theorem AlS.start (hs : t < a.tmps.size) (h : F0 w) : AlS m n t F0 F1 F2 (fun _ => false) a w := ⟨hs, fun h => (by cases h), fun _ => h, fun h => (by cases h), fun h => (by cases h)⟩
theorem AlS.not (h : AlS m n t F0 F1 F2 L a w) (hl : L m = false) : L n = false := by
  cases hn : L n with
  | false => rfl
  | true => rw [h.em hn] at hl; cases hl
/-- What holds whatever has come up. -/
theorem AlS.ever (h : AlS m n t F0 F1 F2 L a w) {B : World → Prop} (h0 : ∀ w, F0 w → B w) (h1 : ∀ v w, F1 v w → B w) (h2 : ∀ v w, F2 v w → B w) : B w := by
  cases hn : L n with
  | true => obtain ⟨v, _, hv⟩ := h.p2 hn; exact h2 _ _ hv
  | false =>
    cases hm : L m with
    | false => exact h0 _ (h.p0 hm)
    | true => obtain ⟨v, _, hv⟩ := h.p1 hm hn; exact h1 _ _ hv
theorem AlS.step (h : AlS m n t F0 F1 F2 L a w) {j : Nat} {d : Option Tmp} (v : Value) (hj : j ≠ m ∧ j ≠ n ∧ d ≠ some t) (hc : Chg (fun _ => False) w w') (k0 : ∀ w w', F0 w → Chg (fun _ => False) w w' → F0 w') (k1 : ∀ u w w', F1 u w → Chg (fun _ => False) w w' → F1 u w') (k2 : ∀ u w w', F2 u w → Chg (fun _ => False) w w' → F2 u w') :
    AlS m n t F0 F1 F2 (upd L j) (a.put d v) w' := by
  obtain ⟨j1, j2, j3⟩ := hj
  have em : upd L j m = L m := upd_ne (fun e => j1 e.symm)
  have en : upd L j n = L n := upd_ne (fun e => j2 e.symm)
  refine ⟨by rw [put_size]; exact h.size, fun hn => by rw [em]; exact h.em (by rw [← en]; exact hn), fun hm => k0 _ _ (h.p0 (by rw [← em]; exact hm)) hc, fun hm hn => ?_, fun hn => ?_⟩
  · obtain ⟨u, h1, h2⟩ := h.p1 (by rw [← em]; exact hm) (by rw [← en]; exact hn)
    exact ⟨u, put_tmps h1 j3, k1 _ _ _ h2 hc⟩
  · obtain ⟨u, h1, h2⟩ := h.p2 (by rw [← en]; exact hn)
    exact ⟨u, put_tmps h1 j3, k2 _ _ _ h2 hc⟩
theorem AlS.first (h : AlS m n t F0 F1 F2 L a w) (hmn : m < n) (hl : L m = false) {v : Value} (hF : F1 v w') : AlS m n t F0 F1 F2 (upd L m) (a.put (some t) v) w' := by
  have hn := h.not hl
  have en : upd L m n = L n := upd_ne (by omega)
  refine ⟨by rw [put_size]; exact h.size, fun h' => (by rw [en, hn] at h'; cases h'), fun h' => (by rw [upd_self] at h'; cases h'), fun _ _ => ⟨v, ?_, hF⟩, fun h' => (by rw [en, hn] at h'; cases h')⟩
  simp [Act.put, h.size]
theorem AlS.second (h : AlS m n t F0 F1 F2 L a w) (_ : m < n) (hm : L m = true) {u v : Value} (hu : a.tmps[t]? = some u) (hF : F2 u w') : AlS m n t F0 F1 F2 (upd L n) (a.put none v) w' := by
  refine ⟨by rw [put_size]; exact h.size, fun _ => upd_mono hm, fun h' => ?_, fun _ h' => (by rw [upd_self] at h'; cases h'), fun _ => ⟨u, put_tmps hu (by simp), hF⟩⟩
  rw [upd_mono hm] at h'
  cases h'
end

end Go.Proofs.Ytcbfieodjbfjdaa
