/- Texts that the proof leans on, in one: RegA, RegAD, RegAl. -/
import Derived.Test.YtjaplnainlbldaaFr3
import Derived.Test.YtjaplnainlbldaaFr4
/- The rule for a region that draws its order, with a state that hangs on which operations have come up, on the slots and on the world. -/
namespace Go.Proofs.Ytjaplnainlbldaa
open Go.RowKit

/-- What is to be shown of the operation i, W being what holds of the world where the operations of L have come up, S what becomes of a world. -/
def ObA (P : Program) (Q : Exit → Act → World → Prop) (S : World → World → Prop) (W : (Nat → Bool) → Act → World → Prop) (G : Tmp → Value → World → Prop) (i : Nat) (g : Option (Tmp × Bool)) (o : Oper) : Prop :=
  ∀ (L : Nat → Bool) (a : Act) (w : World), L i = false → (∀ e ∈ o.after, Region.binds .any e = true → L e.on = true) → W L a w → (∀ t ∈ looks g o, Knows G a w t) →
    ∀ K : Act → World → Prop, (∀ v w', S w w' → W (upd L i) (a.put o.dst v) w' → Gd G o.dst v w' → K (a.put o.dst v) w') →
      match g with
      | none => o.wp P a w K Q
      | some (t, b) => if says b a.tmps[t]? = true then o.wp P a w K Q else K (a.put o.dst undef) w

inductive ObsA (P : Program) (Q : Exit → Act → World → Prop) (S : World → World → Prop) (W : (Nat → Bool) → Act → World → Prop) (G : Tmp → Value → World → Prop) (ops : Array Oper) : Nat → List Oper → Prop
  | nil {n : Nat} : ObsA P Q S W G ops n []
  | cons {n : Nat} {o : Oper} {l : List Oper} (g : Option (Tmp × Bool)) (hg : gSlot ops o = g) (h : ObA P Q S W G n g o) (hs : ObsA P Q S W G ops (n + 1) l) : ObsA P Q S W G ops n (o :: l)

section
variable {P : Program} {ops : Array Oper} {Q : Exit → Act → World → Prop} {S : World → World → Prop} {W : (Nat → Bool) → Act → World → Prop} {G : Tmp → Value → World → Prop} {a0 : Act} {ds : List Tmp}

theorem ObsA.all {n : Nat} {l : List Oper} (h : ObsA P Q S W G ops n l) : ∀ (i : Nat) (o : Oper), l[i]? = some o → ObA P Q S W G (n + i) (gSlot ops o) o := by
  induction h with
  | nil => intro i o ho; simp at ho
  | @cons k _ _ g hg h hs ih =>
    intro i o ho
    cases i with
    | zero =>
      simp only [List.getElem?_cons_zero, Option.some.injEq] at ho
      subst ho
      rw [hg]
      exact h
    | succ i =>
      simp only [List.getElem?_cons_succ] at ho
      have := ih i o ho
      rwa [show k + 1 + i = k + (i + 1) from by omega] at this

structure RegInvA (ops : Array Oper) (W : (Nat → Bool) → Act → World → Prop) (G : Tmp → Value → World → Prop) (a0 : Act) (listed : Array Bool) (a : Act) (w : World) : Prop where
  len : listed.size = ops.size
  world : W (fun j => listed.getD j false) a w
  defers : a.defers = a0.defers
  size : a.tmps.size = a0.tmps.size
  same : ∀ t, (∀ (i : Nat) (o : Oper), ops[i]? = some o → o.dst ≠ some t) → a.tmps[t]? = a0.tmps[t]?
  known : ∀ (i : Nat) (o : Oper) (t : Tmp), ops[i]? = some o → listed.getD i false = true → o.dst = some t → Knows G a w t
  outs : ∀ t ∈ outsOf ops (dstsOf ops.toList), Knows G a0 w t

theorem region_goA (hds : dstsOf ops.toList = ds) (hnd : ds.Nodup)
    (hok : ∀ (i : Nat) (o : Oper), ops[i]? = some o → (o.guard.isSome = true → (gSlot ops o).isSome = true) ∧ (∀ e ∈ o.after, Region.binds .any e = true → e.on < i) ∧
      (∀ t ∈ looks (gSlot ops o) o, t ∈ ds → ∃ e ∈ o.after, Region.binds .any e = true ∧ (ops[e.on]?).bind (·.dst) = some t))
    (hG : ∀ t v w w', S w w' → G t v w → G t v w')
    (hsize : ∀ t ∈ ds, t < a0.tmps.size)
    (hobs : ∀ (i : Nat) (o : Oper), ops[i]? = some o → ObA P Q S W G i (gSlot ops o) o)
    (hfin : ∀ L a w, (∀ i, i < ops.size → L i = true) → W L a w → a.defers = a0.defers → a.tmps.size = a0.tmps.size → (∀ t, t ∉ ds → a.tmps[t]? = a0.tmps[t]?) → (∀ t ∈ ds, Knows G a w t) → Q .normal a w) :
    ∀ (fuel : Nat) (listed : Array Bool) (a : Act) (w : World), unlisted ops.size listed ≤ fuel → RegInvA ops W G a0 listed a w → wpAny P .any ops Q fuel listed a w := by
  have hend : ∀ (listed : Array Bool) (a : Act) (w : World), Region.ready .any ops listed = [] → RegInvA ops W G a0 listed a w → Q .normal a w := by
    intro listed a w hr hi
    have hall : ∀ (i : Nat), i < ops.size → listed.getD i false = true := by
      intro i
      induction i using Nat.strongRecOn with
      | ind i ih =>
        intro hlt
        refine Decidable.byContradiction fun hne => ?_
        have hmem : i ∈ Region.ready .any ops listed := by
          rw [mem_ready]
          refine ⟨?_, ops[i], Array.getElem?_eq_getElem hlt, fun e he hb => ?_⟩
          · have h1 : i < listed.size := by rw [hi.len]; exact hlt
            simp [h1] at hne ⊢
            exact hne
          · have := (hok i _ (Array.getElem?_eq_getElem hlt)).2.1 e he hb
            exact ih e.on this (by omega)
        rw [hr] at hmem
        cases hmem
    refine hfin (fun j => listed.getD j false) a w hall hi.world hi.defers hi.size (fun t ht => hi.same t fun i o ho hd => ht (mem_ds hds ho hd)) (fun t ht => ?_)
    obtain ⟨i, o, ho, hd⟩ := of_mem_ds hds ht
    exact hi.known i o t ho (hall i (Array.getElem?_eq_some_iff.1 ho).1) hd
  have hzero : ∀ (listed : Array Bool), unlisted ops.size listed = 0 → listed.size = ops.size → Region.ready .any ops listed = [] := by
    intro listed h0 hlen
    refine List.eq_nil_iff_forall_not_mem.2 fun i hi => ?_
    obtain ⟨h1, o, ho, _⟩ := mem_ready.1 hi
    have hlt := (Array.getElem?_eq_some_iff.1 ho).1
    have := List.countP_eq_zero.1 h0 i (List.mem_range.2 hlt)
    have h2 : i < listed.size := by omega
    simp [h2] at h1 this
    rw [h1] at this
    cases this
  intro fuel
  induction fuel with
  | zero =>
    intro listed a w hu hi
    have hr := hzero listed (by omega) hi.len
    exact ⟨hr, hend listed a w hr hi⟩
  | succ fuel ih =>
    intro listed a w hu hi
    refine ⟨fun hr => hend listed a w hr hi, fun i hir => ?_⟩
    obtain ⟨hun, o, ho, hpre⟩ := mem_ready.1 hir
    obtain ⟨hok1, hok2, hok3⟩ := hok i o ho
    have hilt := (Array.getElem?_eq_some_iff.1 ho).1
    have hilt' : i < listed.size := by rw [hi.len]; exact hilt
    have hun' : listed.getD i false = false := by
      simp [hilt'] at hun ⊢
      exact hun
    have hkn : ∀ t ∈ looks (gSlot ops o) o, Knows G a w t := by
      intro t ht
      by_cases hin : t ∈ ds
      · obtain ⟨e, he, hb, hd⟩ := hok3 t ht hin
        cases hoe : ops[e.on]? with
        | none => rw [hoe] at hd; cases hd
        | some p => rw [hoe] at hd; exact hi.known e.on p t hoe (hpre e he hb) hd
      · obtain ⟨v, hv, hg⟩ := hi.outs t (by
          unfold outsOf
          refine List.mem_filter.2 ⟨List.mem_flatMap.2 ⟨o, Array.mem_toList_iff.2 (Array.mem_of_getElem? ho), ht⟩, ?_⟩
          rw [hds]
          simpa using hin)
        exact ⟨v, (hi.same t fun j p hj hd => hin (mem_ds hds hj hd)).trans hv, hg⟩
    have hK : ∀ v w', S w w' → W (upd (fun j => listed.getD j false) i) (a.put o.dst v) w' → Gd G o.dst v w' → wpAny P .any ops Q fuel (listed.setIfInBounds i true) (a.put o.dst v) w' := by
      intro v w' hR hW hg
      refine ih _ _ _ ?_ ⟨by simpa using hi.len, by rw [← upd_listed hilt']; exact hW, ?_, ?_, ?_, ?_, ?_⟩
      · have : unlisted ops.size (listed.setIfInBounds i true) < unlisted ops.size listed := by
          refine countP_lt (fun j hj => ?_) _ i (List.mem_range.2 hilt) ?_ ?_
          · by_cases hji : i = j
            · subst hji
              simp [hilt'] at hj
            · rw [getD_set_ne false hji] at hj
              exact hj
          · simp [hilt'] at hun ⊢
            exact hun
          · simp [hilt']
        omega
      · cases o.dst <;> exact hi.defers
      · cases o.dst with
        | none => exact hi.size
        | some d => simpa [Act.put] using hi.size
      · intro t ht
        rw [← hi.same t ht]
        cases hd : o.dst with
        | none => rfl
        | some d =>
          have : d ≠ t := fun e => ht i o ho (e ▸ hd)
          simp [Act.put, Array.getElem?_setIfInBounds_ne this]
      · intro j p t hj hl hd
        by_cases hji : i = j
        · subst hji
          rw [ho] at hj
          cases hj
          rw [hd] at hg ⊢
          refine ⟨v, ?_, hg⟩
          have hlt : t < a.tmps.size := by rw [hi.size]; exact hsize t (mem_ds hds ho hd)
          simp [Act.put, hlt]
        · rw [getD_set_ne false hji] at hl
          obtain ⟨u, hu1, hu2⟩ := hi.known j p t hj hl hd
          refine ⟨u, ?_, hG _ _ _ _ hR hu2⟩
          cases hod : o.dst with
          | none => exact hu1
          | some d =>
            have hdt : d ≠ t := fun e => hji (nodup_dst ops.toList (by rw [hds]; exact hnd) i j o p t (by simpa using ho) (by simpa using hj) (e ▸ hod) hd)
            simp [Act.put, Array.getElem?_setIfInBounds_ne hdt, hu1]
      · intro t ht
        obtain ⟨u, hu1, hu2⟩ := hi.outs t ht
        exact ⟨u, hu1, hG _ _ _ _ hR hu2⟩
    have hOb := hobs i o ho (fun j => listed.getD j false) a w hun' (fun e he hb => hpre e he hb) hi.world hkn _ hK
    unfold wpOp
    simp only [ho]
    rw [wanted_of hok1]
    cases hgs : gSlot ops o with
    | none =>
      rw [hgs] at hOb
      simp only [if_true]
      exact .inl hOb
    | some tb =>
      obtain ⟨t, b⟩ := tb
      rw [hgs] at hOb
      simp only at hOb ⊢
      split at hOb
      · rename_i h; rw [if_pos h]; exact .inl hOb
      · rename_i h; rw [if_neg h]; exact hOb

/-- The rule with a state. -/
theorem wp_region_stateA {id : Nat} {l : List Oper} {w0 : World} (S : World → World → Prop) (W : (Nat → Bool) → Act → World → Prop) (G : Tmp → Value → World → Prop) (ds outs : List Tmp) (hm : P.follows .mixedOrders = true) (hok : regOk l.toArray ds = true)
    (hW : W (fun _ => false) a0 w0.drew) (hG : ∀ t v w w', S w w' → G t v w → G t v w')
    (hsize : (ds.all fun t => decide (t < a0.tmps.size)) = true) (houts : ((outsOf l.toArray ds).all fun t => outs.contains t) = true)
    (hstart : ∀ t ∈ outs, Knows G a0 w0.drew t)
    (hobs : ObsA P Q S W G l.toArray 0 l)
    (hfin : ∀ (L : Nat → Bool) (vals : Tmp → Value) (w : World), (∀ i, i < l.length → L i = true) → W L ⟨putAll vals ds a0.tmps, a0.defers⟩ w → (∀ t ∈ ds, G t (vals t) w) → Q .normal ⟨putAll vals ds a0.tmps, a0.defers⟩ w) :
    (Code.region id l.toArray true).wp P Q a0 w0 := by
  obtain ⟨h1, h2, h3⟩ := regOk_spec hok
  have hsz : ∀ t ∈ ds, t < a0.tmps.size := fun t ht => by simpa using List.all_eq_true.1 hsize t ht
  refine wp_region_any hm (region_goA (S := S) (W := W) (G := G) (a0 := a0) h1 h2 h3 hG hsz (fun i o ho => by have := hobs.all i o (by simpa using ho); rwa [Nat.zero_add] at this) ?_ _ _ _ _ ?_ ⟨by simp, ?_, rfl, rfl, fun _ _ => rfl, fun i o t ho hl hd => ?_, fun t ht => ?_⟩)
  · intro L a w hL hR hd hs hsame hkn
    have e : a = ⟨putAll (fun t => a.tmps.getD t undef) ds a0.tmps, a0.defers⟩ := by
      obtain ⟨tm, df⟩ := a
      simp only at hd hs hsame hkn ⊢
      rw [hd]
      congr 1
      refine Array.ext' ?_
      refine List.ext_getElem? fun t => ?_
      rw [Array.getElem?_toList, Array.getElem?_toList]
      by_cases ht : t ∈ ds
      · rw [putAll_in _ ds _ t h2 ht (hsz t ht)]
        obtain ⟨v, hv, _⟩ := hkn t ht
        rw [hv, Array.getD_eq_getD_getElem?, hv]
        rfl
      · rw [putAll_out _ ds _ t ht]
        exact hsame t ht
    have hR2 := hR
    rw [e] at hR2 ⊢
    exact hfin L (fun t => a.tmps.getD t undef) w (by simpa using hL) hR2 (fun t ht => by
      obtain ⟨v, hv, hg⟩ := hkn t ht
      have : a.tmps.getD t undef = v := by
        rw [Array.getD_eq_getD_getElem?, hv]
        rfl
      rw [this]
      exact hg)
  · unfold unlisted
    refine Nat.le_trans List.countP_le_length ?_
    simp
  · have : (fun j => (Array.replicate l.toArray.size false).getD j false) = fun _ => false := by
      funext j
      rw [Array.getD_eq_getD_getElem?, Array.getElem?_replicate]
      split <;> rfl
    rw [this]
    exact hW
  · simp [Array.getElem?_replicate] at hl
    split at hl <;> simp at hl
  · rw [h1] at ht
    have h4 := List.all_eq_true.1 houts t ht
    exact hstart t (by simpa using h4)

end

end Go.Proofs.Ytjaplnainlbldaa

/- The rule for a region that draws its order, with a state that hangs on the slots too, where all that an operation leans on has come up; and states for two writers, one behind the other. -/
namespace Go.Proofs.Ytjaplnainlbldaa
open Go.RowKit

def ObAD (P : Program) (Q : Exit → Act → World → Prop) (S : World → World → Prop) (W : (Nat → Bool) → Act → World → Prop) (G : Tmp → Value → World → Prop) (ops : Array Oper) (i : Nat) (g : Option (Tmp × Bool)) (o : Oper) : Prop :=
  ∀ (L : Nat → Bool) (a : Act) (w : World), L i = false → (∀ e ∈ o.after, Region.binds .any e = true → L e.on = true) → ClosedL ops L → W L a w → (∀ t ∈ looks g o, Knows G a w t) →
    ∀ K : Act → World → Prop, (∀ v w', S w w' → W (upd L i) (a.put o.dst v) w' → Gd G o.dst v w' → K (a.put o.dst v) w') →
      match g with
      | none => o.wp P a w K Q
      | some (t, b) => if says b a.tmps[t]? = true then o.wp P a w K Q else K (a.put o.dst undef) w

inductive ObsAD (P : Program) (Q : Exit → Act → World → Prop) (S : World → World → Prop) (W : (Nat → Bool) → Act → World → Prop) (G : Tmp → Value → World → Prop) (ops : Array Oper) : Nat → List Oper → Prop
  | nil {n : Nat} : ObsAD P Q S W G ops n []
  | cons {n : Nat} {o : Oper} {l : List Oper} (g : Option (Tmp × Bool)) (hg : gSlot ops o = g) (h : ObAD P Q S W G ops n g o) (hs : ObsAD P Q S W G ops (n + 1) l) : ObsAD P Q S W G ops n (o :: l)

theorem ObsAD.toA {P : Program} {Q : Exit → Act → World → Prop} {S : World → World → Prop} {W : (Nat → Bool) → Act → World → Prop} {G : Tmp → Value → World → Prop} {ops : Array Oper} {n : Nat} {l : List Oper} (h : ObsAD P Q S W G ops n l) :
    (∀ (k : Nat) (o : Oper), l[k]? = some o → ops[n + k]? = some o) → ObsA P Q S (fun L a w => ClosedL ops L ∧ W L a w) G ops n l := by
  induction h with
  | nil => exact fun _ => ObsA.nil
  | @cons n o l g hg h hs ih =>
    intro hl
    have ho : ops[n]? = some o := hl 0 o rfl
    refine ObsA.cons g hg ?_ (ih (fun k p hk => ?_))
    · intro L a w hi he hW hk K hK
      exact h L a w hi he hW.1 hW.2 hk K (fun v w' h1 h2 h3 => hK v w' h1 ⟨hW.1.upd ho he, h2⟩ h3)
    · rw [show n + 1 + k = n + (k + 1) from by omega]
      exact hl (k + 1) p hk

theorem wp_region_stateAD {P : Program} {Q : Exit → Act → World → Prop} {id : Nat} {l : List Oper} {w0 : World} {a0 : Act} (S : World → World → Prop) (W : (Nat → Bool) → Act → World → Prop) (G : Tmp → Value → World → Prop) (ds outs : List Tmp) (hm : P.follows .mixedOrders = true) (hok : regOk l.toArray ds = true)
    (hW : W (fun _ => false) a0 w0.drew) (hG : ∀ t v w w', S w w' → G t v w → G t v w')
    (hsize : (ds.all fun t => decide (t < a0.tmps.size)) = true) (houts : ((outsOf l.toArray ds).all fun t => outs.contains t) = true)
    (hstart : ∀ t ∈ outs, Knows G a0 w0.drew t)
    (hobs : ObsAD P Q S W G l.toArray 0 l)
    (hfin : ∀ (L : Nat → Bool) (vals : Tmp → Value) (w : World), (∀ i, i < l.length → L i = true) → W L ⟨putAll vals ds a0.tmps, a0.defers⟩ w → (∀ t ∈ ds, G t (vals t) w) → Q .normal ⟨putAll vals ds a0.tmps, a0.defers⟩ w) :
    (Code.region id l.toArray true).wp P Q a0 w0 :=
  wp_region_stateA S (fun L a w => ClosedL l.toArray L ∧ W L a w) G ds outs hm hok ⟨fun _ _ _ h => (by cases h), hW⟩ hG hsize houts hstart (hobs.toA (fun k o hk => by rw [Nat.zero_add]; simpa using hk)) (fun L vals w h1 h2 h3 => hfin L vals w h1 h2.2 h3)

theorem ObAD.plain {P : Program} {Q : Exit → Act → World → Prop} {S : World → World → Prop} {W : (Nat → Bool) → Act → World → Prop} {G : Tmp → Value → World → Prop} {ops : Array Oper} {i : Nat} {o : Oper}
    (h : ∀ (L : Nat → Bool) (a : Act) (w : World), L i = false → (∀ e ∈ o.after, Region.binds .any e = true → L e.on = true) → ClosedL ops L → W L a w → (∀ t ∈ looks none o, Knows G a w t) →
      ∀ K : Act → World → Prop, (∀ v w', S w w' → W (upd L i) (a.put o.dst v) w' → Gd G o.dst v w' → K (a.put o.dst v) w') → o.wp P a w K Q) : ObAD P Q S W G ops i none o := h

theorem upd_self (L : Nat → Bool) (i : Nat) : upd L i i = true := by unfold upd; rw [if_pos rfl]
theorem upd_ne {L : Nat → Bool} {i j : Nat} (h : j ≠ i) : upd L i j = L j := by unfold upd; rw [if_neg h]
theorem upd_mono {L : Nat → Bool} {i j : Nat} (h : L j = true) : upd L i j = true := by
  by_cases e : j = i
  · rw [e]; exact upd_self _ _
  · rw [upd_ne e]; exact h

theorem put_tmps {a : Act} {d : Option Tmp} {v u : Value} {t : Tmp} (h : a.tmps[t]? = some u) (hd : d ≠ some t) : (a.put d v).tmps[t]? = some u := by
  cases d with
  | none => exact h
  | some s =>
    have : s ≠ t := fun e => hd (by rw [e])
    simp [Act.put, Array.getElem?_setIfInBounds_ne this, h]
theorem put_size (a : Act) (d : Option Tmp) (v : Value) : (a.put d v).tmps.size = a.tmps.size := by
  cases d with
  | none => rfl
  | some s => simp [Act.put]

section
variable {m n : Nat} {t : Tmp} {F0 : World → Prop} {F1 : Value → World → Prop} {F2 : World → Prop} {L : Nat → Bool} {a : Act} {w w' : World}

end
end Go.Proofs.Ytjaplnainlbldaa

/- A region that draws its order, in which a variable is laid and then set: its slot is told to the end. -/
namespace Go.Proofs.Ytjaplnainlbldaa
open Go.RowKit

/-- Operation m lays the variable, its slot t tells where; n sets it, behind all that stand ahead of it. -/
structure AlS (m n : Nat) (t : Tmp) (F0 : World → Prop) (F1 F2 : Value → World → Prop) (L : Nat → Bool) (a : Act) (w : World) : Prop where
  size : t < a.tmps.size
  em : L n = true → L m = true
  p0 : L m = false → F0 w
  p1 : L m = true → L n = false → ∃ v, a.tmps[t]? = some v ∧ F1 v w
  p2 : L n = true → ∃ v, a.tmps[t]? = some v ∧ F2 v w

section
variable {m n : Nat} {t : Tmp} {F0 : World → Prop} {F1 F2 : Value → World → Prop} {L : Nat → Bool} {a : Act} {w w' : World}

theorem AlS.start (hs : t < a.tmps.size) (h : F0 w) : AlS m n t F0 F1 F2 (fun _ => false) a w := ⟨hs, fun h => (by cases h), fun _ => h, fun h => (by cases h), fun h => (by cases h)⟩
theorem AlS.not (h : AlS m n t F0 F1 F2 L a w) (hl : L m = false) : L n = false := by
  cases hn : L n with
  | false => rfl
  | true => rw [h.em hn] at hl; cases hl
/-- What holds whatever has come up. -/
theorem AlS.ever (h : AlS m n t F0 F1 F2 L a w) {B : World → Prop} (h0 : ∀ w, F0 w → B w) (h1 : ∀ v w, F1 v w → B w) (h2 : ∀ v w, F2 v w → B w) : B w := by
  cases hn : L n with
  | true => obtain ⟨v, _, hv⟩ := h.p2 hn; exact h2 _ _ hv
  | false =>
    cases hm : L m with
    | false => exact h0 _ (h.p0 hm)
    | true => obtain ⟨v, _, hv⟩ := h.p1 hm hn; exact h1 _ _ hv
theorem AlS.step (h : AlS m n t F0 F1 F2 L a w) {j : Nat} {d : Option Tmp} (v : Value) (hj : j ≠ m ∧ j ≠ n ∧ d ≠ some t) (hc : Chg (fun _ => False) w w') (k0 : ∀ w w', F0 w → Chg (fun _ => False) w w' → F0 w') (k1 : ∀ u w w', F1 u w → Chg (fun _ => False) w w' → F1 u w') (k2 : ∀ u w w', F2 u w → Chg (fun _ => False) w w' → F2 u w') :
    AlS m n t F0 F1 F2 (upd L j) (a.put d v) w' := by
  obtain ⟨j1, j2, j3⟩ := hj
  have em : upd L j m = L m := upd_ne (fun e => j1 e.symm)
  have en : upd L j n = L n := upd_ne (fun e => j2 e.symm)
  refine ⟨by rw [put_size]; exact h.size, fun hn => by rw [em]; exact h.em (by rw [← en]; exact hn), fun hm => k0 _ _ (h.p0 (by rw [← em]; exact hm)) hc, fun hm hn => ?_, fun hn => ?_⟩
  · obtain ⟨u, h1, h2⟩ := h.p1 (by rw [← em]; exact hm) (by rw [← en]; exact hn)
    exact ⟨u, put_tmps h1 j3, k1 _ _ _ h2 hc⟩
  · obtain ⟨u, h1, h2⟩ := h.p2 (by rw [← en]; exact hn)
    exact ⟨u, put_tmps h1 j3, k2 _ _ _ h2 hc⟩
theorem AlS.first (h : AlS m n t F0 F1 F2 L a w) (hmn : m < n) (hl : L m = false) {v : Value} (hF : F1 v w') : AlS m n t F0 F1 F2 (upd L m) (a.put (some t) v) w' := by
  have hn := h.not hl
  have en : upd L m n = L n := upd_ne (by omega)
  refine ⟨by rw [put_size]; exact h.size, fun h' => (by rw [en, hn] at h'; cases h'), fun h' => (by rw [upd_self] at h'; cases h'), fun _ _ => ⟨v, ?_, hF⟩, fun h' => (by rw [en, hn] at h'; cases h')⟩
  simp [Act.put, h.size]
theorem AlS.second (h : AlS m n t F0 F1 F2 L a w) (_ : m < n) (hm : L m = true) {u v : Value} (hu : a.tmps[t]? = some u) (hF : F2 u w') : AlS m n t F0 F1 F2 (upd L n) (a.put none v) w' := by
  refine ⟨by rw [put_size]; exact h.size, fun _ => upd_mono hm, fun h' => ?_, fun _ h' => (by rw [upd_self] at h'; cases h'), fun _ => ⟨u, put_tmps hu (by simp), hF⟩⟩
  rw [upd_mono hm] at h'
  cases h'
end

end Go.Proofs.Ytjaplnainlbldaa
