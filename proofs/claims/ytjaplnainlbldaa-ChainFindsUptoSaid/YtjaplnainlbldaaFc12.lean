/- Texts that the proof leans on, in one: RegA, LastW, RegD, RegAD, KwState, CredEq. -/
import Derived.Test.YtjaplnainlbldaaFc4
import Derived.Test.YtjaplnainlbldaaFc11
import Derived.Test.YtjaplnainlbldaaFc10
import Derived.Maps.AppendAt
import Derived.Test.YtjaplnainlbldaaFc5
/- The rule for a region that draws its order, with a state that hangs on which operations have come up, on the slots and on the world. -/
namespace Go.Proofs.Ytjaplnainlbldaa
open Go.RowKit

/-- What is to be shown of the operation i, W being what holds of the world where the operations of L have come up, S what becomes of a world. -/
def ObA (P : Program) (Q : Exit → Act → World → Prop) (S : World → World → Prop) (W : (Nat → Bool) → Act → World → Prop) (G : Tmp → Value → World → Prop) (i : Nat) (g : Option (Tmp × Bool)) (o : Oper) : Prop :=
 ∀ (L : Nat → Bool) (a : Act) (w : World), L i = false → (∀ e ∈ o.after, Region.binds .any e = true → L e.on = true) → W L a w → (∀ t ∈ looks g o, Knows G a w t) →
  ∀ K : Act → World → Prop, (∀ v w', S w w' → W (upd L i) (a.put o.dst v) w' → Gd G o.dst v w' → K (a.put o.dst v) w') →
   match g with
   | none => o.wp P a w K Q
   | some (t, b) => if says b a.tmps[t]? = true then o.wp P a w K Q else K (a.put o.dst undef) w

inductive ObsA (P : Program) (Q : Exit → Act → World → Prop) (S : World → World → Prop) (W : (Nat → Bool) → Act → World → Prop) (G : Tmp → Value → World → Prop) (ops : Array Oper) : Nat → List Oper → Prop
 | nil {n : Nat} : ObsA P Q S W G ops n []
 | cons {n : Nat} {o : Oper} {l : List Oper} (g : Option (Tmp × Bool)) (hg : gSlot ops o = g) (h : ObA P Q S W G n g o) (hs : ObsA P Q S W G ops (n + 1) l) : ObsA P Q S W G ops n (o :: l)

section
variable {P : Program} {ops : Array Oper} {Q : Exit → Act → World → Prop} {S : World → World → Prop} {W : (Nat → Bool) → Act → World → Prop} {G : Tmp → Value → World → Prop} {a0 : Act} {ds : List Tmp}

theorem ObsA.all {n : Nat} {l : List Oper} (h : ObsA P Q S W G ops n l) : ∀ (i : Nat) (o : Oper), l[i]? = some o → ObA P Q S W G (n + i) (gSlot ops o) o := by
 induction h with
 | nil => intro i o ho; simp at ho
 | @cons k _ _ g hg h hs ih =>
  intro i o ho
  cases i with
  | zero =>
   simp only [List.getElem?_cons_zero, Option.some.injEq] at ho
   subst ho
   rw [hg]
   exact h
  | succ i =>
   simp only [List.getElem?_cons_succ] at ho
   have := ih i o ho
   rwa [show k + 1 + i = k + (i + 1) from by omega] at this

structure RegInvA (ops : Array Oper) (W : (Nat → Bool) → Act → World → Prop) (G : Tmp → Value → World → Prop) (a0 : Act) (listed : Array Bool) (a : Act) (w : World) : Prop where
 len : listed.size = ops.size
 world : W (fun j => listed.getD j false) a w
 defers : a.defers = a0.defers
 size : a.tmps.size = a0.tmps.size
 same : ∀ t, (∀ (i : Nat) (o : Oper), ops[i]? = some o → o.dst ≠ some t) → a.tmps[t]? = a0.tmps[t]?
 known : ∀ (i : Nat) (o : Oper) (t : Tmp), ops[i]? = some o → listed.getD i false = true → o.dst = some t → Knows G a w t
 outs : ∀ t ∈ outsOf ops (dstsOf ops.toList), Knows G a0 w t

theorem region_goA (hds : dstsOf ops.toList = ds) (hnd : ds.Nodup)
  (hok : ∀ (i : Nat) (o : Oper), ops[i]? = some o → (o.guard.isSome = true → (gSlot ops o).isSome = true) ∧ (∀ e ∈ o.after, Region.binds .any e = true → e.on < i) ∧
   (∀ t ∈ looks (gSlot ops o) o, t ∈ ds → ∃ e ∈ o.after, Region.binds .any e = true ∧ (ops[e.on]?).bind (·.dst) = some t))
  (hG : ∀ t v w w', S w w' → G t v w → G t v w')
  (hsize : ∀ t ∈ ds, t < a0.tmps.size)
  (hobs : ∀ (i : Nat) (o : Oper), ops[i]? = some o → ObA P Q S W G i (gSlot ops o) o)
  (hfin : ∀ L a w, (∀ i, i < ops.size → L i = true) → W L a w → a.defers = a0.defers → a.tmps.size = a0.tmps.size → (∀ t, t ∉ ds → a.tmps[t]? = a0.tmps[t]?) → (∀ t ∈ ds, Knows G a w t) → Q .normal a w) :
  ∀ (fuel : Nat) (listed : Array Bool) (a : Act) (w : World), unlisted ops.size listed ≤ fuel → RegInvA ops W G a0 listed a w → wpAny P .any ops Q fuel listed a w := by
 have hend : ∀ (listed : Array Bool) (a : Act) (w : World), Region.ready .any ops listed = [] → RegInvA ops W G a0 listed a w → Q .normal a w := by
  intro listed a w hr hi
  have hall : ∀ (i : Nat), i < ops.size → listed.getD i false = true := by
   intro i
   induction i using Nat.strongRecOn with
   | ind i ih =>
    intro hlt
    refine Decidable.byContradiction fun hne => ?_
    have hmem : i ∈ Region.ready .any ops listed := by
     rw [mem_ready]
     refine ⟨?_, ops[i], Array.getElem?_eq_getElem hlt, fun e he hb => ?_⟩
     ·have h1 : i < listed.size := by rw [hi.len]; exact hlt
      simp [h1] at hne ⊢
      exact hne
     ·have := (hok i _ (Array.getElem?_eq_getElem hlt)).2.1 e he hb
      exact ih e.on this (by omega)
    rw [hr] at hmem
    cases hmem
  refine hfin (fun j => listed.getD j false) a w hall hi.world hi.defers hi.size (fun t ht => hi.same t fun i o ho hd => ht (mem_ds hds ho hd)) (fun t ht => ?_)
  obtain ⟨i, o, ho, hd⟩ := of_mem_ds hds ht
  exact hi.known i o t ho (hall i (Array.getElem?_eq_some_iff.1 ho).1) hd
 have hzero : ∀ (listed : Array Bool), unlisted ops.size listed = 0 → listed.size = ops.size → Region.ready .any ops listed = [] := by
  intro listed h0 hlen
  refine List.eq_nil_iff_forall_not_mem.2 fun i hi => ?_
  obtain ⟨h1, o, ho, _⟩ := mem_ready.1 hi
  have hlt := (Array.getElem?_eq_some_iff.1 ho).1
  have := List.countP_eq_zero.1 h0 i (List.mem_range.2 hlt)
  have h2 : i < listed.size := by omega
  simp [h2] at h1 this
  rw [h1] at this
  cases this
 intro fuel
 induction fuel with
 | zero =>
  intro listed a w hu hi
  have hr := hzero listed (by omega) hi.len
  exact ⟨hr, hend listed a w hr hi⟩
 | succ fuel ih =>
  intro listed a w hu hi
  refine ⟨fun hr => hend listed a w hr hi, fun i hir => ?_⟩
  obtain ⟨hun, o, ho, hpre⟩ := mem_ready.1 hir
  obtain ⟨hok1, hok2, hok3⟩ := hok i o ho
  have hilt := (Array.getElem?_eq_some_iff.1 ho).1
  have hilt' : i < listed.size := by rw [hi.len]; exact hilt
  have hun' : listed.getD i false = false := by
   simp [hilt'] at hun ⊢
   exact hun
  have hkn : ∀ t ∈ looks (gSlot ops o) o, Knows G a w t := by
   intro t ht
   by_cases hin : t ∈ ds
   ·obtain ⟨e, he, hb, hd⟩ := hok3 t ht hin
    cases hoe : ops[e.on]? with
    | none => rw [hoe] at hd; cases hd
    | some p => rw [hoe] at hd; exact hi.known e.on p t hoe (hpre e he hb) hd
   ·obtain ⟨v, hv, hg⟩ := hi.outs t (by
     unfold outsOf
     refine List.mem_filter.2 ⟨List.mem_flatMap.2 ⟨o, Array.mem_toList_iff.2 (Array.mem_of_getElem? ho), ht⟩, ?_⟩
     rw [hds]
     simpa using hin)
    exact ⟨v, (hi.same t fun j p hj hd => hin (mem_ds hds hj hd)).trans hv, hg⟩
  have hK : ∀ v w', S w w' → W (upd (fun j => listed.getD j false) i) (a.put o.dst v) w' → Gd G o.dst v w' → wpAny P .any ops Q fuel (listed.setIfInBounds i true) (a.put o.dst v) w' := by
   intro v w' hR hW hg
   refine ih _ _ _ ?_ ⟨by simpa using hi.len, by rw [← upd_listed hilt']; exact hW, ?_, ?_, ?_, ?_, ?_⟩
   ·have : unlisted ops.size (listed.setIfInBounds i true) < unlisted ops.size listed := by
     refine countP_lt (fun j hj => ?_) _ i (List.mem_range.2 hilt) ?_ ?_
     ·by_cases hji : i = j
      ·subst hji
       simp [hilt'] at hj
      ·rw [getD_set_ne false hji] at hj
       exact hj
     ·simp [hilt'] at hun ⊢
      exact hun
     ·simp [hilt']
    omega
   ·cases o.dst <;> exact hi.defers
   ·cases o.dst with
    | none => exact hi.size
    | some d => simpa [Act.put] using hi.size
   ·intro t ht
    rw [← hi.same t ht]
    cases hd : o.dst with
    | none => rfl
    | some d =>
     have : d ≠ t := fun e => ht i o ho (e ▸ hd)
     simp [Act.put, Array.getElem?_setIfInBounds_ne this]
   ·intro j p t hj hl hd
    by_cases hji : i = j
    ·subst hji
     rw [ho] at hj
     cases hj
     rw [hd] at hg ⊢
     refine ⟨v, ?_, hg⟩
     have hlt : t < a.tmps.size := by rw [hi.size]; exact hsize t (mem_ds hds ho hd)
     simp [Act.put, hlt]
    ·rw [getD_set_ne false hji] at hl
     obtain ⟨u, hu1, hu2⟩ := hi.known j p t hj hl hd
     refine ⟨u, ?_, hG _ _ _ _ hR hu2⟩
     cases hod : o.dst with
     | none => exact hu1
     | some d =>
      have hdt : d ≠ t := fun e => hji (nodup_dst ops.toList (by rw [hds]; exact hnd) i j o p t (by simpa using ho) (by simpa using hj) (e ▸ hod) hd)
      simp [Act.put, Array.getElem?_setIfInBounds_ne hdt, hu1]
   ·intro t ht
    obtain ⟨u, hu1, hu2⟩ := hi.outs t ht
    exact ⟨u, hu1, hG _ _ _ _ hR hu2⟩
  have hOb := hobs i o ho (fun j => listed.getD j false) a w hun' (fun e he hb => hpre e he hb) hi.world hkn _ hK
  unfold wpOp
  simp only [ho]
  rw [wanted_of hok1]
  cases hgs : gSlot ops o with
  | none =>
   rw [hgs] at hOb
   simp only [if_true]
   exact .inl hOb
  | some tb =>
   obtain ⟨t, b⟩ := tb
   rw [hgs] at hOb
   simp only at hOb ⊢
   split at hOb
   ·rename_i h; rw [if_pos h]; exact .inl hOb
   ·rename_i h; rw [if_neg h]; exact hOb

/-- The rule with a state. -/
theorem wp_region_stateA {id : Nat} {l : List Oper} {w0 : World} (S : World → World → Prop) (W : (Nat → Bool) → Act → World → Prop) (G : Tmp → Value → World → Prop) (ds outs : List Tmp) (hm : P.follows .mixedOrders = true) (hok : regOk l.toArray ds = true)
  (hW : W (fun _ => false) a0 w0.drew) (hG : ∀ t v w w', S w w' → G t v w → G t v w')
  (hsize : (ds.all fun t => decide (t < a0.tmps.size)) = true) (houts : ((outsOf l.toArray ds).all fun t => outs.contains t) = true)
  (hstart : ∀ t ∈ outs, Knows G a0 w0.drew t)
  (hobs : ObsA P Q S W G l.toArray 0 l)
  (hfin : ∀ (L : Nat → Bool) (vals : Tmp → Value) (w : World), (∀ i, i < l.length → L i = true) → W L ⟨putAll vals ds a0.tmps, a0.defers⟩ w → (∀ t ∈ ds, G t (vals t) w) → Q .normal ⟨putAll vals ds a0.tmps, a0.defers⟩ w) :
  (Code.region id l.toArray true).wp P Q a0 w0 := by
 obtain ⟨h1, h2, h3⟩ := regOk_spec hok
 have hsz : ∀ t ∈ ds, t < a0.tmps.size := fun t ht => by simpa using List.all_eq_true.1 hsize t ht
 refine wp_region_any hm (region_goA (S := S) (W := W) (G := G) (a0 := a0) h1 h2 h3 hG hsz (fun i o ho => by have := hobs.all i o (by simpa using ho); rwa [Nat.zero_add] at this) ?_ _ _ _ _ ?_ ⟨by simp, ?_, rfl, rfl, fun _ _ => rfl, fun i o t ho hl hd => ?_, fun t ht => ?_⟩)
 ·intro L a w hL hR hd hs hsame hkn
  have e : a = ⟨putAll (fun t => a.tmps.getD t undef) ds a0.tmps, a0.defers⟩ := by
   obtain ⟨tm, df⟩ := a
   simp only at hd hs hsame hkn ⊢
   rw [hd]
   congr 1
   refine Array.ext' ?_
   refine List.ext_getElem? fun t => ?_
   rw [Array.getElem?_toList, Array.getElem?_toList]
   by_cases ht : t ∈ ds
   ·rw [putAll_in _ ds _ t h2 ht (hsz t ht)]
    obtain ⟨v, hv, _⟩ := hkn t ht
    rw [hv, Array.getD_eq_getD_getElem?, hv]
    rfl
   ·rw [putAll_out _ ds _ t ht]
    exact hsame t ht
  have hR2 := hR
  rw [e] at hR2 ⊢
  exact hfin L (fun t => a.tmps.getD t undef) w (by simpa using hL) hR2 (fun t ht => by
   obtain ⟨v, hv, hg⟩ := hkn t ht
   have : a.tmps.getD t undef = v := by
    rw [Array.getD_eq_getD_getElem?, hv]
    rfl
   rw [this]
   exact hg)
 ·unfold unlisted
  refine Nat.le_trans List.countP_le_length ?_
  simp
 ·have : (fun j => (Array.replicate l.toArray.size false).getD j false) = fun _ => false := by
   funext j
   rw [Array.getD_eq_getD_getElem?, Array.getElem?_replicate]
   split <;> rfl
  rw [this]
  exact hW
 ·simp [Array.getElem?_replicate] at hl
  split at hl <;> simp at hl
 ·rw [h1] at ht
  have h4 := List.all_eq_true.1 houts t ht
  exact hstart t (by simpa using h4)

end

end Go.Proofs.Ytjaplnainlbldaa

/- A region that draws its order, whose last operation writes and leans on all that read: what is so amid it. -/
namespace Go.Proofs.Ytjaplnainlbldaa
open Go.RowKit

/-- Till operation n has come up nothing that was there is turned, and it comes behind the first m; then F is so. -/
structure LastW (n m : Nat) (w0 : World) (F : World → Prop) (L : Nat → Bool) (w : World) : Prop where
 all : L n = true → ∀ j, j < m → L j = true
 pre : L n = false → Chg (fun _ => False) w0 w
 post : L n = true → F w

theorem LastW.start (n m : Nat) (w0 : World) (F : World → Prop) {w : World} (h : Chg (fun _ => False) w0 w) : LastW n m w0 F (fun _ => false) w := ⟨fun h => (by cases h), fun _ => h, fun h => (by cases h)⟩

theorem LastW.not {n m : Nat} {w0 : World} {F : World → Prop} {L : Nat → Bool} {w : World} (h : LastW n m w0 F L w) {j : Nat} (hj : j < m) (hl : L j = false) : L n = false := by
 cases hn : L n with
 | false => rfl
 | true => rw [h.all hn j hj] at hl; cases hl

theorem LastW.early {n m : Nat} {w0 : World} {F : World → Prop} {L : Nat → Bool} {w : World} (h : LastW n m w0 F L w) {j : Nat} (hj : j < m) (hl : L j = false) : Chg (fun _ => False) w0 w := h.pre (h.not hj hl)

theorem LastW.step {n m : Nat} {w0 : World} {F : World → Prop} {L : Nat → Bool} {w w' : World} (h : LastW n m w0 F L w) {j : Nat} (hj : j < m ∧ j ≠ n) (hl : L j = false) (hc : Chg (fun _ => False) w w') : LastW n m w0 F (upd L j) w' := by
 have hn := h.not hj.1 hl
 have e : upd L j n = false := by unfold upd; rw [if_neg (fun e => hj.2 e.symm)]; exact hn
 exact ⟨fun h' => (by rw [e] at h'; cases h'), fun _ => (h.pre hn).trans hc (fun _ _ h => h), fun h' => (by rw [e] at h'; cases h')⟩

theorem LastW.last {n m : Nat} {w0 : World} {F : World → Prop} {L : Nat → Bool} {w w' : World} (_ : LastW n m w0 F L w) (hall : ∀ j, j < m → L j = true) (hf : F w') : LastW n m w0 F (upd L n) w' := by
 have e : upd L n n = true := by unfold upd; rw [if_pos rfl]
 refine ⟨fun _ i hi => ?_, fun h' => (by rw [e] at h'; cases h'), fun _ => hf⟩
 unfold upd
 split
 ·rfl
 ·exact hall i hi
end Go.Proofs.Ytjaplnainlbldaa

/- A rule for a region that draws its order, with a state: where an operation has come up, all that it leans on have. -/
namespace Go.Proofs.Ytjaplnainlbldaa
open Go.RowKit

/-- Where an operation has come up, those that it leans on have. -/
def ClosedL (ops : Array Oper) (L : Nat → Bool) : Prop := ∀ (i : Nat) (o : Oper), ops[i]? = some o → L i = true → ∀ e ∈ o.after, Region.binds .any e = true → L e.on = true

theorem ClosedL.upd {ops : Array Oper} {L : Nat → Bool} (h : ClosedL ops L) {i : Nat} {o : Oper} (ho : ops[i]? = some o) (he : ∀ e ∈ o.after, Region.binds .any e = true → L e.on = true) : ClosedL ops (upd L i) := by
 have mono : ∀ j, L j = true → Proofs.Ytjaplnainlbldaa.upd L i j = true := fun j hj => by
  unfold Proofs.Ytjaplnainlbldaa.upd
  split
  ·rfl
  ·exact hj
 intro j p hp hj e hep hb
 by_cases hji : j = i
 ·subst hji
  rw [ho] at hp
  cases hp
  exact mono _ (he e hep hb)
 ·refine mono _ (h j p hp ?_ e hep hb)
  unfold Proofs.Ytjaplnainlbldaa.upd at hj
  rwa [if_neg hji] at hj

def ObD (P : Program) (Q : Exit → Act → World → Prop) (S : World → World → Prop) (W : (Nat → Bool) → World → Prop) (G : Tmp → Value → World → Prop) (ops : Array Oper) (i : Nat) (g : Option (Tmp × Bool)) (o : Oper) : Prop :=
 ∀ (L : Nat → Bool) (a : Act) (w : World), L i = false → (∀ e ∈ o.after, Region.binds .any e = true → L e.on = true) → ClosedL ops L → W L w → (∀ t ∈ looks g o, Knows G a w t) →
  ∀ K : Act → World → Prop, (∀ v w', S w w' → W (upd L i) w' → Gd G o.dst v w' → K (a.put o.dst v) w') →
   match g with
   | none => o.wp P a w K Q
   | some (t, b) => if says b a.tmps[t]? = true then o.wp P a w K Q else K (a.put o.dst undef) w

inductive ObsD (P : Program) (Q : Exit → Act → World → Prop) (S : World → World → Prop) (W : (Nat → Bool) → World → Prop) (G : Tmp → Value → World → Prop) (ops : Array Oper) : Nat → List Oper → Prop
 | nil {n : Nat} : ObsD P Q S W G ops n []
 | cons {n : Nat} {o : Oper} {l : List Oper} (g : Option (Tmp × Bool)) (hg : gSlot ops o = g) (h : ObD P Q S W G ops n g o) (hs : ObsD P Q S W G ops (n + 1) l) : ObsD P Q S W G ops n (o :: l)

theorem ObsD.toL {P : Program} {Q : Exit → Act → World → Prop} {S : World → World → Prop} {W : (Nat → Bool) → World → Prop} {G : Tmp → Value → World → Prop} {ops : Array Oper} {n : Nat} {l : List Oper} (h : ObsD P Q S W G ops n l) :
  (∀ (k : Nat) (o : Oper), l[k]? = some o → ops[n + k]? = some o) → ObsL P Q S (fun L w => ClosedL ops L ∧ W L w) G ops n l := by
 induction h with
 | nil => exact fun _ => ObsL.nil
 | @cons n o l g hg h hs ih =>
  intro hl
  have ho : ops[n]? = some o := hl 0 o rfl
  refine ObsL.cons g hg ?_ (ih (fun k p hk => ?_))
  ·intro L a w hi he hW hk K hK
   exact h L a w hi he hW.1 hW.2 hk K (fun v w' h1 h2 h3 => hK v w' h1 ⟨hW.1.upd ho he, h2⟩ h3)
  ·rw [show n + 1 + k = n + (k + 1) from by omega]
   exact hl (k + 1) p hk

theorem wp_region_stateD {P : Program} {Q : Exit → Act → World → Prop} {id : Nat} {l : List Oper} {w0 : World} {a0 : Act} (S : World → World → Prop) (W : (Nat → Bool) → World → Prop) (G : Tmp → Value → World → Prop) (ds outs : List Tmp) (hm : P.follows .mixedOrders = true) (hok : regOk l.toArray ds = true)
  (hW : W (fun _ => false) w0.drew) (hG : ∀ t v w w', S w w' → G t v w → G t v w')
  (hsize : (ds.all fun t => decide (t < a0.tmps.size)) = true) (houts : ((outsOf l.toArray ds).all fun t => outs.contains t) = true)
  (hstart : ∀ t ∈ outs, Knows G a0 w0.drew t)
  (hobs : ObsD P Q S W G l.toArray 0 l)
  (hfin : ∀ (L : Nat → Bool) (vals : Tmp → Value) (w : World), (∀ i, i < l.length → L i = true) → W L w → (∀ t ∈ ds, G t (vals t) w) → Q .normal ⟨putAll vals ds a0.tmps, a0.defers⟩ w) :
  (Code.region id l.toArray true).wp P Q a0 w0 :=
 wp_region_state S (fun L w => ClosedL l.toArray L ∧ W L w) G ds outs hm hok ⟨fun _ _ _ h => (by cases h), hW⟩ hG hsize houts hstart (hobs.toL (fun k o hk => by rw [Nat.zero_add]; simpa using hk)) (fun L vals w h1 h2 h3 => hfin L vals w h1 h2.2 h3)

theorem ObD.plain {P : Program} {Q : Exit → Act → World → Prop} {S : World → World → Prop} {W : (Nat → Bool) → World → Prop} {G : Tmp → Value → World → Prop} {ops : Array Oper} {i : Nat} {o : Oper}
  (h : ∀ (L : Nat → Bool) (a : Act) (w : World), L i = false → (∀ e ∈ o.after, Region.binds .any e = true → L e.on = true) → ClosedL ops L → W L w → (∀ t ∈ looks none o, Knows G a w t) →
   ∀ K : Act → World → Prop, (∀ v w', S w w' → W (upd L i) w' → Gd G o.dst v w' → K (a.put o.dst v) w') → o.wp P a w K Q) : ObD P Q S W G ops i none o := h

/-- Does each operation ahead of n have one behind it, up to n? -/
def behindOk (ops : Array Oper) (n : Nat) : Bool :=
 (List.range n).all fun j => (List.range (n + 1)).any fun i => decide (j < i) && match ops[i]? with
  | none => false
  | some o => o.after.any fun e => Region.binds .any e && e.on == j

theorem behind_all {ops : Array Oper} {L : Nat → Bool} {n : Nat} {o : Oper} (hc : ClosedL ops L) (ho : ops[n]? = some o) (he : ∀ e ∈ o.after, Region.binds .any e = true → L e.on = true) (hb : behindOk ops n = true) : ∀ j, j < n → L j = true := by
 have key : ∀ d j, n - j ≤ d → j < n → L j = true := by
  intro d
  induction d with
  | zero => intro j h1 h2; omega
  | succ d ih =>
   intro j h1 h2
   have h3 := List.all_eq_true.1 hb j (List.mem_range.2 h2)
   obtain ⟨i, hi, h4⟩ := List.any_eq_true.1 h3
   simp only [Bool.and_eq_true, decide_eq_true_eq] at h4
   obtain ⟨hji, h5⟩ := h4
   have hin : i ≤ n := by have := List.mem_range.1 hi; omega
   cases hop : ops[i]? with
   | none => rw [hop] at h5; cases h5
   | some p =>
    rw [hop] at h5
    simp only [Array.any_eq_true, Bool.and_eq_true, beq_iff_eq] at h5
    obtain ⟨q, hq, h6, h7⟩ := h5
    have hm : p.after[q] ∈ p.after := Array.getElem_mem hq
    rw [← h7]
    by_cases e : i = n
    ·subst e
     rw [ho] at hop
     cases hop
     exact he _ hm h6
    ·exact hc i p hop (ih i (by omega) (by omega)) _ hm h6
 exact fun j hj => key (n - j) j (Nat.le_refl _) hj
end Go.Proofs.Ytjaplnainlbldaa

/- The rule for a region that draws its order, with a state that hangs on the slots too, where all that an operation leans on has come up; and states for two writers, one behind the other. -/
namespace Go.Proofs.Ytjaplnainlbldaa
open Go.RowKit

def ObAD (P : Program) (Q : Exit → Act → World → Prop) (S : World → World → Prop) (W : (Nat → Bool) → Act → World → Prop) (G : Tmp → Value → World → Prop) (ops : Array Oper) (i : Nat) (g : Option (Tmp × Bool)) (o : Oper) : Prop :=
 ∀ (L : Nat → Bool) (a : Act) (w : World), L i = false → (∀ e ∈ o.after, Region.binds .any e = true → L e.on = true) → ClosedL ops L → W L a w → (∀ t ∈ looks g o, Knows G a w t) →
  ∀ K : Act → World → Prop, (∀ v w', S w w' → W (upd L i) (a.put o.dst v) w' → Gd G o.dst v w' → K (a.put o.dst v) w') →
   match g with
   | none => o.wp P a w K Q
   | some (t, b) => if says b a.tmps[t]? = true then o.wp P a w K Q else K (a.put o.dst undef) w

inductive ObsAD (P : Program) (Q : Exit → Act → World → Prop) (S : World → World → Prop) (W : (Nat → Bool) → Act → World → Prop) (G : Tmp → Value → World → Prop) (ops : Array Oper) : Nat → List Oper → Prop
 | nil {n : Nat} : ObsAD P Q S W G ops n []
 | cons {n : Nat} {o : Oper} {l : List Oper} (g : Option (Tmp × Bool)) (hg : gSlot ops o = g) (h : ObAD P Q S W G ops n g o) (hs : ObsAD P Q S W G ops (n + 1) l) : ObsAD P Q S W G ops n (o :: l)

theorem ObsAD.toA {P : Program} {Q : Exit → Act → World → Prop} {S : World → World → Prop} {W : (Nat → Bool) → Act → World → Prop} {G : Tmp → Value → World → Prop} {ops : Array Oper} {n : Nat} {l : List Oper} (h : ObsAD P Q S W G ops n l) :
  (∀ (k : Nat) (o : Oper), l[k]? = some o → ops[n + k]? = some o) → ObsA P Q S (fun L a w => ClosedL ops L ∧ W L a w) G ops n l := by
 induction h with
 | nil => exact fun _ => ObsA.nil
 | @cons n o l g hg h hs ih =>
  intro hl
  have ho : ops[n]? = some o := hl 0 o rfl
  refine ObsA.cons g hg ?_ (ih (fun k p hk => ?_))
  ·intro L a w hi he hW hk K hK
   exact h L a w hi he hW.1 hW.2 hk K (fun v w' h1 h2 h3 => hK v w' h1 ⟨hW.1.upd ho he, h2⟩ h3)
  ·rw [show n + 1 + k = n + (k + 1) from by omega]
   exact hl (k + 1) p hk

theorem wp_region_stateAD {P : Program} {Q : Exit → Act → World → Prop} {id : Nat} {l : List Oper} {w0 : World} {a0 : Act} (S : World → World → Prop) (W : (Nat → Bool) → Act → World → Prop) (G : Tmp → Value → World → Prop) (ds outs : List Tmp) (hm : P.follows .mixedOrders = true) (hok : regOk l.toArray ds = true)
  (hW : W (fun _ => false) a0 w0.drew) (hG : ∀ t v w w', S w w' → G t v w → G t v w')
  (hsize : (ds.all fun t => decide (t < a0.tmps.size)) = true) (houts : ((outsOf l.toArray ds).all fun t => outs.contains t) = true)
  (hstart : ∀ t ∈ outs, Knows G a0 w0.drew t)
  (hobs : ObsAD P Q S W G l.toArray 0 l)
  (hfin : ∀ (L : Nat → Bool) (vals : Tmp → Value) (w : World), (∀ i, i < l.length → L i = true) → W L ⟨putAll vals ds a0.tmps, a0.defers⟩ w → (∀ t ∈ ds, G t (vals t) w) → Q .normal ⟨putAll vals ds a0.tmps, a0.defers⟩ w) :
  (Code.region id l.toArray true).wp P Q a0 w0 :=
 wp_region_stateA S (fun L a w => ClosedL l.toArray L ∧ W L a w) G ds outs hm hok ⟨fun _ _ _ h => (by cases h), hW⟩ hG hsize houts hstart (hobs.toA (fun k o hk => by rw [Nat.zero_add]; simpa using hk)) (fun L vals w h1 h2 h3 => hfin L vals w h1 h2.2 h3)

theorem ObAD.plain {P : Program} {Q : Exit → Act → World → Prop} {S : World → World → Prop} {W : (Nat → Bool) → Act → World → Prop} {G : Tmp → Value → World → Prop} {ops : Array Oper} {i : Nat} {o : Oper}
  (h : ∀ (L : Nat → Bool) (a : Act) (w : World), L i = false → (∀ e ∈ o.after, Region.binds .any e = true → L e.on = true) → ClosedL ops L → W L a w → (∀ t ∈ looks none o, Knows G a w t) →
   ∀ K : Act → World → Prop, (∀ v w', S w w' → W (upd L i) (a.put o.dst v) w' → Gd G o.dst v w' → K (a.put o.dst v) w') → o.wp P a w K Q) : ObAD P Q S W G ops i none o := h

theorem upd_self (L : Nat → Bool) (i : Nat) : upd L i i = true := by unfold upd; rw [if_pos rfl]
theorem upd_ne {L : Nat → Bool} {i j : Nat} (h : j ≠ i) : upd L i j = L j := by unfold upd; rw [if_neg h]
theorem upd_mono {L : Nat → Bool} {i j : Nat} (h : L j = true) : upd L i j = true := by
 by_cases e : j = i
 ·rw [e]; exact upd_self _ _
 ·rw [upd_ne e]; exact h

theorem put_tmps {a : Act} {d : Option Tmp} {v u : Value} {t : Tmp} (h : a.tmps[t]? = some u) (hd : d ≠ some t) : (a.put d v).tmps[t]? = some u := by
 cases d with
 | none => exact h
 | some s =>
  have : s ≠ t := fun e => hd (by rw [e])
  simp [Act.put, Array.getElem?_setIfInBounds_ne this, h]
theorem put_size (a : Act) (d : Option Tmp) (v : Value) : (a.put d v).tmps.size = a.tmps.size := by
 cases d with
 | none => rfl
 | some s => simp [Act.put]

/-- Operation m writes and its slot t tells what; operation n writes behind all that stand ahead of it. F0, F1, F2: what holds ahead of m, between them, and behind n. -/
structure Duo (m n : Nat) (t : Tmp) (F0 : World → Prop) (F1 : Value → World → Prop) (F2 : World → Prop) (L : Nat → Bool) (a : Act) (w : World) : Prop where
 size : t < a.tmps.size
 all : L n = true → ∀ j, j < n → L j = true
 p0 : L m = false → F0 w
 p1 : L m = true → L n = false → ∃ v, a.tmps[t]? = some v ∧ F1 v w
 p2 : L n = true → F2 w

section
variable {m n : Nat} {t : Tmp} {F0 : World → Prop} {F1 : Value → World → Prop} {F2 : World → Prop} {L : Nat → Bool} {a : Act} {w w' : World}

theorem Duo.start (hs : t < a.tmps.size) (h : F0 w) : Duo m n t F0 F1 F2 (fun _ => false) a w := ⟨hs, fun h => (by cases h), fun _ => h, fun h => (by cases h), fun h => (by cases h)⟩

theorem Duo.not (h : Duo m n t F0 F1 F2 L a w) {j : Nat} (hj : j < n) (hl : L j = false) : L n = false := by
 cases hn : L n with
 | false => rfl
 | true => rw [h.all hn j hj] at hl; cases hl

/-- What holds ahead of n, whether m has come up or not. -/
theorem Duo.early (h : Duo m n t F0 F1 F2 L a w) {j : Nat} (hj : j < n) (hl : L j = false) {B : World → Prop} (h0 : ∀ w, F0 w → B w) (h1 : ∀ v w, F1 v w → B w) : B w := by
 have hn := h.not hj hl
 cases hm : L m with
 | false => exact h0 _ (h.p0 hm)
 | true => obtain ⟨v, _, hv⟩ := h.p1 hm hn; exact h1 _ _ hv

theorem Duo.step (h : Duo m n t F0 F1 F2 L a w) {j : Nat} {d : Option Tmp} (v : Value) (hj : j ≠ m ∧ j ≠ n ∧ d ≠ some t) (hc : Chg (fun _ => False) w w') (k0 : ∀ w w', F0 w → Chg (fun _ => False) w w' → F0 w') (k1 : ∀ u w w', F1 u w → Chg (fun _ => False) w w' → F1 u w') (k2 : ∀ w w', F2 w → Chg (fun _ => False) w w' → F2 w') :
  Duo m n t F0 F1 F2 (upd L j) (a.put d v) w' := by
 obtain ⟨j1, j2, j3⟩ := hj
 have em : upd L j m = L m := upd_ne (fun e => j1 e.symm)
 have en : upd L j n = L n := upd_ne (fun e => j2 e.symm)
 refine ⟨by rw [put_size]; exact h.size, fun hn i hi => upd_mono (h.all (by rw [← en]; exact hn) i hi), fun hm => k0 _ _ (h.p0 (by rw [← em]; exact hm)) hc, fun hm hn => ?_, fun hn => k2 _ _ (h.p2 (by rw [← en]; exact hn)) hc⟩
 obtain ⟨u, h1, h2⟩ := h.p1 (by rw [← em]; exact hm) (by rw [← en]; exact hn)
 exact ⟨u, put_tmps h1 j3, k1 _ _ _ h2 hc⟩

theorem Duo.first (h : Duo m n t F0 F1 F2 L a w) (hmn : m < n) (hl : L m = false) {v : Value} (hF : F1 v w') : Duo m n t F0 F1 F2 (upd L m) (a.put (some t) v) w' := by
 have hn := h.not hmn hl
 have en : upd L m n = L n := upd_ne (by omega)
 refine ⟨by rw [put_size]; exact h.size, fun h' => (by rw [en, hn] at h'; cases h'), fun h' => (by rw [upd_self] at h'; cases h'), fun _ _ => ⟨v, ?_, hF⟩, fun h' => (by rw [en, hn] at h'; cases h')⟩
 simp [Act.put, h.size]

theorem Duo.second (h : Duo m n t F0 F1 F2 L a w) (hmn : m < n) (hall : ∀ j, j < n → L j = true) {d : Option Tmp} {v : Value} (hF : F2 w') : Duo m n t F0 F1 F2 (upd L n) (a.put d v) w' := by
 refine ⟨by rw [put_size]; exact h.size, fun _ j hj => upd_mono (hall j hj), fun h' => ?_, fun _ h' => (by rw [upd_self] at h'; cases h'), fun _ => hF⟩
 rw [upd_mono (hall m hmn)] at h'
 cases h'
end
end Go.Proofs.Ytjaplnainlbldaa

/- What the program's check knows, as it lies in memory. -/
namespace Go.Proofs.Ytjaplnainlbldaa
open Go.RowKit Go.Maps

theorem Chg.none9 {S : Nat → Prop} {w w' : World} (h : Chg (fun _ => False) w w') : Chg S w w' := h.mono (fun _ _ h => h.elim)

/-- What a block is for. -/
inductive KTag
 | top
 | at
 | of
 | row
 | role (r : RoleB)

def intsK (ps : List Nat) : List Value := ps.map (fun (i : Nat) => Value.int .i64 i)
/-- A row of places of the call's own. -/
def OwnI (B : Nat) (w : World) (v : Value) (ps : List Nat) : Prop := w.ownsRow B 3 1 v ps.length (intsK ps)
theorem intsK_snoc (ps : List Nat) (i : Nat) : intsK (ps ++ [i]) = intsK ps ++ [.int .i64 (i : Nat)] := by simp [intsK]
theorem OwnI.keep {S : Nat → Prop} {B : Nat} {w w' : World} {v : Value} {ps : List Nat} (h : OwnI B w v ps) (hc : Chg S w w') (hr : ∀ k, v.ownBlock = some k → ¬ S k) : OwnI B w' v ps := ownsRow_keep h hc hr
theorem OwnI.nil (B : Nat) (w : World) : OwnI B w (.slice none 0 0) [] := World.ownsRow_nil _ _ _ _
theorem OwnI.shape {B : Nat} {w : World} {v : Value} {ps : List Nat} (h : OwnI B w v ps) : ∃ ao cap, v = .slice ao ps.length cap := by
 rcases h.2 with ⟨rfl, h0⟩ | ⟨g, cap, cur, rfl, _⟩
 ·exact ⟨none, 0, by rw [h0]⟩
 ·exact ⟨_, _, rfl⟩
theorem OwnI.blt {B : Nat} {w : World} {v : Value} {ps : List Nat} (h : OwnI B w v ps) {k : Nat} (hk : v.ownBlock = some k) : B ≤ k ∧ k < w.heap.size := by
 rcases h.2 with ⟨hx', _⟩ | ⟨g, cap', cur, hx', hg, hh, _⟩
 ·rw [hx'] at hk; cases hk
 ·have hk2 : g = k := by rw [hx'] at hk; simpa [Value.ownBlock] using hk
  subst hk2
  exact ⟨hg, lt_blk hh⟩
/-- The places of a row, cell by cell. -/
theorem OwnI.cells {B : Nat} {w : World} {ao : Option Addr} {n cap : Nat} {ps : List Nat} (h : OwnI B w (.slice ao n cap) ps) {i : Nat} (hi : i < ps.length) : ∃ b, ao = some ⟨b, 0, none⟩ ∧ w.cell? ⟨b, i, none⟩ = some (.int .i64 (ps[i] : Nat)) ∧ w.frozen? ⟨b, i, none⟩ = false := by
 rcases h.2 with ⟨hx, h0⟩ | ⟨g, cap', cur, hx, _, hh, h1, h2, h3, h4⟩
 ·omega
 ·cases hx
  refine ⟨g, rfl, ?_, froz_blk hh i⟩
  rw [cell_blk hh i, ← Array.getElem?_toList]
  have e : (cur.toList.take (ps.length * 1))[i]? = (intsK ps)[i]? := by rw [h4]
  rw [List.getElem?_take_of_lt (by omega)] at e
  rw [e, intsK, List.getElem?_map, List.getElem?_eq_getElem hi]
  rfl

def atF (F : List FactB) : FactB → Option Value := fun f => if f ∈ F then some (.int .i64 (F.idxOf f : Nat)) else none
theorem atF_some (F : List FactB) (f : FactB) : (atF F f).isSome = decide (f ∈ F) := by unfold atF; split <;> simp_all
theorem atF_snoc {F : List FactB} {f : FactB} (h : f ∉ F) : putF (atF F) f (.int .i64 (F.length : Nat)) = atF (F ++ [f]) := by
 funext g
 unfold putF atF
 by_cases e : g = f
 ·subst e
  rw [if_pos rfl, if_pos (by simp), idx_new h]
 ·rw [if_neg e]
  by_cases hg : g ∈ F
  ·rw [if_pos hg, if_pos (by simp [hg]), idx_app hg]
  ·rw [if_neg hg, if_neg (by simp [hg, e])]

/-- What lies in the parts: Fr the facts of the row, Fa those of the first map, Fo those of the second one. -/
structure KParts (T : Nat → Option KTag) (w : World) (g : Nat) (Fr Fa Fo : List FactB) (v : Value) (m1 m2 : Nat) (Sl : RoleB → Option Value) : Prop where
 blk : w.heap[g]? = some (.cells #[v, .map (some m1), .map (some m2)] 152 (0, 0))
 tg : T g = some .top
 t1 : T m1 = some .at
 t2 : T m2 = some .of
 row : OwnF 0 w v Fr
 trow : ∀ b, v.ownBlock = some b → T b = some .row
 kat : KV ktF w m1 Fa.length (atF Fa)
 kof : KV ktR w m2 Fo.length Sl
 noS : ∀ r, ktR.ok r → Sl r = none → placesK Fo r = []
 isS : ∀ r u, ktR.ok r → Sl r = some u → OwnI 0 w u (placesK Fo r) ∧ ∀ b, u.ownBlock = some b → T b = some (.role r)

/-- The block g knows the facts F. T tells what its blocks are for. -/
structure KS (T : Nat → Option KTag) (w : World) (g : Nat) (F : List FactB) : Prop where
 ex : ∃ v m1 m2 Sl, KParts T w g F F F v m1 m2 Sl
 lo : ∀ b, T b ≠ none → b < w.heap.size
 nd : F.Nodup
 sh : ∀ f ∈ F, factShort f 9223372036854775807

theorem infoInt : (Try.prog.info? 3).map (fun i => (i.zero, i.size, i.bytes)) = some (some (.int .i64 0), 1, 8) := by kernel_rfl
theorem mZeroAt (w : World) : (zeroValue 3).run Try.prog w = .ok (.int .i64 0) w := by kernel_rfl
theorem mZeroOf (w : World) : (zeroValue 156).run Try.prog w = .ok (.slice none 0 0) w := by kernel_rfl

/-- A table with one entry more. -/
def putT (T : Nat → Option KTag) (b : Nat) (t : KTag) : Nat → Option KTag := fun i => if i = b then some t else T i
theorem putT_ne {T : Nat → Option KTag} {b i : Nat} {t : KTag} (h : i ≠ b) : putT T b t i = T i := if_neg h
theorem putT_self (T : Nat → Option KTag) (b : Nat) (t : KTag) : putT T b t b = some t := if_pos rfl

/-- T' has what T has, and blocks that are new since w. -/
structure ExtT (T T' : Nat → Option KTag) (w w' : World) : Prop where
 old : ∀ b, T b ≠ none → T' b = T b
 new : ∀ b, T' b ≠ none → T b ≠ none ∨ w.heap.size ≤ b
 lo : ∀ b, T' b ≠ none → b < w'.heap.size
theorem ExtT.refl {T : Nat → Option KTag} {w w' : World} (h : ∀ b, T b ≠ none → b < w.heap.size) (hs : w.heap.size ≤ w'.heap.size) : ExtT T T w w' := ⟨fun _ _ => rfl, fun _ h => .inl h, fun b hb => Nat.lt_of_lt_of_le (h b hb) hs⟩
theorem ExtT.trans {T T1 T2 : Nat → Option KTag} {w w1 w2 : World} (h : ExtT T T1 w w1) (k : ExtT T1 T2 w1 w2) (hs : w.heap.size ≤ w1.heap.size) : ExtT T T2 w w2 :=
 ⟨fun b hb => (k.old b (by rw [h.old b hb]; exact hb)).trans (h.old b hb), fun b hb => (k.new b hb).elim (fun e => h.new b e) (fun e => .inr (Nat.le_trans hs e)), k.lo⟩
theorem ExtT.down {T T' : Nat → Option KTag} {w0 w w' : World} (h : ExtT T T' w w') (hs : w0.heap.size ≤ w.heap.size) : ExtT T T' w0 w' := ⟨h.old, fun b hb => (h.new b hb).imp id (Nat.le_trans hs), h.lo⟩
theorem ExtT.up {T T' : Nat → Option KTag} {w w' w2 : World} (h : ExtT T T' w w') (hs : w'.heap.size ≤ w2.heap.size) : ExtT T T' w w2 := ⟨h.old, h.new, fun b hb => Nat.lt_of_lt_of_le (h.lo b hb) hs⟩
/-- A row that has come to lie in its block, or in a new one. -/
theorem ext_row {T : Nat → Option KTag} {w w' : World} (hlo : ∀ b, T b ≠ none → b < w.heap.size) (hs : w.heap.size ≤ w'.heap.size) {v v' : Value} {t : KTag} (hv : ∀ b, v.ownBlock = some b → T b = some t) (h : v'.ownBlock = v.ownBlock ∨ ∃ b, v'.ownBlock = some b ∧ w.heap.size ≤ b) (hlt : ∀ b, v'.ownBlock = some b → b < w'.heap.size) :
  ∃ T', ExtT T T' w w' ∧ (∀ b, v'.ownBlock = some b → T' b = some t) ∧ ∀ b, T' b ≠ T b → v'.ownBlock = some b ∧ T b = none := by
 rcases h with h | ⟨b, hb, hle⟩
 ·exact ⟨T, ExtT.refl hlo hs, fun b hb => hv b (by rw [← h]; exact hb), fun b h => absurd rfl h⟩
 ·have hTb : T b = none := by
   cases e : T b with
   | none => rfl
   | some x => have := hlo b (by rw [e]; simp); omega
  refine ⟨putT T b t, ⟨fun i hi => putT_ne (fun e => by subst e; exact hi hTb), fun i hi => ?_, fun i hi => ?_⟩, fun i hi => ?_, fun i hi => ?_⟩
  ·by_cases e : i = b
   ·exact .inr (by omega)
   ·rw [putT_ne e] at hi; exact .inl hi
  ·by_cases e : i = b
   ·subst e; exact hlt i hb
   ·rw [putT_ne e] at hi; exact Nat.lt_of_lt_of_le (hlo i hi) hs
  ·rw [hb] at hi
   cases hi
   exact putT_self _ _ _
  ·by_cases e : i = b
   ·subst e; exact ⟨hb, hTb⟩
   ·rw [putT_ne e] at hi; exact absurd rfl hi

/-- An append of one place. -/
theorem run_append_int {B : Nat} {w : World} {v : Value} {ps : List Nat} {i : Nat} (ty : TypeId) (hown : OwnI B w v ps) {b : Nat} (hb : w.heap[b]? = some (.cells #[.int .i64 i] 3 (0, 0))) (hlen : ps.length ≤ 33554432) (hB : B ≤ w.heap.size) :
  ∃ v' w', (Builtin.append_ #[156, 156] ty #[v, .slice (some ⟨b, 0, none⟩) 1 1]).run Try.prog w = .ok v' w' ∧ OwnI B w' v' (ps ++ [i]) ∧ Chg (fun i => v.ownBlock = some i) w w' ∧ (v'.ownBlock = v.ownBlock ∨ v'.ownBlock = some w.heap.size) := by
 obtain ⟨i0, hi, hz0, hz1, hz2⟩ := info_parts infoInt
 obtain ⟨v', w', hr, h2, h3, h4, h5⟩ := run_append_own_at (P := Try.prog) w B 156 ty 3 i0 (.int .i64 0) 1 8 Try.underlying156 hi hz0 hz1 hz2 rfl (by decide) v ps.length (intsK ps) hown ⟨b, 0, none⟩ 1 1 [.int .i64 i] rfl
  (fun j u hj => by
   rw [add_off, Nat.zero_add, cell_blk hb j]
   cases j with
   | zero => simpa using hj
   | succ j => simp at hj) (by intro u hu; simp only [List.mem_singleton] at hu; subst hu; rfl) (by unfold maxLen; omega) (by omega) hB
 refine ⟨v', w', hr, ?_, (Chg.refl _ _).grown h3 (fun k hk _ => hk), h5⟩
 unfold OwnI
 rw [intsK_snoc, List.length_append]
 exact h2

section
variable {T : Nat → Option KTag} {w w1 : World} {g : Nat} {F : List FactB} {f : FactB} {v : Value} {m1 m2 : Nat} {Sl : RoleB → Option Value}

end
end Go.Proofs.Ytjaplnainlbldaa

/- Go's == and != at credentials. -/
namespace Go.Proofs.Ytjaplnainlbldaa
open Go.RowKit

theorem eqC_iff (a b : CredB) : eqC a b = decide (a.kind = b.kind ∧ a.head.1 = b.head.1 ∧ a.head.2 = b.head.2 ∧ a.who = b.who ∧ a.b.1 = b.b.1 ∧ a.b.2 = b.b.2 ∧ a.c.1 = b.c.1 ∧ a.c.2 = b.c.2 ∧ a.w2 = b.w2) := by
 obtain ⟨k, ⟨h1, h2⟩, who, ⟨b1, b2⟩, ⟨c1, c2⟩, w2⟩ := a
 obtain ⟨k', ⟨h1', h2'⟩, who', ⟨b1', b2'⟩, ⟨c1', c2'⟩, w2'⟩ := b
 rw [Bool.eq_iff_iff]
 simp [eqC, and_assoc]

theorem eqC_true {a b : CredB} : eqC a b = true ↔ a = b := by simp [eqC]

theorem run_eqgC (x y : Operand) (a b : CredB) (w : World) : Sem.run Try.prog (eqGuard BinOp.eql 36 x y (credV a) (credV b)) w = .ok () w := by
 unfold credV credBox
 go_simp

theorem run_eqlC (a b : CredB) (w : World) : Sem.run Try.prog (binOp BinOp.eql 36 (credV a) (credV b)) w = .ok (.bool (eqC a b)) w := by
 rw [eqC_iff]
 unfold credV credBox
 go_simp
 repeat' split
 all_goals simp_all

theorem run_neqgC (x y : Operand) (a b : CredB) (w : World) : Sem.run Try.prog (eqGuard BinOp.neq 36 x y (credV a) (credV b)) w = .ok () w := by
 unfold credV credBox
 go_simp

theorem run_neqC (a b : CredB) (w : World) : Sem.run Try.prog (binOp BinOp.neq 36 (credV a) (credV b)) w = .ok (.bool (!eqC a b)) w := by
 rw [eqC_iff]
 unfold credV credBox
 go_simp
 repeat' split
 all_goals simp_all
end Go.Proofs.Ytjaplnainlbldaa
