/- Texts that the proof leans on, in one: RegA, FirstM. -/
import Derived.Test.YtanompfdjfgfbaaGreatMb3
import Derived.Test.YtanompfdjfgfbaaGreatMb10
import Derived.Test.YtanompfdjfgfbaaGreatMb7
/- The rule for a region that draws its order, with a state that hangs on which operations have come up, on the slots and on the world. -/
namespace Go.Proofs.YtanompfdjfgfbaaGreat
open Go.RowKit

/-- What is to be shown of the operation i, W being what holds of the world where the operations of L have come up, S what becomes of a world. -/
def ObA (P : Program) (Q : Exit → Act → World → Prop) (S : World → World → Prop) (W : (Nat → Bool) → Act → World → Prop) (G : Tmp → Value → World → Prop) (i : Nat) (g : Option (Tmp × Bool)) (o : Oper) : Prop :=
  ∀ (L : Nat → Bool) (a : Act) (w : World), L i = false → (∀ e ∈ o.after, Region.binds .any e = true → L e.on = true) → W L a w → (∀ t ∈ looks g o, Knows G a w t) →
    ∀ K : Act → World → Prop, (∀ v w', S w w' → W (upd L i) (a.put o.dst v) w' → Gd G o.dst v w' → K (a.put o.dst v) w') →
      match g with
      | none => o.wp P a w K Q
      | some (t, b) => if says b a.tmps[t]? = true then o.wp P a w K Q else K (a.put o.dst undef) w

inductive ObsA (P : Program) (Q : Exit → Act → World → Prop) (S : World → World → Prop) (W : (Nat → Bool) → Act → World → Prop) (G : Tmp → Value → World → Prop) (ops : Array Oper) : Nat → List Oper → Prop
  | nil {n : Nat} : ObsA P Q S W G ops n []
  | cons {n : Nat} {o : Oper} {l : List Oper} (g : Option (Tmp × Bool)) (hg : gSlot ops o = g) (h : ObA P Q S W G n g o) (hs : ObsA P Q S W G ops (n + 1) l) : ObsA P Q S W G ops n (o :: l)

section
variable {P : Program} {ops : Array Oper} {Q : Exit → Act → World → Prop} {S : World → World → Prop} {W : (Nat → Bool) → Act → World → Prop} {G : Tmp → Value → World → Prop} {a0 : Act} {ds : List Tmp}

theorem ObsA.all {n : Nat} {l : List Oper} (h : ObsA P Q S W G ops n l) : ∀ (i : Nat) (o : Oper), l[i]? = some o → ObA P Q S W G (n + i) (gSlot ops o) o := by
  induction h with
  | nil => intro i o ho; simp at ho
  | @cons k _ _ g hg h hs ih =>
    intro i o ho
    cases i with
    | zero =>
      simp only [List.getElem?_cons_zero, Option.some.injEq] at ho
      subst ho
      rw [hg]
      exact h
    | succ i =>
      simp only [List.getElem?_cons_succ] at ho
      have := ih i o ho
      rwa [show k + 1 + i = k + (i + 1) from by omega] at this

structure RegInvA (ops : Array Oper) (W : (Nat → Bool) → Act → World → Prop) (G : Tmp → Value → World → Prop) (a0 : Act) (listed : Array Bool) (a : Act) (w : World) : Prop where
  len : listed.size = ops.size
  world : W (fun j => listed.getD j false) a w
  defers : a.defers = a0.defers
  size : a.tmps.size = a0.tmps.size
  same : ∀ t, (∀ (i : Nat) (o : Oper), ops[i]? = some o → o.dst ≠ some t) → a.tmps[t]? = a0.tmps[t]?
  known : ∀ (i : Nat) (o : Oper) (t : Tmp), ops[i]? = some o → listed.getD i false = true → o.dst = some t → Knows G a w t
  outs : ∀ t ∈ outsOf ops (dstsOf ops.toList), Knows G a0 w t

theorem region_goA (hds : dstsOf ops.toList = ds) (hnd : ds.Nodup)
    (hok : ∀ (i : Nat) (o : Oper), ops[i]? = some o → (o.guard.isSome = true → (gSlot ops o).isSome = true) ∧ (∀ e ∈ o.after, Region.binds .any e = true → e.on < i) ∧
      (∀ t ∈ looks (gSlot ops o) o, t ∈ ds → ∃ e ∈ o.after, Region.binds .any e = true ∧ (ops[e.on]?).bind (·.dst) = some t))
    (hG : ∀ t v w w', S w w' → G t v w → G t v w')
    (hsize : ∀ t ∈ ds, t < a0.tmps.size)
    (hobs : ∀ (i : Nat) (o : Oper), ops[i]? = some o → ObA P Q S W G i (gSlot ops o) o)
    (hfin : ∀ L a w, (∀ i, i < ops.size → L i = true) → W L a w → a.defers = a0.defers → a.tmps.size = a0.tmps.size → (∀ t, t ∉ ds → a.tmps[t]? = a0.tmps[t]?) → (∀ t ∈ ds, Knows G a w t) → Q .normal a w) :
    ∀ (fuel : Nat) (listed : Array Bool) (a : Act) (w : World), unlisted ops.size listed ≤ fuel → RegInvA ops W G a0 listed a w → wpAny P .any ops Q fuel listed a w := by
  have hend : ∀ (listed : Array Bool) (a : Act) (w : World), Region.ready .any ops listed = [] → RegInvA ops W G a0 listed a w → Q .normal a w := by
    intro listed a w hr hi
    have hall : ∀ (i : Nat), i < ops.size → listed.getD i false = true := by
      intro i
      induction i using Nat.strongRecOn with
      | ind i ih =>
        intro hlt
        refine Decidable.byContradiction fun hne => ?_
        have hmem : i ∈ Region.ready .any ops listed := by
          rw [mem_ready]
          refine ⟨?_, ops[i], Array.getElem?_eq_getElem hlt, fun e he hb => ?_⟩
          · have h1 : i < listed.size := by rw [hi.len]; exact hlt
            simp [h1] at hne ⊢
            exact hne
          · have := (hok i _ (Array.getElem?_eq_getElem hlt)).2.1 e he hb
            exact ih e.on this (by omega)
        rw [hr] at hmem
        cases hmem
    refine hfin (fun j => listed.getD j false) a w hall hi.world hi.defers hi.size (fun t ht => hi.same t fun i o ho hd => ht (mem_ds hds ho hd)) (fun t ht => ?_)
    obtain ⟨i, o, ho, hd⟩ := of_mem_ds hds ht
    exact hi.known i o t ho (hall i (Array.getElem?_eq_some_iff.1 ho).1) hd
  have hzero : ∀ (listed : Array Bool), unlisted ops.size listed = 0 → listed.size = ops.size → Region.ready .any ops listed = [] := by
    intro listed h0 hlen
    refine List.eq_nil_iff_forall_not_mem.2 fun i hi => ?_
    obtain ⟨h1, o, ho, _⟩ := mem_ready.1 hi
    have hlt := (Array.getElem?_eq_some_iff.1 ho).1
    have := List.countP_eq_zero.1 h0 i (List.mem_range.2 hlt)
    have h2 : i < listed.size := by omega
    simp [h2] at h1 this
    rw [h1] at this
    cases this
  intro fuel
  induction fuel with
  | zero =>
    intro listed a w hu hi
    have hr := hzero listed (by omega) hi.len
    exact ⟨hr, hend listed a w hr hi⟩
  | succ fuel ih =>
    intro listed a w hu hi
    refine ⟨fun hr => hend listed a w hr hi, fun i hir => ?_⟩
    obtain ⟨hun, o, ho, hpre⟩ := mem_ready.1 hir
    obtain ⟨hok1, hok2, hok3⟩ := hok i o ho
    have hilt := (Array.getElem?_eq_some_iff.1 ho).1
    have hilt' : i < listed.size := by rw [hi.len]; exact hilt
    have hun' : listed.getD i false = false := by
      simp [hilt'] at hun ⊢
      exact hun
    have hkn : ∀ t ∈ looks (gSlot ops o) o, Knows G a w t := by
      intro t ht
      by_cases hin : t ∈ ds
      · obtain ⟨e, he, hb, hd⟩ := hok3 t ht hin
        cases hoe : ops[e.on]? with
        | none => rw [hoe] at hd; cases hd
        | some p => rw [hoe] at hd; exact hi.known e.on p t hoe (hpre e he hb) hd
      · obtain ⟨v, hv, hg⟩ := hi.outs t (by
          unfold outsOf
          refine List.mem_filter.2 ⟨List.mem_flatMap.2 ⟨o, Array.mem_toList_iff.2 (Array.mem_of_getElem? ho), ht⟩, ?_⟩
          rw [hds]
          simpa using hin)
        exact ⟨v, (hi.same t fun j p hj hd => hin (mem_ds hds hj hd)).trans hv, hg⟩
    have hK : ∀ v w', S w w' → W (upd (fun j => listed.getD j false) i) (a.put o.dst v) w' → Gd G o.dst v w' → wpAny P .any ops Q fuel (listed.setIfInBounds i true) (a.put o.dst v) w' := by
      intro v w' hR hW hg
      refine ih _ _ _ ?_ ⟨by simpa using hi.len, by rw [← upd_listed hilt']; exact hW, ?_, ?_, ?_, ?_, ?_⟩
      · have : unlisted ops.size (listed.setIfInBounds i true) < unlisted ops.size listed := by
          refine countP_lt (fun j hj => ?_) _ i (List.mem_range.2 hilt) ?_ ?_
          · by_cases hji : i = j
            · subst hji
              simp [hilt'] at hj
            · rw [getD_set_ne false hji] at hj
              exact hj
          · simp [hilt'] at hun ⊢
            exact hun
          · simp [hilt']
        omega
      · cases o.dst <;> exact hi.defers
      · cases o.dst with
        | none => exact hi.size
        | some d => simpa [Act.put] using hi.size
      · intro t ht
        rw [← hi.same t ht]
        cases hd : o.dst with
        | none => rfl
        | some d =>
          have : d ≠ t := fun e => ht i o ho (e ▸ hd)
          simp [Act.put, Array.getElem?_setIfInBounds_ne this]
      · intro j p t hj hl hd
        by_cases hji : i = j
        · subst hji
          rw [ho] at hj
          cases hj
          rw [hd] at hg ⊢
          refine ⟨v, ?_, hg⟩
          have hlt : t < a.tmps.size := by rw [hi.size]; exact hsize t (mem_ds hds ho hd)
          simp [Act.put, hlt]
        · rw [getD_set_ne false hji] at hl
          obtain ⟨u, hu1, hu2⟩ := hi.known j p t hj hl hd
          refine ⟨u, ?_, hG _ _ _ _ hR hu2⟩
          cases hod : o.dst with
          | none => exact hu1
          | some d =>
            have hdt : d ≠ t := fun e => hji (nodup_dst ops.toList (by rw [hds]; exact hnd) i j o p t (by simpa using ho) (by simpa using hj) (e ▸ hod) hd)
            simp [Act.put, Array.getElem?_setIfInBounds_ne hdt, hu1]
      · intro t ht
        obtain ⟨u, hu1, hu2⟩ := hi.outs t ht
        exact ⟨u, hu1, hG _ _ _ _ hR hu2⟩
    have hOb := hobs i o ho (fun j => listed.getD j false) a w hun' (fun e he hb => hpre e he hb) hi.world hkn _ hK
    unfold wpOp
    simp only [ho]
    rw [wanted_of hok1]
    cases hgs : gSlot ops o with
    | none =>
      rw [hgs] at hOb
      simp only [if_true]
      exact .inl hOb
    | some tb =>
      obtain ⟨t, b⟩ := tb
      rw [hgs] at hOb
      simp only at hOb ⊢
      split at hOb
      · rename_i h; rw [if_pos h]; exact .inl hOb
      · rename_i h; rw [if_neg h]; exact hOb

/-- The rule with a state. -/
theorem wp_region_stateA {id : Nat} {l : List Oper} {w0 : World} (S : World → World → Prop) (W : (Nat → Bool) → Act → World → Prop) (G : Tmp → Value → World → Prop) (ds outs : List Tmp) (hm : P.follows .mixedOrders = true) (hok : regOk l.toArray ds = true)
    (hW : W (fun _ => false) a0 w0.drew) (hG : ∀ t v w w', S w w' → G t v w → G t v w')
    (hsize : (ds.all fun t => decide (t < a0.tmps.size)) = true) (houts : ((outsOf l.toArray ds).all fun t => outs.contains t) = true)
    (hstart : ∀ t ∈ outs, Knows G a0 w0.drew t)
    (hobs : ObsA P Q S W G l.toArray 0 l)
    (hfin : ∀ (L : Nat → Bool) (vals : Tmp → Value) (w : World), (∀ i, i < l.length → L i = true) → W L ⟨putAll vals ds a0.tmps, a0.defers⟩ w → (∀ t ∈ ds, G t (vals t) w) → Q .normal ⟨putAll vals ds a0.tmps, a0.defers⟩ w) :
    (Code.region id l.toArray true).wp P Q a0 w0 := by
  obtain ⟨h1, h2, h3⟩ := regOk_spec hok
  have hsz : ∀ t ∈ ds, t < a0.tmps.size := fun t ht => by simpa using List.all_eq_true.1 hsize t ht
  refine wp_region_any hm (region_goA (S := S) (W := W) (G := G) (a0 := a0) h1 h2 h3 hG hsz (fun i o ho => by have := hobs.all i o (by simpa using ho); rwa [Nat.zero_add] at this) ?_ _ _ _ _ ?_ ⟨by simp, ?_, rfl, rfl, fun _ _ => rfl, fun i o t ho hl hd => ?_, fun t ht => ?_⟩)
  · intro L a w hL hR hd hs hsame hkn
    have e : a = ⟨putAll (fun t => a.tmps.getD t undef) ds a0.tmps, a0.defers⟩ := by
      obtain ⟨tm, df⟩ := a
      simp only at hd hs hsame hkn ⊢
      rw [hd]
      congr 1
      refine Array.ext' ?_
      refine List.ext_getElem? fun t => ?_
      rw [Array.getElem?_toList, Array.getElem?_toList]
      by_cases ht : t ∈ ds
      · rw [putAll_in _ ds _ t h2 ht (hsz t ht)]
        obtain ⟨v, hv, _⟩ := hkn t ht
        rw [hv, Array.getD_eq_getD_getElem?, hv]
        rfl
      · rw [putAll_out _ ds _ t ht]
        exact hsame t ht
    have hR2 := hR
    rw [e] at hR2 ⊢
    exact hfin L (fun t => a.tmps.getD t undef) w (by simpa using hL) hR2 (fun t ht => by
      obtain ⟨v, hv, hg⟩ := hkn t ht
      have : a.tmps.getD t undef = v := by
        rw [Array.getD_eq_getD_getElem?, hv]
        rfl
      rw [this]
      exact hg)
  · unfold unlisted
    refine Nat.le_trans List.countP_le_length ?_
    simp
  · have : (fun j => (Array.replicate l.toArray.size false).getD j false) = fun _ => false := by
      funext j
      rw [Array.getD_eq_getD_getElem?, Array.getElem?_replicate]
      split <;> rfl
    rw [this]
    exact hW
  · simp [Array.getElem?_replicate] at hl
    split at hl <;> simp at hl
  · rw [h1] at ht
    have h4 := List.all_eq_true.1 houts t ht
    exact hstart t (by simpa using h4)

end

theorem ObA.plain {P : Program} {Q : Exit → Act → World → Prop} {S : World → World → Prop} {W : (Nat → Bool) → Act → World → Prop} {G : Tmp → Value → World → Prop} {i : Nat} {o : Oper}
    (h : ∀ (L : Nat → Bool) (a : Act) (w : World), L i = false → (∀ e ∈ o.after, Region.binds .any e = true → L e.on = true) → W L a w → (∀ t ∈ looks none o, Knows G a w t) →
      ∀ K : Act → World → Prop, (∀ v w', S w w' → W (upd L i) (a.put o.dst v) w' → Gd G o.dst v w' → K (a.put o.dst v) w') → o.wp P a w K Q) : ObA P Q S W G i none o := h

end Go.Proofs.YtanompfdjfgfbaaGreat

/- Words for law 8's first. -/
namespace Go.Proofs.YtanompfdjfgfbaaGreat
open Go.RowKit

def cI : CredB := ⟨2, ([97], [114]), [], ([98], [115]), noneR, []⟩
def cM : CredB := ⟨1, ([98], [115]), [100], noneR, noneR, []⟩
def fA : FactB := (([97], [114]), [100])
def fB : FactB := (([98], [115]), [100])

theorem cI_ok : isCred cI = true := by decide +kernel
theorem cM_ok : isCred cM = true := by decide +kernel

theorem model_I : ModelOf [cI] [] := ⟨trivial, fun f => ⟨fun h => (by cases h), fun h => by
  obtain ⟨c, hc, _, hk, _⟩ := h.who
  rw [List.mem_singleton.1 hc] at hk
  exact absurd hk (by decide)⟩⟩

theorem der_B {ls : List CredB} (h : cM ∈ ls) : Der ls fB := Der.mem (c := cM) h cM_ok rfl
theorem der_A {ls : List CredB} (h1 : cI ∈ ls) (h2 : cM ∈ ls) : Der ls fA := Der.inc (c := cI) (w := [100]) h1 cI_ok rfl (der_B h2)

theorem model_of8 {ls : List CredB} (h1 : cI ∈ ls) (h2 : cM ∈ ls) (h : ∀ c ∈ ls, c = cI ∨ c = cM) : ModelOf ls [fA, fB] := by
  refine ⟨⟨fun y hy => ?_, fun y hy => (by cases hy), trivial⟩, fun f => ⟨fun hf => ?_, fun hf => ?_⟩⟩
  · rw [List.mem_singleton.1 hy]; decide +kernel
  · rcases List.mem_cons.1 hf with rfl | hf
    · exact der_A h1 h2
    · rw [List.mem_singleton.1 hf]; exact der_B h2
  · refine closed_der (names := [[100]]) (fun c hc hr hk => ?_) (fun c hc hr w hw => ?_) hf
    · rcases h c hc with rfl | rfl
      · exact absurd hk (by decide)
      · exact List.mem_singleton.2 rfl
    · rw [List.mem_singleton.1 hw]
      rcases h c hc with rfl | rfl
      · exact .inl (by decide +kernel)
      · exact .inl (by decide +kernel)

theorem model_IM : ModelOf ([cI] ++ [cM]) [fA, fB] := model_of8 (by simp) (by simp) (by intro c hc; simpa using hc)
theorem model_IMI : ModelOf (([cI] ++ [cM]) ++ [cI]) [fA, fB] := model_of8 (by simp) (by simp) (by
  intro c hc
  simp only [List.cons_append, List.nil_append, List.mem_cons, List.not_mem_nil, or_false] at hc
  rcases hc with h | h | h
  · exact .inl h
  · exact .inr h
  · exact .inl h)

theorem holds_first : HoldsOf (inF [fA, fB]) cI [[97], [100]] [fA] := by
  refine ⟨⟨fun y hy => (by cases hy), trivial⟩, fun f => ?_⟩
  constructor
  · intro hf
    rw [List.mem_singleton.1 hf]
    exact ⟨cI_ok, rfl, by decide +kernel, fun _ => by decide +kernel⟩
  · rintro ⟨_, h1, h2, h3⟩
    obtain ⟨r, s⟩ := f
    have h4 := h3 (by decide)
    have e : r = ([97], [114]) := h1
    subst e
    have h5 : s = [97] ∨ s = [100] := by simpa using h4.1
    rcases h5 with rfl | rfl
    · exact absurd h2 (by decide +kernel)
    · exact List.mem_singleton.2 rfl

theorem short_I : credShort cI 16 := isCred_short cI_ok
theorem short_M : credShort cM 16 := isCred_short cM_ok
theorem small_first {ls : List CredB} (hl : ls.length ≤ 1000) (h : ∀ c ∈ ls, c = cI ∨ c = cM) : SmallC ls := ⟨hl, fun c hc => by
  rcases h c hc with rfl | rfl
  · exact short_I.mono (by omega)
  · exact short_M.mono (by omega)⟩

/-- What is so amid the making of the two credentials: 5 and 6 make blocks, 7 and 8 write them. -/
structure TwoW (B : Nat) (w1 : World) (L : Nat → Bool) (a : Act) (w : World) : Prop where
  ch : Chg (fun i => B ≤ i) w1 w
  lo : B ≤ w.heap.size
  sz : 4 < a.tmps.size
  p3 : L 5 = true → ∃ b, a.tmps[3]? = some (.pointer (some ⟨b, 0, none⟩)) ∧ B ≤ b ∧ w.heap[b]? = some (.cells (credBox (if L 7 then cI else noCred)) 47 (0, 0))
  p4 : L 6 = true → ∃ b, a.tmps[4]? = some (.pointer (some ⟨b, 0, none⟩)) ∧ B ≤ b ∧ w.heap[b]? = some (.cells (credBox (if L 8 then cM else noCred)) 47 (0, 0))
  ne : L 5 = true → L 6 = true → a.tmps[3]? ≠ a.tmps[4]?
  o7 : L 7 = true → L 5 = true
  o8 : L 8 = true → L 6 = true

theorem put_other {a : Act} {d t : Nat} (v : Value) (h : d ≠ t) : (a.put (some d) v).tmps[t]? = a.tmps[t]? := by
  simp [Act.put, Array.getElem?_setIfInBounds_ne h]
theorem put_same {a : Act} {d : Nat} (v : Value) (h : d < a.tmps.size) : (a.put (some d) v).tmps[d]? = some v := by
  simp [Act.put, h]

theorem TwoW.quiet {B : Nat} {w1 w : World} {L : Nat → Bool} {a : Act} {i : Nat} (h : TwoW B w1 L a w) (hi : i < 5) (d : Nat) (v : Value) (hd : 4 < d) : TwoW B w1 (upd L i) (a.put (some d) v) w := by
  have e5 : upd L i 5 = L 5 := upd_ne (by omega)
  have e6 : upd L i 6 = L 6 := upd_ne (by omega)
  have e7 : upd L i 7 = L 7 := upd_ne (by omega)
  have e8 : upd L i 8 = L 8 := upd_ne (by omega)
  refine ⟨h.ch, h.lo, by simpa [Act.put] using h.sz, ?_, ?_, ?_, by rw [e5, e7]; exact h.o7, by rw [e6, e8]; exact h.o8⟩
  · rw [e5, e7, put_other v (by omega)]; exact h.p3
  · rw [e6, e8, put_other v (by omega)]; exact h.p4
  · rw [e5, e6, put_other v (by omega), put_other v (by omega)]; exact h.ne

theorem TwoW.make3 {B : Nat} {w1 w : World} {L : Nat → Bool} {a : Act} (h : TwoW B w1 L a w) (hL : L 5 = false) : TwoW B w1 (upd L 5) (a.put (some 3) (.pointer (some ⟨w.heap.size, 0, none⟩))) (w.alloc (.cells (credBox noCred) 47)) := by
  have h7 : L 7 = false := by
    cases h7 : L 7 with
    | false => rfl
    | true => rw [h.o7 h7] at hL; cases hL
  have hal : Chg (fun _ => False) w (w.alloc (.cells (credBox noCred) 47)) := (Chg.refl _ w).alloc _
  have e6 : upd L 5 6 = L 6 := upd_ne (by omega)
  have e7 : upd L 5 7 = L 7 := upd_ne (by omega)
  have e8 : upd L 5 8 = L 8 := upd_ne (by omega)
  refine ⟨h.ch.trans hal (fun _ _ h => h.elim), Nat.le_trans h.lo hal.size, by simpa [Act.put] using h.sz, fun _ => ⟨_, put_same _ (by have := h.sz; omega), h.lo, ?_⟩, ?_, ?_, fun _ => upd_eq, by rw [e6, e8]; exact h.o8⟩
  · rw [e7, h7]; exact heap_alloc_new w _
  · rw [e6, e8, put_other _ (by omega)]
    intro h6
    obtain ⟨b, p1, p2, p3⟩ := h.p4 h6
    exact ⟨b, p1, p2, blk_keep p3 hal id⟩
  · intro _ h6
    rw [e6] at h6
    obtain ⟨b, p1, p2, p3⟩ := h.p4 h6
    rw [put_same _ (by have := h.sz; omega), put_other _ (by omega), p1]
    intro e
    injection e with e; injection e with e; injection e with e; injection e with e
    have := lt_blk p3
    omega

theorem TwoW.make4 {B : Nat} {w1 w : World} {L : Nat → Bool} {a : Act} (h : TwoW B w1 L a w) (hL : L 6 = false) : TwoW B w1 (upd L 6) (a.put (some 4) (.pointer (some ⟨w.heap.size, 0, none⟩))) (w.alloc (.cells (credBox noCred) 47)) := by
  have h8 : L 8 = false := by
    cases h8 : L 8 with
    | false => rfl
    | true => rw [h.o8 h8] at hL; cases hL
  have hal : Chg (fun _ => False) w (w.alloc (.cells (credBox noCred) 47)) := (Chg.refl _ w).alloc _
  have e5 : upd L 6 5 = L 5 := upd_ne (by omega)
  have e7 : upd L 6 7 = L 7 := upd_ne (by omega)
  have e8 : upd L 6 8 = L 8 := upd_ne (by omega)
  refine ⟨h.ch.trans hal (fun _ _ h => h.elim), Nat.le_trans h.lo hal.size, by simpa [Act.put] using h.sz, ?_, fun _ => ⟨_, put_same _ (by have := h.sz; omega), h.lo, ?_⟩, ?_, by rw [e5, e7]; exact h.o7, fun _ => upd_eq⟩
  · rw [e5, e7, put_other _ (by omega)]
    intro h5
    obtain ⟨b, p1, p2, p3⟩ := h.p3 h5
    exact ⟨b, p1, p2, blk_keep p3 hal id⟩
  · rw [e8, h8]; exact heap_alloc_new w _
  · intro h5 _
    rw [e5] at h5
    obtain ⟨b, p1, p2, p3⟩ := h.p3 h5
    rw [put_same _ (by have := h.sz; omega), put_other _ (by omega), p1]
    intro e
    injection e with e; injection e with e; injection e with e; injection e with e
    have := lt_blk p3
    omega

theorem TwoW.set3 {B : Nat} {w1 w : World} {L : Nat → Bool} {a : Act} (h : TwoW B w1 L a w) (hL : L 7 = false) {b : Nat} (h3 : a.tmps[3]? = some (.pointer (some ⟨b, 0, none⟩))) (h5 : L 5 = true) :
    TwoW B w1 (upd L 7) a (setCred w b cI) ∧ Chg (fun i => B ≤ i) w (setCred w b cI) ∧ w.heap[b]? = some (.cells (credBox noCred) 47 (0, 0)) := by
  obtain ⟨b', p1, p2, p3⟩ := h.p3 h5
  rw [h3] at p1
  injection p1 with p1; injection p1 with p1; injection p1 with p1; injection p1 with p1
  subst p1
  rw [hL] at p3
  have hcs := setCred_chg w b cI
  have hc : Chg (fun i => B ≤ i) w (setCred w b cI) := hcs.mono (fun i _ e => by have e : i = b := e; subst e; exact p2)
  have e5 : upd L 7 5 = L 5 := upd_ne (by omega)
  have e6 : upd L 7 6 = L 6 := upd_ne (by omega)
  have e8 : upd L 7 8 = L 8 := upd_ne (by omega)
  refine ⟨⟨h.ch.trans hc (fun _ _ h => h), Nat.le_trans h.lo hcs.size, h.sz, fun _ => ⟨b, h3, p2, ?_⟩, ?_, by rw [e5, e6]; exact h.ne, fun _ => e5.trans h5, by rw [e6, e8]; exact h.o8⟩, hc, p3⟩
  · rw [upd_eq]; exact setCred_blk cI p3
  · rw [e6, e8]
    intro h6
    obtain ⟨b4, q1, q2, q3⟩ := h.p4 h6
    refine ⟨b4, q1, q2, blk_keep q3 hcs (fun e => ?_)⟩
    have e : b4 = b := e
    exact h.ne h5 h6 (by rw [h3, q1, e])

theorem TwoW.set4 {B : Nat} {w1 w : World} {L : Nat → Bool} {a : Act} (h : TwoW B w1 L a w) (hL : L 8 = false) {b : Nat} (h4 : a.tmps[4]? = some (.pointer (some ⟨b, 0, none⟩))) (h6 : L 6 = true) :
    TwoW B w1 (upd L 8) a (setCred w b cM) ∧ Chg (fun i => B ≤ i) w (setCred w b cM) ∧ w.heap[b]? = some (.cells (credBox noCred) 47 (0, 0)) := by
  obtain ⟨b', p1, p2, p3⟩ := h.p4 h6
  rw [h4] at p1
  injection p1 with p1; injection p1 with p1; injection p1 with p1; injection p1 with p1
  subst p1
  rw [hL] at p3
  have hcs := setCred_chg w b cM
  have hc : Chg (fun i => B ≤ i) w (setCred w b cM) := hcs.mono (fun i _ e => by have e : i = b := e; subst e; exact p2)
  have e5 : upd L 8 5 = L 5 := upd_ne (by omega)
  have e6 : upd L 8 6 = L 6 := upd_ne (by omega)
  have e7 : upd L 8 7 = L 7 := upd_ne (by omega)
  refine ⟨⟨h.ch.trans hc (fun _ _ h => h), Nat.le_trans h.lo hcs.size, h.sz, ?_, fun _ => ⟨b, h4, p2, ?_⟩, by rw [e5, e6]; exact h.ne, by rw [e5, e7]; exact h.o7, fun _ => e6.trans h6⟩, hc, p3⟩
  · rw [e5, e7]
    intro h5
    obtain ⟨b3, q1, q2, q3⟩ := h.p3 h5
    refine ⟨b3, q1, q2, blk_keep q3 hcs (fun e => ?_)⟩
    have e : b3 = b := e
    exact h.ne h5 h6 (by rw [q1, h4, e])
  · rw [upd_eq]; exact setCred_blk cM p3
end Go.Proofs.YtanompfdjfgfbaaGreat
