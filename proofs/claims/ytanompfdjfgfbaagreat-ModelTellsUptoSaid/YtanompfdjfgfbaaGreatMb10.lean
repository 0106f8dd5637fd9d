/- Texts that the proof leans on, in one: FactMap, Enters, ModelFound, CredApp, ModelLeastM. -/
import Derived.Test.YtanompfdjfgfbaaGreatMb4
import Derived.Test.YtanompfdjfgfbaaGreatMb9
import Derived.Maps.OwnSet
import Derived.DeepKeys4
import Derived.Test.YtanompfdjfgfbaaGreatMb2
import Derived.Carry
import Derived.Test.YtanompfdjfgfbaaGreatMb3
/- A map by facts, of bools, as it lies in memory. -/
namespace Go.Proofs.YtanompfdjfgfbaaGreat
open Go.RowKit Go.Maps Go.ChangeMaps Go.WideMaps

/-- What a fact is as a map's key. -/
def factLit (f : FactB) : Lit := .string (keyBytes [.string f.1.1, .string f.1.2, .string f.2])
def factVal (f : FactB) : Value := .agg #[.string ⟨f.1.1.toArray⟩, .string ⟨f.1.2.toArray⟩, .string ⟨f.2.toArray⟩]

theorem factBelow : 52 < Tryz.prog.types.size := of_decide_eq_true (by kernel_rfl)

theorem factKeyed : Keyed Tryz.prog 52 :=
  Keyed.of_law (deep_law_laid Tryz.laidOut (m := 4) (by omega) factBelow (by kernel_rfl) (by rw [Tryz.underlying52]))

theorem factCellsN : Tryz.prog.cellsOf 52 = 3 := by kernel_rfl
theorem roleCellsN : Tryz.prog.cellsOf 24 = 2 := by kernel_rfl
theorem strCellsN : Tryz.prog.cellsOf 9 = 1 := by kernel_rfl

theorem keyStr (d : Nat) {s : List UInt8} (h : s.length ≤ 9223372036854775807) : Tryz.prog.keyLits (d + 1) 9 [.string ⟨s.toArray⟩] = some [.string s] := by
  have b1 : (ByteArray.mk s.toArray).size ≤ maxLen := by unfold maxLen; simpa [ByteArray.size] using h
  unfold Program.keyLits
  rw [Tryz.underlying9]
  simp [b1]

theorem keyRole (d : Nat) {a b : List UInt8} (ha : a.length ≤ 9223372036854775807) (hb : b.length ≤ 9223372036854775807) : Tryz.prog.keyLits (d + 1 + 1) 24 [.string ⟨a.toArray⟩, .string ⟨b.toArray⟩] = some [.string a, .string b] := by
  unfold Program.keyLits
  rw [Tryz.underlying24]
  simp [roleCellsN, strCellsN, keyStr d ha, keyStr d hb]

theorem keyFact (d : Nat) {f : FactB} (h : factShort f 9223372036854775807) : Tryz.prog.keyLits (d + 1 + 1 + 1) 52 (factVal f).cells.toList = some [.string f.1.1, .string f.1.2, .string f.2] := by
  obtain ⟨a1, a2, a3⟩ := h
  unfold Program.keyLits
  rw [Tryz.underlying52]
  simp [factVal, Value.cells, factCellsN, roleCellsN, strCellsN, keyRole d a1 a2, keyStr (d + 1) a3]

theorem factReads {f : FactB} (h : factShort f 9223372036854775807) : Go.keyOf Tryz.prog 52 (factVal f) = some (factLit f) := by
  have h3 : 3 ≤ Tryz.prog.types.size := of_decide_eq_true (by kernel_rfl)
  obtain ⟨n, hn⟩ : ∃ n, Tryz.prog.types.size = n + 1 + 1 := ⟨Tryz.prog.types.size - 2, by omega⟩
  have h1 : Tryz.prog.keyType 52 = true := by kernel_rfl
  have h2 : (factVal f).formed Tryz.prog 52 = true := by unfold factVal; simp [Value.formed, Tryz.underlying52, factCellsN]
  unfold keyOf
  rw [Tryz.underlying52]
  simp only [h1, h2, Bool.and_self, if_true, hn]
  rw [keyFact n h]
  rfl

theorem factLit_inj {f g : FactB} (hf : factShort f 9223372036854775807) (hg : factShort g 9223372036854775807) (h : factLit f = factLit g) : f = g := by
  have h1 := factReads hf
  rw [h] at h1
  have h2 := factKeyed.inj h1 (factReads hg)
  obtain ⟨⟨a, b⟩, c⟩ := f
  obtain ⟨⟨a', b'⟩, c'⟩ := g
  simp [factVal] at h2
  obtain ⟨rfl, rfl, rfl⟩ := h2
  rfl

/-- The map in the block mb holds the facts l. -/
structure FMap (w : World) (mb : Nat) (l : List FactB) : Prop where
  ex : ∃ M : DataW Value, w.ownsMap Tryz.prog 52 (plainElem Tryz.prog 4) mb l.length M ∧ (∀ f : FactB, factShort f 9223372036854775807 → Maps.has M (factLit f) = l.contains f) ∧ (∀ f : FactB, f ∈ l → ∀ z, M.atKey (factLit f) z = .lit (.bool true)) ∧ Maps.size M = l.length
  nd : l.Nodup
  sh : ∀ f ∈ l, factShort f 9223372036854775807

theorem FMap.keep {S : Nat → Prop} {w w' : World} {mb : Nat} {l : List FactB} (h : FMap w mb l) (hc : Chg S w w') (hs : ¬ S mb) : FMap w' mb l := by
  obtain ⟨⟨M, h1, h2, h3, h4⟩, h5, h6⟩ := h
  obtain ⟨es, clock, hb, r⟩ := h1
  exact ⟨⟨M, ⟨es, clock, blk_keep hb hc hs, r⟩, h2, h3, h4⟩, h5, h6⟩

theorem FMap.lt {w : World} {mb : Nat} {l : List FactB} (h : FMap w mb l) : mb < w.heap.size := by
  obtain ⟨⟨M, h1, _⟩, _⟩ := h
  exact h1.lt

theorem fmap_made (w : World) : FMap (w.alloc (.map #[] 0)) w.heap.size [] :=
  ⟨⟨_, World.ownsMap_made w _ _ _, fun _ _ => rfl, fun o ho => (by cases ho), rfl⟩, List.nodup_nil, fun _ h => (by cases h)⟩

theorem ownsMap_tight {w : World} {mb n : Nat} {D : DataW Value} {k : TypeId} {R : Value → Option (DataW Value × List MemPlace)} (h : w.ownsMap Tryz.prog k R mb n D) : w.ownsMap Tryz.prog k R mb (Maps.size D) D := by
  obtain ⟨es, clock, hb, F, hs, rfl⟩ := h
  exact ⟨es, clock, hb, F, by rw [Maps.size_eq, length_read]; exact Nat.le_refl _, rfl⟩

set_option maxRecDepth 100000 in
theorem boolElem {v : Value} {b : Bool} {ps : List MemPlace} (h : plainElem (H := Value) Tryz.prog 4 v = some (.lit (.bool b), ps)) : v = .bool b := by
  unfold plainElem at h
  rw [Tryz.underlying4] at h
  cases v <;> simp at h
  rw [h.1]

set_option maxRecDepth 100000 in
theorem FMap.look {w : World} {mb : Nat} {l : List FactB} (h : FMap w mb l) {f : FactB} (hf : factShort f 9223372036854775807) :
    (Instr.lookup 82 (.map (some mb)) (factVal f) false).run Tryz.prog w = .ok (.bool (l.contains f)) w := by
  obtain ⟨⟨M, h1, h2, h3, h4⟩, h5, h6⟩ := h
  obtain ⟨v, ps, hrun, hv⟩ := h1.lookup factKeyed Tryz.underlying82 (z := .bool false) (by kernel_rfl) (zd := .lit (.bool false)) (zp := []) (plainElem_bool Tryz.underlying4 false) (factReads hf)
  cases hc : l.contains f with
  | true =>
    have hat := h3 f (by simpa using hc) (.lit (.bool false))
    rw [hat] at hv
    rw [hrun, boolElem hv]
  | false =>
    have hat := Maps.atKey_of_not_has ((h2 f hf).trans hc) (.lit (.bool false))
    rw [hat] at hv
    rw [hrun, boolElem hv]

/-- One more. -/
def addF (l : List FactB) (f : FactB) : List FactB := if l.contains f then l else l ++ [f]

theorem FMap.add {w : World} {mb : Nat} {l : List FactB} (h : FMap w mb l) {f : FactB} (hf : factShort f 9223372036854775807) (hl : l.length < 9223372036854775807) :
    ∃ w', (Instr.mapUpdate 82 (.map (some mb)) (factVal f) (.bool true)).run Tryz.prog w = .ok () w' ∧ FMap w' mb (addF l f) ∧ Chg (· = mb) w w' := by
  obtain ⟨⟨M, h1, h2, h3, h4⟩, h5, h6⟩ := h
  obtain ⟨w', hrun, hown, hg⟩ := h1.update factKeyed Tryz.underlying82 (by unfold maxLen; omega) (factReads hf) (val := .bool true) (d := .lit (.bool true)) (ps := []) (plainElem_bool Tryz.underlying4 true)
  have hc : Chg (· = mb) w w' := (Chg.refl (· = mb) w).grown hg (fun k hk _ => by simpa using hk.symm)
  have hM := h1.isMap
  have hT := h1.tidy factKeyed
  have hK : WideAt.IsKeyLit (factLit f) := trivial
  have hsz : Maps.size (M.put (factLit f) (.lit (.bool true))) = (addF l f).length := by
    rw [Maps.size_put hT, h2 f hf, h4]
    unfold addF
    cases l.contains f <;> simp
  have hown2 := ownsMap_tight hown
  rw [hsz] at hown2
  refine ⟨w', hrun, ⟨⟨_, hown2, fun g hgs => ?_, fun g hgm z => ?_, hsz⟩, ?_, ?_⟩, hc⟩
  · by_cases e : g = f
    · subst e
      rw [Maps.has_put_same hM hK]
      unfold addF
      cases hcc : l.contains g <;> simp_all
    · rw [Maps.has_put_other (fun e' => e (factLit_inj hgs hf e')), h2 g hgs]
      unfold addF
      cases hcc : l.contains f <;> simp [e]
  · by_cases e : g = f
    · subst e
      exact Maps.atKey_put_same hM hK _ _
    · have hgl : g ∈ l := by
        unfold addF at hgm
        split at hgm
        · exact hgm
        · simpa [e] using hgm
      rw [Maps.atKey_put_other (fun e' => e (factLit_inj (h6 g hgl) hf e'))]
      exact h3 g hgl z
  · unfold addF
    split
    · exact h5
    · rename_i hcc
      rw [List.nodup_append]
      refine ⟨h5, by simp, fun a ha b hb e => ?_⟩
      simp at hb
      subst hb
      subst e
      exact hcc (by simpa using ha)
  · unfold addF
    split
    · exact h6
    · intro g hg'
      rcases List.mem_append.1 hg' with h | h
      · exact h6 g h
      · simp at h; subst h; exact hf

theorem FMap.len {w : World} {mb : Nat} {l : List FactB} (h : FMap w mb l) (ty : TypeId) : (Builtin.len_ #[82] ty #[.map (some mb)]).run Tryz.prog w = .ok (.int .i64 l.length) w := by
  obtain ⟨⟨M, h1, h2, h3, h4⟩, h5, h6⟩ := h
  rw [← h4]
  exact h1.len Tryz.underlying82 ty
end Go.Proofs.YtanompfdjfgfbaaGreat

/- Functions that are values. -/
namespace Go.Proofs.YtanompfdjfgfbaaGreat
open Go.RowKit

/-- A function with a body is entered. -/
theorem enters {K : Nat} {fn : Func} (hf : Tryz.prog.funcs[K]? = some fn) (hn : (fn.name == "runtime.NumGoroutine") = false) (hb : fn.body.isNone = false) (args : Array Value) (w : World) :
    (callFunc K args).run Tryz.prog w = .ok (.enter K args) w := by
  have h1 : fn.name ≠ "runtime.NumGoroutine" := by simpa using hn
  have h2 : fn.body ≠ none := by
    intro h
    rw [h] at hb
    simp at hb
  unfold callFunc
  simp [program, Sem.run, hf, h1, h2]

end Go.Proofs.YtanompfdjfgfbaaGreat

/- The contract of founded, of law ModelLeast: facts that are told one by one. -/
namespace Go.Proofs.YtanompfdjfgfbaaGreat
open Go.RowKit

theorem contains_inF (l : List FactB) (r : RoleB) (s : List UInt8) : l.contains (r, s) = inF l r s := by
  apply Bool.eq_iff_iff.2
  rw [inF_iff]
  simp

theorem strs_low8 {D : Nat → Prop} {w : World} {ao : Option Addr} {ls : List (List UInt8)} (h : StrsAt D w ao ls) : StrsAt (fun k => k < w.heap.size) w ao ls := fun i hi =>
  let ⟨b, off, h1, _, h3, h4⟩ := h i hi
  ⟨b, off, h1, World.block_lt_of_cell? w _ h3, h3, h4⟩

theorem fenters : ∀ args w, (callFunc 42 args).run Tryz.prog w = .ok (.enter 42 args) w := enters Tryz.func42 (by kernel_rfl) (by kernel_rfl)

theorem fclosure {w : World} {X mb : Nat} {l : List FactB} (hX : w.heap[X]? = some (.cells #[.map (some mb)] 82 (0, 0))) (hm : FMap w mb l) :
    AskAt 42 #[] #[.pointer (some ⟨X, 0, none⟩)] (inF l) w := by
  intro r s W h1 h2 h3 hW
  have hXW := cell_blk (blk_keep hX hW id) 0
  simp only [List.getElem?_toArray, List.getElem?_cons_zero] at hXW
  have hal := (Chg.refl (fun _ => False) W).alloc (.cells #[.string ⟨r.1.toArray⟩, .string ⟨r.2.toArray⟩] 24)
  have hR := heap_alloc_new W (.cells #[.string ⟨r.1.toArray⟩, .string ⟨r.2.toArray⟩] 24)
  have r0 := cell_blk hR 0
  have r1 := cell_blk hR 1
  simp only [List.getElem?_toArray, List.getElem?_cons_zero, List.getElem?_cons_succ] at r0 r1
  have hl := ((hm.keep hW id).keep hal id).look (f := (r, s)) ⟨by show r.1.length ≤ _; omega, by show r.2.length ≤ _; omega, by show s.length ≤ _; omega⟩
  rw [contains_inF] at hl
  unfold factVal at hl
  have hXa := hal.cell hXW id
  have HC := hid hal
  clear hX hm hR hal hXW
  simp only [List.append_toArray, List.nil_append, List.cons_append]
  go_enter Tryz.func42, Tryz.ntmps42
  go_wp2
  go_ret
  exact ⟨rfl, HC.out⟩

/-- Amid a round over the credentials: H are the facts, H0 those at the round's start. -/
structure RoundA (ls : List CredB) (ns : List (List UInt8)) (H0 : List FactB) (k : Nat) (H : List FactB) : Prop where
  der : ∀ f ∈ H, Der ls f
  le : H0.length ≤ H.length
  cl : H.length = H0.length → H = H0 ∧ ∀ c ∈ ls.take k, isCred c = true → ∀ s ∈ ns, stepP (inF H0) c ns s = true → (c.head, s) ∈ H0

/-- Amid the facts that one credential brings. -/
structure InnerA (ls : List CredB) (Hk : List FactB) (hs : List FactB) (j : Nat) (H : List FactB) : Prop where
  der : ∀ f ∈ H, Der ls f
  le : Hk.length ≤ H.length
  cl : H.length = Hk.length → H = Hk ∧ ∀ f ∈ hs.take j, f ∈ Hk

theorem addF_len (l : List FactB) (f : FactB) : l.length ≤ (addF l f).length ∧ (addF l f).length ≤ l.length + 1 := by
  unfold addF
  split <;> simp

theorem InnerA.step {ls : List CredB} {Hk hs H : List FactB} {j : Nat} (h : InnerA ls Hk hs j H) (hj : j < hs.length) (hd : Der ls hs[j]) : InnerA ls Hk hs (j + 1) (addF H hs[j]) := by
  have hl := addF_len H hs[j]
  refine ⟨fun f hf => ?_, Nat.le_trans h.le hl.1, fun e => ?_⟩
  · unfold addF at hf
    split at hf
    · exact h.der f hf
    · rcases List.mem_append.1 hf with h1 | h1
      · exact h.der f h1
      · simp at h1; subst h1; exact hd
  · have h1 := h.le
    have hH : H.length = Hk.length := by omega
    obtain ⟨e1, e2⟩ := h.cl hH
    have hin : H.contains hs[j] = true := by
      unfold addF at e
      split at e
      · assumption
      · simp at e; omega
    refine ⟨by unfold addF; rw [if_pos hin]; exact e1, fun f hf => ?_⟩
    rw [List.take_succ_eq_append_getElem hj] at hf
    rcases List.mem_append.1 hf with h2 | h2
    · exact e2 f h2
    · simp at h2; subst h2; subst e1; simpa using hin

theorem names_all {ns : List (List UInt8)} (h : ∀ x ∈ ns, isName x = true) : ns.filter isName = ns := List.filter_eq_self.2 h

theorem holds_der {ls : List CredB} {ns : List (List UInt8)} {H hs : List FactB} {c : CredB} (hH : ∀ f ∈ H, Der ls f) (hc : c ∈ ls) (hn : ∀ x ∈ ns, isName x = true) (hh : HoldsOf (inF H) c ns hs) : ∀ f ∈ hs, Der ls f := fun f hf => by
  obtain ⟨h0, h1, h2, _⟩ := (hh.2 f).1 hf
  rw [names_all hn] at h2
  have := stepF_der hH hc h0 (names := ns) (w := f.2) h2
  rw [← h1] at this
  exact this

theorem RoundA.inner {ls : List CredB} {ns : List (List UInt8)} {H0 Hk : List FactB} {k : Nat} (h : RoundA ls ns H0 k Hk) (hs : List FactB) : InnerA ls Hk hs 0 Hk :=
  ⟨h.der, Nat.le_refl _, fun _ => ⟨rfl, fun f hf => by simp at hf⟩⟩

theorem RoundA.next {ls : List CredB} {ns : List (List UInt8)} {H0 Hk hs H : List FactB} {k : Nat} (h : RoundA ls ns H0 k Hk) (hk : k < ls.length) (hn : ∀ x ∈ ns, isName x = true) (_ : ∀ c ∈ ls, isCred c = true → c.kind = 1 → c.who ∈ ns) (hh : HoldsOf (inF Hk) ls[k] ns hs) (hi : InnerA ls Hk hs hs.length H) : RoundA ls ns H0 (k + 1) H := by
  refine ⟨hi.der, Nat.le_trans h.le hi.le, fun e => ?_⟩
  have h1 := h.le
  have h2 := hi.le
  obtain ⟨e1, e2⟩ := hi.cl (by omega)
  obtain ⟨e3, e4⟩ := h.cl (by omega)
  subst e1
  subst e3
  refine ⟨rfl, fun c hc hr s hs' hst => ?_⟩
  rw [List.take_succ_eq_append_getElem hk] at hc
  rcases List.mem_append.1 hc with h3 | h3
  · exact e4 c h3 hr s hs' hst
  · simp at h3
    subst h3
    rw [List.take_length] at e2
    refine e2 _ ((hh.2 _).2 ⟨hr, rfl, by rw [names_all hn]; exact hst, fun _ => ⟨hs', hn s hs'⟩⟩)

/-- The rounds: so many are done, each of which has brought one at least. -/
structure RoundsA (ls : List CredB) (i : Nat) (H : List FactB) : Prop where
  der : ∀ f ∈ H, Der ls f
  ge : i ≤ H.length

theorem RoundsA.start {ls : List CredB} {i : Nat} {H : List FactB} (h : RoundsA ls i H) (ns : List (List UInt8)) : RoundA ls ns H 0 H :=
  ⟨h.der, Nat.le_refl _, fun _ => ⟨rfl, fun c hc => by simp at hc⟩⟩

theorem der_le {ls : List CredB} {xs H : List FactB} (hx : ModelOf ls xs) (hd : ∀ f ∈ H, Der ls f) (hn : H.Nodup) : H.length ≤ xs.length :=
  nodup_lengthG _ _ hn fun f hf => (hx.2 f).2 (hd f hf)

theorem RoundA.closed {ls : List CredB} {ns : List (List UInt8)} {xs H0 H : List FactB} (h : RoundA ls ns H0 ls.length H) (hx : ModelOf ls xs) (_ : ∀ x ∈ ns, isName x = true) (hm : ∀ c ∈ ls, isCred c = true → c.kind = 1 → c.who ∈ ns) (e : H.length = H0.length) (hd : H.Nodup) : H.length = xs.length := by
  obtain ⟨e1, e2⟩ := h.cl e
  subst e1
  rw [List.take_length] at e2
  refine Nat.le_antisymm (der_le hx h.der hd) ?_
  refine nodup_lengthG _ _ (hx.1.nodup ltF_ord) fun f hf => ?_
  refine closed_der (names := ns) hm (fun c hc hr w hw => ?_) ((hx.2 f).1 hf)
  cases hs : stepF H c ns w with
  | false => exact .inr rfl
  | true => exact .inl (inF_iff.2 (e2 c hc hr w hw hs))

theorem RoundA.rounds {ls : List CredB} {ns : List (List UInt8)} {H0 H : List FactB} {i : Nat} (h : RoundA ls ns H0 ls.length H) (h0 : RoundsA ls i H0) (e : H.length ≠ H0.length) : RoundsA ls (i + 1) H :=
  ⟨h.der, by have := h.le; have := h0.ge; omega⟩

theorem RoundsA.done {ls : List CredB} {xs H : List FactB} (h : RoundsA ls xs.length H) (hx : ModelOf ls xs) (hd : H.Nodup) : H.length = xs.length :=
  Nat.le_antisymm (der_le hx h.der hd) h.ge

set_option maxRecDepth 100000 in
set_option maxHeartbeats 8000000 in
theorem founded_any {MA : (Nat → Prop) → World → Nat → List CredB → Prop} (HK0 : MK MA) {D _ F : Nat → Prop} (ao fa na : Option Addr) (cp fc nc : Nat) (ls : List CredB) (xs : List FactB) (ns : List (List UInt8)) (w : World)
    (hsm : SmallC ls) (hx : ModelOf ls xs) (hnl : ns.length ≤ 10000) (hn : ∀ x ∈ ns, isName x = true) (hm : ∀ c ∈ ls, isCred c = true → c.kind = 1 → c.who ∈ ns) (hls : CredsAt D w ao ls) (hst : StrsAt F w na ns) :
    Calls Tryz.prog 24 #[.slice ao ls.length cp, .slice fa xs.length fc, .slice na ns.length nc] w fun e w' => e = .returned (.bool true) ∧ Chg (fun _ => False) w w' := by
  have HKH := hid HK0
  have hxl := hx.few hsm
  have hll := hsm.1
  have HN := hid (And.intro hsm (And.intro hx (And.intro hn (And.intro hm (And.intro hls hst)))))
  clear HK0 hsm hx hn hm hls hst
  go_enter Tryz.func24, Tryz.ntmps24
  have hmm := @run_makeMap Tryz.prog
  go_wp2
  clear hmm
  obtain ⟨X, hX⟩ : ∃ X, X = w.heap.size + 1 := ⟨_, rfl⟩
  have hX0 : ((w.alloc (.map #[] 0)).alloc (.cells #[.map (some w.heap.size)] 82)).heap[X]? = some (.cells #[.map (some w.heap.size)] 82 (0, 0)) := by
    have := heap_alloc_new (w.alloc (.map #[] 0)) (.cells #[.map (some w.heap.size)] 82)
    rw [World.size_alloc] at this
    rw [hX]
    exact this
  have hM0 : FMap ((w.alloc (.map #[] 0)).alloc (.cells #[.map (some w.heap.size)] 82)) w.heap.size [] := (fmap_made w).keep ((Chg.refl (fun _ => False) _).alloc _) id
  have hc0 : Chg (fun _ => False) w ((w.alloc (.map #[] 0)).alloc (.cells #[.map (some w.heap.size)] 82)) := ((Chg.refl _ w).alloc _).alloc _
  generalize ((w.alloc (.map #[] 0)).alloc (.cells #[.map (some w.heap.size)] 82)) = w2 at *
  rw [← hX]
  obtain ⟨mb, hmb⟩ : ∃ mb, mb = w.heap.size := ⟨_, rfl⟩
  rw [← hmb] at hX0 hM0 ⊢
  have HB : Hid (X = mb + 1 ∧ mb = w.heap.size) := hid ⟨by omega, hmb⟩
  have HS0 := hid (And.intro hM0 (And.intro hX0 hc0))
  clear hX hX0 hM0 hc0 hmb
  go_loopw [18] (fun i wr => ∃ (k : Nat) (H : List FactB), i = .int .i64 k ∧ k ≤ xs.length ∧ Hid (RoundsA ls k H ∧ FMap wr mb H ∧ wr.heap[X]? = some (.cells #[.map (some mb)] 82 (0, 0)) ∧ Chg (fun _ => False) w wr)) (fun i _ => xs.length - (intOf i).toNat)
  case atStart => exact ⟨0, [], rfl, Nat.zero_le _, hid ⟨⟨fun f hf => (by cases hf), Nat.zero_le _⟩, HS0.out⟩⟩
  case round =>
    obtain ⟨k, H0, rfl, hk, HR⟩ := hrel
    clear HS0
    have hx0 := cell_blk HR.out.2.2.1 0
    simp only [List.getElem?_toArray, List.getElem?_cons_zero] at hx0
    have hln := fun ty => HR.out.2.1.len ty
    by_cases hlt : k < xs.length
    · go_wp2
      clear hx0 hln
      go_loopw [24] (fun i wr => ∃ (j : Nat) (H : List FactB), i = .int .i64 j ∧ j ≤ ls.length ∧ Hid (RoundA ls ns H0 j H ∧ FMap wr mb H ∧ wr.heap[X]? = some (.cells #[.map (some mb)] 82 (0, 0)) ∧ Chg (fun _ => False) w wr)) (fun i _ => ls.length - (intOf i).toNat)
      case atStart => exact ⟨0, H0, rfl, Nat.zero_le _, hid ⟨HR.out.1.start ns, HR.out.2⟩⟩
      case round =>
        obtain ⟨j, Hk, rfl, hj, HJ⟩ := hrel
        by_cases hjl : j < ls.length
        · obtain ⟨b, off, hac, _, hcat, _⟩ := (HN.out.2.2.2.2.1.keep HJ.out.2.2.2 (fun _ _ => id)) j hjl
          have HC : Hid (credShort ls[j] 100000 ∧ ls[j] ∈ ls ∧ (∀ hs H, HoldsOf (inF Hk) ls[j] ns hs → InnerA ls Hk hs hs.length H → RoundA ls ns H0 (j + 1) H)) := hid ⟨HN.out.1.2 _ (List.getElem_mem hjl), List.getElem_mem hjl, fun hs H h1 h2 => HJ.out.1.next hjl HN.out.2.2.1 HN.out.2.2.2.1 h1 h2⟩
          have HJL := hid hjl
          generalize ls[j] = c at *
          obtain ⟨c0, c1, c2, c3, c4, c5, c6, c7, c8⟩ := hcat
          have hS : (wr.alloc (.cells #[.int .i64 c.kind, .string ⟨c.head.1.toArray⟩, .string ⟨c.head.2.toArray⟩, .string ⟨c.who.toArray⟩, .string ⟨c.b.1.toArray⟩, .string ⟨c.b.2.toArray⟩, .string ⟨c.c.1.toArray⟩, .string ⟨c.c.2.toArray⟩, .string ⟨c.w2.toArray⟩] 47)).heap[wr.heap.size]? = some (.cells (credBox c) 47 (0, 0)) := heap_alloc_new wr _
          have hal : Chg (fun _ => False) wr (wr.alloc (.cells #[.int .i64 c.kind, .string ⟨c.head.1.toArray⟩, .string ⟨c.head.2.toArray⟩, .string ⟨c.who.toArray⟩, .string ⟨c.b.1.toArray⟩, .string ⟨c.b.2.toArray⟩, .string ⟨c.c.1.toArray⟩, .string ⟨c.c.2.toArray⟩, .string ⟨c.w2.toArray⟩] 47)) := (Chg.refl _ wr).alloc _
          obtain ⟨s0, s1, s2, s3, s4, s5, s6, s7, s8⟩ := cred_at_blk hS
          simp only [Nat.zero_add] at s0 s1 s2 s3 s4 s5 s6 s7 s8
          have HM : Hid (FMap (wr.alloc (.cells #[.int .i64 c.kind, .string ⟨c.head.1.toArray⟩, .string ⟨c.head.2.toArray⟩, .string ⟨c.who.toArray⟩, .string ⟨c.b.1.toArray⟩, .string ⟨c.b.2.toArray⟩, .string ⟨c.c.1.toArray⟩, .string ⟨c.c.2.toArray⟩, .string ⟨c.w2.toArray⟩] 47)) mb Hk ∧ (wr.alloc (.cells #[.int .i64 c.kind, .string ⟨c.head.1.toArray⟩, .string ⟨c.head.2.toArray⟩, .string ⟨c.who.toArray⟩, .string ⟨c.b.1.toArray⟩, .string ⟨c.b.2.toArray⟩, .string ⟨c.c.1.toArray⟩, .string ⟨c.c.2.toArray⟩, .string ⟨c.w2.toArray⟩] 47)).heap[X]? = some (.cells #[.map (some mb)] 82 (0, 0)) ∧ Chg (fun _ => False) w (wr.alloc (.cells #[.int .i64 c.kind, .string ⟨c.head.1.toArray⟩, .string ⟨c.head.2.toArray⟩, .string ⟨c.who.toArray⟩, .string ⟨c.b.1.toArray⟩, .string ⟨c.b.2.toArray⟩, .string ⟨c.c.1.toArray⟩, .string ⟨c.c.2.toArray⟩, .string ⟨c.w2.toArray⟩] 47))) := hid ⟨HJ.out.2.1.keep hal id, blk_keep HJ.out.2.2.1 hal id, HJ.out.2.2.2.trans hal (fun _ _ h => h)⟩
          subst hac
          have HQ := hid (HKH.out.holds (D := fun i => i < (wr.alloc (.cells #[.int .i64 c.kind, .string ⟨c.head.1.toArray⟩, .string ⟨c.head.2.toArray⟩, .string ⟨c.who.toArray⟩, .string ⟨c.b.1.toArray⟩, .string ⟨c.b.2.toArray⟩, .string ⟨c.c.1.toArray⟩, .string ⟨c.c.2.toArray⟩, .string ⟨c.w2.toArray⟩] 47)).heap.size) 42 #[] #[.pointer (some ⟨X, 0, none⟩)] (inF Hk) c na nc ns (wr.alloc (.cells #[.int .i64 c.kind, .string ⟨c.head.1.toArray⟩, .string ⟨c.head.2.toArray⟩, .string ⟨c.who.toArray⟩, .string ⟨c.b.1.toArray⟩, .string ⟨c.b.2.toArray⟩, .string ⟨c.c.1.toArray⟩, .string ⟨c.c.2.toArray⟩, .string ⟨c.w2.toArray⟩] 47)) HC.out.1 hnl (fun x hx => by have := (isName_len (HN.out.2.2.1 x hx)).2; omega) (strs_low8 (HN.out.2.2.2.2.2.keep HM.out.2.2 (fun _ _ => id))) (fun i hi => hi) fenters (fclosure HM.out.2.1 HM.out.1))
          clear hS hal
          unfold credV credBox at HQ
          go_wp2_with fail
          refine HQ.out.mono ?_
          clear HQ s0 s1 s2 s3 s4 s5 s6 s7 s8 c0 c1 c2 c3 c4 c5 c6 c7 c8
          generalize wr.alloc (.cells #[.int .i64 c.kind, .string ⟨c.head.1.toArray⟩, .string ⟨c.head.2.toArray⟩, .string ⟨c.who.toArray⟩, .string ⟨c.b.1.toArray⟩, .string ⟨c.b.2.toArray⟩, .string ⟨c.c.1.toArray⟩, .string ⟨c.c.2.toArray⟩, .string ⟨c.w2.toArray⟩] 47) = w3 at *
          rintro e w4 ⟨hs, ah, ch, rfl, hfa, hho, hc4⟩
          have hhl := hho.len
          have HH : Hid (FactsAt (fun i => X ≠ i ∧ mb ≠ i ∧ i < w4.heap.size) w4 ah hs ∧ HoldsOf (inF Hk) c ns hs) := hid ⟨hfa.mono (fun i hi => by have h1 := lt_blk HM.out.2.1; have h2 := HB.out; omega), hho⟩
          have HM4 : Hid (FMap w4 mb Hk ∧ w4.heap[X]? = some (.cells #[.map (some mb)] 82 (0, 0)) ∧ Chg (fun _ => False) w w4) := hid ⟨HM.out.1.keep hc4 id, blk_keep HM.out.2.1 hc4 id, HM.out.2.2.trans hc4 (fun _ _ h => h)⟩
          clear hfa hho hc4 HM
          go_wp2
          go_loopw [33] (fun i wr => ∃ (m : Nat) (H : List FactB), i = .int .i64 m ∧ m ≤ hs.length ∧ Hid (InnerA ls Hk hs m H ∧ FMap wr mb H ∧ wr.heap[X]? = some (.cells #[.map (some mb)] 82 (0, 0)) ∧ Chg (fun _ => False) w wr ∧ FactsAt (fun i => X ≠ i ∧ mb ≠ i ∧ i < w4.heap.size) wr ah hs)) (fun i _ => hs.length - (intOf i).toNat)
          case atStart => exact ⟨0, Hk, rfl, Nat.zero_le _, hid ⟨HJ.out.1.inner hs, HM4.out.1, HM4.out.2.1, HM4.out.2.2, HH.out.1⟩⟩
          case round =>
            obtain ⟨m, H, rfl, hm, HI⟩ := hrel
            by_cases hml : m < hs.length
            · obtain ⟨b2, off2, hah, _, hft⟩ := HI.out.2.2.2.2 m hml
              have HF : Hid (factShort hs[m] 9223372036854775807 ∧ InnerA ls Hk hs (m + 1) (addF H hs[m])) := hid ⟨(HH.out.2.short _ (List.getElem_mem hml)).mono (by omega), HI.out.1.step hml (holds_der HJ.out.1.der HC.out.2.1 HN.out.2.2.1 HH.out.2 _ (List.getElem_mem hml))⟩
              have HML := hid hml
              generalize hs[m] = f at *
              obtain ⟨f0, f1, f2⟩ := hft
              have hS : (wr.alloc (.cells #[.string ⟨f.1.1.toArray⟩, .string ⟨f.1.2.toArray⟩, .string ⟨f.2.toArray⟩] 52)).heap[wr.heap.size]? = some (.cells (factBox f) 52 (0, 0)) := heap_alloc_new wr _
              have hal : Chg (fun _ => False) wr (wr.alloc (.cells #[.string ⟨f.1.1.toArray⟩, .string ⟨f.1.2.toArray⟩, .string ⟨f.2.toArray⟩] 52)) := (Chg.refl _ wr).alloc _
              obtain ⟨s0, s1, s2⟩ := fact_at_blk hS
              simp only [Nat.zero_add] at s0 s1 s2
              have hx2 := cell_blk (blk_keep HI.out.2.2.1 hal id) 0
              simp only [List.getElem?_toArray, List.getElem?_cons_zero] at hx2
              have hHl : H.length ≤ 4000000 := Nat.le_trans (der_le HN.out.2.1 HI.out.1.der HI.out.2.1.nd) hxl
              obtain ⟨w5, hrun, hm5, hc5⟩ := (HI.out.2.1.keep hal id).add HF.out.1 (by omega)
              have H5 : Hid (FMap w5 mb (addF H f) ∧ w5.heap[X]? = some (.cells #[.map (some mb)] 82 (0, 0)) ∧ Chg (fun _ => False) w w5 ∧ FactsAt (fun i => X ≠ i ∧ mb ≠ i ∧ i < w4.heap.size) w5 ah hs) := hid ⟨hm5, blk_keep (blk_keep HI.out.2.2.1 hal id) hc5 (by have := HB.out.1; omega), (HI.out.2.2.2.1.trans hal (fun _ _ h => h)).trans hc5 (fun i hi h => by have := HB.out.2; omega), (HI.out.2.2.2.2.keep hal (fun _ _ => id)).keep hc5 (fun i hi h => hi.2.1 h.symm)⟩
              unfold factVal at hrun
              subst hah
              clear hS hal hm5 hc5
              go_wp2
              go_roundw
              case rel => exact ⟨m + 1, addF H f, by go_num, by have := HML.out; omega, hid ⟨HF.out.2, H5.out⟩⟩
              case measure => have := HML.out; simp [intOf]; omega
            · have hm2 : m = hs.length := by omega
              have HD : Hid (RoundA ls ns H0 (j + 1) H ∧ FMap wr mb H ∧ wr.heap[X]? = some (.cells #[.map (some mb)] 82 (0, 0)) ∧ Chg (fun _ => False) w wr) := hid ⟨HC.out.2.2 hs H HH.out.2 (hm2 ▸ HI.out.1), HI.out.2.1, HI.out.2.2.1, HI.out.2.2.2.1⟩
              clear HI HM4 HJ hm2
              go_wp2
              go_roundw
              case rel => exact ⟨j + 1, H, by go_num, by have := HJL.out; omega, HD⟩
              case measure => have := HJL.out; simp [intOf]; omega
        · have hx1 := cell_blk HJ.out.2.2.1 0
          simp only [List.getElem?_toArray, List.getElem?_cons_zero] at hx1
          have hln := fun ty => HJ.out.2.1.len ty
          have hj2 : j = ls.length := by omega
          subst hj2
          by_cases he : Hk.length = H0.length
          · have z1 : ((Hk.length : Int) == (H0.length : Int)) = true := by simp [he]
            have hl2 := HJ.out.1.closed HN.out.2.1 HN.out.2.2.1 HN.out.2.2.2.1 he HJ.out.2.1.nd
            have z2 : ((Hk.length : Int) == (xs.length : Int)) = true := by simp [hl2]
            clear he hl2
            go_wp2
            go_ret
            exact ⟨rfl, HJ.out.2.2.2⟩
          · have z1 : ((Hk.length : Int) == (H0.length : Int)) = false := by simp; omega
            have HD : Hid (RoundsA ls (k + 1) Hk) := hid (HJ.out.1.rounds HR.out.1 he)
            clear he
            go_wp2
            go_roundw
            case rel => exact ⟨k + 1, Hk, by go_num, by omega, hid ⟨HD.out, HJ.out.2⟩⟩
            case measure => simp [intOf]; omega
    · go_wp2
      go_ret
      have hk2 : k = xs.length := by omega
      have hRR := HR.out.1
      rw [hk2] at hRR
      have := hRR.done HN.out.2.1 HR.out.2.1.nd
      exact ⟨by rw [this]; simp, HR.out.2.2.2⟩
end Go.Proofs.YtanompfdjfgfbaaGreat

/- append of a list of credentials, onto a row of the call's own. -/
namespace Go.Proofs.YtanompfdjfgfbaaGreat
open Go.RowKit

theorem cred_one8 (x : CredB) : ∀ u ∈ credCells x, u.oneCell' = true := by
  intro u hu
  simp only [credCells, List.mem_cons, List.not_mem_nil, or_false] at hu
  rcases hu with rfl | rfl | rfl | rfl | rfl | rfl | rfl | rfl | rfl <;> rfl

theorem credRow_one8 (ls : List CredB) : ∀ u ∈ credRow ls, u.oneCell' = true := by
  intro u hu
  unfold credRow at hu
  rw [List.mem_flatMap] at hu
  obtain ⟨x, _, hx⟩ := hu
  exact cred_one8 x u hx

theorem credRow_len8 (ls : List CredB) : (credRow ls).length = ls.length * 9 := by
  unfold credRow
  induction ls with
  | nil => rfl
  | cons x l ih => rw [List.flatMap_cons, List.length_append, ih, List.length_cons]; simp [credCells]; omega

theorem credRow_append8 (a b : List CredB) : credRow (a ++ b) = credRow a ++ credRow b := by simp [credRow]

theorem CredAt.cells8 {w : World} {b o : Nat} {c : CredB} (h : CredAt w b o c) : ∀ j, j < 9 → w.cell? ⟨b, o + j, none⟩ = (credCells c)[j]?
  | 0, _ => h.k0
  | 1, _ => h.k1
  | 2, _ => h.k2
  | 3, _ => h.k3
  | 4, _ => h.k4
  | 5, _ => h.k5
  | 6, _ => h.k6
  | 7, _ => h.k7
  | 8, _ => h.k8
  | j + 9, h => absurd h (by omega)

theorem credRow_get8 : ∀ (ls : List CredB) (i j : Nat) (h : i < ls.length) (_ : j < 9), (credRow ls)[i * 9 + j]? = (credCells ls[i])[j]?
  | x :: l, 0, j, _, hj => by
    rw [Nat.zero_mul, Nat.zero_add, credRow, List.flatMap_cons, List.getElem?_append_left (by simpa [credCells] using hj)]
    rfl
  | x :: l, i + 1, j, h, hj => by
    have hl : (credCells x).length = 9 := rfl
    have := credRow_get8 l i j (by simpa using h) hj
    rw [credRow, List.flatMap_cons, List.getElem?_append_right (by rw [hl, Nat.add_mul]; omega), hl]
    rw [show (i + 1) * 9 + j - 9 = i * 9 + j by rw [Nat.add_mul]; omega]
    exact this

theorem credsAt_row {D : Nat → Prop} {w : World} {ad : Addr} {ls : List CredB} (hst : CredsAt D w (some ad) ls) (j : Nat) (u : Value) (hj : (credRow ls)[j]? = some u) : w.cell? (ad.add j) = some u := by
  have hjl : j < (credRow ls).length := (List.getElem?_eq_some_iff.1 hj).1
  rw [credRow_len8] at hjl
  have hq : j / 9 < ls.length := by omega
  obtain ⟨b, off, e, _, h3, _⟩ := hst (j / 9) hq
  cases e
  have h4 := h3.cells8 (j % 9) (by omega)
  have h5 := credRow_get8 ls (j / 9) (j % 9) hq (by omega)
  have h6 : j / 9 * 9 + j % 9 = j := by omega
  rw [h6] at h5
  rw [add_off, show off + j = off + j / 9 * 9 + j % 9 by omega, h4, ← h5]
  exact hj

theorem credsAt_none {D : Nat → Prop} {w : World} {ls : List CredB} (hst : CredsAt D w none ls) : ls = [] := by
  cases ls with
  | nil => rfl
  | cons y l => obtain ⟨_, _, e, _⟩ := hst 0 (by simp); cases e

theorem ownC_chg8 {B : Nat} {w wm w' : World} {v : Value} {n : Nat} {row : List Value} (hown : wm.ownsRow B 47 9 v n row) (hgr : w.grownBy w' v.ownBlock) (S : Nat → Prop) (hS : ∀ k, B ≤ k → S k) : Chg S w w' := by
  refine (Chg.refl S w).grown hgr fun k e _ => ?_
  rcases hown.2 with ⟨hx', _⟩ | ⟨g, cap', cur, hx', hg, _⟩
  · rw [hx'] at e; cases e
  · rw [hx'] at e; cases e; exact hS _ hg

theorem wpList_append_creds {D : Nat → Prop} {ops : Array Oper} {rest : List Oper} {o : Oper} {a : Act} {w : World} {Q : Exit → Act → World → Prop} (hgd : o.guard = none) (s x : Operand)
    (ho : o.op = .call { callee := .builtin .append, args := #[s, x], argTypes := #[22, 22] }) (B : Nat) (v : Value) (zs : List CredB) (hs : a.eval s = v) (hown : OwnC B w v zs)
    (ao : Option Addr) (cp : Nat) (ls : List CredB) (hx : a.eval x = .slice ao ls.length cp) (hst : CredsAt D w ao ls) (h0 : ao = none → cp = 0)
    (hlen : zs.length + ls.length ≤ 33554432) (hB : B ≤ w.heap.size)
    (h : ∀ v' w', OwnC B w' v' (zs ++ ls) → w.grownBy w' v.ownBlock → (v'.ownBlock = v.ownBlock ∨ v'.ownBlock = some w.heap.size) → wpList Tryz.prog ops Q rest (a.put o.dst v') w') : wpList Tryz.prog ops Q (o :: rest) a w := by
  obtain ⟨i0, hi, hz0, hz1, hz2⟩ := info_parts Tryz.info47
  cases hao : ao with
  | none =>
    subst hao
    have hl := credsAt_none hst
    subst hl
    have hcp := h0 rfl
    subst hcp
    exact wpList_append_own_none hgd s x 22 ho B 47 i0 9 Tryz.underlying22 hi v _ _ hs hown hx (h v w (by rw [List.append_nil]; exact hown) (World.grownBy.refl w _) (.inl rfl))
  | some ad =>
    subst hao
    refine wpList_append_own_at w hgd s x 22 ho B 47 i0 (.agg #[.int .i64 0, .string ⟨#[]⟩, .string ⟨#[]⟩, .string ⟨#[]⟩, .string ⟨#[]⟩, .string ⟨#[]⟩, .string ⟨#[]⟩, .string ⟨#[]⟩, .string ⟨#[]⟩]) 9 136 Tryz.underlying22 hi hz0 hz1 hz2 rfl (by decide) v _ _ hs hown ad ls.length cp (credRow ls) hx (by rw [credRow_len8]) (fun j u hj => credsAt_row hst j u hj) (fun u hu => credRow_one8 ls u hu) (by unfold maxLen; omega) (by omega) hB ?_
    · intro v' w' hown' hgr _ hat
      exact h v' w' (by unfold OwnC; rw [credRow_append8, List.length_append]; exact hown') hgr hat

theorem run_append_creds {D : Nat → Prop} {B : Nat} {w : World} {v : Value} {zs : List CredB} (ty : TypeId) (hown : OwnC B w v zs)
    {ao : Option Addr} {cp : Nat} {ls : List CredB} (hst : CredsAt D w ao ls) (h0 : ao = none → cp = 0) (hlen : zs.length + ls.length ≤ 33554432) (hB : B ≤ w.heap.size) :
    ∃ v' w', (Builtin.append_ #[22, 22] ty #[v, .slice ao ls.length cp]).run Tryz.prog w = .ok v' w' ∧ OwnC B w' v' (zs ++ ls) ∧ (∀ S : Nat → Prop, (∀ k, B ≤ k → S k) → Chg S w w') := by
  obtain ⟨i0, hi, hz0, hz1, hz2⟩ := info_parts Tryz.info47
  cases ao with
  | none =>
    have hl := credsAt_none hst
    subst hl
    have hcp := h0 rfl
    subst hcp
    exact ⟨v, w, run_append_owned_none (P := Tryz.prog) (w := w) B 22 ty 47 i0 9 Tryz.underlying22 hi v _ _ hown, by rw [List.append_nil]; exact hown, fun S _ => Chg.refl S w⟩
  | some ad =>
    obtain ⟨v', w', h1, h2, h3, _⟩ := run_append_own_at (P := Tryz.prog) w B 22 ty 47 i0 (.agg #[.int .i64 0, .string ⟨#[]⟩, .string ⟨#[]⟩, .string ⟨#[]⟩, .string ⟨#[]⟩, .string ⟨#[]⟩, .string ⟨#[]⟩, .string ⟨#[]⟩, .string ⟨#[]⟩]) 9 136 Tryz.underlying22 hi hz0 hz1 hz2 rfl (by decide) v _ _ hown ad ls.length cp (credRow ls) (by rw [credRow_len8])
      (fun j u hj => credsAt_row hst j u hj) (fun u hu => credRow_one8 ls u hu) (by unfold maxLen; omega) (by omega) hB
    exact ⟨v', w', h1, by unfold OwnC; rw [credRow_append8, List.length_append]; exact h2, fun S hS => ownC_chg8 hown h3 S hS⟩

/-- Rows of n credentials and fewer, and those that hold full, from the block B on, are kept. -/
def RowsK (B n : Nat) (full : List CredB) (w w' : World) : Prop := ∀ v zs, (zs.length ≤ n ∨ zs = full) → OwnC B w v zs → OwnC B w' v zs
theorem RowsK.refl (B n : Nat) (full : List CredB) (w : World) : RowsK B n full w w := fun _ _ _ h => h
theorem RowsK.trans {B n : Nat} {full : List CredB} {a b c : World} (h : RowsK B n full a b) (k : RowsK B n full b c) : RowsK B n full a c := fun v zs hz ho => k v zs hz (h v zs hz ho)
theorem RowsK.of_chg {B n : Nat} {full : List CredB} {a b : World} (h : Chg (fun _ => False) a b) : RowsK B n full a b := fun _ _ _ ho => ho.keep h (fun _ _ => id)

def capOf : Value → Nat
  | .slice _ _ c => c
  | _ => 0

theorem chg_drew_alloc (w : World) (o : Obj) : Chg (fun _ => False) w (w.drew.alloc o) := by
  have h : Chg (fun _ => False) w w.drew := (Chg.refl _ w).drew
  exact h.alloc o

set_option maxRecDepth 100000 in
theorem run_append_creds2 {D : Nat → Prop} {B : Nat} {w : World} {v : Value} {zs : List CredB} (ty : TypeId) (hown : OwnC B w v zs)
    {ao : Option Addr} {cp : Nat} {ls : List CredB} (hst : CredsAt D w ao ls) (h0 : ao = none → cp = 0) (hlen : zs.length + ls.length ≤ 33554432) (hB : B ≤ w.heap.size) :
    ∃ v' w', (Builtin.append_ #[22, 22] ty #[v, .slice ao ls.length cp]).run Tryz.prog w = .ok v' w' ∧ OwnC B w' v' (zs ++ ls) ∧ (∀ S : Nat → Prop, (∀ k, B ≤ k → S k) → Chg S w w') ∧ RowsK B zs.length (zs ++ ls) w w' ∧ (capOf v = 0 → Chg (fun _ => False) w w') ∧ (ls.length = 0 → capOf v' = capOf v) ∧ w'.heap.size = (if zs.length + ls.length ≤ capOf v then w.heap.size else w.heap.size + 1) := by
  obtain ⟨v', w', hr, h2, h3⟩ := run_append_creds ty hown hst h0 hlen hB
  refine ⟨v', w', hr, h2, h3, ?_⟩
  obtain ⟨i0, hi, hz0, hz1, hz2⟩ := info_parts Tryz.info47
  have hrow := credRow_len8 ls
  rw [← hz1] at hrow
  have key : Chg (fun _ => False) w w' → (ls.length = 0 → capOf v' = capOf v) → w'.heap.size = (if zs.length + ls.length ≤ capOf v then w.heap.size else w.heap.size + 1) → RowsK B zs.length (zs ++ ls) w w' ∧ (capOf v = 0 → Chg (fun _ => False) w w') ∧ (ls.length = 0 → capOf v' = capOf v) ∧ w'.heap.size = (if zs.length + ls.length ≤ capOf v then w.heap.size else w.heap.size + 1) := fun hc h h4 => ⟨RowsK.of_chg hc, fun _ => hc, h, h4⟩
  have hcapv : zs.length ≤ capOf v := by
    rcases hown.2 with ⟨rfl, hn⟩ | ⟨g, cap, cur, rfl, hbg, hg, hnc, hcm, hcs, htake⟩
    · rw [hn]; exact Nat.zero_le _
    · exact hnc
  cases ao with
  | none =>
    have hl := credsAt_none hst
    subst hl
    have hcp := h0 rfl
    subst hcp
    have hr2 := run_append_owned_none (P := Tryz.prog) (w := w) B 22 ty 47 i0 9 Tryz.underlying22 hi v _ _ hown
    rw [show ([] : List CredB).length = 0 from rfl, hr2] at hr
    injection hr with hv hw
    subst hw
    exact key (Chg.refl _ _) (fun _ => by rw [← hv]) (by rw [if_pos (by simpa using hcapv)])
  | some ad =>
    have hnews := fun j u hj => credsAt_row hst j u hj
    have hone := fun u hu => credRow_one8 ls u hu
    by_cases hm : ls.length = 0
    · have hl : ls = [] := List.eq_nil_of_length_eq_zero hm
      subst hl
      rw [show ([] : List CredB).length = 0 from rfl] at hr
      rcases hown.2 with ⟨rfl, hn⟩ | ⟨g, cap, cur, rfl, hbg, hg, hnc, hcm, hcs, htake⟩
      · have hr2 : (Builtin.append_ #[22, 22] ty #[.slice none 0 0, .slice (some ad) 0 cp]).run Tryz.prog w = .ok (.slice none 0 0) w := by
          simp [Builtin.append_, run_underlying Tryz.underlying22, sizeOf, typeInfo, hi, Builtin.lenOf, Builtin.firstCells, loadCells, loadCellsFrom]
        rw [hr2] at hr
        injection hr with hv hw
        subst hw
        exact key (Chg.refl _ _) (fun _ => by rw [← hv]) (by rw [if_pos (by simpa using hcapv)])
      · have hfit : zs.length * i0.size + ([] : List Value).length ≤ cur.size := by rw [hz1, hcs]; simpa using Nat.mul_le_mul_right 9 hnc
        have hr2 := run_append_room (P := Tryz.prog) w 22 ty 47 i0 Tryz.underlying22 hi g zs.length cap cur hg ad 0 cp [] (by simp) (fun j u hj => by simp at hj) (fun u hu => by cases hu) hnc hfit
        rw [hr2] at hr
        injection hr with hv hw
        subst hw
        refine key ⟨rfl, rfl, rfl, by simp [World.setRow], fun k hk _ => ?_⟩ (fun _ => by rw [← hv]; rfl) (by rw [if_pos (by simpa using hcapv)]; simp [World.setRow])
        by_cases e : k = g
        · subst e
          rw [setRow_heap w k cur _ _ _ hg, hg]
          simp
        · exact setRow_other w g k _ e
    · rcases hown.2 with ⟨rfl, hn⟩ | ⟨g, cap, cur, rfl, hbg, hg, hnc, hcm, hcs, htake⟩
      · have hcz : capOf (.slice none 0 0) = 0 := rfl
        have hr2 := run_append_nil (P := Tryz.prog) w 22 ty 47 i0 _ Tryz.underlying22 hi hz0 ad ls.length cp (credRow ls) hrow hnews (by omega) (by omega) (by rw [hz2]; omega)
        rw [hr2] at hr
        injection hr with _ hw
        subst hw
        exact key (chg_drew_alloc _ _) (fun h => absurd h hm) (by rw [if_neg (by rw [hcz]; omega)]; simp)
      · by_cases hroom : zs.length + ls.length ≤ cap
        · have hfit : zs.length * i0.size + (credRow ls).length ≤ cur.size := by rw [hrow, hz1, hcs, ← Nat.add_mul]; exact Nat.mul_le_mul_right _ hroom
          have hr2 := run_append_room (P := Tryz.prog) w 22 ty 47 i0 Tryz.underlying22 hi g zs.length cap cur hg ad ls.length cp (credRow ls) hrow hnews hone hroom hfit
          rw [hr2] at hr
          injection hr with _ hw
          subst hw
          refine ⟨fun v2 zs2 hz2' ho2 => ?_, fun h => by have h2 : cap = 0 := h; omega, fun h => absurd h hm, by rw [if_pos (show zs.length + ls.length ≤ capOf (Value.slice (some ⟨g, 0, none⟩) zs.length cap) from hroom)]; simp [World.setRow]⟩
          refine ⟨ho2.1, ?_⟩
          rcases ho2.2 with hn2 | ⟨g2, cap2, cur2, rfl, hbg2, hg2, hnc2, hcm2, hcs2, htake2⟩
          · exact .inl hn2
          · by_cases e : g2 = g
            · subst e
              have he : cur2 = cur := by rw [hg] at hg2; injection hg2 with hg2; injection hg2 with h1 _ _; exact h1.symm
              subst he
              have hcl : cur2.toList.length = cap * 9 := by rw [Array.length_toList, hcs]
              have hs9 : zs.length * i0.size + (credRow ls).length = (zs.length + ls.length) * 9 := by rw [hrow, hz1, Nat.add_mul]
              have hr9 : (credRow ls).length = ls.length * 9 := credRow_len8 ls
              refine .inr ⟨g2, cap2, _, rfl, hbg2, setRow_heap w g2 cur2 _ _ _ hg, hnc2, hcm2, ?_, ?_⟩
              · rw [← hcs2]
                simp only [List.size_toArray, List.length_append, List.length_take, List.length_drop, hz1, hr9, hcl]
                rw [hcs]
                omega
              · rcases hz2' with hz2' | hz2'
                rotate_left
                · subst hz2'
                  have hn9 : zs.length * 9 ≤ cap * 9 := Nat.mul_le_mul_right 9 hnc
                  rw [hz1]
                  simp only [htake]
                  rw [credRow_append8]
                  have hl9 : (credRow zs ++ credRow ls).length = (zs ++ ls).length * 9 := by rw [← credRow_append8, credRow_len8]
                  rw [← hl9]
                  exact List.take_left
                rw [← htake2]
                have hz9 : zs2.length * 9 ≤ zs.length * 9 := Nat.mul_le_mul_right 9 hz2'
                have hn9 : zs.length * 9 ≤ cap * 9 := Nat.mul_le_mul_right 9 hnc
                simp only [List.append_assoc, hz1]
                rw [List.take_append_of_le_length (by rw [List.length_take, hcl, Nat.min_eq_left hn9]; exact hz9), List.take_take, Nat.min_eq_left hz9]
            · exact .inr ⟨g2, cap2, cur2, rfl, hbg2, (setRow_other w g g2 _ e).trans hg2, hnc2, hcm2, hcs2, htake2⟩
        · have holds : ∀ j u, (credRow zs)[j]? = some u → w.cell? ((⟨g, 0, none⟩ : Addr).add j) = some u := hown.cells (g := g) rfl
          have hzl := hown.1
          rw [← hz1] at hzl
          have hr2 := run_append_grow (P := Tryz.prog) w 22 ty 47 i0 _ Tryz.underlying22 hi hz0 ⟨g, 0, none⟩ zs.length cap (credRow zs) hzl holds ad ls.length cp (credRow ls) hrow hnews (by omega) (by omega) (growslice_fits (by omega) (by rw [hz2]; omega))
          rw [hr2] at hr
          injection hr with _ hw
          subst hw
          exact key (chg_drew_alloc _ _) (fun h => absurd h hm) (by rw [if_neg (show ¬ zs.length + ls.length ≤ capOf (Value.slice (some ⟨g, 0, none⟩) zs.length cap) from hroom)]; simp)
end Go.Proofs.YtanompfdjfgfbaaGreat

/- Words for the law ModelLeast: a model is there; the region that joins two lists of credentials. -/
namespace Go.Proofs.YtanompfdjfgfbaaGreat
open Go.RowKit

theorem risingG_ins {α : Type} {lt : α → α → Bool} (o : Ord lt) (x : α) : ∀ out : List α, RisingG lt out → ∃ out', RisingG lt out' ∧ ∀ y, y ∈ out' ↔ y = x ∨ y ∈ out
  | [], _ => ⟨[x], ⟨fun y hy => (by cases hy), trivial⟩, fun y => by simp⟩
  | z :: l, h => by
    rcases o.tri x z with h1 | h1 | h1
    · refine ⟨x :: z :: l, ⟨fun y hy => ?_, h⟩, fun y => by simp⟩
      rcases List.mem_cons.1 hy with rfl | hy
      · exact h1
      · exact o.trans _ _ _ h1 (h.1 y hy)
    · subst h1
      exact ⟨x :: l, h, fun y => by simp⟩
    · obtain ⟨out', h2, h3⟩ := risingG_ins o x l h.2
      refine ⟨z :: out', ⟨fun y hy => ?_, h2⟩, fun y => ?_⟩
      · rcases (h3 y).1 hy with rfl | hy
        · exact h1
        · exact h.1 y hy
      · simp only [List.mem_cons, h3 y]
        constructor
        · rintro (h | h | h)
          · exact .inr (.inl h)
          · exact .inl h
          · exact .inr (.inr h)
        · rintro (h | h | h)
          · exact .inr (.inl h)
          · exact .inl h
          · exact .inr (.inr h)

theorem model_ex (ls : List CredB) : ∃ xs, ModelOf ls xs := by
  have key : ∀ ps : List FactB, ∃ out, RisingG ltF out ∧ ∀ y, y ∈ out ↔ y ∈ ps ∧ Der ls y := by
    intro ps
    induction ps with
    | nil => exact ⟨[], trivial, fun y => by simp⟩
    | cons p l ih =>
      obtain ⟨out, h1, h2⟩ := ih
      by_cases hd : Der ls p
      · obtain ⟨out', h3, h4⟩ := risingG_ins ltF_ord p out h1
        refine ⟨out', h3, fun y => ?_⟩
        rw [h4 y, h2 y, List.mem_cons]
        constructor
        · rintro (rfl | ⟨h, k⟩)
          · exact ⟨.inl rfl, hd⟩
          · exact ⟨.inr h, k⟩
        · rintro ⟨rfl | h, k⟩
          · exact .inl rfl
          · exact .inr ⟨h, k⟩
      · refine ⟨out, h1, fun y => ?_⟩
        rw [h2 y, List.mem_cons]
        constructor
        · rintro ⟨h, k⟩
          exact ⟨.inr h, k⟩
        · rintro ⟨rfl | h, k⟩
          · exact absurd k hd
          · exact ⟨h, k⟩
  obtain ⟨out, h1, h2⟩ := key (pairsF (ls.map (·.head)) (whosOf ls))
  refine ⟨out, h1, fun f => (h2 f).trans ⟨fun h => h.2, fun hd => ⟨?_, hd⟩⟩⟩
  unfold pairsF
  rw [List.mem_flatMap]
  obtain ⟨c, hc, _, e⟩ := hd.head
  obtain ⟨c2, hc2, _, _, e2⟩ := hd.who
  refine ⟨f.1, List.mem_map.2 ⟨c, hc, e⟩, List.mem_map.2 ⟨f.2, ?_, rfl⟩⟩
  rw [← e2]
  exact whosOf_who hc2

theorem ModelOf.reverse {ls : List CredB} {xs : List FactB} (h : ModelOf ls xs) : ModelOf ls.reverse xs :=
  h.of_same fun _ => ⟨Der.mono fun c hc _ => by simpa using hc, Der.mono fun c hc _ => by simpa using hc⟩

theorem creds_one8 {w : World} {g : Nat} {c : CredB} {ty : TypeId} {f : Nat × Nat} (h : w.heap[g]? = some (.cells (credBox c) ty f)) (hs : credShort c 9223372036854775807) : CredsAt (fun k => k = g) w (some ⟨g, 0, none⟩) [c] := fun i hi => by
  have : i = 0 := by simp at hi; omega
  subst this
  exact ⟨g, 0, rfl, rfl, cred_at_blk h, hs⟩

theorem own_one8 {w : World} {g B : Nat} {c : CredB} (hB : B ≤ g) (h : w.heap[g]? = some (.cells (credBox c) 47 (0, 0))) : OwnC B w (.slice (some ⟨g, 0, none⟩) 1 1) [c] :=
  ⟨by simp [credRow, credCells], .inr ⟨g, 1, _, rfl, hB, h, Nat.le_refl _, by unfold maxLen; omega, rfl, rfl⟩⟩

theorem ask_in {MA : (Nat → Prop) → World → Nat → List CredB → Prop} (HK : MK MA) {O : Nat → Prop} {w : World} {g : Nat} {ls : List CredB} {xs : List FactB} (h : MA O w g ls) (hs : SmallC ls) (hx : ModelOf ls xs) : AskAt 12 #[.pointer (some ⟨g, 0, none⟩)] #[] (inF xs) w := by
  intro r s W h1 h2 h3 hW
  have := HK.inn g ls xs r s W (HK.keep h hW (fun _ _ => id)) hs hx h1 h2 h3
  simpa only [List.append_toArray, List.nil_append, List.cons_append, List.append_nil] using this

theorem enters_in : ∀ args w, (callFunc 12 args).run Tryz.prog w = .ok (.enter 12 args) w := enters Tryz.func12 (by kernel_rfl) (by kernel_rfl)

/-- What may change amid the joining. -/
def AppR (B : Nat) (ls : List CredB) (mc : CredB) (w w' : World) : Prop :=
  Chg (fun i => B ≤ i ∧ i < B + 3) w w' ∧ RowsK B (max ls.length 1) (ls ++ [mc]) w w'

theorem AppR.refl (B : Nat) (ls : List CredB) (mc : CredB) (w : World) : AppR B ls mc w w := ⟨Chg.refl _ _, RowsK.refl _ _ _ _⟩
theorem AppR.trans {B : Nat} {ls : List CredB} {mc : CredB} {a b c : World} (h : AppR B ls mc a b) (k : AppR B ls mc b c) : AppR B ls mc a c := ⟨h.1.trans k.1 (fun _ _ h => h), h.2.trans k.2⟩
theorem AppR.of_chg {B : Nat} {ls : List CredB} {mc : CredB} {a b : World} (h : Chg (fun _ => False) a b) : AppR B ls mc a b := ⟨h.mono (fun _ _ h => h.elim), RowsK.of_chg h⟩

def bit (b : Bool) : Nat := if b then 1 else 0

/-- What is so amid the joining: the operations 0, 2, 4 make blocks, and 5 may write. -/
structure AppW (B : Nat) (ls : List CredB) (mc : CredB) (w0 : World) (L : Nat → Bool) (w : World) : Prop where
  rel : AppR B ls mc w0 w
  early : L 5 = false → w.heap.size = B + bit (L 0) + (if ls.length = 0 then 0 else bit (L 2)) + bit (L 4)
  late : L 5 = true → B + 3 ≤ w.heap.size ∧ L 0 = true ∧ L 2 = true ∧ L 4 = true
  six : L 6 = true → L 5 = true
  seven : L 7 = true → L 5 = true
  two : L 2 = true → L 0 = true

theorem upd_ne {L : Nat → Bool} {i j : Nat} (h : i ≠ j) : upd L i j = L j := if_neg (Ne.symm h)
theorem upd_eq {L : Nat → Bool} {i : Nat} : upd L i i = true := if_pos rfl

theorem AppW.start {ls : List CredB} {mc : CredB} {w0 : World} : AppW w0.heap.size ls mc w0 (fun _ => false) w0.drew :=
  ⟨AppR.of_chg (Chg.refl _ _).drew, fun _ => (show w0.heap.size = _ by simp [bit]), fun h => (by cases h), fun h => (by cases h), fun h => (by cases h), fun h => (by cases h)⟩

theorem AppW.low {B : Nat} {ls : List CredB} {mc : CredB} {w0 w : World} {L : Nat → Bool} (h : AppW B ls mc w0 L w) (h5 : L 5 = false) : w.heap.size ≤ B + 3 := by
  rw [h.early h5]
  unfold bit
  split <;> split <;> split <;> (try split) <;> omega

theorem AppW.ge {B : Nat} {ls : List CredB} {mc : CredB} {w0 w : World} {L : Nat → Bool} (h : AppW B ls mc w0 L w) (h0 : B ≤ w0.heap.size) : B ≤ w.heap.size := Nat.le_trans h0 h.rel.1.size

theorem AppW.still {B : Nat} {ls : List CredB} {mc : CredB} {w0 w : World} {L : Nat → Bool} {i : Nat} (h : AppW B ls mc w0 L w) (hi : i = 1 ∨ i = 3 ∨ i = 8) : AppW B ls mc w0 (upd L i) w := by
  have e0 : upd L i 0 = L 0 := upd_ne (by omega)
  have e2 : upd L i 2 = L 2 := upd_ne (by omega)
  have e4 : upd L i 4 = L 4 := upd_ne (by omega)
  have e5 : upd L i 5 = L 5 := upd_ne (by omega)
  have e6 : upd L i 6 = L 6 := upd_ne (by omega)
  have e7 : upd L i 7 = L 7 := upd_ne (by omega)
  exact ⟨h.rel, by rw [e0, e2, e4, e5]; exact h.early, by rw [e0, e2, e4, e5]; exact h.late, by rw [e5, e6]; exact h.six, by rw [e5, e7]; exact h.seven, by rw [e2, e0]; exact h.two⟩

theorem AppW.call {B : Nat} {ls : List CredB} {mc : CredB} {w0 w w' : World} {L : Nat → Bool} {i : Nat} (h : AppW B ls mc w0 L w) (hi : i = 6 ∨ i = 7 ∨ i = 8) (h5 : L 5 = true) (hc : Chg (fun _ => False) w w') : AppW B ls mc w0 (upd L i) w' := by
  have e0 : upd L i 0 = L 0 := upd_ne (by omega)
  have e2 : upd L i 2 = L 2 := upd_ne (by omega)
  have e4 : upd L i 4 = L 4 := upd_ne (by omega)
  have e5 : upd L i 5 = L 5 := upd_ne (by omega)
  have hl := h.late h5
  exact ⟨h.rel.trans (AppR.of_chg hc), (fun h' => by rw [e5, h5] at h'; cases h'), by rw [e0, e2, e4]; exact fun _ => ⟨Nat.le_trans hl.1 hc.size, hl.2⟩, fun _ => e5.trans h5, fun _ => e5.trans h5, by rw [e2, e0]; exact h.two⟩

theorem AppW.made {B : Nat} {ls : List CredB} {mc : CredB} {w0 w : World} {L : Nat → Bool} {i : Nat} (h : AppW B ls mc w0 L w) (hi : i = 0 ∨ i = 4) (hL : L i = false) (o : Obj) : AppW B ls mc w0 (upd L i) (w.alloc o) := by
  have h5 : L 5 = false := by
    cases h5 : L 5 with
    | false => rfl
    | true =>
      obtain ⟨_, h1, _, h3⟩ := h.late h5
      rcases hi with rfl | rfl
      · rw [hL] at h1; cases h1
      · rw [hL] at h3; cases h3
  have hc : Chg (fun _ => False) w (w.alloc o) := (Chg.refl _ w).alloc o
  have e5 : upd L i 5 = L 5 := upd_ne (by omega)
  have e2 : upd L i 2 = L 2 := upd_ne (by omega)
  have e6 : upd L i 6 = L 6 := upd_ne (by omega)
  have e7 : upd L i 7 = L 7 := upd_ne (by omega)
  refine ⟨h.rel.trans (AppR.of_chg hc), fun _ => ?_, fun h' => (by rw [e5, h5] at h'; cases h'), by rw [e5, e6]; exact h.six, by rw [e5, e7]; exact h.seven, ?_⟩
  rotate_left
  · rw [e2]
    intro h2
    rcases hi with rfl | rfl
    · exact upd_eq
    · exact (upd_ne (by omega)).trans (h.two h2)
  rw [World.size_alloc, h.early h5, e2]
  rcases hi with rfl | rfl
  · rw [upd_eq, upd_ne (by omega), hL]; simp [bit] <;> omega
  · rw [upd_eq, upd_ne (by omega), hL]; simp [bit] <;> omega

theorem AppW.app1 {B : Nat} {ls : List CredB} {mc : CredB} {w0 w w' : World} {L : Nat → Bool} (h : AppW B ls mc w0 L w) (hL : L 2 = false) (h0 : L 0 = true) (hc : Chg (fun _ => False) w w') (hs : w'.heap.size = if 0 + ls.length ≤ 0 then w.heap.size else w.heap.size + 1) : AppW B ls mc w0 (upd L 2) w' := by
  have h5 : L 5 = false := by
    cases h5 : L 5 with
    | false => rfl
    | true =>
      obtain ⟨_, _, h2, _⟩ := h.late h5
      rw [hL] at h2; cases h2
  have e5 : upd L 2 5 = L 5 := upd_ne (by omega)
  refine ⟨h.rel.trans (AppR.of_chg hc), fun _ => ?_, fun h' => (by rw [e5, h5] at h'; cases h'), by rw [e5, upd_ne (by omega)]; exact h.six, by rw [e5, upd_ne (by omega)]; exact h.seven, fun _ => (upd_ne (by omega)).trans h0⟩
  rw [hs, h.early h5, upd_eq, upd_ne (by omega), upd_ne (by omega), hL]
  by_cases hl : ls.length = 0
  · rw [if_pos (by omega), if_pos hl, if_pos hl]
  · rw [if_neg (by omega), if_neg hl, if_neg hl]; simp [bit]; omega

theorem AppW.app2 {B : Nat} {ls : List CredB} {mc : CredB} {w0 w w' : World} {L : Nat → Bool} {v : Value} (h : AppW B ls mc w0 L w) (hL : L 5 = false) (h2 : L 2 = true) (h4 : L 4 = true) (hv : ls.length = 0 → capOf v = 0)
    (hc : ∀ S : Nat → Prop, (∀ k, B ≤ k → S k) → Chg S w w') (hr : RowsK B ls.length (ls ++ [mc]) w w') (hcap : capOf v = 0 → Chg (fun _ => False) w w') (hs : w'.heap.size = if ls.length + 1 ≤ capOf v then w.heap.size else w.heap.size + 1) : AppR B ls mc w w' ∧ AppW B ls mc w0 (upd L 5) w' := by
  have hlow := h.low hL
  have h0 := h.two h2
  have hr1 : AppR B ls mc w w' := by
    refine ⟨(hc (fun i => B ≤ i) (fun _ h => h)).mono (fun i hi hb => ⟨hb, Nat.lt_of_lt_of_le hi hlow⟩), ?_⟩
    by_cases hl : ls.length = 0
    · exact RowsK.of_chg (hcap (hv hl))
    · rw [Nat.max_eq_left (by omega)]; exact hr
  have hsz := h.early hL
  rw [h0, h2, h4] at hsz
  refine ⟨hr1, h.rel.trans hr1, fun h' => (by rw [upd_eq] at h'; cases h'), fun _ => ⟨?_, (upd_ne (by omega)).trans h0, (upd_ne (by omega)).trans h2, (upd_ne (by omega)).trans h4⟩, fun _ => upd_eq, fun _ => upd_eq, fun _ => (upd_ne (by omega)).trans h0⟩
  rw [hs]
  by_cases hl : ls.length = 0
  · rw [if_pos hl] at hsz
    rw [if_neg (by rw [hv hl]; omega)]
    simp [bit] at hsz
    omega
  · rw [if_neg hl] at hsz
    simp [bit] at hsz
    split <;> omega

theorem AppW.step {B : Nat} {ls : List CredB} {mc : CredB} {w0 w : World} {L : Nat → Bool} {i : Nat} (h : AppW B ls mc w0 L w) (hi : i = 1 ∨ i = 3 ∨ i = 8) : AppW B ls mc w0 (upd L i) w := h.still hi

theorem own_zero8 {w : World} {B : Nat} (hB : B ≤ w.heap.size) : OwnC B (w.alloc (.cells #[] 47)) (.slice (some ⟨w.heap.size, 0, none⟩) 0 0) [] :=
  ⟨rfl, .inr ⟨w.heap.size, 0, #[], rfl, hB, heap_alloc_new w _, Nat.le_refl _, by unfold maxLen; omega, rfl, rfl⟩⟩

/-- An append whose run is known. -/
theorem ob_append {o : Oper} {a : Act} {w : World} {K : Act → World → Prop} {Q : Exit → Act → World → Prop} {s x : Tmp} {v y : Value} (tt : TypeId)
    (ho : o.op = .call { callee := .builtin .append, args := #[.tmp s, .tmp x], argTypes := #[tt, tt] }) (hs : a.tmps[s]? = some v) (hx : a.tmps[x]? = some y) {v' : Value} {w' : World}
    (hr : (Builtin.append_ #[tt, tt] o.type #[v, y]).run Tryz.prog w = .ok v' w') (hK : K (a.put o.dst v') w') : o.wp Tryz.prog a w K Q := by
  have h1 : a.eval (.tmp s) = v := by simp [Act.eval, hs]
  have h2 : a.eval (.tmp x) = y := by simp [Act.eval, hx]
  unfold Oper.wp execOp
  simp only [ho, resolve, invoke, builtin, Sem.run_bind, Sem.run_pure, Result.andThen_ok, List.map_toArray, List.map_cons, List.map_nil, h1, h2, hr]
  exact hK

def SpecR.ownA (B : Nat) (ls : List CredB) (mc : CredB) (zs : List CredB) (h : zs.length ≤ max ls.length 1 ∨ zs = ls ++ [mc]) : SpecR (AppR B ls mc) :=
  ⟨fun v w => OwnC B w v zs ∧ (zs.length = 0 → capOf v = 0), fun v _ _ hc ⟨h1, h2⟩ => ⟨hc.2 v zs h h1, h2⟩⟩

/-- The set of a list of credentials, in new memory. -/
def SpecR.setA (B : Nat) (ls : List CredB) (mc : CredB) : SpecR (AppR B ls mc) :=
  ⟨fun v w => ∃ out ao cap, v = .slice ao out.length cap ∧ SetC (ls ++ [mc]) out ∧ CredsAt (fun k => B + 3 ≤ k) w ao out, fun _ _ _ hc h => by
    obtain ⟨out, ao, cap, h1, h2, h3⟩ := h
    exact ⟨out, ao, cap, h1, h2, h3.keep hc.1 (fun i hi h => by have h' : B + 3 ≤ i := hi; omega)⟩⟩

/-- A model, in new memory. -/
def SpecR.modelA {MA : (Nat → Prop) → World → Nat → List CredB → Prop} (HK : MK MA) (B : Nat) (ls : List CredB) (mc : CredB) : SpecR (AppR B ls mc) :=
  ⟨fun v w => ∃ (g : Nat) (O : Nat → Prop), v = .pointer (some ⟨g, 0, none⟩) ∧ MA O w g (ls ++ [mc]) ∧ (∀ i, O i → B + 3 ≤ i), fun _ _ _ hc h => by
    obtain ⟨g, O, h1, h2, h3⟩ := h
    exact ⟨g, O, h1, HK.keep h2 hc.1 (fun i hi h => by have := h3 i hi; omega), h3⟩⟩

theorem own_lt9 {B : Nat} {w : World} {v : Value} {ls : List CredB} (h : OwnC B w v ls) (k : Nat) (e : v.ownBlock = some k) : B ≤ k ∧ k < w.heap.size := ownsRow_lt h k e

/-- Names, in new memory. -/
def SpecR.namesA (B : Nat) (ls : List CredB) (mc : CredB) : SpecR (AppR B ls mc) :=
  ⟨fun v w => ∃ out ns ao cap, v = .slice ao ns.length cap ∧ SetC (ls ++ [mc]) out ∧ SetOf (whosOf out) ns ∧ StrsAt (fun k => B + 3 ≤ k) w ao ns, fun _ _ _ hc h => by
    obtain ⟨out, ns, ao, cap, h1, h2, h4, h3⟩ := h
    exact ⟨out, ns, ao, cap, h1, h2, h4, h3.keep hc.1 (fun i hi h => by have h' : B + 3 ≤ i := hi; omega)⟩⟩
end Go.Proofs.YtanompfdjfgfbaaGreat
