/- Texts that the proof leans on, in one: ChWay, KvEntry. -/
import Derived.Test.YtjaplnainlbldaaSc9
import Derived.Test.YtjaplnainlbldaaSc12
import Derived.Test.YtjaplnainlbldaaSc10
/- Ways as they lie in memory; whether one takes a place; slices.IndexFunc and ContainsFunc at ways. -/
namespace Go.Proofs.Ytjaplnainlbldaa
open Go.RowKit

def wayCells (x : WayB) : List Value := [.int .i64 (x.1 : Nat), .int .i64 (x.2 : Nat)]
def wayRow (ws : List WayB) : List Value := ws.flatMap wayCells
theorem wayRow_snoc (ls : List WayB) (x : WayB) : wayRow (ls ++ [x]) = wayRow ls ++ wayCells x := by simp [wayRow]
theorem wayRow_len (ls : List WayB) : (wayRow ls).length = ls.length * 2 := by
  unfold wayRow
  induction ls with
  | nil => rfl
  | cons x l ih => rw [List.flatMap_cons, List.length_append, ih, List.length_cons]; simp [wayCells]; omega
theorem wayRow_get : ∀ (ls : List WayB) (i j : Nat) (h : i < ls.length) (_ : j < 2), (wayRow ls)[i * 2 + j]? = (wayCells ls[i])[j]?
  | x :: l, 0, j, _, hj => by
    rw [Nat.zero_mul, Nat.zero_add, wayRow, List.flatMap_cons, List.getElem?_append_left (by simpa [wayCells] using hj)]
    rfl
  | x :: l, i + 1, j, h, hj => by
    have hl : (wayCells x).length = 2 := rfl
    have := wayRow_get l i j (by simpa using h) hj
    rw [wayRow, List.flatMap_cons, List.getElem?_append_right (by rw [hl, Nat.add_mul]; omega), hl]
    rw [show (i + 1) * 2 + j - 2 = i * 2 + j by rw [Nat.add_mul]; omega]
    exact this

theorem Try.info175 : (Try.prog.info? 175).map (fun i => (i.zero, i.size, i.bytes)) = some (some (.agg #[.int .i64 0, .int .i64 0]), 2, 16) := by kernel_rfl

/-- A list of ways of the call's own. -/
def OwnWy (B : Nat) (w : World) (v : Value) (ls : List WayB) : Prop := w.ownsRow B 175 2 v ls.length (wayRow ls)
theorem OwnWy.keep {S : Nat → Prop} {B : Nat} {w w' : World} {v : Value} {ls : List WayB} (h : OwnWy B w v ls) (hc : Chg S w w') (hr : ∀ k, v.ownBlock = some k → ¬ S k) : OwnWy B w' v ls := ownsRow_keep h hc hr
theorem OwnWy.nil (B : Nat) (w : World) : OwnWy B w (.slice none 0 0) [] := World.ownsRow_nil _ _ _ _
theorem OwnWy.shape {B : Nat} {w : World} {v : Value} {ls : List WayB} (h : OwnWy B w v ls) : ∃ ao cap, v = .slice ao ls.length cap := by
  rcases h.2 with ⟨rfl, h0⟩ | ⟨g, cap, cur, rfl, _⟩
  · exact ⟨none, 0, by rw [h0]⟩
  · exact ⟨_, _, rfl⟩
theorem OwnWy.blt {B : Nat} {w : World} {v : Value} {ls : List WayB} (h : OwnWy B w v ls) {k : Nat} (hk : v.ownBlock = some k) : B ≤ k ∧ k < w.heap.size := by
  rcases h.2 with ⟨hx', _⟩ | ⟨g, cap', cur, hx', hg, hh, _⟩
  · rw [hx'] at hk; cases hk
  · have hk2 : g = k := by rw [hx'] at hk; simpa [Value.ownBlock] using hk
    subst hk2
    exact ⟨hg, lt_blk hh⟩

/-- The ways ls can be read from the address ao on. -/
def WaysAt (D : Nat → Prop) (w : World) (ao : Option Addr) (ls : List WayB) : Prop :=
  ∀ i (h : i < ls.length), ∃ b off, ao = some ⟨b, off, none⟩ ∧ D b ∧ w.cell? ⟨b, off + i * 2, none⟩ = some (.int .i64 ((ls[i]).1 : Nat)) ∧ w.cell? ⟨b, off + i * 2 + 1, none⟩ = some (.int .i64 ((ls[i]).2 : Nat))
theorem WaysAt.keep {S D : Nat → Prop} {w w' : World} {ao : Option Addr} {ls : List WayB} (h : WaysAt D w ao ls) (hc : Chg S w w') (hS : ∀ i, D i → ¬ S i) : WaysAt D w' ao ls := fun i hi =>
  let ⟨b, off, h1, h2, h3, h4⟩ := h i hi
  ⟨b, off, h1, h2, hc.cell h3 (hS b h2), hc.cell h4 (hS b h2)⟩
theorem OwnWy.ways {B : Nat} {w : World} {v : Value} {ls : List WayB} (h : OwnWy B w v ls) : ∃ ao cap, v = .slice ao ls.length cap ∧ WaysAt (fun k => v.ownBlock = some k) w ao ls := by
  have hall := h
  rcases h.2 with ⟨rfl, h0⟩ | ⟨g, cap, cur, rfl, hg, hh, h1, h2, h3, h4⟩
  · have : ls = [] := List.eq_nil_of_length_eq_zero h0
    subst this
    exact ⟨none, 0, rfl, fun i h => absurd h (by simp)⟩
  · refine ⟨_, _, rfl, fun i hi => ⟨g, 0, rfl, rfl, ?_, ?_⟩⟩
    · have := World.ownsRow.cells (g := g) hall rfl (i * 2 + 0) (.int .i64 ((ls[i]).1 : Nat)) (by rw [wayRow_get ls i 0 hi (by decide)]; rfl)
      rw [add_off, Nat.zero_add] at this
      rw [Nat.zero_add]
      exact this
    · have := World.ownsRow.cells (g := g) hall rfl (i * 2 + 1) (.int .i64 ((ls[i]).2 : Nat)) (by rw [wayRow_get ls i 1 hi (by decide)]; rfl)
      rw [add_off, Nat.zero_add] at this
      rw [Nat.zero_add]
      exact this

set_option maxRecDepth 100000 in
set_option maxHeartbeats 1000000 in
/-- Does a way take a place? -/
theorem ch_takes (x : WayB) (i : Nat) (w : World) : Calls Try.prog 110 #[.agg #[.int .i64 (x.1 : Nat), .int .i64 (x.2 : Nat)], .int .i64 (i : Nat)] w fun e w' => e = .returned (.bool (takesW i x)) ∧ Chg (fun _ => False) w w' := by
  obtain ⟨a, b⟩ := x
  have hb := heap_alloc_new w (.cells #[.int .i64 (a : Nat), .int .i64 (b : Nat)] 175)
  have c0 := cell_blk hb 0
  have c1 := cell_blk hb 1
  simp only [List.getElem?_toArray, List.getElem?_cons_zero, List.getElem?_cons_succ] at c0 c1
  have HC : Hid (Chg (fun _ => False) w (w.alloc (.cells #[.int .i64 (a : Nat), .int .i64 (b : Nat)] 175))) := hid ((Chg.refl _ w).alloc _)
  clear hb
  by_cases h1 : a = i
  · subst h1
    have HT : Hid (takesW a (a, b) = true) := hid (takesW_iff.2 (.inl rfl))
    go_enter Try.func110, Try.ntmps110
    go_wp2
    go_ret
    exact ⟨by rw [HT.out]; rfl, HC.out⟩
  · have e1 : ((a : Int) == (i : Int)) = false := by rw [beq_eq_false_iff_ne]; exact fun e => h1 (Int.ofNat_inj.1 e)
    by_cases h2 : b = i
    · subst h2
      have HT : Hid (takesW b (a, b) = true) := hid (takesW_iff.2 (.inr rfl))
      clear h1
      go_enter Try.func110, Try.ntmps110
      go_wp2
      go_ret
      exact ⟨by rw [HT.out]; simp, HC.out⟩
    · have e2 : ((b : Int) == (i : Int)) = false := by rw [beq_eq_false_iff_ne]; exact fun e => h2 (Int.ofNat_inj.1 e)
      have HT : Hid (takesW i (a, b) = false) := hid (takesW_no.2 ⟨h1, h2⟩)
      clear h1 h2
      go_enter Try.func110, Try.ntmps110
      go_wp2
      go_ret
      exact ⟨by rw [HT.out]; simp, HC.out⟩

set_option maxRecDepth 100000 in
set_option maxHeartbeats 1000000 in
/-- The function that needs hands over. -/
theorem ch_not (x : WayB) (i A : Nat) (w : World) (hA : w.cell? ⟨A, 0, none⟩ = some (.int .i64 (i : Nat))) : Calls Try.prog 109 #[.agg #[.int .i64 (x.1 : Nat), .int .i64 (x.2 : Nat)], .pointer (some ⟨A, 0, none⟩)] w fun e w' => e = .returned (.bool (!takesW i x)) ∧ Chg (fun _ => False) w w' := by
  have hb := heap_alloc_new w (.cells #[.int .i64 (x.1 : Nat), .int .i64 (x.2 : Nat)] 175)
  have c0 := cell_blk hb 0
  have c1 := cell_blk hb 1
  simp only [List.getElem?_toArray, List.getElem?_cons_zero, List.getElem?_cons_succ] at c0 c1
  have hc1 : Chg (fun _ => False) w (w.alloc (.cells #[.int .i64 (x.1 : Nat), .int .i64 (x.2 : Nat)] 175)) := (Chg.refl _ w).alloc _
  have a0 := hc1.cell hA id
  have HC := hid hc1
  have HQ := hid (ch_takes x i (w.alloc (.cells #[.int .i64 (x.1 : Nat), .int .i64 (x.2 : Nat)] 175)))
  clear hb hc1 hA
  go_enter Try.func109, Try.ntmps109
  go_wp2_with fail
  refine HQ.out.mono ?_
  rintro e w' ⟨rfl, hc⟩
  have HR := hid (HC.out.trans hc (fun _ _ h => h))
  clear hc HQ HC c0 c1 a0
  go_wp2
  go_ret
  exact ⟨rfl, HR.out⟩

set_option maxRecDepth 100000 in
set_option maxHeartbeats 1000000 in
/-- The function that drop hands over. -/
theorem ch_off (x : WayB) (i A : Nat) (w : World) (hA : w.cell? ⟨A, 0, none⟩ = some (.int .i64 (i : Nat))) : Calls Try.prog 112 #[.agg #[.int .i64 (x.1 : Nat), .int .i64 (x.2 : Nat)], .pointer (some ⟨A, 0, none⟩)] w fun e w' => e = .returned (.bool (takesW i x)) ∧ Chg (fun _ => False) w w' := by
  have hb := heap_alloc_new w (.cells #[.int .i64 (x.1 : Nat), .int .i64 (x.2 : Nat)] 175)
  have c0 := cell_blk hb 0
  have c1 := cell_blk hb 1
  simp only [List.getElem?_toArray, List.getElem?_cons_zero, List.getElem?_cons_succ] at c0 c1
  have hc1 : Chg (fun _ => False) w (w.alloc (.cells #[.int .i64 (x.1 : Nat), .int .i64 (x.2 : Nat)] 175)) := (Chg.refl _ w).alloc _
  have a0 := hc1.cell hA id
  have HC := hid hc1
  have HQ := hid (ch_takes x i (w.alloc (.cells #[.int .i64 (x.1 : Nat), .int .i64 (x.2 : Nat)] 175)))
  clear hb hc1 hA
  go_enter Try.func112, Try.ntmps112
  go_wp2_with fail
  refine HQ.out.mono ?_
  rintro e w' ⟨rfl, hc⟩
  have HR := hid (HC.out.trans hc (fun _ _ h => h))
  clear hc HQ HC c0 c1 a0
  go_wp2
  go_ret
  exact ⟨rfl, HR.out⟩

/-- A function's value takes ways: those of q; whatever has changed in P. -/
def TakesF (P : Nat → Prop) (hf : Nat) (lb : Array Value) (q : WayB → Bool) (w : World) : Prop :=
  ∀ (x : WayB) (W : World), Chg P w W → Calls Try.prog hf (#[.agg #[.int .i64 (x.1 : Nat), .int .i64 (x.2 : Nat)]] ++ lb) W fun e w' => e = .returned (.bool (q x)) ∧ Chg (fun _ => False) W w'

theorem takes_not {P : Nat → Prop} (i A : Nat) (w : World) (hA : w.cell? ⟨A, 0, none⟩ = some (.int .i64 (i : Nat))) (hP : ¬ P A) : TakesF P 109 #[.pointer (some ⟨A, 0, none⟩)] (fun x => !takesW i x) w := fun x W hc => ch_not x i A W (hc.cell hA hP)
theorem takes_off {P : Nat → Prop} (i A : Nat) (w : World) (hA : w.cell? ⟨A, 0, none⟩ = some (.int .i64 (i : Nat))) (hP : ¬ P A) : TakesF P 112 #[.pointer (some ⟨A, 0, none⟩)] (fun x => takesW i x) w := fun x W hc => ch_off x i A W (hc.cell hA hP)

set_option maxRecDepth 100000 in
set_option maxHeartbeats 2000000 in
/-- The first one that a function takes. -/
theorem ch_indexFunc {D P : Nat → Prop} (hf : Nat) (lb : Array Value) (q : WayB → Bool) (ao : Option Addr) (cp : Nat) (ls : List WayB) (w : World) (hn : ls.length ≤ 33554432) (hst : WaysAt D w ao ls) (eg : ∀ args w, (callFunc hf args).run Try.prog w = .ok (.enter hf args) w) (ht : TakesF P hf lb q w) :
    Calls Try.prog 135 #[.slice ao ls.length cp, .func (.func hf) #[] lb] w fun e w' => ((∃ j, ∃ h : j < ls.length, e = .returned (.int .i64 (j : Nat)) ∧ q ls[j] = true ∧ ∀ x ∈ ls.take j, q x = false) ∨ (e = .returned (.int .i64 (-1)) ∧ ∀ x ∈ ls, q x = false)) ∧ Chg (fun _ => False) w w' := by
  have HB := hid (And.intro hst ht)
  clear hst ht
  go_enter Try.func135, Try.ntmps135
  go_wp2
  go_loopw [8] (fun i wr => ∃ (k : Nat), k ≤ ls.length ∧ i = .int .i64 k ∧ Hid (∀ x ∈ ls.take k, q x = false) ∧ Hid (Chg (fun _ => False) w wr)) (fun i _ => ls.length - (intOf i).toNat)
  case atStart => exact ⟨0, Nat.zero_le _, rfl, hid (by simp), hid (Chg.refl _ _)⟩
  case round =>
    obtain ⟨k, hk, rfl, hno, hch⟩ := hrel
    by_cases hlt : k < ls.length
    · obtain ⟨b, off, rfl, hDb, a0, a1⟩ := (HB.out.1.keep hch.out (fun _ _ => id)) k hlt
      have HT := hid (HB.out.2 ls[k] wr hch.out.none9)
      have HTK : Hid (ls.take (k + 1) = ls.take k ++ [ls[k]]) := hid (List.take_succ_eq_append_getElem hlt)
      have HYES : Hid (q ls[k] = true → ∃ j, ∃ h : j < ls.length, Ending.returned (.int .i64 (k : Nat)) = .returned (.int .i64 (j : Nat)) ∧ q ls[j] = true ∧ ∀ x ∈ ls.take j, q x = false) := hid (fun h => ⟨k, hlt, rfl, h, hno.out⟩)
      generalize ls[k] = s at *
      clear hDb
      go_wp2_with fail
      refine HT.out.mono ?_
      rintro e w5 ⟨rfl, hc5⟩
      have HK := hid (hch.out.trans hc5 (fun _ _ h => h))
      clear hc5 HT a0 a1
      cases hq : q s with
      | false =>
        have HE : Hid (∀ x ∈ ls.take (k + 1), q x = false) := hid (fun x hx => by
          rw [HTK.out] at hx
          rcases List.mem_append.1 hx with hx | hx
          · exact hno.out x hx
          · rw [List.mem_singleton] at hx; rw [hx]; exact hq)
        clear hq hno HYES HTK
        go_wp2
        go_roundw
        case rel => exact ⟨k + 1, by omega, by go_num, HE, HK⟩
        case measure => simp [intOf]; omega
      | true =>
        have HE := hid (HYES.out hq)
        clear hq hno HYES HTK
        go_wp2
        go_ret
        exact ⟨.inl HE.out, HK.out⟩
    · have hk2 : k = ls.length := by omega
      have HE : Hid ((∀ x ∈ ls, q x = false) ∧ Chg (fun _ => False) w wr) := hid ⟨by have := hno.out; rwa [hk2, List.take_length] at this, hch.out⟩
      clear hno hch hk2
      go_wp2
      go_ret
      exact ⟨.inr ⟨rfl, HE.out.1⟩, HE.out.2⟩

set_option maxRecDepth 100000 in
theorem ch_containsFunc {D P : Nat → Prop} (hf : Nat) (lb : Array Value) (q : WayB → Bool) (ao : Option Addr) (cp : Nat) (ls : List WayB) (w : World) (hn : ls.length ≤ 33554432) (hst : WaysAt D w ao ls) (eg : ∀ args w, (callFunc hf args).run Try.prog w = .ok (.enter hf args) w) (ht : TakesF P hf lb q w) :
    Calls Try.prog 108 #[.slice ao ls.length cp, .func (.func hf) #[] lb] w fun e w' => e = .returned (.bool (ls.any q)) ∧ Chg (fun _ => False) w w' := by
  have HP := hid (ch_indexFunc hf lb q ao cp ls w hn hst eg ht)
  clear hst eg ht
  go_enter Try.func108, Try.ntmps108
  go_wp2_with fail
  refine HP.out.mono ?_
  rintro e w' ⟨h | h, h4⟩
  · obtain ⟨j, hj, rfl, h1, _⟩ := h
    have HR := hid (And.intro (List.any_eq_true.2 ⟨_, List.getElem_mem hj, h1⟩) h4)
    clear h1 h4 HP
    go_wp2
    go_ret
    exact ⟨by rw [HR.out.1]; rfl, HR.out.2⟩
  · obtain ⟨rfl, h1⟩ := h
    have h2 : ls.any q = false := by
      rw [List.any_eq_false]
      intro x hx
      rw [h1 x hx]
      decide
    have HR := hid (And.intro h2 h4)
    clear h2
    clear h1 h4 HP
    go_wp2
    go_ret
    exact ⟨by rw [HR.out.1]; rfl, HR.out.2⟩
end Go.Proofs.Ytjaplnainlbldaa

/- An element of a map that is stored anew: what is read ahead hangs on the map's block alone. -/
namespace Go.Proofs.Ytjaplnainlbldaa
open Go.RowKit Go.Maps Go.ChangeMaps Go.WideMaps

theorem findK_same {P : Program} {k : TypeId} (K : KeyLaw P k) (w w' : World) {x : Value} {lx : Lit} (hx : Go.keyOf P k x = some lx) {es : List MapEntry} (hk : ∀ e ∈ es, ∃ l, Go.keyOf P k e.key = some l) (hn : (es.map (·.key)).Nodup) :
    ∃ r, (Instr.findKey k x es).run P w = .ok r w ∧ (Instr.findKey k x es).run P w' = .ok r w' := by
  rcases K.find w hx es hk with ⟨h1, h2⟩ | ⟨j, e, h1, h2, h3⟩ <;> rcases K.find w' hx es hk with ⟨k1, k2⟩ | ⟨i, d, k1, k2, k3⟩
  · exact ⟨_, h1, k1⟩
  · exact absurd k3 (h2 d (List.mem_of_getElem? k2))
  · exact absurd h3 (k2 e (List.mem_of_getElem? h2))
  · have hji : j = i := by
      have a1 : (es.map (·.key))[j]? = some x := by rw [List.getElem?_map, h2]; simp [h3]
      have a2 : (es.map (·.key))[i]? = some x := by rw [List.getElem?_map, k2]; simp [k3]
      obtain ⟨b1, c1⟩ := List.getElem?_eq_some_iff.1 a1
      obtain ⟨b2, c2⟩ := List.getElem?_eq_some_iff.1 a2
      exact (List.getElem_inj hn).1 (c1.trans c2.symm)
    subst hji
    rw [h2] at k2
    cases k2
    exact ⟨_, h1, k1⟩

theorem entry_same {P : Program} {w w' : World} {t k e : TypeId} {b : Nat} {es : Array MapEntry} {clock : Nat} {R : Value → Option (DataW Value × List MemPlace)} (K : KeyLaw P k) (ht : P.underlying t = some (.map k e)) {z : Value} (hz : ∀ u : World, (zeroValue e).run P u = .ok z u)
    (hb : w.heap[b]? = some (.map es clock)) (hb' : w'.heap[b]? = some (.map es clock)) (F : WideElems.Fit P k R es clock) {key : Value} {kl : Lit} (hkey : Go.keyOf P k key = some kl) {v0 : Value} {st : Nat} {o : Obj}
    (h : (Instr.mapEntry t (.map (some b)) key).run P w = .ok (.tuple #[v0, goInt st]) (setBlock w b o)) : (Instr.mapEntry t (.map (some b)) key).run P w' = .ok (.tuple #[v0, goInt st]) (setBlock w' b o) := by
  have hks : ∀ e ∈ es.toList, ∃ l, Go.keyOf P k e.key = some l := F.keys
  obtain ⟨r, h1, h2⟩ := findK_same K w w' hkey hks F.stamped.2.2
  have ho : ∀ (o' : Obj), setBlock w b o' = setBlock w b o → o' = o := fun o' e => by
    have e1 := heap_setBlock_same hb o'
    rw [e, heap_setBlock_same hb o] at e1
    cases e1
    rfl
  cases r with
  | none =>
    have e1 : (Instr.mapEntry t (.map (some b)) key).run P w = .ok (.tuple #[z, goInt clock]) (setBlock w b (.map (es.push ⟨key, z, clock⟩) (clock + 1))) := by
      simp [Instr.mapEntry, run_underlying ht, MapKept.run_getObj_map hb, K.check w false hkey, h1, hz, MapKept.run_setObj_map _ hb, Result.andThen, setBlock]
    have e2 : (Instr.mapEntry t (.map (some b)) key).run P w' = .ok (.tuple #[z, goInt clock]) (setBlock w' b (.map (es.push ⟨key, z, clock⟩) (clock + 1))) := by
      simp [Instr.mapEntry, run_underlying ht, MapKept.run_getObj_map hb', K.check w' false hkey, h2, hz, MapKept.run_setObj_map _ hb', Result.andThen, setBlock]
    rw [e1] at h
    injection h with q1 q2
    rw [e2, q1, ho _ q2]
  | some r =>
    obtain ⟨j, v⟩ := r
    have hst : ∃ ks, (Instr.keyThatStays (((es[j]?).map (·.key)).getD key) key).run P w = .ok ks w ∧ (Instr.keyThatStays (((es[j]?).map (·.key)).getD key) key).run P w' = .ok ks w' := by
      rcases K.find w hkey es.toList hks with ⟨g1, _⟩ | ⟨i, e0, g1, g2, g3⟩
      · rw [g1] at h1; cases h1
      · rw [g1] at h1
        cases h1
        have hj : es[j]? = some e0 := by simpa using g2
        rw [hj]
        simp only [Option.map_some, Option.getD_some, g3]
        exact ⟨key, K.stays w hkey, K.stays w' hkey⟩
    obtain ⟨ks, s1, s2⟩ := hst
    have e1 : (Instr.mapEntry t (.map (some b)) key).run P w = .ok (.tuple #[v, goInt (((es[j]?).map (·.born)).getD 0)]) (setBlock w b (.map (es.modify j fun e => { e with key := ks }) clock)) := by
      simp [Instr.mapEntry, run_underlying ht, MapKept.run_getObj_map hb, K.check w false hkey, h1, s1, MapKept.run_setObj_map _ hb, Result.andThen, setBlock]
    have e2 : (Instr.mapEntry t (.map (some b)) key).run P w' = .ok (.tuple #[v, goInt (((es[j]?).map (·.born)).getD 0)]) (setBlock w' b (.map (es.modify j fun e => { e with key := ks }) clock)) := by
      simp [Instr.mapEntry, run_underlying ht, MapKept.run_getObj_map hb', K.check w' false hkey, h2, s2, MapKept.run_setObj_map _ hb', Result.andThen, setBlock]
    rw [e1] at h
    injection h with q1 q2
    rw [e2, q1, ho _ q2]

variable {α : Type} {k : KT α} {w : World} {mb n : Nat} {F : α → Option Value}

/-- The element at a key, which is then stored anew: what is read hangs on the map's block alone. -/
theorem KV.entry2 [DecidableEq α] {t e : TypeId} (h : KV k w mb n F) (K : KeyLaw Try.prog k.ty) (ht : Try.prog.underlying t = some (.map k.ty e)) {z : Value} (hz : ∀ u : World, (zeroValue e).run Try.prog u = .ok z u) (hn : n < 9223372036854775807) {a : α} (ha : k.ok a) :
    ∃ (st : Nat) (o1 : Obj), ∀ w', w'.heap[mb]? = w.heap[mb]? →
      (∃ w1, (Instr.mapEntry t (.map (some mb)) (k.val a)).run Try.prog w' = .ok (.tuple #[(F a).getD z, goInt st]) w1 ∧ Chg (· = mb) w' w1 ∧ w1.heap[mb]? = some o1) ∧
      ∀ (w2 : World) (v : Value), w2.heap[mb]? = some o1 → ∃ w3, (Instr.entryStore t (.map (some mb)) (goInt st) v).run Try.prog w2 = .ok () w3 ∧ Chg (· = mb) w2 w3 ∧ KV k w3 mb (n + 1) (putF F a v) := by
  obtain ⟨M, ⟨es, clock, hb, Ft, _, _⟩, _⟩ := h.ex
  obtain ⟨st, w1, h1, h2, h3, h4⟩ := h.entry K ht hz hn ha
  have hw1 : ∃ o1, w1 = setBlock w mb o1 ∧ w1.heap[mb]? = some o1 := by
    obtain ⟨v0, st', es1, clock1, hr, _, _⟩ := WideElems.entry_then_store (R := heldElem) K ht hz hb Ft (k.reads a ha)
    rw [h1] at hr
    injection hr with _ q2
    exact ⟨_, q2, by rw [q2]; exact heap_setBlock_same hb _⟩
  obtain ⟨o1, rfl, hb1⟩ := hw1
  refine ⟨st, o1, fun w' hw' => ⟨⟨setBlock w' mb o1, entry_same K ht hz hb (hw'.trans hb) Ft (k.reads a ha) h1, ?_, heap_setBlock_same (hw'.trans hb) _⟩, fun w2 v hw2 => ?_⟩⟩
  · exact (Chg.refl (· = mb) w').grown (row := some mb) ⟨rfl, rfl, rfl, by simp [setBlock], fun i _ hi => heap_setBlock_other (hw'.trans hb) _ (fun e => hi (by rw [e]))⟩ (fun k hk _ => by simpa using hk.symm)
  · obtain ⟨w3, g1, g2, _, g3⟩ := h4 w2 v (hw2.trans hb1.symm)
    exact ⟨w3, g1, g2, g3⟩
end Go.Proofs.Ytjaplnainlbldaa
