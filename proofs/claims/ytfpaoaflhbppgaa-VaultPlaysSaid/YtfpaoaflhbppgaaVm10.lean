/- Texts that the proof leans on, in one: VaultIdx, PvBase, PvClone, ShelfG, PvConcat, RoleProg, ShelfStr, RoleCmp, RoleOr, Grown, RoleCompare. -/
import Derived.Test.YtfpaoaflhbppgaaVm4
import Derived.Test.YtfpaoaflhbppgaaVm8
import Derived.Test.YtfpaoaflhbppgaaVm3
import Derived.Deep.QuietTactic
import Derived.BigQuiet
import Derived.StillTailTactics
import Derived.ChangeAlike
import Derived.Shelf.Spec.SlicesGrow
import Derived.Test.YtfpaoaflhbppgaaProg
import Derived.Laws.AppendOwnNone
import Derived.Test.YtfpaoaflhbppgaaVm2
import Derived.Shelf.Small.Strs
import Derived.Shelf.Strings.Search1
import Derived.Shelf.Strings.Search2
import Derived.Sort.Grow
/- Where a credential stands among those that a vault holds: plain words, nothing of the program's text. -/
namespace Go.Proofs.Ytfpaoaflhbppgaa
open Go.RowKit

theorem cmpC_neg_iff (a b : CredB) : cmpC a b < 0 ↔ ltS (credBytes a) (credBytes b) = true := by
  unfold cmpC
  cases h : ltS (credBytes a) (credBytes b) with
  | true => simp
  | false => cases h2 : ltS (credBytes b) (credBytes a) <;> simp

theorem cmpC_zero_iff (a b : CredB) : cmpC a b = 0 ↔ credBytes a = credBytes b := by
  unfold cmpC
  rcases ltS_ord.tri (credBytes a) (credBytes b) with k | k | k
  · rw [if_pos k]
    exact ⟨fun h => (by cases h), fun h => (by rw [h, ltS_ord.irrefl] at k; cases k)⟩
  · rw [k, ltS_ord.irrefl]; simp
  · rw [if_neg (by rw [ltS_ord.asymm k]; decide), if_pos k]
    exact ⟨fun h => (by cases h), fun h => (by rw [h, ltS_ord.irrefl] at k; cases k)⟩

theorem credBytes_one {a b : CredB} (ha : isCred a = true) (h : credBytes a = credBytes b) : a = b := by
  cases hb : isCred b with
  | true =>
    unfold credBytes at h
    rw [if_pos ha, if_pos hb] at h
    exact credEnc_inj ha hb h
  | false =>
    unfold credBytes at h
    rw [if_pos ha, hb] at h
    exact absurd h (credEnc_ne a)

/-- The order of what is held. -/
def ltB (a b : SignB) : Bool := ltS (credBytes a.c) (credBytes b.c)

theorem rising_pair {α : Type} {lt : α → α → Bool} : ∀ (l : List α), RisingG lt l ↔ l.Pairwise (fun a b => lt a b = true)
  | [] => by simp [RisingG]
  | x :: l => by rw [List.pairwise_cons, ← rising_pair l]; rfl

/-- What is held: each is as it must be, rising. -/
def HeldOk (ss : List SignB) : Prop := (∀ s ∈ ss, isSign s = true) ∧ RisingG ltB ss

theorem HeldOk.nil : HeldOk [] := ⟨fun _ h => (by cases h), trivial⟩

theorem HeldOk.cred {ss : List SignB} (h : HeldOk ss) {j : Nat} (hj : j < ss.length) : isCred ss[j].c = true := by
  have := h.1 _ (List.getElem_mem hj)
  unfold isSign at this
  simp only [Bool.and_eq_true] at this
  exact this.1

theorem HeldOk.lt {ss : List SignB} (h : HeldOk ss) (i j : Nat) (hj : j < ss.length) (hi : i < j) : ltS (credBytes (ss[i]'(Nat.lt_trans hi hj)).c) (credBytes ss[j].c) = true := h.2.lt_get i j hj hi

theorem HeldOk.low {ss : List SignB} (h : HeldOk ss) {c : CredB} {k : Nat} (hk : k < ss.length) (hlt : cmpC ss[k].c c < 0) (j : Nat) (hj : j < ss.length) (hjk : j < k + 1) : cmpC ss[j].c c < 0 := by
  by_cases he : j = k
  · subst he; exact hlt
  · rw [cmpC_neg_iff] at *
    exact ltS_ord.trans _ _ _ (h.lt j k hk (by omega)) hlt

theorem HeldOk.high {ss : List SignB} (h : HeldOk ss) {c : CredB} {k : Nat} (hk : k < ss.length) (hlt : ¬ cmpC ss[k].c c < 0) (j : Nat) (hj : j < ss.length) (hjk : k ≤ j) : ¬ cmpC ss[j].c c < 0 := by
  by_cases he : j = k
  · subst he; exact hlt
  · rw [cmpC_neg_iff] at *
    exact fun hh => hlt (ltS_ord.trans _ _ _ (h.lt k j hj (by omega)) hh)

/-- k is where c stands among ss, or would stand. -/
structure CutAt (ss : List SignB) (c : CredB) (k : Nat) : Prop where
  le : k ≤ ss.length
  low : ∀ j (h : j < ss.length), j < k → cmpC ss[j].c c < 0
  high : ∀ j (h : j < ss.length), k ≤ j → ¬ cmpC ss[j].c c < 0

/-- Is a credential held? -/
def hasG (ss : List SignB) (c : CredB) : Bool := ss.any (fun s => eqC s.c c)

theorem hasV_map (es : List EntB) (c : CredB) : hasG (es.map EntB.s) c = hasV es c := by
  unfold hasG hasV
  rw [List.any_map]
  rfl

/-- Held or not, by the one at its place. -/
def isHere (ss : List SignB) (c : CredB) (k : Nat) : Bool := match ss[k]? with | some s => decide (cmpC s.c c = 0) | none => false

theorem isHere_at {ss : List SignB} {c : CredB} {k : Nat} (h : k < ss.length) : isHere ss c k = decide (cmpC ss[k].c c = 0) := by
  unfold isHere
  rw [List.getElem?_eq_getElem h]
theorem isHere_end {ss : List SignB} {c : CredB} {k : Nat} (h : ss.length ≤ k) : isHere ss c k = false := by
  unfold isHere
  rw [List.getElem?_eq_none h]

theorem isHere_has {ss : List SignB} {c : CredB} {k : Nat} (ho : HeldOk ss) (h : CutAt ss c k) : isHere ss c k = hasG ss c := by
  rw [Bool.eq_iff_iff]
  constructor
  · intro hh
    by_cases hk : k < ss.length
    · rw [isHere_at hk, decide_eq_true_eq, cmpC_zero_iff] at hh
      have := credBytes_one (ho.cred hk) hh
      unfold hasG
      rw [List.any_eq_true]
      exact ⟨_, List.getElem_mem hk, by rw [eqC_true]; exact this⟩
    · rw [isHere_end (by omega)] at hh; cases hh
  · intro hh
    unfold hasG at hh
    rw [List.any_eq_true] at hh
    obtain ⟨s, hs, he⟩ := hh
    obtain ⟨j, hj, rfl⟩ := List.getElem_of_mem hs
    have he := eqC_true.1 he
    have hz : cmpC ss[j].c c = 0 := (cmpC_zero_iff _ _).2 (by rw [he])
    have hkj : k ≤ j := by
      by_cases hx : j < k
      · have := h.low j hj hx; omega
      · omega
    have hk : k < ss.length := by omega
    have hek : k = j := by
      by_cases hx : k = j
      · exact hx
      · have := h.high k hk (Nat.le_refl _)
        rw [cmpC_neg_iff, ← he] at this
        exact absurd (ho.lt k j hj (by omega)) this
    subst hek
    rw [isHere_at hk, decide_eq_true_eq]
    exact hz

theorem CutAt.here {ss : List SignB} {c : CredB} {k : Nat} (ho : HeldOk ss) (h : CutAt ss c k) (hh : hasG ss c = true) : ∃ hk : k < ss.length, ss[k].c = c := by
  rw [← isHere_has ho h] at hh
  by_cases hk : k < ss.length
  · rw [isHere_at hk, decide_eq_true_eq, cmpC_zero_iff] at hh
    exact ⟨hk, credBytes_one (ho.cred hk) hh⟩
  · rw [isHere_end (by omega)] at hh; cases hh

/-! ### Putting in. -/
theorem insStep_on (s : EntB) : ∀ (ls p : List EntB) (b : Bool), (b = false → ∀ x ∈ ls, ¬ cmpC s.c x.c < 0) → ls.foldl (insStep s) (p, b) = (p ++ ls, b)
  | [], p, b, _ => by simp
  | x :: l, p, b, h => by
    rw [List.foldl_cons]
    have : insStep s (p, b) x = (p ++ [x], b) := by
      unfold insStep
      rw [if_neg (fun hh => h hh.1 x (List.mem_cons_self) hh.2)]
    rw [this, insStep_on s l _ b (fun hb y hy => h hb y (List.mem_cons_of_mem _ hy))]
    simp

theorem insV_cut {es : List EntB} {s : EntB} {k : Nat} (h : CutAt (es.map EntB.s) s.c k) (hn : hasV es s.c = false) (hok : HeldOk (es.map EntB.s)) : insV s es = es.take k ++ s :: es.drop k := by
  have hle : k ≤ es.length := by simpa using h.le
  have hlow : ∀ x ∈ es.take k, ¬ cmpC s.c x.c < 0 := by
    intro x hx
    obtain ⟨j, hj, rfl⟩ := List.getElem_of_mem hx
    rw [List.length_take] at hj
    have := h.low j (by simp; omega) (by omega)
    rw [List.getElem_take]
    simp only [List.getElem_map, EntB.s] at this
    rw [cmpC_neg]
    omega
  have hhigh : ∀ j (hj : j < es.length), k ≤ j → cmpC s.c es[j].c < 0 := by
    intro j hj hk
    have h1 := h.high j (by simpa using hj) hk
    simp only [List.getElem_map, EntB.s] at h1
    have h2 : cmpC es[j].c s.c ≠ 0 := by
      intro hz
      have hc := hok.cred (j := j) (by simpa using hj)
      simp only [List.getElem_map, EntB.s] at hc
      have := credBytes_one hc ((cmpC_zero_iff _ _).1 hz)
      have hv : hasV es s.c = true := hasV_at hj (eqC_true.2 this)
      rw [hn] at hv; cases hv
    rw [cmpC_neg]
    omega
  have hst : insSt s es = (es.drop k).foldl (insStep s) (es.take k, false) := by
    unfold insSt
    conv => lhs; rw [← List.take_append_drop k es]
    rw [List.foldl_append, insStep_on s _ [] false (fun _ => hlow)]
    simp
  by_cases hk : k < es.length
  · rw [List.drop_eq_getElem_cons hk, List.foldl_cons] at hst
    have h1 : insStep s (es.take k, false) es[k] = (es.take k ++ [s, es[k]], true) := by
      unfold insStep
      rw [if_pos ⟨rfl, hhigh k hk (Nat.le_refl _)⟩]
    rw [h1, insStep_on s _ _ true (fun hb => by cases hb)] at hst
    unfold insV
    rw [hst, List.drop_eq_getElem_cons hk]
    simp
  · have hd : es.drop k = [] := List.drop_eq_nil_of_le (by omega)
    rw [hd, List.foldl_nil] at hst
    unfold insV
    rw [hst, hd]
    simp

theorem HeldOk.ins {ss : List SignB} (h : HeldOk ss) {s : SignB} (hs : isSign s = true) {k : Nat} (hk : CutAt ss s.c k) (hn : hasG ss s.c = false) : HeldOk (ss.take k ++ s :: ss.drop k) := by
  refine ⟨fun x hx => ?_, ?_⟩
  · rcases List.mem_append.1 hx with hx | hx
    · exact h.1 _ (List.mem_of_mem_take hx)
    · rcases List.mem_cons.1 hx with rfl | hx
      · exact hs
      · exact h.1 _ (List.mem_of_mem_drop hx)
  · have hp := (rising_pair _).1 h.2
    rw [rising_pair, List.pairwise_append, List.pairwise_cons]
    refine ⟨hp.sublist (List.take_sublist _ _), ⟨fun x hx => ?_, hp.sublist (List.drop_sublist _ _)⟩, fun a ha b hb => ?_⟩
    · obtain ⟨j, hj, rfl⟩ := List.getElem_of_mem hx
      rw [List.length_drop] at hj
      rw [List.getElem_drop]
      have h1 := hk.high (k + j) (by omega) (by omega)
      have h2 : cmpC (ss[k + j]'(by omega)).c s.c ≠ 0 := by
        intro hz
        have hc := h.cred (j := k + j) (by omega)
        have := credBytes_one hc ((cmpC_zero_iff _ _).1 hz)
        have hv : hasG ss s.c = true := by unfold hasG; rw [List.any_eq_true]; exact ⟨_, List.getElem_mem (by omega), eqC_true.2 this⟩
        rw [hn] at hv; cases hv
      show ltS _ _ = true
      rw [← cmpC_neg_iff, cmpC_neg]
      omega
    · have hlow : ltB a s = true := by
        obtain ⟨j, hj, rfl⟩ := List.getElem_of_mem ha
        rw [List.length_take] at hj
        rw [List.getElem_take]
        exact (cmpC_neg_iff _ _).1 (hk.low j (by omega) (by omega))
      rcases List.mem_cons.1 hb with rfl | hb
      · exact hlow
      · have := (List.pairwise_append.1 (show ((ss.take k ++ ss.drop k).Pairwise fun a b => ltB a b = true) by rw [List.take_append_drop]; exact hp)).2.2
        exact this a ha b hb

/-! ### Taking out. -/
theorem HeldOk.off {ss : List SignB} (h : HeldOk ss) (k : Nat) : HeldOk (ss.take k ++ ss.drop (k + 1)) := by
  have hsub : (ss.take k ++ ss.drop (k + 1)).Sublist ss := by
    conv => rhs; rw [← List.take_append_drop k ss]
    exact (List.Sublist.refl _).append (List.drop_sublist_drop_left _ (Nat.le_succ _))
  exact ⟨fun x hx => h.1 x (hsub.mem hx), (rising_pair _).2 (((rising_pair _).1 h.2).sublist hsub)⟩

theorem offV_cut {es : List EntB} {c : CredB} {k : Nat} (hok : HeldOk (es.map EntB.s)) (hk : k < es.length) (hc : es[k].c = c) : offV es c = es.take k ++ es.drop (k + 1) := by
  have hne : ∀ j (hj : j < es.length), j ≠ k → eqC es[j].c c = false := by
    intro j hj hjk
    cases he : eqC es[j].c c with
    | false => rfl
    | true =>
      have he := eqC_true.1 he
      rcases Nat.lt_or_gt_of_ne hjk with h1 | h1
      · have := hok.lt j k (by simpa using hk) h1
        simp only [List.getElem_map, EntB.s] at this
        rw [he, hc, ltS_ord.irrefl] at this
        cases this
      · have := hok.lt k j (by simpa using hj) h1
        simp only [List.getElem_map, EntB.s] at this
        rw [he, hc, ltS_ord.irrefl] at this
        cases this
  have e : es = es.take k ++ es[k] :: es.drop (k + 1) := by rw [← List.drop_eq_getElem_cons hk, List.take_append_drop]
  unfold offV
  conv => lhs; rw [e]
  rw [List.filter_append, List.filter_cons, if_neg (by rw [hc]; simp [eqC])]
  congr 1
  · rw [List.filter_eq_self]
    intro x hx
    obtain ⟨j, hj, rfl⟩ := List.getElem_of_mem hx
    rw [List.length_take] at hj
    rw [List.getElem_take, hne j (by omega) (by omega)]
    rfl
  · rw [List.filter_eq_self]
    intro x hx
    obtain ⟨j, hj, rfl⟩ := List.getElem_of_mem hx
    rw [List.length_drop] at hj
    rw [List.getElem_drop, hne (k + 1 + j) (by omega) (by omega)]
    rfl

theorem offV_none {es : List EntB} {c : CredB} (h : hasV es c = false) : offV es c = es := by
  unfold offV
  rw [List.filter_eq_self]
  intro x hx
  cases he : eqC x.c c with
  | false => rfl
  | true =>
    have : hasV es c = true := by unfold hasV; rw [List.any_eq_true]; exact ⟨x, hx, he⟩
    rw [h] at this; cases this

theorem getV_cut {es : List EntB} {c : CredB} {k : Nat} (hok : HeldOk (es.map EntB.s)) (hk : k < es.length) (hc : es[k].c = c) : getV es c = some es[k] := by
  refine getV_at hk ?_ (eqC_true.2 hc)
  cases he : hasV (es.take k) c with
  | false => rfl
  | true =>
    unfold hasV at he
    rw [List.any_eq_true] at he
    obtain ⟨x, hx, hxe⟩ := he
    obtain ⟨j, hj, rfl⟩ := List.getElem_of_mem hx
    rw [List.length_take] at hj
    rw [List.getElem_take, eqC_true] at hxe
    have := hok.lt j k (by simpa using hk) (by omega)
    simp only [List.getElem_map, EntB.s] at this
    rw [hxe, hc, ltS_ord.irrefl] at this
    cases this
end Go.Proofs.Ytfpaoaflhbppgaa

/- The program's vault as it lies in memory; the contracts of New, list, Len, Room, Clone. -/
namespace Go.Proofs.Ytfpaoaflhbppgaa
open Go.RowKit

/-- The entries qs lie from ao on, their tags too, in blocks of O; they are as a vault holds them. -/
structure HeldAt (O : Nat → Prop) (w : World) (ao : Option Addr) (cap : Nat) (qs : List EntB) : Prop where
  ents : EntsAt O w ao qs
  tags : TagsIn O w qs
  ok : HeldOk (qs.map EntB.s)
  len : qs.length ≤ cap
  z : ao = none → cap = 0
  most : qs.length ≤ 256

theorem HeldAt.keep {O S : Nat → Prop} {w w' : World} {ao : Option Addr} {cap : Nat} {qs : List EntB} (h : HeldAt O w ao cap qs) (hc : Chg S w w') (hS : ∀ i, O i → ¬ S i) : HeldAt O w' ao cap qs :=
  ⟨h.ents.keep hc hS, h.tags.keep hc hS, h.ok, h.len, h.z, h.most⟩

theorem HeldAt.nil (O : Nat → Prop) (w : World) : HeldAt O w none 0 [] := ⟨EntsAt.nil _ _ _, fun _ h => (by cases h), HeldOk.nil, Nat.le_refl _, fun _ => rfl, by decide⟩

/-- The cells of a vault. -/
def vcells (m : Int) (ao : Option Addr) (n cap : Nat) : Obj := .cells #[.int .i64 m, .slice ao n cap] 65 (0, 0)

/-- The program's vault at the block g holds ss, of at most m. -/
def VAt (O _D : Nat → Prop) (w : World) (g : Nat) (ss : List SignB) (m : Int) : Prop :=
  ∃ qs ao cap, qs.map EntB.s = ss ∧ w.heap[g]? = some (.cells #[.int .i64 m, .slice ao qs.length cap] 65 (0, 0)) ∧ O g ∧ HeldAt (fun i => O i ∧ i ≠ g) w ao cap qs ∧ (∀ i, O i → i < w.heap.size) ∧ (qs.length : Int) ≤ m ∧ m ≤ 256

theorem VAt.keep {O D S : Nat → Prop} {w w' : World} {g : Nat} {ss : List SignB} {m : Int} (h : VAt O D w g ss m) (hc : Chg S w w') (hS : ∀ i, O i ∨ D i → ¬ S i) : VAt O D w' g ss m := by
  obtain ⟨qs, ao, cap, h1, h2, h3, h4, h5, h6⟩ := h
  exact ⟨qs, ao, cap, h1, blk_keep h2 hc (hS g (.inl h3)), h3, h4.keep hc (fun i hi => hS i (.inl hi.1)), fun i hi => Nat.lt_of_lt_of_le (h5 i hi) hc.size, h6⟩

theorem VAt.low {O D : Nat → Prop} {w : World} {g : Nat} {ss : List SignB} {m : Int} (h : VAt O D w g ss m) : ∀ i, O i → i < w.heap.size := by
  obtain ⟨_, _, _, _, _, _, _, h5, _⟩ := h
  exact h5

theorem drewN_chg7' (w : World) (n : Nat) : Chg (fun _ => False) w (w.drewN n) := ⟨rfl, rfl, rfl, Nat.le_refl _, fun _ _ _ => rfl⟩

theorem pvnew {D : Nat → Prop} (w : World) (m : Int) (h1 : 0 ≤ m) (h2 : m ≤ 256) :
    Calls Try.prog 5 #[.int .i64 m] w fun e w' => ∃ g O, e = .returned (.tuple #[.pointer (some ⟨g, 0, none⟩), .int .i64 0]) ∧ VAt O D w' g [] m ∧ (∀ i, O i → w.heap.size ≤ i) ∧ Chg (fun _ => False) w w' := by
  have z1 : decide (m < 0) = false := decide_eq_false (by omega)
  have z2 : decide (256 < m) = false := decide_eq_false (by omega)
  have HB := hid (heap_alloc_new w (.cells #[.int .i64 m, .slice none 0 0] 65))
  have HC := hid ((Chg.refl (fun _ => False) w).alloc (.cells #[.int .i64 m, .slice none 0 0] 65))
  go_enter Try.func5, Try.ntmps5
  go_wp2
  go_ret2
  exact ⟨w.heap.size, fun i => i = w.heap.size, rfl, ⟨[], none, 0, rfl, HB.out, rfl, HeldAt.nil _ _, (fun i hi => by subst hi; exact lt_blk HB.out), h1, h2⟩, fun i hi => by omega, HC.out⟩

theorem pvnewBad (w : World) (m : Int) (h : ¬ (0 ≤ m ∧ m ≤ 256)) :
    Calls Try.prog 5 #[.int .i64 m] w fun e w' => e = .returned (.tuple #[.pointer none, .int .i64 2]) ∧ Chg (fun _ => False) w w' := by
  have HC := hid (Chg.refl (fun _ => False) w)
  by_cases h1 : m < 0
  · have z1 : decide (m < 0) = true := decide_eq_true h1
    clear h h1
    go_enter Try.func5, Try.ntmps5
    go_wp2
    go_ret2
    exact ⟨rfl, HC.out⟩
  · have z1 : decide (m < 0) = false := decide_eq_false h1
    have z2 : decide (256 < m) = true := decide_eq_true (by omega)
    clear h h1
    go_enter Try.func5, Try.ntmps5
    go_wp2
    go_ret2
    exact ⟨rfl, HC.out⟩

theorem pvlistNil (w : World) : Calls Try.prog 31 #[.pointer none] w fun e w' => e = .returned (.slice none 0 0) ∧ w = w' := by
  go_enter Try.func31, Try.ntmps31
  go_wp2
  go_ret
  exact ⟨rfl, rfl⟩

theorem pvlist (w : World) (g : Nat) (m : Int) (ao : Option Addr) (n cap : Nat) (h : w.heap[g]? = some (.cells #[.int .i64 m, .slice ao n cap] 65 (0, 0))) :
    Calls Try.prog 31 #[.pointer (some ⟨g, 0, none⟩)] w fun e w' => e = .returned (.slice ao n cap) ∧ w = w' := by
  have a1 := cell_blk h 1
  simp only [List.getElem?_toArray, List.getElem?_cons_zero, List.getElem?_cons_succ] at a1
  clear h
  go_enter Try.func31, Try.ntmps31
  go_wp2
  go_ret
  exact ⟨rfl, rfl⟩

theorem pvlenNil (w : World) : Calls Try.prog 9 #[.pointer none] w fun e w' => e = .returned (.int .i64 0) ∧ Chg (fun _ => False) w w' := by
  have HC := hid (Chg.refl (fun _ => False) w)
  go_enter Try.func9, Try.ntmps9
  go_wp2_with (go_at_call 31; refine (pvlistNil _).mono ?_; rintro e w' ⟨rfl, rfl⟩)
  go_ret
  exact ⟨rfl, HC.out⟩

theorem pvlen {O D : Nat → Prop} (w : World) (g : Nat) (es : List EntB) (m : Int) (h : VAt O D w g (es.map EntB.s) m) :
    Calls Try.prog 9 #[.pointer (some ⟨g, 0, none⟩)] w fun e w' => e = .returned (.int .i64 (es.length : Nat)) ∧ Chg (fun _ => False) w w' := by
  obtain ⟨qs, ao, cap, h1, h2, _, h4, _⟩ := h
  have hl : qs.length = es.length := by have := congrArg List.length h1; simpa using this
  have hm := h4.most
  rw [hl] at h2 hm
  have HC := hid (Chg.refl (fun _ => False) w)
  have HL := hid (pvlist w g m ao es.length cap h2)
  clear h1 h2 h4 hl
  go_enter Try.func9, Try.ntmps9
  go_wp2_with fail
  refine HL.out.mono ?_
  rintro e w' ⟨rfl, rfl⟩
  go_wp2
  go_ret
  exact ⟨rfl, HC.out⟩

theorem pvroomNil (w : World) : Calls Try.prog 10 #[.pointer none] w fun e w' => e = .returned (.int .i64 0) ∧ Chg (fun _ => False) w w' := by
  have HC := hid (Chg.refl (fun _ => False) w)
  go_enter Try.func10, Try.ntmps10
  go_wp2
  go_ret
  exact ⟨rfl, HC.out⟩

theorem pvroom {O D : Nat → Prop} (w : World) (g : Nat) (es : List EntB) (m : Int) (h : VAt O D w g (es.map EntB.s) m) (hm1 : 0 ≤ m) (hm2 : m ≤ 256) (_ : es.length ≤ 256) :
    Calls Try.prog 10 #[.pointer (some ⟨g, 0, none⟩)] w fun e w' => e = .returned (.int .i64 (m - (es.length : Nat))) ∧ Chg (fun _ => False) w w' := by
  obtain ⟨qs, ao, cap, h1, h2, _, h4, _⟩ := h
  have hl : qs.length = es.length := by have := congrArg List.length h1; simpa using this
  have hm := h4.most
  rw [hl] at h2 hm
  have a0 := cell_blk h2 0
  have a1 := cell_blk h2 1
  simp only [List.getElem?_toArray, List.getElem?_cons_zero, List.getElem?_cons_succ] at a0 a1
  clear h1 h2 h4 hl
  go_enter Try.func10, Try.ntmps10
  go_wp2
  go_quiet (fail)
  go_wp2
  go_ret
  exact ⟨rfl, drewN_chg7' _ _⟩

theorem pvcloneNil (w : World) : Calls Try.prog 13 #[.pointer none] w fun e w' => e = .returned (.pointer none) ∧ Chg (fun _ => False) w w' := by
  have HC := hid (Chg.refl (fun _ => False) w)
  go_enter Try.func13, Try.ntmps13
  go_wp2
  go_ret
  exact ⟨rfl, HC.out⟩
end Go.Proofs.Ytfpaoaflhbppgaa

/- Clone of a vault that holds nothing. -/
namespace Go.Proofs.Ytfpaoaflhbppgaa
open Go.RowKit

set_option maxRecDepth 100000 in
set_option maxHeartbeats 2000000 in
theorem pvclone {O D : Nat → Prop} (w : World) (g : Nat) (m : Int) (h : VAt O D w g [] m) :
    Calls Try.prog 13 #[.pointer (some ⟨g, 0, none⟩)] w fun e w' => ∃ g' O', e = .returned (.pointer (some ⟨g', 0, none⟩)) ∧ VAt O' D w' g' [] m ∧ (∀ i, O' i → w.heap.size ≤ i) ∧ Chg (fun _ => False) w w' := by
  obtain ⟨qs, ao, cap, h1, h2, _, h4, _, hm1, hm2⟩ := h
  have hq : qs = [] := by simpa using h1
  subst hq
  have a0 := cell_blk h2 0
  have a1 := cell_blk h2 1
  simp only [List.getElem?_toArray, List.getElem?_cons_zero, List.getElem?_cons_succ] at a0 a1
  have HH := hid h4
  clear h1 h2 h4
  have HB : Hid ((w.alloc (.cells #[.int .i64 m, .slice ao 0 cap] 65)).drew.heap[w.heap.size]? = some (.cells #[.int .i64 m, .slice ao 0 cap] 65 (0, 0))) := hid (heap_alloc_new w (.cells #[.int .i64 m, .slice ao 0 cap] 65))
  have HC := hid ((Chg.refl (fun _ => False) w).alloc (.cells #[.int .i64 m, .slice ao 0 cap] 65)).drew
  go_enter Try.func13, Try.ntmps13
  go_wp2
  go_still_tail 9, (by kernel_rfl)
  go_wp2
  go_ret
  exact ⟨w.heap.size, fun i => i = w.heap.size, rfl, ⟨[], ao, cap, rfl, HB.out, rfl, ⟨EntsAt.nil _ _ _, fun _ h => (by cases h), HeldOk.nil, Nat.zero_le _, HH.out.z, by decide⟩, (fun i hi => by subst hi; exact lt_blk HB.out), hm1, hm2⟩, fun i hi => by omega, HC.out⟩
end Go.Proofs.Ytfpaoaflhbppgaa

/-
  DERIVED: THE SHELF's CONTRACTS AT THIS DUMP, IN PLAIN WORDS (tools/lay-plain.mjs out of 'TryShelfG.lean', which tools/lay-shelf.mjs wrote): THE SAME DECLARATIONS UNDER THE SAME NAMES: 'import', 'namespace', 'open', 'def', 'theorem' AND NOTHING ELSE: no command of the shelf's: FOR A HAND-IN. Each laying: the table of numbers ('.._ren') and one theorem, a field a fact of the dump's own or the kernel's comparison; each contract: ONE APPLICATION.
-/
namespace Go.Proofs
open Go.Shelf
def Try.growE_ren : Go.Shelf.Ren := ⟨fun | 4 => 49 | n => n, fun | 22 => 45 | 25 => 35 | 3 => 3 | 4 => 4 | 9 => 9 | 20 => 20 | 0 => 0 | n => n, fun | n => n⟩
theorem Try.growE : Go.Proofs.Lays8.n4 Try.prog Try.growE_ren := {
  mixed := by kernel_rfl
  f4 := ⟨Try.f49.name, by decide, Try.func49.trans (congrArg some (by kernel_rfl))⟩
  t0 := Try.underlying0
  a0 := Try.isAgg0
  z0 := Try.sizeOf0
  v0 := Try.zeroValue0
  t3 := Try.underlying3
  a3 := Try.isAgg3
  z3 := Try.sizeOf3
  v3 := Try.zeroValue3
  t4 := Try.underlying4
  a4 := Try.isAgg4
  z4 := Try.sizeOf4
  v4 := Try.zeroValue4
  t9 := Try.underlying9
  a9 := Try.isAgg9
  z9 := Try.sizeOf9
  v9 := Try.zeroValue9
  t20 := Try.underlying20
  a20 := Try.isAgg20
  z20 := Try.sizeOf20
  v20 := Try.zeroValue20
  t22 := Try.underlying45
  a22 := Try.isAgg45
  z22 := Try.sizeOf45
  v22 := Try.zeroValue45 }
end Go.Proofs

/- The contract of slices.Concat, at lists of what vaults hold. -/
namespace Go.Proofs.Ytfpaoaflhbppgaa
open Go.RowKit

/-- One of the lists. -/
structure PartE where
  ao : Option Addr
  cap : Nat
  ls : List EntB

def joinE (ps : List PartE) : List EntB := ps.flatMap (·.ls)
theorem joinE_take {ps : List PartE} {k : Nat} (h : k < ps.length) : joinE (ps.take (k + 1)) = joinE (ps.take k) ++ ps[k].ls := by
  rw [List.take_succ_eq_append_getElem h, joinE, List.flatMap_append]
  simp [joinE]

theorem joinE_len {ps : List PartE} {k : Nat} (h : k < ps.length) : (joinE (ps.take (k + 1))).length = (joinE (ps.take k)).length + ps[k].ls.length := by
  rw [joinE_take h, List.length_append]

theorem joinE_le (ps : List PartE) (k : Nat) : (joinE (ps.take k)).length ≤ (joinE ps).length := by
  have h : joinE ps = joinE (ps.take k) ++ joinE (ps.drop k) := by
    unfold joinE
    rw [← List.flatMap_append, List.take_append_drop]
  rw [h, List.length_append]
  omega

/-- The lists lie in gb's cells; their entries can be read. -/
def PartsE (D : Nat → Prop) (w : World) (gb : Nat) (ps : List PartE) : Prop :=
  ∀ i (h : i < ps.length), w.cell? ⟨gb, i, none⟩ = some (.slice ps[i].ao ps[i].ls.length ps[i].cap) ∧ EntsAt D w ps[i].ao ps[i].ls ∧ (ps[i].ao = none → ps[i].cap = 0)

theorem PartsE.keep {D S : Nat → Prop} {w w' : World} {gb : Nat} {ps : List PartE} (h : PartsE D w gb ps) (hc : Chg S w w') (hg : ¬ S gb) (hD : ∀ i, D i → ¬ S i) : PartsE D w' gb ps := fun i hi =>
  ⟨hc.cell (h i hi).1 hg, (h i hi).2.1.keep hc hD, (h i hi).2.2⟩

theorem entRow_mem (ls : List EntB) : ∀ u ∈ entRow ls, u.oneCell' = true := by
  intro u hu
  unfold entRow at hu
  rw [List.mem_flatMap] at hu
  obtain ⟨x, _, hx⟩ := hu
  exact ent_one x u hx

theorem entRow_len (ls : List EntB) : (entRow ls).length = ls.length * 10 := by
  unfold entRow
  induction ls with
  | nil => rfl
  | cons x l ih => rw [List.flatMap_cons, List.length_append, ih, entCells_len, List.length_cons]; omega

theorem entRow_append (a b : List EntB) : entRow (a ++ b) = entRow a ++ entRow b := by simp [entRow]

/-- append of a list of entries, onto a row of the call's own. -/
theorem wpList_append_ents {D : Nat → Prop} {ops : Array Oper} {rest : List Oper} {o : Oper} {a : Act} {w : World} {Q : Exit → Act → World → Prop} (hgd : o.guard = none) (s x : Operand)
    (ho : o.op = .call { callee := .builtin .append, args := #[s, x], argTypes := #[45, 45] }) (B : Nat) (v : Value) (zs : List EntB) (hs : a.eval s = v) (hown : OwnE B w v zs)
    (ao : Option Addr) (cp : Nat) (ls : List EntB) (hx : a.eval x = .slice ao ls.length cp) (hst : EntsAt D w ao ls) (h0 : ao = none → cp = 0)
    (hlen : zs.length + ls.length ≤ 33554432) (hB : B ≤ w.heap.size)
    (h : ∀ v' w', OwnE B w' v' (zs ++ ls) → (∀ S : Nat → Prop, (∀ k, B ≤ k → S k) → Chg S w w') → wpList Try.prog ops Q rest (a.put o.dst v') w') : wpList Try.prog ops Q (o :: rest) a w := by
  obtain ⟨i0, hi, hz0, hz1, hz2⟩ := info_parts Try.info35
  cases hao : ao with
  | none =>
    subst hao
    have hl : ls = [] := by
      cases ls with
      | nil => rfl
      | cons y l => obtain ⟨_, _, e, _⟩ := hst 0 (by simp); cases e
    subst hl
    have hcp := h0 rfl
    subst hcp
    exact wpList_append_own_none hgd s x 45 ho B 35 i0 10 Try.underlying45 hi v _ _ hs hown hx (h v w (by rw [List.append_nil]; exact hown) fun S _ => Chg.refl S w)
  | some ad =>
    subst hao
    refine wpList_append_own_at w hgd s x 45 ho B 35 i0 (.agg #[.int .i64 0, .string ⟨#[]⟩, .string ⟨#[]⟩, .string ⟨#[]⟩, .string ⟨#[]⟩, .string ⟨#[]⟩, .string ⟨#[]⟩, .string ⟨#[]⟩, .string ⟨#[]⟩, .slice none 0 0]) 10 160 Try.underlying45 hi hz0 hz1 hz2 rfl (by decide) v _ _ hs hown ad ls.length cp (entRow ls) hx (by rw [entRow_len]) (fun j u hj => ?_) (fun u hu => entRow_mem ls u hu) (by unfold maxLen; omega) (by omega) hB ?_
    · have hjl : j < (entRow ls).length := (List.getElem?_eq_some_iff.1 hj).1
      rw [entRow_len] at hjl
      have hq : j / 10 < ls.length := by omega
      obtain ⟨b, off, e, _, h3⟩ := hst (j / 10) hq
      cases e
      have h4 := h3 (j % 10) (by omega)
      have h5 := entRow_get ls (j / 10) (j % 10) hq (by omega)
      have h6 : j / 10 * 10 + j % 10 = j := by omega
      rw [h6] at h5
      rw [add_off, show off + j = off + j / 10 * 10 + j % 10 by omega, h4, ← h5]
      exact hj
    · intro v' w' hown' hgr _ _
      refine h v' w' (by unfold OwnE; rw [entRow_append, List.length_append]; exact hown') fun S hS => (Chg.refl S w).grown hgr fun k e _ => ?_
      rcases hown.2 with ⟨hx', _⟩ | ⟨g, cap', cur, hx', hg, _⟩
      · rw [hx'] at e; cases e
      · rw [hx'] at e; cases e; exact hS _ hg

/-- Room for n entries. -/
theorem grow_ownE (n : Nat) (w : World) (hn : n ≤ 33554432) :
    Calls Try.prog 49 #[.slice none 0 0, .int .i64 n] w fun e w' => (∃ v, e = .returned v ∧ OwnE w.heap.size w' v []) ∧ Chg (fun _ => False) w w' := by
  obtain ⟨i0, hi, hz0, hz1, hz2⟩ := info_parts Try.info35
  by_cases h0 : n = 0
  · subst h0
    refine (Any8.slices_Grow_room Try.growE none 0 0 0 w (by omega) (by omega) (by omega) (by omega)).mono ?_
    rintro e w' ⟨rfl, rfl⟩
    exact ⟨⟨_, rfl, World.ownsRow_nil _ _ _ _⟩, Chg.refl _ _⟩
  · refine (Any8.slices_Grow_grow Try.growE i0 (.agg #[.int .i64 0, .string ⟨#[]⟩, .string ⟨#[]⟩, .string ⟨#[]⟩, .string ⟨#[]⟩, .string ⟨#[]⟩, .string ⟨#[]⟩, .string ⟨#[]⟩, .string ⟨#[]⟩, .slice none 0 0]) hi hz0 (by rw [hz1]; decide) none 0 0 n [] w (by omega) (by omega) (by rw [hz2]; omega) (by omega) (by simp) (fun _ => rfl) (fun a e => by cases e)).mono ?_
    rintro e w' ⟨rfl, rfl⟩
    have hge := grownCap_ge w (0 + n) 0 35
    refine ⟨⟨_, rfl, ⟨rfl, .inr ⟨w.heap.size, _, _, rfl, Nat.le_refl _, heap_alloc_new _ _, Nat.zero_le _, grownCap_le_maxLen w (0 + n) 0 35 (by unfold maxLen; omega), ?_, by simp [entRow]⟩⟩⟩, ((Chg.refl _ w).drew).alloc _⟩
    have hs : ∀ k, (Builtin.zeroCells (Value.agg #[.int .i64 0, .string ⟨#[]⟩, .string ⟨#[]⟩, .string ⟨#[]⟩, .string ⟨#[]⟩, .string ⟨#[]⟩, .string ⟨#[]⟩, .string ⟨#[]⟩, .string ⟨#[]⟩, .slice none 0 0]).cells k).size = k * 10 := fun k => by rw [size_zeroCells]; simp [Value.cells]
    show (_ : Array Value).size = _
    simp only [Array.size_append, hs]
    show 0 + (0 + n - 0) * 10 + (grownCap w (0 + n) 0 35 - (0 + n)) * 10 = grownCap w (0 + n) 0 35 * 10
    omega

set_option maxRecDepth 100000 in
set_option maxHeartbeats 2000000 in
theorem pvconcat {D : Nat → Prop} (gb n cp : Nat) (ps : List PartE) (w : World) (hpn : n = ps.length) (hn : n ≤ 16) (hl : (joinE ps).length ≤ 4194304) (h : PartsE D w gb ps) :
    Calls Try.prog 30 #[.slice (some ⟨gb, 0, none⟩) n cp] w fun e w' => ∃ v, e = .returned v ∧ OwnE w.heap.size w' v (joinE ps) ∧ Chg (fun _ => False) w w' := by
  have HPN := hid hpn
  clear hpn
  have HP := hid h
  clear h
  go_enter Try.func30, Try.ntmps30
  go_wp2
  go_loop [3, 11] (fun s i => ∃ k t : Nat, k ≤ n ∧ t ≤ 4194304 ∧ Hid (t = (joinE (ps.take k)).length) ∧ s = .int .i64 t ∧ i = .int .i64 k) (fun _ i => n - (intOf i).toNat)
  case atStart => exact ⟨0, 0, Nat.zero_le _, Nat.zero_le _, hid rfl, rfl, rfl⟩
  case round =>
    obtain ⟨k, t, hk, ht, hte, rfl, rfl⟩ := hrel
    by_cases hlt : k < n
    · have hkp : k < ps.length := by rw [← HPN.out]; exact hlt
      obtain ⟨p, hp⟩ : ∃ p, p = ps[k] := ⟨_, rfl⟩
      obtain ⟨ln, hln⟩ : ∃ ln, ln = p.ls.length := ⟨_, rfl⟩
      obtain ⟨q, q1, q2⟩ := HP.out k hkp
      have hT : Hid (t + ln = (joinE (ps.take (k + 1))).length) := hid (by rw [joinE_len hkp, hte.out, hln, hp])
      rw [← hp, ← hln] at q
      clear q1 q2 hp
      have hb : t + ln ≤ 4194304 := by rw [hT.out]; exact Nat.le_trans (joinE_le ps (k + 1)) hl
      have d1 : decide ((t : Int) + (ln : Int) < 0) = false := by simp; omega
      clear hln hkp hl
      go_wp2
      go_round
      case rel => exact ⟨k + 1, t + ln, by omega, hb, hT, by go_num, by go_num⟩
      case measure => simp [intOf]; omega
    · have hke : k = n := by omega
      subst hke
      have hte2 : Hid (t = (joinE ps).length) := hid (by rw [hte.out, HPN.out, List.take_length])
      go_wp2_with (go_at_call 49; refine (grow_ownE t _ (by omega)).mono ?_; rintro e w1 ⟨⟨v, rfl, hv⟩, hch1⟩)
      go_loopw [6, 27] (fun v i wr => ∃ (j : Nat), j ≤ k ∧ i = .int .i64 j ∧ OwnE w.heap.size wr v (joinE (ps.take j)) ∧ Chg (fun _ => False) w wr) (fun _ i _ => k - (intOf i).toNat)
      case atStart => exact ⟨0, Nat.zero_le _, rfl, hv, hch1⟩
      case round =>
        obtain ⟨j, hj, rfl, ho, hc⟩ := hrel
        by_cases hlt2 : j < k
        · have hkp : j < ps.length := by rw [← HPN.out]; exact hlt2
          obtain ⟨p, hp⟩ : ∃ p, p = ps[j] := ⟨_, rfl⟩
          obtain ⟨q, hents, hz⟩ := HP.out j hkp
          rw [← hp] at q hents hz
          have hJ : Hid (joinE (ps.take (j + 1)) = joinE (ps.take j) ++ p.ls) := hid (by rw [joinE_take hkp, hp])
          have hbd : (joinE (ps.take j)).length + p.ls.length ≤ 33554432 := by
            have h1 := joinE_le ps (j + 1)
            rw [hJ.out, List.length_append] at h1
            omega
          have q2 := hc.cell q id
          have hents2 := hents.keep hc (fun _ _ => id)
          have hsz := hc.size
          have HB := hid (And.intro hbd (And.intro hsz (And.intro hz (And.intro hents2 (And.intro ho hc)))))
          clear hp q hents hz hkp hbd hsz hents2 ho hc hv hch1
          go_wp2_with (at_builtin; refine wpList_append_ents rfl (.tmp 31) (.tmp 32) rfl w.heap.size _ _ rfl HB.out.2.2.2.2.1 p.ao p.cap p.ls rfl HB.out.2.2.2.1 HB.out.2.2.1 HB.out.1 HB.out.2.1 ?_)
          intro v' w2 ho2 hch2
          have hc2 : Chg (fun _ => False) w w2 := HB.out.2.2.2.2.2.trans (hch2 (fun k => w.heap.size ≤ k) (fun _ h => h)) (fun i hi hk => by omega)
          have HO := hid (And.intro ho2 hc2)
          clear hch2 ho2 hc2
          go_wp2
          go_roundw
          case rel => exact ⟨j + 1, by omega, by go_num, by rw [hJ.out]; exact HO.out.1, HO.out.2⟩
          case measure => simp [intOf]; omega
        · have hje : j = k := by omega
          subst hje
          have ho2 : OwnE w.heap.size wr u6 (joinE ps) := by rw [HPN.out, List.take_length] at ho; exact ho
          have HO := hid (And.intro ho2 hc)
          clear ho ho2 hc hv hch1
          go_wp2
          go_ret
          exact ⟨_, rfl, HO.out.1, HO.out.2⟩
end Go.Proofs.Ytfpaoaflhbppgaa

/- The contracts of the program's Right, Text, Put, Get of layer 4. -/
namespace Go.Proofs.Ytfpaoaflhbppgaa
open Go.RowKit

theorem role_len {r : RoleB} (h : isRole r = true) : r.1.length ≤ 16 ∧ r.2.length ≤ 16 := by
  simp only [isRole, Bool.and_eq_true] at h
  exact ⟨(isName_len h.1).2, (isName_len h.2).2⟩

theorem pright (r : RoleB) (w : World) (h1 : r.1.length ≤ 9223372036854775807) (h2 : r.2.length ≤ 9223372036854775807) :
    Calls Try.prog 47 #[roleV r] w fun e w' => e = .returned (.bool (isRole r)) ∧ Chg (fun _ => False) w w' := by
  obtain ⟨o, x⟩ := r
  have hc : Chg (fun _ => False) w (w.alloc (.cells #[.string ⟨o.toArray⟩, .string ⟨x.toArray⟩] 30)) := (Chg.refl _ w).alloc _
  have HC := hid hc
  clear hc
  show Calls Try.prog 47 #[.agg #[.string ⟨o.toArray⟩, .string ⟨x.toArray⟩]] w _
  cases ho : isName o with
  | false =>
    have hh : Hid (isRole (o, x) = false) := hid (by simp [isRole, ho])
    go_enter Try.func47, Try.ntmps47
    go_wp2_with fail
    refine (right_any o _ h1).mono ?_
    rintro e w' ⟨rfl, rfl⟩
    rw [ho]
    go_wp2
    go_ret
    exact ⟨by rw [hh.out]; rfl, HC.out⟩
  | true =>
    have hh : Hid (isRole (o, x) = isName x) := hid (by simp [isRole, ho])
    go_enter Try.func47, Try.ntmps47
    go_wp2_with fail
    refine (right_any o _ h1).mono ?_
    rintro e w' ⟨rfl, rfl⟩
    rw [ho]
    go_wp2_with fail
    refine (right_any x _ h2).mono ?_
    rintro e w' ⟨rfl, rfl⟩
    go_wp2
    go_ret
    exact ⟨by rw [hh.out]; rfl, HC.out⟩

theorem pput_no (p : Value) (r : RoleB) (w : World) (h1 : r.1.length ≤ 9223372036854775807) (h2 : r.2.length ≤ 9223372036854775807) (hn : isRole r = false) :
    Calls Try.prog 64 #[p, roleV r] w fun e w' => e = .returned (.bool false) ∧ Chg (fun _ => False) w w' := by
  obtain ⟨o, x⟩ := r
  have hc : Chg (fun _ => False) w (w.alloc (.cells #[.string ⟨o.toArray⟩, .string ⟨x.toArray⟩] 30)) := (Chg.refl _ w).alloc _
  show Calls Try.prog 64 #[p, .agg #[.string ⟨o.toArray⟩, .string ⟨x.toArray⟩]] w _
  go_enter Try.func64, Try.ntmps64
  go_wp2_with fail
  refine (pright (o, x) _ h1 h2).mono ?_
  rintro e w1 ⟨rfl, hc1⟩
  rw [hn]
  have HC := hid (hc.trans hc1 (fun _ _ h => h))
  clear hc hc1
  go_wp2
  go_ret
  exact ⟨rfl, HC.out⟩

theorem pput_nil (r : RoleB) (w : World) (h1 : r.1.length ≤ 9223372036854775807) (h2 : r.2.length ≤ 9223372036854775807) :
    Calls Try.prog 64 #[.pointer none, roleV r] w fun e w' => e = .returned (.bool false) ∧ Chg (fun _ => False) w w' := by
  cases hn : isRole r with
  | false => exact pput_no _ r w h1 h2 hn
  | true =>
    obtain ⟨o, x⟩ := r
    have hc : Chg (fun _ => False) w (w.alloc (.cells #[.string ⟨o.toArray⟩, .string ⟨x.toArray⟩] 30)) := (Chg.refl _ w).alloc _
    have hA := heap_alloc_new w (.cells #[.string ⟨o.toArray⟩, .string ⟨x.toArray⟩] 30)
    show Calls Try.prog 64 #[.pointer none, .agg #[.string ⟨o.toArray⟩, .string ⟨x.toArray⟩]] w _
    go_enter Try.func64, Try.ntmps64
    go_wp2_with fail
    refine (pright (o, x) _ h1 h2).mono ?_
    rintro e w1 ⟨rfl, hc1⟩
    rw [hn]
    have hA1 := blk_keep hA hc1 id
    have hcw := hc.trans hc1 (fun _ _ h => h)
    have a0 := cell_blk hA1 0
    simp only [List.getElem?_toArray, List.getElem?_cons_zero] at a0
    clear hc hc1 hA hA1
    go_wp2_with fail
    refine (put_nil o w1 h1).mono ?_
    rintro e w2 ⟨rfl, hc2⟩
    have HC := hid (hcw.trans hc2 (fun _ _ h => h))
    clear hcw hc2
    go_wp2
    go_ret
    exact ⟨rfl, HC.out⟩

set_option maxRecDepth 100000 in
theorem pput_yes (B P cap : Nat) (ao : Option Addr) (zs : List UInt8) (r : RoleB) (w : World) (hp : PenAt B w P ao cap zs) (hB : B ≤ w.heap.size) (hPB : P < B) (hx : zs.length ≤ 999000) (hn : isRole r = true) :
    Calls Try.prog 64 #[.pointer (some ⟨P, 0, none⟩), roleV r] w fun e w' => e = .returned (.bool true) ∧ PenPost B P ao (zs ++ roleEnc r) w w' := by
  obtain ⟨o, x⟩ := r
  have hl := role_len hn
  have hn2 : isName o = true ∧ isName x = true := by simpa [isRole] using hn
  dsimp only at hl
  have hc : Chg (fun _ => False) w (w.alloc (.cells #[.string ⟨o.toArray⟩, .string ⟨x.toArray⟩] 30)) := (Chg.refl _ w).alloc _
  have hA := heap_alloc_new w (.cells #[.string ⟨o.toArray⟩, .string ⟨x.toArray⟩] 30)
  have hPl := lt_blk hp.cell
  have hrow0 : ∀ k, rowOf ao = some k → B ≤ k ∧ k < w.heap.size := fun k hk => hp.row.lt k ((rowOf_block _ _ _).trans hk)
  have hp1 := hp.keep hc id (fun _ _ => id)
  show Calls Try.prog 64 #[.pointer (some ⟨P, 0, none⟩), .agg #[.string ⟨o.toArray⟩, .string ⟨x.toArray⟩]] w _
  go_enter Try.func64, Try.ntmps64
  go_wp2_with fail
  refine (pright (o, x) _ (by show o.length ≤ _; omega) (by show x.length ≤ _; omega)).mono ?_
  rintro e w1 ⟨rfl, hc1⟩
  rw [hn]
  have hA1 := blk_keep hA hc1 id
  have hp2 := hp1.keep hc1 id (fun _ _ => id)
  have hcw := hc.trans hc1 (fun _ _ h => h)
  have a0 := cell_blk hA1 0
  simp only [List.getElem?_toArray, List.getElem?_cons_zero] at a0
  clear hc hc1 hA hp1
  have hs1 := hcw.size
  go_wp2_with fail
  refine (put_yes B P cap ao zs o w1 hp2 (by omega) hPB (by omega) hn2.1).mono ?_
  rintro e w2 ⟨rfl, ao2, cap2, hp3, hch⟩
  have hA2 := blk_keep hA1 hch.chg (fun h => h.elim (fun h => by omega) (fun h => by have := (hrow0 _ h).2; omega))
  have hs2 := hch.chg.size
  have a1 := cell_blk hA2 1
  simp only [List.getElem?_toArray, List.getElem?_cons_zero, List.getElem?_cons_succ] at a1
  have hel : (enc o.length ++ o).length ≤ 32 := by rw [enc_small (by omega)]; simp; omega
  clear a0 hA1 hp2 hA2
  go_wp2_with fail
  refine (put_yes B P cap2 ao2 (zs ++ (enc o.length ++ o)) x w2 hp3 (by omega) hPB (by rw [List.length_append]; omega) hn2.2).mono ?_
  rintro e w3 ⟨rfl, ao3, cap3, hp4, hch2⟩
  have HH := hid (And.intro hp4 (And.intro hch2 (And.intro hch hcw)))
  clear hp3 hp4 hch hch2 hcw a1
  go_wp2
  go_ret
  obtain ⟨h4, h5, h6, h7⟩ := HH.out
  refine ⟨rfl, ao3, cap3, by rw [List.append_assoc] at h4; exact h4, ?_⟩
  have h8 := h6.trans h5
  refine ⟨(h7.mono (fun _ _ h => h.elim)).trans h8.chg (fun i _ h => h), ?_⟩
  rcases h8.row with h | ⟨g, k1, k2⟩
  · exact .inl h
  · have := h7.size
    exact .inr ⟨g, k1, by omega⟩
end Go.Proofs.Ytfpaoaflhbppgaa

/-
  DERIVED: THE SHELF's CONTRACTS AT THIS DUMP, IN PLAIN WORDS (tools/lay-plain.mjs out of 'TryShelfStr.lean', which tools/lay-shelf.mjs wrote): THE SAME DECLARATIONS UNDER THE SAME NAMES: 'import', 'namespace', 'open', 'def', 'theorem' AND NOTHING ELSE: no command of the shelf's: FOR A HAND-IN. Each laying: the table of numbers ('.._ren') and one theorem, a field a fact of the dump's own or the kernel's comparison; each contract: ONE APPLICATION.
-/
namespace Go.Proofs
open Go.Shelf
def Try.lays213_ren : Go.Shelf.Ren := ⟨fun | 213 => 67 | 265 => 72 | n => n, fun | 9 => 9 | 3 => 3 | n => n, fun | n => n⟩
theorem Try.lays213 : Go.Proofs.Lays.n213 Try.prog Try.lays213_ren := {
  mixed := by kernel_rfl
  f213 := Try.func67.trans (congrArg some (by kernel_rfl))
  f265 := Try.func72.trans (congrArg some (by kernel_rfl))
  t3 := Try.underlying3
  a3 := Try.isAgg3
  z3 := Try.sizeOf3
  v3 := Try.zeroValue3
  t9 := Try.underlying9
  a9 := Try.isAgg9
  z9 := Try.sizeOf9
  v9 := Try.zeroValue9 }
open Go.RowKit in
/-- internal/bytealg.CompareString (what strings.Compare calls): IT RETURNS 'Lib.compareBytes a b'; the world is as it was. (LAID: no walk: one application.) -/
theorem Try.bytealg_CompareString (a b : ByteArray) (w : World) :
    Calls Try.prog 67 #[.string a, .string b] w fun e w' => e = .returned (.int .i64 (Lib.compareBytes a.data.toList b.data.toList)) ∧ w' = w := Any.bytealg_CompareString Try.lays213 a b w
def Try.lays106_ren : Go.Shelf.Ren := ⟨fun | 106 => 57 | 213 => 67 | 265 => 72 | n => n, fun | 9 => 9 | 3 => 3 | n => n, fun | n => n⟩
theorem Try.lays106 : Go.Proofs.Lays.n106 Try.prog Try.lays106_ren := {
  mixed := by kernel_rfl
  f106 := Try.func57.trans (congrArg some (by kernel_rfl))
  f213 := Try.func67.trans (congrArg some (by kernel_rfl))
  f265 := Try.func72.trans (congrArg some (by kernel_rfl))
  t3 := Try.underlying3
  a3 := Try.isAgg3
  z3 := Try.sizeOf3
  v3 := Try.zeroValue3
  t9 := Try.underlying9
  a9 := Try.isAgg9
  z9 := Try.sizeOf9
  v9 := Try.zeroValue9 }
open Go.RowKit in
/-- strings.Compare: "Compare returns an integer comparing two strings lexicographically. The result will be 0 if a == b, -1 if a < b, and +1 if a > b.": IT RETURNS 'Lib.compareBytes a b'; the world is as it was. (LAID: no walk: one application.) -/
theorem Try.strings_Compare (a b : ByteArray) (w : World) :
    Calls Try.prog 57 #[.string a, .string b] w fun e w' => e = .returned (.int .i64 (Lib.compareBytes a.data.toList b.data.toList)) ∧ w' = w := Any.strings_Compare Try.lays106 a b w
end Go.Proofs

/- The order of two roles, as a program tells it by strings.Compare. -/
namespace Go.Proofs.Ytfpaoaflhbppgaa
open Go.RowKit

theorem cmpB_eq : ∀ (a b : List UInt8), Lib.compareBytes a b = if ltS a b then -1 else if ltS b a then 1 else 0
  | [], [] => rfl
  | [], _ :: _ => rfl
  | _ :: _, [] => by simp [Lib.compareBytes, ltS_nil, ltS_nil_cons]
  | x :: a, y :: b => by
    rw [Lib.compareBytes, ltS_cons, ltS_cons, cmpB_eq a b]
    by_cases h1 : x < y
    · simp [h1]
    · by_cases h2 : y < x
      · have hne : x ≠ y := fun e => by subst e; exact h1 h2
        simp [h1, h2, hne]
      · have e : x = y := by
          have h1' : ¬ x.toNat < y.toNat := h1
          have h2' : ¬ y.toNat < x.toNat := h2
          exact UInt8.toNat_inj.1 (by omega)
        subst e
        simp [h1]

theorem cmpB_zero (a b : List UInt8) : Lib.compareBytes a b = 0 ↔ a = b := by
  rw [cmpB_eq]
  constructor
  · intro h
    rcases ltS_tri a b with k | k | k
    · rw [if_pos k] at h; cases h
    · exact k
    · by_cases hb : ltS a b = true
      · rw [if_pos hb] at h; cases h
      · rw [if_neg hb, if_pos k] at h; cases h
  · rintro rfl
    rw [ltS_irrefl]
    rfl

theorem cmpR_eq (a b : RoleB) : cmpR a b = if Lib.compareBytes a.1 b.1 = 0 then Lib.compareBytes a.2 b.2 else Lib.compareBytes a.1 b.1 := by
  obtain ⟨o, x⟩ := a
  obtain ⟨p, y⟩ := b
  rw [cmpR, ltR_def, ltR_def]
  dsimp only
  by_cases h : o = p
  · subst h
    rw [if_pos ((cmpB_zero o o).2 rfl), cmpB_eq x y, ltS_irrefl]
    simp
  · have h2 : p ≠ o := fun e => h e.symm
    rw [if_neg (fun e => h ((cmpB_zero o p).1 e)), cmpB_eq o p]
    simp [h, h2]

theorem cmpB_wrap (a b : List UInt8) : -1 ≤ Lib.compareBytes a b ∧ Lib.compareBytes a b ≤ 1 := by
  rw [cmpB_eq]
  by_cases h : ltS a b = true
  · rw [if_pos h]; decide
  · rw [if_neg h]
    by_cases h2 : ltS b a = true
    · rw [if_pos h2]; decide
    · rw [if_neg h2]; decide
end Go.Proofs.Ytfpaoaflhbppgaa

/- cmp.Or at two ints: the first that isn't zero, else zero. -/
namespace Go.Proofs.Ytfpaoaflhbppgaa
open Go.RowKit

/-- A slice of two ints. -/
def Spec.two (x y : Int) : Spec :=
  ⟨fun v w => ∃ g ty f, v = .slice (some ⟨g, 0, none⟩) 2 2 ∧ w.heap[g]? = some (.cells #[.int .i64 x, .int .i64 y] ty f), fun _ _ _ hc ⟨g, ty, f, h1, h2⟩ => ⟨g, ty, f, h1, blk_keep h2 hc id⟩⟩

set_option maxRecDepth 100000 in
theorem por_two (g : Nat) (f : Nat × Nat) (ty : Nat) (x y : Int) (w : World) (h : w.heap[g]? = some (.cells #[.int .i64 x, .int .i64 y] ty f)) :
    Calls Try.prog 56 #[.slice (some ⟨g, 0, none⟩) 2 2] w fun e w' => e = .returned (.int .i64 (if x = 0 then y else x)) ∧ w' = w := by
  have c0 := cell_blk h 0
  have c1 := cell_blk h 1
  simp only [List.getElem?_toArray, List.getElem?_cons_zero, List.getElem?_cons_succ] at c0 c1
  clear h
  by_cases hx : x = 0
  · subst hx
    rw [if_pos rfl]
    by_cases hy : y = 0
    · subst hy
      go_enter Try.func56, Try.ntmps56
      go_wp2
      refine wp_loop_rounds 3 ?_
      rw [rounds_succ]
      go_wp2
      rw [rounds_succ]
      go_wp2
      rw [rounds_succ]
      go_wp2
      go_ret
      exact ⟨rfl, rfl⟩
    · have z : (y == 0) = false := beq_eq_false_iff_ne.2 hy
      clear hy
      go_enter Try.func56, Try.ntmps56
      go_wp2
      refine wp_loop_rounds 2 ?_
      rw [rounds_succ]
      go_wp2
      rw [rounds_succ]
      go_wp2
      go_ret
      exact ⟨rfl, rfl⟩
  · rw [if_neg hx]
    have z : (x == 0) = false := beq_eq_false_iff_ne.2 hx
    clear hx
    go_enter Try.func56, Try.ntmps56
    go_wp2
    refine wp_loop_rounds 1 ?_
    rw [rounds_succ]
    go_wp2
    go_ret
    exact ⟨rfl, rfl⟩
end Go.Proofs.Ytfpaoaflhbppgaa

/- Worlds that have grown by draws and new blocks alone; a region that draws its order and grows so. -/
namespace Go.Proofs.Ytfpaoaflhbppgaa
open Go.RowKit Go.Sort

/-- Draws, and blocks behind the heap: nothing else. -/
def Gr (w w' : World) : Prop := ∃ (q : Nat) (os : Array Obj), w' = grow (w.drewN q) os

theorem Gr.refl (w : World) : Gr w w := ⟨0, #[], by rw [grow_empty]; rfl⟩

theorem Gr.trans {a b c : World} (h : Gr a b) (k : Gr b c) : Gr a c := by
  obtain ⟨n, os, rfl⟩ := h
  obtain ⟨q, os', rfl⟩ := k
  exact ⟨n + q, os ++ os', by show grow (grow ((a.drewN n).drewN q) os) os' = _; rw [grow_grow, World.drewN_drewN]⟩

theorem Gr.alloc {a b : World} (h : Gr a b) (o : Obj) : Gr a (b.alloc o) :=
  h.trans ⟨0, #[o], by rw [alloc_eq_grow]; rfl⟩

theorem Gr.drew {a b : World} (h : Gr a b) : Gr a b.drew := h.trans ⟨1, #[], by rw [grow_empty]; rfl⟩

theorem Gr.chg {a b : World} (h : Gr a b) (S : Nat → Prop) : Chg S a b := by
  obtain ⟨n, os, rfl⟩ := h
  refine ⟨rfl, rfl, rfl, ?_, fun k hk _ => ?_⟩
  · rw [size_grow]; exact Nat.le_add_right _ _
  · exact heap_grow_old _ _ hk

/-- wp_region_specs, for a region whose calls and operations only grow the world. -/
theorem wp_region_grown {P : Program} {Q : Exit → Act → World → Prop} {w0 : World} {a0 : Act} {id : Nat} {l : List Oper} (specs : List Spec) (ds outs : List Tmp) (hm : P.follows .mixedOrders = true) (hok : regOk l.toArray ds = true)
    (hsize : (ds.all fun t => decide (t < a0.tmps.size)) = true) (houts : ((outsOf l.toArray ds).all fun t => outs.contains t) = true)
    (hstart : ∀ t ∈ outs, Knows (specAt specs) a0 w0 t)
    (hobs : Obs P Q Gr (specAt specs) w0 l.toArray l)
    (hfin : ∀ (vals : Tmp → Value) (w : World), Gr w0 w → (∀ t ∈ ds, specAt specs t (vals t) w) → Q .normal ⟨putAll vals ds a0.tmps, a0.defers⟩ w) :
    (Code.region id l.toArray true).wp P Q a0 w0 :=
  wp_region_known (R := Gr) (G := specAt specs) (ds := ds) hm hok (fun _ _ _ h k => h.trans k) (Gr.refl _).drew (fun t v w w' hc h => specAt_st specs t v w w' (hc.chg _) h) hsize _ rfl
    (fun w hc t ht => by
      have h1 := List.all_eq_true.1 houts t ht
      obtain ⟨v, hv, hg⟩ := hstart t (by simpa using h1)
      exact ⟨v, hv, specAt_st specs t v w0 w (hc.chg _) hg⟩)
    hobs hfin
end Go.Proofs.Ytfpaoaflhbppgaa

/- The program's Compare of roles: cmp.Or of both strings.Compare. -/
namespace Go.Proofs.Ytfpaoaflhbppgaa
open Go.RowKit

/-- What each slot of Compare's line holds. -/
def cmpSpecs (A : Nat) (o x p y : List UInt8) (res : Int) : List Spec :=
  [.any, .any, .eq (.pointer (some ⟨A, 0, none⟩)), .eq (.pointer (some ⟨A + 1, 0, none⟩)), .eq (.int .i64 res),
   .eq (.pointer (some ⟨A, 0, none⟩)), .eq (.string ⟨o.toArray⟩), .eq (.pointer (some ⟨A + 1, 0, none⟩)), .eq (.string ⟨p.toArray⟩), .eq (.int .i64 (Lib.compareBytes o p)),
   .eq (.pointer (some ⟨A, 1, none⟩)), .eq (.string ⟨x.toArray⟩), .eq (.pointer (some ⟨A + 1, 1, none⟩)), .eq (.string ⟨y.toArray⟩), .eq (.int .i64 (Lib.compareBytes x y)),
   .two (Lib.compareBytes o p) (Lib.compareBytes x y), .eq (.int .i64 res)]

set_option maxRecDepth 100000 in
set_option maxHeartbeats 1000000 in
theorem pcompare_grows (a b : RoleB) (w : World) : Calls Try.prog 48 #[roleV a, roleV b] w fun e w' => e = .returned (.int .i64 (cmpR a b)) ∧ Gr w w' := by
  rw [cmpR_eq]
  obtain ⟨o, x⟩ := a
  obtain ⟨p, y⟩ := b
  dsimp only
  generalize hres : (if Lib.compareBytes o p = 0 then Lib.compareBytes x y else Lib.compareBytes o p) = res
  have HR := hid hres
  clear hres
  have hc : Gr w ((w.alloc (.cells #[.string ⟨o.toArray⟩, .string ⟨x.toArray⟩] 30)).alloc (.cells #[.string ⟨p.toArray⟩, .string ⟨y.toArray⟩] 30)) := ((Gr.refl w).alloc _).alloc _
  have hA := blk_keep (heap_alloc_new w (.cells #[.string ⟨o.toArray⟩, .string ⟨x.toArray⟩] 30)) ((Chg.refl (fun _ => False) _).alloc (.cells #[.string ⟨p.toArray⟩, .string ⟨y.toArray⟩] 30)) id
  have hB := heap_alloc_new (w.alloc (.cells #[.string ⟨o.toArray⟩, .string ⟨x.toArray⟩] 30)) (.cells #[.string ⟨p.toArray⟩, .string ⟨y.toArray⟩] 30)
  rw [show (w.alloc (.cells #[.string ⟨o.toArray⟩, .string ⟨x.toArray⟩] 30)).heap.size = w.heap.size + 1 by simp] at hB
  show Calls Try.prog 48 #[.agg #[.string ⟨o.toArray⟩, .string ⟨x.toArray⟩], .agg #[.string ⟨p.toArray⟩, .string ⟨y.toArray⟩]] w _
  go_enter Try.func48, Try.ntmps48
  go_wp2_with fail
  generalize (w.alloc (.cells #[.string ⟨o.toArray⟩, .string ⟨x.toArray⟩] 30)).alloc (.cells #[.string ⟨p.toArray⟩, .string ⟨y.toArray⟩] 30) = w1 at *
  generalize w.heap.size = A at *
  refine wp_region_grown (cmpSpecs A o x p y res) [5, 6, 7, 8, 9, 10, 11, 12, 13, 14, 15, 16, 4] [2, 3] (by kernel_rfl) (by kernel_rfl) (by rfl) (by kernel_rfl) ?start ?obs ?fin
  case start =>
    simp only [List.forall_mem_cons]
    exact ⟨⟨_, rfl, rfl⟩, ⟨_, rfl, rfl⟩, fun _ h => by cases h⟩
  case obs =>
    have a0 := cell_blk hA 0
    have a1 := cell_blk hA 1
    have b0 := cell_blk hB 0
    have b1 := cell_blk hB 1
    simp only [List.getElem?_toArray, List.getElem?_cons_zero, List.getElem?_cons_succ] at a0 a1 b0 b1
    clear hA hB hc
    refine Obs.cons none (by kernel_rfl) ?_ ?_
    · refine Ob.plain fun a w hR hk K k => ?_
      obtain ⟨_, e2, rfl⟩ := hk 2 (by decide)
      clear hk
      go_simp
      exact k _ _ (Gr.refl _) rfl
    refine Obs.cons none (by kernel_rfl) ?_ ?_
    · refine Ob.plain fun a w hR hk K k => ?_
      obtain ⟨_, e5, rfl⟩ := hk 5 (by decide)
      clear hk
      have c := (hR.chg (fun _ => False)).cell a0 id
      go_simp
      exact k _ _ (Gr.refl _) rfl
    refine Obs.cons none (by kernel_rfl) ?_ ?_
    · refine Ob.plain fun a w hR hk K k => ?_
      obtain ⟨_, e3, rfl⟩ := hk 3 (by decide)
      clear hk
      go_simp
      exact k _ _ (Gr.refl _) rfl
    refine Obs.cons none (by kernel_rfl) ?_ ?_
    · refine Ob.plain fun a w hR hk K k => ?_
      obtain ⟨_, e7, rfl⟩ := hk 7 (by decide)
      clear hk
      have c := (hR.chg (fun _ => False)).cell b0 id
      go_simp
      exact k _ _ (Gr.refl _) rfl
    refine Obs.cons none (by kernel_rfl) ?_ ?_
    · refine Ob.plain fun a w hR hk K k => ?_
      obtain ⟨_, e6, rfl⟩ := hk 6 (by decide)
      obtain ⟨_, e8, rfl⟩ := hk 8 (by decide)
      clear hk
      go_simp
      refine (Try.strings_Compare ⟨o.toArray⟩ ⟨p.toArray⟩ _).mono ?_
      rintro e w' ⟨rfl, rfl⟩
      exact k _ _ (Gr.refl _) rfl
    refine Obs.cons none (by kernel_rfl) ?_ ?_
    · refine Ob.plain fun a w hR hk K k => ?_
      obtain ⟨_, e2, rfl⟩ := hk 2 (by decide)
      clear hk
      go_simp
      exact k _ _ (Gr.refl _) rfl
    refine Obs.cons none (by kernel_rfl) ?_ ?_
    · refine Ob.plain fun a w hR hk K k => ?_
      obtain ⟨_, e10, rfl⟩ := hk 10 (by decide)
      clear hk
      have c := (hR.chg (fun _ => False)).cell a1 id
      go_simp
      exact k _ _ (Gr.refl _) rfl
    refine Obs.cons none (by kernel_rfl) ?_ ?_
    · refine Ob.plain fun a w hR hk K k => ?_
      obtain ⟨_, e3, rfl⟩ := hk 3 (by decide)
      clear hk
      go_simp
      exact k _ _ (Gr.refl _) rfl
    refine Obs.cons none (by kernel_rfl) ?_ ?_
    · refine Ob.plain fun a w hR hk K k => ?_
      obtain ⟨_, e12, rfl⟩ := hk 12 (by decide)
      clear hk
      have c := (hR.chg (fun _ => False)).cell b1 id
      go_simp
      exact k _ _ (Gr.refl _) rfl
    refine Obs.cons none (by kernel_rfl) ?_ ?_
    · refine Ob.plain fun a w hR hk K k => ?_
      obtain ⟨_, e11, rfl⟩ := hk 11 (by decide)
      obtain ⟨_, e13, rfl⟩ := hk 13 (by decide)
      clear hk
      go_simp
      refine (Try.strings_Compare ⟨x.toArray⟩ ⟨y.toArray⟩ _).mono ?_
      rintro e w' ⟨rfl, rfl⟩
      exact k _ _ (Gr.refl _) rfl
    refine Obs.cons none (by kernel_rfl) ?_ ?_
    · refine Ob.plain fun a w hR hk K k => ?_
      obtain ⟨_, e9, rfl⟩ := hk 9 (by decide)
      obtain ⟨_, e14, rfl⟩ := hk 14 (by decide)
      clear hk
      go_simp
      exact k _ _ ((Gr.refl _).alloc _) ⟨_, _, _, rfl, heap_alloc_new _ _⟩
    refine Obs.cons none (by kernel_rfl) ?_ ?_
    · refine Ob.plain fun a w hR hk K k => ?_
      obtain ⟨_, e15, g, ty, f, rfl, hg⟩ := hk 15 (by decide)
      clear hk
      go_simp
      refine (por_two g f ty _ _ _ hg).mono ?_
      rintro e w' ⟨rfl, rfl⟩
      rw [HR.out]
      exact k _ _ (Gr.refl _) rfl
    refine Obs.cons none (by kernel_rfl) ?_ Obs.nil
    · refine Ob.plain fun a w hR hk K k => ?_
      obtain ⟨_, e16, rfl⟩ := hk 16 (by decide)
      clear hk
      go_simp
      exact k _ _ (Gr.refl _) rfl
  case fin =>
    intro vals w2 hc2 hv
    have h4 : vals 4 = .int .i64 res := hv 4 (by decide)
    have HC := hid (hc.trans hc2)
    clear hA hB hc hc2 hv
    simp only [putAll, List.setIfInBounds_toArray, List.set_cons_zero, List.set_cons_succ, h4]
    go_wp2
    go_ret
    exact ⟨rfl, HC.out⟩

theorem pcompare (a b : RoleB) (w : World) : Calls Try.prog 48 #[roleV a, roleV b] w fun e w' => e = .returned (.int .i64 (cmpR a b)) ∧ Chg (fun _ => False) w w' :=
  (pcompare_grows a b w).mono fun _ _ ⟨he, hg⟩ => ⟨he, hg.chg _⟩
end Go.Proofs.Ytfpaoaflhbppgaa
