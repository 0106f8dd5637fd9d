/- Texts that the proof leans on, in one: RoleOwn, CredOwn, PmMath, FactCells. -/
import Derived.Test.YtjaplnainlbldaaUc6
import Derived.Test.YtjaplnainlbldaaUc2
import Derived.Maps.AppendAt
/- Lists of roles of the call's own. -/
namespace Go.Proofs.Ytjaplnainlbldaa
open Go.RowKit

theorem Try.info24 : (Try.prog.info? 24).map (fun i => (i.zero, i.size, i.bytes)) = some (some (.agg #[.string ⟨#[]⟩, .string ⟨#[]⟩]), 2, 32) := by kernel_rfl

theorem ownsRow_keep {S : Nat → Prop} {B E n s : Nat} {w w' : World} {v : Value} {xs : List Value} (h : w.ownsRow B E s v n xs) (hc : Chg S w w') (hr : ∀ k, v.ownBlock = some k → ¬ S k) : w'.ownsRow B E s v n xs := by
  refine ⟨h.1, ?_⟩
  rcases h.2 with hn | ⟨g, cap, cur, hv, hg, hh, r⟩
  · exact .inl hn
  · exact .inr ⟨g, cap, cur, hv, hg, blk_keep hh hc (hr g (by rw [hv]; rfl)), r⟩

theorem ownsRow_lt {B E n s : Nat} {w : World} {v : Value} {xs : List Value} (h : w.ownsRow B E s v n xs) (k : Nat) (hk : v.ownBlock = some k) : B ≤ k ∧ k < w.heap.size := by
  rcases h.2 with ⟨hn, _⟩ | ⟨g, cap, cur, hv, hg, hh, r⟩
  · rw [hn] at hk; cases hk
  · rw [hv] at hk; cases hk; exact ⟨hg, lt_blk hh⟩

def roleRow (ls : List RoleB) : List Value := ls.flatMap roleCells

theorem roleRow_get : ∀ (ls : List RoleB) (i : Nat) (h : i < ls.length), (roleRow ls)[i * 2]? = some (.string ⟨ls[i].1.toArray⟩) ∧ (roleRow ls)[i * 2 + 1]? = some (.string ⟨ls[i].2.toArray⟩)
  | x :: l, 0, _ => ⟨rfl, rfl⟩
  | x :: l, i + 1, h => by
    have := roleRow_get l i (by simpa using h)
    have e : roleRow (x :: l) = .string ⟨x.1.toArray⟩ :: .string ⟨x.2.toArray⟩ :: roleRow l := rfl
    rw [e, show (i + 1) * 2 = i * 2 + 1 + 1 by omega]
    exact this

/-- A list of roles of the call's own. -/
def OwnR (B : Nat) (w : World) (v : Value) (ls : List RoleB) : Prop := w.ownsRow B 24 2 v ls.length (roleRow ls)

theorem OwnR.roles {B : Nat} {w : World} {v : Value} {ls : List RoleB} (h : OwnR B w v ls) (hb : ∀ x ∈ ls, x.1.length ≤ 9223372036854775807 ∧ x.2.length ≤ 9223372036854775807) :
    ∃ ao cap, v = .slice ao ls.length cap ∧ RolesAt (fun k => B ≤ k ∧ k < w.heap.size) w ao ls ∧ (ao = none → cap = 0) := by
  rcases h.2 with ⟨rfl, h0⟩ | ⟨g, cap, cur, rfl, hg, hh, h1, h2, h3, h4⟩
  · have : ls = [] := List.eq_nil_of_length_eq_zero h0
    subst this
    exact ⟨none, 0, rfl, RolesAt.nil _ _ _, fun _ => rfl⟩
  · refine ⟨_, _, rfl, fun i hi => ⟨g, 0, rfl, ⟨hg, lt_blk hh⟩, ?_, ?_, hb _ (List.getElem_mem hi)⟩, fun e => by cases e⟩
    · have := h.cells (g := g) rfl (i * 2) _ (roleRow_get ls i hi).1
      rw [add_off] at this
      exact this
    · have := h.cells (g := g) rfl (i * 2 + 1) _ (roleRow_get ls i hi).2
      rw [add_off] at this
      exact this

theorem OwnR.shape {B : Nat} {w : World} {v : Value} {ls : List RoleB} (h : OwnR B w v ls) : ∃ ao cap, v = .slice ao ls.length cap := by
  rcases h.2 with ⟨rfl, h0⟩ | ⟨g, cap, cur, rfl, _⟩
  · exact ⟨none, 0, by rw [h0]⟩
  · exact ⟨_, _, rfl⟩

theorem OwnR.keep {S : Nat → Prop} {B : Nat} {w w' : World} {v : Value} {ls : List RoleB} (h : OwnR B w v ls) (hc : Chg S w w') (hr : ∀ k, v.ownBlock = some k → ¬ S k) : OwnR B w' v ls := ownsRow_keep h hc hr

theorem role_cells_new (w : World) (x : RoleB) (j : Nat) (u : Value) (h : (roleCells x)[j]? = some u) : (w.alloc (.cells #[.string ⟨x.1.toArray⟩, .string ⟨x.2.toArray⟩] 24)).cell? ((⟨w.heap.size, 0, none⟩ : Addr).add j) = some u := by
  rw [add_off, cell_blk (heap_alloc_new w _), Nat.zero_add]
  match j, h with
  | 0, h => exact h
  | 1, h => exact h

def lenOfV : Value → Nat
  | .slice _ n _ => n
  | _ => 0

theorem roles_lit (ls : List RoleB) (w : World) (f : Nat × Nat) (hb : ∀ x ∈ ls, x.1.length ≤ 9223372036854775807 ∧ x.2.length ≤ 9223372036854775807) :
    RolesAt (fun k => k = w.heap.size) (w.alloc (.cells (roleRow ls).toArray 24 f)) (some ⟨w.heap.size, 0, none⟩) ls := fun i hi =>
  ⟨w.heap.size, 0, rfl, rfl, by rw [cell_blk (heap_alloc_new w _), Nat.zero_add, List.getElem?_toArray]; exact (roleRow_get ls i hi).1, by rw [cell_blk (heap_alloc_new w _), Nat.zero_add, List.getElem?_toArray]; exact (roleRow_get ls i hi).2, hb _ (List.getElem_mem hi)⟩
end Go.Proofs.Ytjaplnainlbldaa

/- Lists of credentials of the call's own. -/
namespace Go.Proofs.Ytjaplnainlbldaa
open Go.RowKit

theorem Try.info36 : (Try.prog.info? 36).map (fun i => (i.zero, i.size, i.bytes)) = some (some (.agg #[.int .i64 0, .string ⟨#[]⟩, .string ⟨#[]⟩, .string ⟨#[]⟩, .string ⟨#[]⟩, .string ⟨#[]⟩, .string ⟨#[]⟩, .string ⟨#[]⟩, .string ⟨#[]⟩]), 9, 136) := by kernel_rfl

def credRow (ls : List CredB) : List Value := ls.flatMap credCells

theorem credRow_length (ls : List CredB) : (credRow ls).length = ls.length * 9 := by
  induction ls with
  | nil => rfl
  | cons x l ih => simp only [credRow, List.flatMap_cons, List.length_append, List.length_cons] at ih ⊢; rw [ih]; simp [credCells]; omega

theorem credRow_get : ∀ (ls : List CredB) (i j : Nat) (h : i < ls.length) (_ : j < 9), (credRow ls)[i * 9 + j]? = (credCells ls[i])[j]?
  | x :: l, 0, j, _, hj => by
    rw [show 0 * 9 + j = j by omega, credRow, List.flatMap_cons, List.getElem?_append_left (by simpa [credCells] using hj)]
    rfl
  | x :: l, i + 1, j, h, hj => by
    have := credRow_get l i j (by simpa using h) hj
    rw [credRow, List.flatMap_cons, List.getElem?_append_right (by simp [credCells]; omega)]
    rw [show (i + 1) * 9 + j - (credCells x).length = i * 9 + j by simp [credCells]; omega]
    exact this

theorem credRow_snoc (ls : List CredB) (x : CredB) : credRow (ls ++ [x]) = credRow ls ++ credCells x := by
  simp [credRow]

/-- A list of credentials of the call's own. -/
def OwnC (B : Nat) (w : World) (v : Value) (ls : List CredB) : Prop := w.ownsRow B 36 9 v ls.length (credRow ls)

theorem cred_at_cells {w : World} {g o : Nat} {c : CredB} (h : ∀ j, j < 9 → w.cell? ⟨g, o + j, none⟩ = (credCells c)[j]?) : CredAt w g o c :=
  ⟨h 0 (by omega), h 1 (by omega), h 2 (by omega), h 3 (by omega), h 4 (by omega), h 5 (by omega), h 6 (by omega), h 7 (by omega), h 8 (by omega)⟩

theorem OwnC.creds {B : Nat} {w : World} {v : Value} {ls : List CredB} (h : OwnC B w v ls) (hb : ∀ x ∈ ls, credShort x 9223372036854775807) :
    ∃ ao cap, v = .slice ao ls.length cap ∧ CredsAt (fun k => B ≤ k ∧ k < w.heap.size) w ao ls ∧ (ao = none → cap = 0) := by
  rcases h.2 with ⟨rfl, h0⟩ | ⟨g, cap, cur, rfl, hg, hh, h1, h2, h3, h4⟩
  · have : ls = [] := List.eq_nil_of_length_eq_zero h0
    subst this
    exact ⟨none, 0, rfl, CredsAt.nil _ _ _, fun _ => rfl⟩
  · refine ⟨_, _, rfl, fun i hi => ⟨g, 0, rfl, ⟨hg, lt_blk hh⟩, cred_at_cells fun j hj => ?_, hb _ (List.getElem_mem hi)⟩, fun e => by cases e⟩
    have hs : j < (credCells ls[i]).length := by simpa [credCells] using hj
    have hget := credRow_get ls i j hi hj
    rw [List.getElem?_eq_getElem hs] at hget ⊢
    have := h.cells (g := g) rfl (i * 9 + j) _ hget
    rw [add_off] at this
    rw [Nat.zero_add] at this ⊢
    exact this

theorem OwnC.shape {B : Nat} {w : World} {v : Value} {ls : List CredB} (h : OwnC B w v ls) : ∃ ao cap, v = .slice ao ls.length cap := by
  rcases h.2 with ⟨rfl, h0⟩ | ⟨g, cap, cur, rfl, _⟩
  · exact ⟨none, 0, by rw [h0]⟩
  · exact ⟨_, _, rfl⟩

theorem OwnC.keep {S : Nat → Prop} {B : Nat} {w w' : World} {v : Value} {ls : List CredB} (h : OwnC B w v ls) (hc : Chg S w w') (hr : ∀ k, v.ownBlock = some k → ¬ S k) : OwnC B w' v ls := ownsRow_keep h hc hr

theorem cred_cells_new (w : World) (x : CredB) (j : Nat) (u : Value) (h : (credCells x)[j]? = some u) : (w.alloc (.cells (credBox x) 36)).cell? ((⟨w.heap.size, 0, none⟩ : Addr).add j) = some u := by
  rw [add_off, cell_blk (heap_alloc_new w _), Nat.zero_add, show credBox x = (credCells x).toArray from rfl, List.getElem?_toArray]
  exact h

/-- What Set leaves: the set, in new memory. -/
def SetPostC (ls : List CredB) (w : World) (e : Ending) (w' : World) : Prop :=
  ∃ out ao cap, e = .returned (.slice ao out.length cap) ∧ SetC ls out ∧ CredsAt (fun k => w.heap.size ≤ k ∧ k < w'.heap.size) w' ao out ∧ Chg (fun _ => False) w w' ∧ (ao = none → cap = 0)

theorem isCred_short {c : CredB} (h : isCred c = true) : credShort c 16 := by
  have hh := isCred_head h
  simp only [isRole, Bool.and_eq_true] at hh
  have l1 := (isName_len hh.1).2
  have l2 := (isName_len hh.2).2
  have hr : ∀ r : RoleB, isRole r = true → r.1.length ≤ 16 ∧ r.2.length ≤ 16 := fun r hr => by
    simp only [isRole, Bool.and_eq_true] at hr
    exact ⟨(isName_len hr.1).2, (isName_len hr.2).2⟩
  rcases isCred_kind h with k | k | k | k
  · obtain ⟨a1, a2, a3, a4⟩ := isCred_one h k
    exact ⟨l1, l2, (isName_len a1).2, by rw [a2]; simp [noneR], by rw [a2]; simp [noneR], by rw [a3]; simp [noneR], by rw [a3]; simp [noneR], by rw [a4]; simp⟩
  · obtain ⟨a1, a2, a3, a4⟩ := isCred_two h k
    exact ⟨l1, l2, by rw [a1]; simp, (hr _ a2).1, (hr _ a2).2, by rw [a3]; simp [noneR], by rw [a3]; simp [noneR], by rw [a4]; simp⟩
  · obtain ⟨a1, a2, a3, a4, a5⟩ := isCred_three h k
    exact ⟨l1, l2, by rw [a1]; simp, (hr _ a2).1, (hr _ a2).2, by rw [a3]; simp [noneR], by rw [a3]; simp [noneR], (isName_len a5).2⟩
  · obtain ⟨a1, a2, a3, a4, a5⟩ := isCred_four h k
    exact ⟨l1, l2, by rw [a1]; simp, (hr _ a2).1, (hr _ a2).2, (hr _ a4).1, (hr _ a4).2, by rw [a3]; simp⟩
end Go.Proofs.Ytjaplnainlbldaa

/- How the program's model grows: plain words, nothing of the program's text. -/
namespace Go.Proofs.Ytjaplnainlbldaa
open Go.RowKit

/-- What a credential brings, if A says which facts are there. -/
def Brings (c : CredB) (A : FactB → Prop) (f : FactB) : Prop :=
  f.1 = c.head ∧ ((c.kind = 1 ∧ f.2 = c.who) ∨ (c.kind = 2 ∧ A (c.b, f.2)) ∨ (c.kind = 3 ∧ ∃ b, A (c.b, b) ∧ A ((b, c.w2), f.2)) ∨ (c.kind = 4 ∧ A (c.b, f.2) ∧ A (c.c, f.2)))

theorem Brings.mono {c : CredB} {A B : FactB → Prop} (h : ∀ f, A f → B f) {f : FactB} (hb : Brings c A f) : Brings c B f := by
  obtain ⟨h1, h2⟩ := hb
  refine ⟨h1, ?_⟩
  rcases h2 with ⟨k, h2⟩ | ⟨k, h2⟩ | ⟨k, b, h2, h3⟩ | ⟨k, h2, h3⟩
  · exact .inl ⟨k, h2⟩
  · exact .inr (.inl ⟨k, h _ h2⟩)
  · exact .inr (.inr (.inl ⟨k, b, h _ h2, h _ h3⟩))
  · exact .inr (.inr (.inr ⟨k, h _ h2, h _ h3⟩))

theorem Brings.der {ls : List CredB} {c : CredB} {A : FactB → Prop} (hc : c ∈ ls) (hr : isCred c = true) (hA : ∀ f, A f → Der ls f) {f : FactB} (hb : Brings c A f) : Der ls f := by
  obtain ⟨r, s⟩ := f
  obtain ⟨h1, h2⟩ := hb
  simp only at h1 h2
  subst h1
  rcases h2 with ⟨k, rfl⟩ | ⟨k, h2⟩ | ⟨k, b, h2, h3⟩ | ⟨k, h2, h3⟩
  · exact .mem hc hr k
  · exact .inc hc hr k (hA _ h2)
  · exact .link hc hr k (hA _ h2) (hA _ h3)
  · exact .both hc hr k (hA _ h2) (hA _ h3)

theorem brings_all {ls : List CredB} {A : FactB → Prop} (h : ∀ c ∈ ls, isCred c = true → ∀ f, Brings c A f → A f) {f : FactB} (hd : Der ls f) : A f := by
  induction hd with
  | mem hc hr k => exact h _ hc hr _ ⟨rfl, .inl ⟨k, rfl⟩⟩
  | inc hc hr k _ ih => exact h _ hc hr _ ⟨rfl, .inr (.inl ⟨k, ih⟩)⟩
  | link hc hr k _ _ ih1 ih2 => exact h _ hc hr _ ⟨rfl, .inr (.inr (.inl ⟨k, _, ih1, ih2⟩))⟩
  | both hc hr k _ _ ih1 ih2 => exact h _ hc hr _ ⟨rfl, .inr (.inr (.inr ⟨k, ih1, ih2⟩))⟩

/-- What one step brings because w is in a role that c leans on. -/
def StepOf (F : List FactB) (c : CredB) (w : List UInt8) (g : FactB) : Prop :=
  g.1 = c.head ∧ ((c.kind = 2 ∧ g.2 = w) ∨ (c.kind = 3 ∧ ((w, c.w2), g.2) ∈ F) ∨ (c.kind = 4 ∧ g.2 = w ∧ (c.b, w) ∈ F ∧ (c.c, w) ∈ F))

/-- The credentials by the roles that they lean on. -/
def leanR (T : List CredB) (r : RoleB) (c : CredB) : Prop := c ∈ T ∧ isCred c = true ∧ c.kind ≠ 1 ∧ (c.b = r ∨ (c.kind = 4 ∧ c.c = r))
def linkR (T : List CredB) (v : List UInt8) (c : CredB) : Prop := c ∈ T ∧ isCred c = true ∧ c.kind = 3 ∧ c.w2 = v

/-- What is there when c has been taken. -/
def TakenF (F F' : List FactB) (c : CredB) : Prop := ∀ g, Brings c (· ∈ F) g → g ∈ F'

/-- What is there when f has been followed. -/
def FollowedF (T : List CredB) (F F' : List FactB) (f : FactB) : Prop :=
  ∀ c ∈ T, isCred c = true → ∀ P : FactB → Prop, (∀ x, P x → x ∈ F) → ∀ g, Brings c (fun x => P x ∨ x = f) g → Brings c P g ∨ g ∈ F'

theorem followed_of_steps {T : List CredB} {F F' : List FactB} {f : FactB} (hf : f ∈ F) (h1 : ∀ c, leanR T f.1 c → ∀ g, StepOf F c f.2 g → g ∈ F') (h2 : ∀ c, linkR T f.1.2 c → (c.b, f.1.1) ∈ F → (c.head, f.2) ∈ F') : FollowedF T F F' f := by
  intro c hc hr P hP g hb
  obtain ⟨⟨o, v⟩, s⟩ := f
  obtain ⟨g1, g2⟩ := g
  obtain ⟨e1, hb⟩ := hb
  simp only at e1 hb h1 h2
  subst e1
  rcases hb with ⟨k, hb⟩ | ⟨k, hb⟩ | ⟨k, b, hb, hb2⟩ | ⟨k, hb, hb2⟩
  · exact .inl ⟨rfl, .inl ⟨k, hb⟩⟩
  · rcases hb with hb | hb
    · exact .inl ⟨rfl, .inr (.inl ⟨k, hb⟩)⟩
    · simp only [Prod.mk.injEq] at hb
      exact .inr (h1 c ⟨hc, hr, by omega, .inl hb.1⟩ _ ⟨rfl, .inl ⟨k, hb.2⟩⟩)
  · have hb2F : ((b, c.w2), g2) ∈ F := by
      rcases hb2 with hb2 | hb2
      · exact hP _ hb2
      · rw [hb2]; exact hf
    rcases hb with hb | hb
    · rcases hb2 with hb2 | hb2
      · exact .inl ⟨rfl, .inr (.inr (.inl ⟨k, b, hb, hb2⟩))⟩
      · simp only [Prod.mk.injEq] at hb2
        obtain ⟨⟨rfl, rfl⟩, rfl⟩ := hb2
        exact .inr (h2 c ⟨hc, hr, k, rfl⟩ (hP _ hb))
    · simp only [Prod.mk.injEq] at hb
      obtain ⟨hb, rfl⟩ := hb
      exact .inr (h1 c ⟨hc, hr, by omega, .inl hb⟩ _ ⟨rfl, .inr (.inl ⟨k, hb2F⟩)⟩)
  · have hbF : (c.b, g2) ∈ F := by
      rcases hb with hb | hb
      · exact hP _ hb
      · rw [hb]; exact hf
    have hb2F : (c.c, g2) ∈ F := by
      rcases hb2 with hb2 | hb2
      · exact hP _ hb2
      · rw [hb2]; exact hf
    rcases hb with hb | hb
    · rcases hb2 with hb2 | hb2
      · exact .inl ⟨rfl, .inr (.inr (.inr ⟨k, hb, hb2⟩))⟩
      · simp only [Prod.mk.injEq] at hb2
        obtain ⟨hb2, rfl⟩ := hb2
        exact .inr (h1 c ⟨hc, hr, by omega, .inr ⟨k, hb2⟩⟩ _ ⟨rfl, .inr (.inr ⟨k, rfl, hbF, hb2F⟩)⟩)
    · simp only [Prod.mk.injEq] at hb
      obtain ⟨hb, rfl⟩ := hb
      exact .inr (h1 c ⟨hc, hr, by omega, .inl hb⟩ _ ⟨rfl, .inr (.inr ⟨k, rfl, hbF, hb2F⟩)⟩)

/-- Between two of Add's calls: F are the facts that are there, P those that need not be followed any more, T the credentials that have been taken. -/
structure AddI (ls T : List CredB) (F P : List FactB) : Prop where
  nd : F.Nodup
  der : ∀ f ∈ F, Der ls f
  sub : ∀ f ∈ P, f ∈ F
  step : ∀ c ∈ T, isCred c = true → ∀ g, Brings c (· ∈ P) g → g ∈ F

theorem AddI.take {ls T : List CredB} {F P F' : List FactB} (h : AddI ls T F P) {c : CredB} (hnd : F'.Nodup) (hd : ∀ f ∈ F', Der ls f) (hsub : ∀ f ∈ F, f ∈ F') (hT : c ∉ T → TakenF F F' c) : AddI ls (T ++ [c]) F' P :=
  ⟨hnd, hd, fun f hf => hsub f (h.sub f hf), fun d hdm hr g hg => by
    by_cases e : d ∈ T
    · exact hsub g (h.step d e hr g hg)
    · rcases List.mem_append.1 hdm with h' | h'
      · exact absurd h' e
      · rw [List.mem_singleton] at h'
        subst h'
        exact hT e g (hg.mono (fun f hf => h.sub f hf))⟩

theorem AddI.follow {ls T : List CredB} {F P F' : List FactB} (h : AddI ls T F P) {f : FactB} (hf : f ∈ F) (hnd : F'.Nodup) (hd : ∀ f ∈ F', Der ls f) (hsub : ∀ f ∈ F, f ∈ F') (hF : FollowedF T F F' f) : AddI ls T F' (P ++ [f]) :=
  ⟨hnd, hd, fun x hx => by
    rcases List.mem_append.1 hx with hx | hx
    · exact hsub x (h.sub x hx)
    · rw [List.mem_singleton] at hx; subst hx; exact hsub _ hf, fun c hc hr g hg => by
    rcases hF c hc hr (· ∈ P) (fun x hx => h.sub x hx) g (hg.mono (fun x hx => by simpa using hx)) with h1 | h1
    · exact hsub g (h.step c hc hr g h1)
    · exact h1⟩

theorem AddI.done {ls T : List CredB} {F P : List FactB} (h : AddI ls T F P) (hP : ∀ f ∈ F, f ∈ P) (hT : ∀ c ∈ ls, isCred c = true → c ∈ T) : ∀ f, f ∈ F ↔ Der ls f := fun f =>
  ⟨h.der f, fun hd => brings_all (A := (· ∈ F)) (fun c hc hr g hg => h.step c (hT c hc hr) hr g (hg.mono (fun x hx => hP x hx))) hd⟩

theorem der_few {ls : List CredB} {F : List FactB} (hnd : F.Nodup) (hd : ∀ f ∈ F, Der ls f) (hl : ls.length ≤ 1000) : F.length ≤ 4000000 := by
  have := facts_le (rs := ls.map (·.head)) (ns := whosOf ls) hnd (fun f hf => by
    refine ⟨?_, ?_⟩
    · obtain ⟨c, hc, _, e⟩ := (hd f hf).head
      exact List.mem_map.2 ⟨c, hc, e⟩
    · obtain ⟨c, hc, hr, hk, e⟩ := (hd f hf).who
      rw [← e]
      exact whosOf_who hc)
  rw [List.length_map, whosOf_len] at this
  exact Nat.le_trans this (Nat.le_trans (Nat.mul_le_mul hl (Nat.mul_le_mul_right 4 hl)) (by decide))

end Go.Proofs.Ytjaplnainlbldaa

/- Facts, as they lie in memory; lists of them of the call's own. -/
namespace Go.Proofs.Ytjaplnainlbldaa
open Go.RowKit

def factCells (f : FactB) : List Value := [.string ⟨f.1.1.toArray⟩, .string ⟨f.1.2.toArray⟩, .string ⟨f.2.toArray⟩]
def factBox (f : FactB) : Array Value := #[.string ⟨f.1.1.toArray⟩, .string ⟨f.1.2.toArray⟩, .string ⟨f.2.toArray⟩]
def factV (f : FactB) : Value := .agg (factBox f)

/-- The fact f lies at the three cells from o on. -/
structure FactAt (w : World) (b o : Nat) (f : FactB) : Prop where
  k0 : w.cell? ⟨b, o, none⟩ = some (.string ⟨f.1.1.toArray⟩)
  k1 : w.cell? ⟨b, o + 1, none⟩ = some (.string ⟨f.1.2.toArray⟩)
  k2 : w.cell? ⟨b, o + 2, none⟩ = some (.string ⟨f.2.toArray⟩)

/-- No text of it is greater than n. -/
def factShort (f : FactB) (n : Nat) : Prop := f.1.1.length ≤ n ∧ f.1.2.length ≤ n ∧ f.2.length ≤ n

theorem factShort.mono {f : FactB} {n m : Nat} (h : factShort f n) (hm : n ≤ m) : factShort f m := ⟨Nat.le_trans h.1 hm, Nat.le_trans h.2.1 hm, Nat.le_trans h.2.2 hm⟩

theorem FactAt.keep {S : Nat → Prop} {w w' : World} {b o : Nat} {f : FactB} (h : FactAt w b o f) (hc : Chg S w w') (hS : ¬ S b) : FactAt w' b o f :=
  ⟨hc.cell h.k0 hS, hc.cell h.k1 hS, hc.cell h.k2 hS⟩

/-- The facts ls can be read from the address ao on. -/
def FactsAt (D : Nat → Prop) (w : World) (ao : Option Addr) (ls : List FactB) : Prop :=
  ∀ i (h : i < ls.length), ∃ b off, ao = some ⟨b, off, none⟩ ∧ D b ∧ FactAt w b (off + i * 3) ls[i]

theorem FactsAt.keep {S D : Nat → Prop} {w w' : World} {ao : Option Addr} {ls : List FactB} (h : FactsAt D w ao ls) (hc : Chg S w w') (hS : ∀ i, D i → ¬ S i) : FactsAt D w' ao ls := fun i hi =>
  let ⟨b, off, h1, h2, h3⟩ := h i hi
  ⟨b, off, h1, h2, h3.keep hc (hS b h2)⟩

theorem FactsAt.mono {D D' : Nat → Prop} {w : World} {ao : Option Addr} {ls : List FactB} (h : FactsAt D w ao ls) (hD : ∀ i, D i → D' i) : FactsAt D' w ao ls := fun i hi =>
  let ⟨b, off, h1, h2, h3⟩ := h i hi
  ⟨b, off, h1, hD b h2, h3⟩

theorem FactsAt.nil (D : Nat → Prop) (w : World) (ao : Option Addr) : FactsAt D w ao [] := fun i hi => by simp at hi

theorem Try.info26 : (Try.prog.info? 26).map (fun i => (i.zero, i.size, i.bytes)) = some (some (.agg #[.string ⟨#[]⟩, .string ⟨#[]⟩, .string ⟨#[]⟩]), 3, 48) := by kernel_rfl

def factRow (ls : List FactB) : List Value := ls.flatMap factCells
theorem factRow_snoc (ls : List FactB) (x : FactB) : factRow (ls ++ [x]) = factRow ls ++ factCells x := by simp [factRow]
theorem factRow_get : ∀ (ls : List FactB) (i j : Nat) (h : i < ls.length) (_ : j < 3), (factRow ls)[i * 3 + j]? = (factCells ls[i])[j]?
  | x :: l, 0, j, _, hj => by
    rw [Nat.zero_mul, Nat.zero_add, factRow, List.flatMap_cons, List.getElem?_append_left (by simpa [factCells] using hj)]
    rfl
  | x :: l, i + 1, j, h, hj => by
    have hl : (factCells x).length = 3 := rfl
    have := factRow_get l i j (by simpa using h) hj
    rw [factRow, List.flatMap_cons, List.getElem?_append_right (by rw [hl, Nat.add_mul]; omega), hl]
    rw [show (i + 1) * 3 + j - 3 = i * 3 + j by rw [Nat.add_mul]; omega]
    exact this

/-- A list of facts of the call's own. -/
def OwnF (B : Nat) (w : World) (v : Value) (ls : List FactB) : Prop := w.ownsRow B 26 3 v ls.length (factRow ls)

theorem OwnF.keep {S : Nat → Prop} {B : Nat} {w w' : World} {v : Value} {ls : List FactB} (h : OwnF B w v ls) (hc : Chg S w w') (hr : ∀ k, v.ownBlock = some k → ¬ S k) : OwnF B w' v ls := ownsRow_keep h hc hr

theorem OwnF.shape {B : Nat} {w : World} {v : Value} {ls : List FactB} (h : OwnF B w v ls) : ∃ ao cap, v = .slice ao ls.length cap := by
  rcases h.2 with ⟨rfl, h0⟩ | ⟨g, cap, cur, rfl, _⟩
  · exact ⟨none, 0, by rw [h0]⟩
  · exact ⟨_, _, rfl⟩

theorem OwnF.low {B A : Nat} {w : World} {v : Value} {ls : List FactB} (h : OwnF B w v ls) (hA : A ≤ B) : OwnF A w v ls := by
  rcases h with ⟨h1, h2 | ⟨g, cap, cur, h3, h4, h5⟩⟩
  · exact ⟨h1, .inl h2⟩
  · exact ⟨h1, .inr ⟨g, cap, cur, h3, Nat.le_trans hA h4, h5⟩⟩

theorem OwnF.facts {B : Nat} {w : World} {v : Value} {ls : List FactB} (h : OwnF B w v ls) :
    ∃ ao cap, v = .slice ao ls.length cap ∧ FactsAt (fun k => B ≤ k ∧ k < w.heap.size) w ao ls ∧ (ao = none → cap = 0) := by
  have hall := h
  rcases h.2 with ⟨rfl, h0⟩ | ⟨g, cap, cur, rfl, hg, hh, h1, h2, h3, h4⟩
  · have : ls = [] := List.eq_nil_of_length_eq_zero h0
    subst this
    exact ⟨none, 0, rfl, FactsAt.nil _ _ _, fun _ => rfl⟩
  · have at_ : ∀ i (hi : i < ls.length) j (hj : j < 3), w.cell? ⟨g, 0 + i * 3 + j, none⟩ = (factCells ls[i])[j]? := fun i hi j hj => by
      have hget := factRow_get ls i j hi hj
      have hs : j < (factCells ls[i]).length := hj
      rw [List.getElem?_eq_getElem hs] at hget ⊢
      have := hall.cells (g := g) rfl (i * 3 + j) _ hget
      rw [add_off, Nat.zero_add] at this
      rw [Nat.zero_add]
      exact this
    exact ⟨_, _, rfl, fun i hi => ⟨g, 0, rfl, ⟨hg, lt_blk hh⟩, at_ i hi 0 (by decide), at_ i hi 1 (by decide), at_ i hi 2 (by decide)⟩, fun e => by cases e⟩

theorem fact_one (x : FactB) : ∀ u ∈ factCells x, u.oneCell' = true := by
  intro u hu
  simp only [factCells, List.mem_cons, List.not_mem_nil, or_false] at hu
  rcases hu with rfl | rfl | rfl <;> rfl
end Go.Proofs.Ytjaplnainlbldaa
