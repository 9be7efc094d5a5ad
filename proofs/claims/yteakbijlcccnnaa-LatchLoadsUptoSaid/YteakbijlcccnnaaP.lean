/- Latches, as plain data. -/
import Derived.Test.YteakbijlcccnnaaStructs
namespace Go.Proofs.Yteakbijlcccnnaa
set_option linter.unusedVariables false

/-- A latch: set, since when, the first one. -/
structure La where
  st : Bool
  tm : Int
  fi : Bool
def La.z : La := ⟨false, 0, false⟩
theorem La.ext' {a b : La} (h1 : a.st = b.st) (h2 : a.tm = b.tm) (h3 : a.fi = b.fi) : a = b := by
  cases a; cases b; simp at h1 h2 h3; subst h1; subst h2; subst h3; rfl
def sg (S : List La) (i : Nat) : La := S.getD i La.z
def gg (G : List Int) (i : Nat) : Int := G.getD i 0
theorem sg_set (S : List La) (k j : Nat) (x : La) (hk : k < S.length) : sg (S.set k x) j = if j = k then x else sg S j := by
  simp only [sg, List.getD]
  by_cases e : j = k
  · subst e; rw [List.getElem?_set_self hk, if_pos rfl]; rfl
  · rw [List.getElem?_set_ne (fun q => e q.symm), if_neg e]
theorem sg_out (S : List La) (i : Nat) (h : S.length ≤ i) : sg S i = La.z := by
  simp only [sg, List.getD]; rw [List.getElem?_eq_none h]; rfl
theorem sg_ext {S T : List La} (hl : S.length = T.length) (h : ∀ i, i < S.length → sg S i = sg T i) : S = T := by
  apply List.ext_getElem hl
  intro i h1 h2
  have := h i h1
  simpa [sg, List.getD, List.getElem?_eq_getElem h1, List.getElem?_eq_getElem h2] using this

/-- What is right of the first k. -/
structure Okk (G : List Int) (S : List La) (n : Nat) : Prop where
  ze : ∀ i, i < n → (sg S i).st = false → sg S i = La.z
  gr : ∀ i, i < n → (sg S i).fi = true → gg G i ≠ 0
  un : ∀ i j, i < n → j < n → (sg S i).fi = true → (sg S j).fi = true → gg G i = gg G j → i = j
/-- Latches of groups. -/
structure Ok (G : List Int) (S : List La) : Prop where
  ln : S.length = G.length
  ok : Okk G S G.length
theorem Ok.set {G : List Int} {S : List La} (h : Ok G S) {i : Nat} (hi : i < G.length) (hf : (sg S i).fi = true) : (sg S i).st = true := by
  cases hs : (sg S i).st with
  | true => rfl
  | false => rw [h.ok.ze i hi hs] at hf; cases hf

/-- The first one of a group, of the first n. -/
def fok (G : List Int) (S : List La) (n : Nat) (g : Int) : Option Nat := (List.range n).find? fun i => (sg S i).fi && (gg G i == g)
theorem fok_some {G : List Int} {S : List La} {n : Nat} {g : Int} {i : Nat} (h : fok G S n g = some i) : i < n ∧ (sg S i).fi = true ∧ gg G i = g := by
  have h1 := List.find?_some h
  have h2 := List.mem_of_find?_eq_some h
  simp at h1 h2
  exact ⟨h2, h1⟩
theorem fok_none {G : List Int} {S : List La} {n : Nat} {g : Int} (h : fok G S n g = none) (i : Nat) (hi : i < n) (hf : (sg S i).fi = true) : gg G i ≠ g := by
  have h1 := List.find?_eq_none.1 h i (by simpa using hi)
  intro e
  apply h1
  simp [hf, e]
theorem fok_iff {G : List Int} {S : List La} {n : Nat} (h : Okk G S n) (g : Int) (i : Nat) : fok G S n g = some i ↔ i < n ∧ (sg S i).fi = true ∧ gg G i = g := by
  constructor
  · exact fok_some
  · rintro ⟨h1, h2, h3⟩
    cases hc : fok G S n g with
    | none => exact absurd h3 (fok_none hc i h1 h2)
    | some j =>
      obtain ⟨q1, q2, q3⟩ := fok_some hc
      rw [h.un i j h1 q1 h2 q2 (h3.trans q3.symm)]
theorem opt_ext {α : Type} {a b : Option α} (h : ∀ i, a = some i ↔ b = some i) : a = b := by
  cases a with
  | none =>
    cases b with
    | none => rfl
    | some y => exact absurd ((h y).2 rfl) (by simp)
  | some x => exact ((h x).1 rfl).symm
theorem fok_eq {G : List Int} {S T : List La} {n : Nat} {g : Int} (h : Okk G S n) (o : Option Nat) (ho : ∀ i, o = some i ↔ i < n ∧ (sg S i).fi = true ∧ gg G i = g) : fok G S n g = o :=
  opt_ext fun i => (fok_iff h g i).trans (ho i).symm
theorem fok_succ (G : List Int) (S : List La) (n : Nat) (g : Int) : fok G S (n + 1) g = (fok G S n g).or (if (sg S n).fi = true ∧ gg G n = g then some n else none) := by
  unfold fok
  rw [List.range_succ, List.find?_append]
  congr 1
  by_cases h : (sg S n).fi = true ∧ gg G n = g
  · rw [if_pos h]; simp [h.1, h.2]
  · rw [if_neg h]
    rw [List.find?_cons]
    have : ((sg S n).fi && (gg G n == g)) = false := by
      cases h1 : (sg S n).fi
      · simp
      · simp; intro e; exact h ⟨h1, e⟩
    rw [this]; rfl
def fo (G : List Int) (S : List La) (g : Int) : Option Nat := fok G S G.length g
def others (G : List Int) (S : List La) (g : Int) (n : Nat) : Bool := (List.range n).any fun k => (sg S k).st && (gg G k == g)
theorem others_iff (G : List Int) (S : List La) (g : Int) (n : Nat) : others G S g n = true ↔ ∃ k, k < n ∧ (sg S k).st = true ∧ gg G k = g := by
  simp [others]
theorem others_succ (G : List Int) (S : List La) (g : Int) (n : Nat) : others G S g (n + 1) = (others G S g n || ((sg S n).st && (gg G n == g))) := by
  unfold others; rw [List.range_succ, List.any_append]; simp

/-- Is one that trips now to be its group's first one? -/
def lead (G : List Int) (S : List La) (i : Nat) (now : Int) : Bool :=
  !(gg G i == 0) && (match fo G S (gg G i) with
    | some j => decide (i < j) && ((sg S j).tm == now)
    | none => !others G S (gg G i) G.length)
/-- The latches with what was the first one of a group marked no more. -/
def unf (G : List Int) (S : List La) (i : Nat) : List La := match fo G S (gg G i) with
  | some j => S.set j ⟨(sg S j).st, (sg S j).tm, false⟩
  | none => S
def tripS (G : List Int) (S : List La) (i : Nat) (now : Int) : List La := (if lead G S i now = true then unf G S i else S).set i ⟨true, now, lead G S i now⟩
theorem unf_len (G : List Int) (S : List La) (i : Nat) : (unf G S i).length = S.length := by unfold unf; split <;> simp
theorem unf_sg {G : List Int} {S : List La} (h : Ok G S) (i k : Nat) : sg (unf G S i) k = if fo G S (gg G i) = some k then ⟨(sg S k).st, (sg S k).tm, false⟩ else sg S k := by
  unfold unf
  cases hf : fo G S (gg G i) with
  | none => simp
  | some j =>
    have hj := (fok_some hf).1
    simp only []
    rw [sg_set _ _ _ _ (by rw [h.ln]; exact hj)]
    by_cases e : k = j
    · subst e; simp
    · rw [if_neg e, if_neg (by simpa using fun q => e q.symm)]
theorem tripS_len (G : List Int) (S : List La) (i : Nat) (now : Int) : (tripS G S i now).length = S.length := by
  unfold tripS; rw [List.length_set]; split
  · exact unf_len _ _ _
  · rfl
theorem tripS_sg {G : List Int} {S : List La} (h : Ok G S) {i : Nat} (hi : i < G.length) (now : Int) (k : Nat) :
    sg (tripS G S i now) k = if k = i then ⟨true, now, lead G S i now⟩ else if lead G S i now = true ∧ fo G S (gg G i) = some k then ⟨(sg S k).st, (sg S k).tm, false⟩ else sg S k := by
  unfold tripS
  rw [sg_set _ _ _ _ (by split <;> simp [unf_len, h.ln, hi])]
  by_cases e : k = i
  · rw [if_pos e, if_pos e]
  · rw [if_neg e, if_neg e]
    cases hl : lead G S i now with
    | false => simp
    | true => simp only [if_true, true_and]; exact unf_sg h i k
theorem trip_ok {G : List Int} {S : List La} (h : Ok G S) {i : Nat} (hi : i < G.length) (hn : (sg S i).st = false) (now : Int) : Ok G (tripS G S i now) := by
  have hz := h.ok.ze i hi hn
  have hg0 : lead G S i now = true → gg G i ≠ 0 := by
    intro hl; unfold lead at hl; simp at hl; exact hl.1
  have key : ∀ k, k < G.length → (sg (tripS G S i now) k).fi = true → (k = i ∧ lead G S i now = true) ∨ (k ≠ i ∧ (sg S k).fi = true ∧ ¬ (lead G S i now = true ∧ gg G k = gg G i)) := by
    intro k hk hf
    rw [tripS_sg h hi] at hf
    by_cases e : k = i
    · rw [if_pos e] at hf; exact .inl ⟨e, hf⟩
    · rw [if_neg e] at hf
      by_cases q : lead G S i now = true ∧ fo G S (gg G i) = some k
      · rw [if_pos q] at hf; cases hf
      · rw [if_neg q] at hf
        exact .inr ⟨e, hf, fun ⟨q1, q2⟩ => q ⟨q1, (fok_iff h.ok _ _).2 ⟨hk, hf, q2⟩⟩⟩
  refine ⟨by rw [tripS_len, h.ln], ⟨fun k hk hs => ?_, fun k hk hf => ?_, fun k j hk hj hfk hfj hg => ?_⟩⟩
  · rw [tripS_sg h hi] at hs ⊢
    by_cases e : k = i
    · rw [if_pos e] at hs; cases hs
    · rw [if_neg e] at hs ⊢
      by_cases q : lead G S i now = true ∧ fo G S (gg G i) = some k
      · rw [if_pos q] at hs
        have := h.set hk (fok_some q.2).2.1
        rw [this] at hs; cases hs
      · rw [if_neg q] at hs ⊢
        exact h.ok.ze k hk hs
  · rcases key k hk hf with ⟨rfl, hl⟩ | ⟨_, q, _⟩
    · exact hg0 hl
    · exact h.ok.gr k hk q
  · rcases key k hk hfk with ⟨rfl, hl⟩ | ⟨e1, q1, r1⟩
    · rcases key j hj hfj with ⟨rfl, _⟩ | ⟨e2, q2, r2⟩
      · rfl
      · exact absurd ⟨hl, hg.symm⟩ r2
    · rcases key j hj hfj with ⟨rfl, hl⟩ | ⟨e2, q2, r2⟩
      · exact absurd ⟨hl, hg⟩ r1
      · exact h.ok.un k j hk hj q1 q2 hg
theorem trip_fo {G : List Int} {S : List La} (h : Ok G S) {i : Nat} (hi : i < G.length) (hn : (sg S i).st = false) (now : Int) (g : Int) :
    fo G (tripS G S i now) g = if lead G S i now = true ∧ g = gg G i then some i else fo G S g := by
  have hz := h.ok.ze i hi hn
  refine fok_eq (T := []) (trip_ok h hi hn now).ok _ fun k => ?_
  by_cases c : lead G S i now = true ∧ g = gg G i
  · rw [if_pos c]
    obtain ⟨c1, rfl⟩ := c
    constructor
    · intro e; cases e
      exact ⟨hi, by rw [tripS_sg h hi, if_pos rfl]; exact c1, rfl⟩
    · rintro ⟨h1, h2, h3⟩
      rw [tripS_sg h hi] at h2
      by_cases e : k = i
      · rw [e]
      · rw [if_neg e] at h2
        by_cases q : lead G S i now = true ∧ fo G S (gg G i) = some k
        · rw [if_pos q] at h2; cases h2
        · rw [if_neg q] at h2
          exact absurd ⟨c1, (fok_iff h.ok _ _).2 ⟨h1, h2, h3⟩⟩ q
  · rw [if_neg c]
    unfold fo
    rw [fok_iff h.ok g k]
    constructor
    · rintro ⟨h1, h2, h3⟩
      refine ⟨h1, ?_, h3⟩
      rw [tripS_sg h hi, if_neg (by intro e; subst e; rw [hz] at h2; cases h2), if_neg]
      · exact h2
      · rintro ⟨q1, q2⟩
        exact c ⟨q1, by rw [← h3]; exact (fok_some q2).2.2⟩
    · rintro ⟨h1, h2, h3⟩
      refine ⟨h1, ?_, h3⟩
      rw [tripS_sg h hi] at h2
      by_cases e : k = i
      · rw [if_pos e] at h2
        subst e
        exact absurd ⟨h2, h3.symm⟩ c
      · rw [if_neg e] at h2
        by_cases q : lead G S i now = true ∧ fo G S (gg G i) = some k
        · rw [if_pos q] at h2; cases h2
        · rw [if_neg q] at h2; exact h2

theorem reset_sg {G : List Int} {S : List La} (h : Ok G S) {i : Nat} (hi : i < G.length) (k : Nat) : sg (S.set i La.z) k = if k = i then La.z else sg S k := sg_set _ _ _ _ (by rw [h.ln]; exact hi)
theorem reset_ok {G : List Int} {S : List La} (h : Ok G S) {i : Nat} (hi : i < G.length) : Ok G (S.set i La.z) := by
  have key : ∀ k, (sg (S.set i La.z) k).fi = true → (sg S k).fi = true := by
    intro k hf
    rw [reset_sg h hi] at hf
    split at hf
    · cases hf
    · exact hf
  refine ⟨by simp [h.ln], ⟨fun k hk hs => ?_, fun k hk hf => h.ok.gr k hk (key k hf), fun k j hk hj hfk hfj hg => h.ok.un k j hk hj (key k hfk) (key j hfj) hg⟩⟩
  rw [reset_sg h hi] at hs ⊢
  split
  · rfl
  · rename_i e
    rw [if_neg e] at hs
    exact h.ok.ze k hk hs
theorem reset_fo {G : List Int} {S : List La} (h : Ok G S) {i : Nat} (hi : i < G.length) (g : Int) : fo G (S.set i La.z) g = if (sg S i).fi = true ∧ g = gg G i then none else fo G S g := by
  refine fok_eq (T := []) (reset_ok h hi).ok _ fun k => ?_
  by_cases c : (sg S i).fi = true ∧ g = gg G i
  · rw [if_pos c]
    obtain ⟨c1, rfl⟩ := c
    constructor
    · intro e; cases e
    · rintro ⟨h1, h2, h3⟩
      rw [reset_sg h hi] at h2
      by_cases e : k = i
      · rw [if_pos e] at h2; cases h2
      · rw [if_neg e] at h2
        exact absurd (h.ok.un k i h1 hi h2 c1 h3) e
  · rw [if_neg c]
    unfold fo
    rw [fok_iff h.ok g k]
    constructor
    · rintro ⟨h1, h2, h3⟩
      refine ⟨h1, ?_, h3⟩
      rw [reset_sg h hi, if_neg]
      · exact h2
      · rintro rfl; exact c ⟨h2, h3.symm⟩
    · rintro ⟨h1, h2, h3⟩
      refine ⟨h1, ?_, h3⟩
      rw [reset_sg h hi] at h2
      split at h2
      · cases h2
      · exact h2
theorem fi_fo {G : List Int} {S : List La} (h : Ok G S) {i : Nat} (hi : i < G.length) : (sg S i).fi = decide (fo G S (gg G i) = some i) := by
  rw [Bool.eq_iff_iff, decide_eq_true_iff]
  exact ⟨fun q => (fok_iff h.ok _ _).2 ⟨hi, q, rfl⟩, fun q => (fok_some q).2.1⟩
end Go.Proofs.Yteakbijlcccnnaa
