/- Each call in one contract: the code's disk and the document's side by side. -/
import Derived.Test.YtpjddinbbglgmaaDe
import Derived.Test.YtpjddinbbglgmaaS
namespace Go.Proofs.Ytpjddinbbglgmaa
set_option linter.unusedVariables false
set_option linter.unusedSimpArgs false
open Go.ChangeShapes Go.WideShapes Go.ChangeAt Go.RowKit

theorem Dk.keep {B : Nat} {w w' : World} {d s : Nat} {pc : Option Nat} {m wr : Nat} {ct : Option (Nat × Nat)} {dn : Bool} {L : List Nat} (h : Dk B w d s pc m ct dn wr L) (f : Fr d s pc w w') {k : Nat} {cs : Array Value} {fr : Nat × Nat} (hk : w.heap[k]? = some (.cells cs 31 fr)) : w'.heap[k]? = some (.cells cs 31 fr) := by
  refine (f.block k (blk_lt hk) (obj_ty hk h.db (by decide)) (obj_ty hk h.sb (by decide)) ?_).trans hk
  rintro rfl
  rcases h.cb with ⟨e, _⟩ | ⟨c, x, e, _, hc, _⟩
  · cases e
  · cases e; exact obj_ty hk hc (by decide) rfl
theorem Rk.keep {B : Nat} {w w' : World} {p g c m wr : Nat} {ct : Option (Nat × Nat)} {dn : Bool} {L : List Nat} (h : Rk B w p g c m ct dn wr L) (f : Fr p g none w w') {k : Nat} {cs : Array Value} {fr : Nat × Nat} (hk : w.heap[k]? = some (.cells cs 31 fr)) : w'.heap[k]? = some (.cells cs 31 fr) := by
  obtain ⟨b, t, wa, me, hpb, h2, h3⟩ := h.pb
  obtain ⟨cur, hgb, h4⟩ := h.gb
  exact (f.block k (blk_lt hk) (obj_ty hk hpb (by decide)) (obj_ty hk hgb (by decide)) (by simp)).trans hk

/-- Both disks. -/
structure Duo (B B' d s p g c m : Nat) (pc : Option Nat) (ct : Option (Nat × Nat)) (dn : Bool) (wr : Nat) (L : List Nat) (w : World) : Prop where
  k : Dk B w d s pc m ct dn wr L
  r : Rk B' w p g c m ct dn wr L
theorem Duo.below {B B' d s p g c m wr : Nat} {pc : Option Nat} {ct : Option (Nat × Nat)} {dn : Bool} {L : List Nat} {w w' : World} (h : Duo B B' d s p g c m pc ct dn wr L w) (b : Below w.heap.size w w') : Duo B B' d s p g c m pc ct dn wr L w' := ⟨h.k.below b, h.r.below b⟩

/-! ## What is read -/
def rdS (dn : Bool) (m : Nat) (L : List Nat) (i : Int) : List Nat := if dn = true then [] else if hasB m i = true then sec L i.toNat else []
def rdE (dn : Bool) (m : Nat) (i : Int) : Int := if dn = true then 101 else if hasB m i = true then 0 else 1
def RdP (w : World) (dn : Bool) (m : Nat) (L : List Nat) (i : Int) (e : Ending) (w' : World) : Prop :=
  ∃ a n c, e = .returned (.tuple #[.slice a n c, .int .i64 (rdE dn m i)]) ∧ Bys w' a n (rdS dn m L i) ∧ Below w.heap.size w w'
theorem bys_none (W : World) : Bys W none 0 [] := ⟨rfl, by simp, .inl rfl⟩
theorem read_all {B : Nat} {w : World} {d s m wr : Nat} {pc : Option Nat} {ct : Option (Nat × Nat)} {dn : Bool} {L : List Nat} (i : Int) (h : Dk B w d s pc m ct dn wr L) :
    Calls Try.prog 12 #[.pointer (some ⟨d, 0, none⟩), .int .i64 i] w (RdP w dn m L i) := by
  cases dn with
  | true =>
    refine (read_down i h).mono ?_
    rintro e w' ⟨rfl, rfl⟩
    exact ⟨none, 0, 0, rfl, bys_none _, Below.refl _ _⟩
  | false =>
    cases hi : hasB m i with
    | false =>
      refine (read_arg i h hi).mono ?_
      rintro e w' ⟨rfl, rfl⟩
      refine ⟨none, 0, 0, ?_, ?_, Below.refl _ _⟩
      · simp [rdE, hi]
      · simp only [rdS, hi]; exact bys_none _
    | true =>
      have hi' := hi
      simp only [hasB, Bool.and_eq_true, decide_eq_true_eq] at hi'
      obtain ⟨k, rfl⟩ : ∃ k : Nat, i = (k : Int) := ⟨i.toNat, by omega⟩
      refine (read_ok k h (by omega)).mono ?_
      rintro e w' ⟨q, rfl, _, hg, hb⟩
      refine ⟨some ⟨q, 0, none⟩, 64, 64, ?_, ?_, hb⟩
      · simp [rdE, hi]
      · simp only [rdS, hi, if_true, Bool.false_eq_true, if_false, Int.toNat_natCast]
        exact bys_new hg (sec_len h.len (by omega)) (sec_by h.by' k)
theorem rread_all {B : Nat} {w : World} {p g c m wr : Nat} {ct : Option (Nat × Nat)} {dn : Bool} {L : List Nat} (i : Int) (h : Rk B w p g c m ct dn wr L) :
    Calls Try.prog 13 #[.pointer (some ⟨p, 0, none⟩), .int .i64 i] w (RdP w dn m L i) := by
  cases dn with
  | true =>
    refine (rread_down i h).mono ?_
    rintro e w' ⟨rfl, rfl⟩
    exact ⟨none, 0, 0, rfl, bys_none _, Below.refl _ _⟩
  | false =>
    cases hi : hasB m i with
    | false =>
      refine (rread_arg i h hi).mono ?_
      rintro e w' ⟨rfl, rfl⟩
      refine ⟨none, 0, 0, ?_, ?_, Below.refl _ _⟩
      · simp [rdE, hi]
      · simp only [rdS, hi]; exact bys_none _
    | true =>
      have hi' := hi
      simp only [hasB, Bool.and_eq_true, decide_eq_true_eq] at hi'
      obtain ⟨k, rfl⟩ : ∃ k : Nat, i = (k : Int) := ⟨i.toNat, by omega⟩
      refine (rread_ok k h (by omega)).mono ?_
      rintro e w' ⟨a, cap, rfl, hB, hb⟩
      refine ⟨a, 64, cap, ?_, ?_, hb⟩
      · simp [rdE, hi]
      · simp only [rdS, hi, if_true, Bool.false_eq_true, if_false, Int.toNat_natCast]
        exact hB

/-! ## What is written -/
structure St where
  e : Int
  ct : Option (Nat × Nat)
  dn : Bool
  wr : Nat
  L : List Nat
def wrF (m : Nat) (ct : Option (Nat × Nat)) (dn : Bool) (wr : Nat) (L : List Nat) (i : Int) (len : Nat) (f : List Nat) : St :=
  if dn = true then ⟨101, ct, dn, wr, L⟩ else if hasB m i = false ∨ 64 < len then ⟨1, ct, dn, wr, L⟩ else
  match ct with
  | none => ⟨0, none, false, wr + 1, splice L (i.toNat * 64) (whole f)⟩
  | some (0, n) => ⟨101, none, true, wr, splice L (i.toNat * 64) ((whole f).take n)⟩
  | some (x + 1, n) => ⟨0, some (x, n), false, wr + 1, splice L (i.toNat * 64) (whole f)⟩
theorem wrF_small {m : Nat} {ct : Option (Nat × Nat)} {dn : Bool} {wr : Nat} {L : List Nat} {i : Int} {len : Nat} {f : List Nat} (h : Small ct) : Small (wrF m ct dn wr L i len f).ct ∧ (wrF m ct dn wr L i len f).wr ≤ wr + 1 := by
  unfold wrF
  split
  · exact ⟨h, by simp⟩
  split
  · exact ⟨h, by simp⟩
  split
  · exact ⟨(fun x e => by cases e), by simp⟩
  · exact ⟨(fun x e => by cases e), by simp⟩
  · refine ⟨fun x e => ?_, by simp⟩
    cases e
    have := h _ rfl
    simp at this ⊢
    omega
def WrP (B : Nat) (w : World) (d s m : Nat) (pc : Option Nat) (t : St) (e : Ending) (w' : World) : Prop :=
  e = .returned (.int .i64 t.e) ∧ (∃ pc', Dk B w' d s pc' m t.ct t.dn t.wr t.L) ∧ Fr d s pc w w'
theorem write_all {B : Nat} {w : World} {d s m wr : Nat} {pc : Option Nat} {ct : Option (Nat × Nat)} {dn : Bool} {L : List Nat} (i : Int) (a : Option Addr) (len cap : Nat) (f : List Nat) (h : Dk B w d s pc m ct dn wr L) (hf : Bys w a len f) (hl : len ≤ maxLen) (hw : wr ≤ 1000000000) (hct : Small ct) :
    Calls Try.prog 18 #[.pointer (some ⟨d, 0, none⟩), .int .i64 i, .slice a len cap] w (WrP B w d s m pc (wrF m ct dn wr L i len f)) := by
  unfold wrF
  cases dn with
  | true =>
    refine (write_down i a len cap h).mono ?_
    rintro e w' ⟨rfl, rfl⟩
    exact ⟨rfl, ⟨_, h⟩, Fr.refl ..⟩
  | false =>
    rw [if_neg (by simp)]
    by_cases hbad : hasB m i = false ∨ 64 < len
    · rw [if_pos hbad]
      refine (write_arg i a len cap hl h hbad).mono ?_
      rintro e w' ⟨rfl, rfl⟩
      exact ⟨rfl, ⟨_, h⟩, Fr.refl ..⟩
    · rw [if_neg hbad]
      have hi : hasB m i = true := by
        cases hb : hasB m i
        · exact absurd (.inl hb) hbad
        · rfl
      have hl64 : len ≤ 64 := by
        rcases Nat.lt_or_ge 64 len with c | c
        · exact absurd (.inr c) hbad
        · exact c
      simp only [hasB, Bool.and_eq_true, decide_eq_true_eq] at hi
      obtain ⟨k, rfl⟩ : ∃ k : Nat, i = (k : Int) := ⟨i.toNat, by omega⟩
      have hk : k < m := by omega
      rw [Int.toNat_natCast]
      rcases h.cb with ⟨rfl, rfl⟩ | ⟨c, ⟨x1, x2⟩, rfl, rfl, _, _⟩
      · refine (write_none k a len cap f h hk hf hl64 hw).mono ?_
        rintro e w' ⟨rfl, h', f'⟩
        exact ⟨rfl, ⟨_, h'⟩, f'⟩
      · cases x1 with
        | succ x =>
          refine (write_some k a len cap f h hk hf hl64 hw (by omega) (hct _ rfl)).mono ?_
          rintro e w' ⟨rfl, h', f'⟩
          exact ⟨rfl, ⟨_, h'⟩, f'⟩
        | zero =>
          refine (write_torn k a len cap f h hk hf hl64 hw).mono ?_
          rintro e w' ⟨rfl, h', f'⟩
          exact ⟨rfl, ⟨_, h'⟩, f'⟩
def RWrP (B : Nat) (w : World) (p g c m : Nat) (t : St) (e : Ending) (w' : World) : Prop :=
  e = .returned (.int .i64 t.e) ∧ Rk B w' p g c m t.ct t.dn t.wr t.L ∧ Fr p g none w w'
theorem rwrite_all {B : Nat} {w : World} {p g c m wr : Nat} {ct : Option (Nat × Nat)} {dn : Bool} {L : List Nat} (i : Int) (a : Option Addr) (len cap : Nat) (f : List Nat) (h : Rk B w p g c m ct dn wr L) (hf : Bys w a len f) (hl : len ≤ maxLen) (hw : wr ≤ 1000000000) (hct : Small ct) :
    Calls Try.prog 19 #[.pointer (some ⟨p, 0, none⟩), .int .i64 i, .slice a len cap] w (RWrP B w p g c m (wrF m ct dn wr L i len f)) := by
  unfold wrF
  cases dn with
  | true =>
    refine (rwrite_down i a len cap h).mono ?_
    rintro e w' ⟨rfl, rfl⟩
    exact ⟨rfl, h, Fr.refl ..⟩
  | false =>
    rw [if_neg (by simp)]
    by_cases hbad : hasB m i = false ∨ 64 < len
    · rw [if_pos hbad]
      refine (rwrite_arg i a len cap hl h hbad).mono ?_
      rintro e w' ⟨rfl, rfl⟩
      exact ⟨rfl, h, Fr.refl ..⟩
    · rw [if_neg hbad]
      have hi : hasB m i = true := by
        cases hb : hasB m i
        · exact absurd (.inl hb) hbad
        · rfl
      have hl64 : len ≤ 64 := by
        rcases Nat.lt_or_ge 64 len with c | c
        · exact absurd (.inr c) hbad
        · exact c
      simp only [hasB, Bool.and_eq_true, decide_eq_true_eq] at hi
      obtain ⟨k, rfl⟩ : ∃ k : Nat, i = (k : Int) := ⟨i.toNat, by omega⟩
      have hk : k < m := by omega
      rw [Int.toNat_natCast]
      rcases ct with _ | ⟨x1, x2⟩
      · refine (rwrite_none k a len cap f h hk hf hl64 hw).mono ?_
        rintro e w' ⟨rfl, h', f'⟩
        exact ⟨rfl, h', f'⟩
      · cases x1 with
        | succ x =>
          refine (rwrite_some k a len cap f h hk hf hl64 hw (by omega) (hct _ rfl)).mono ?_
          rintro e w' ⟨rfl, h', f'⟩
          exact ⟨rfl, h', f'⟩
        | zero =>
          refine (rwrite_torn k a len cap f h hk hf hl64 hw).mono ?_
          rintro e w' ⟨rfl, h', f'⟩
          exact ⟨rfl, h', f'⟩

/-! ## A cut -/
def cutF (ct : Option (Nat × Nat)) (at' n : Int) : Option (Nat × Nat) := if at' < 0 then ct else some (at'.toNat, (wi n 0 64).toNat)
theorem cutF_small {ct : Option (Nat × Nat)} {at' n : Int} (h : Small ct) (ha : at' ≤ 9223372036854775807) : Small (cutF ct at' n) := by
  unfold cutF
  split
  · exact h
  · intro x e; cases e; simp; omega
theorem cut_all {B : Nat} {w : World} {d s m wr : Nat} {pc : Option Nat} {ct : Option (Nat × Nat)} {dn : Bool} {L : List Nat} (at' n : Int) (h : Dk B w d s pc m ct dn wr L) (hB : B ≤ w.heap.size) :
    Calls Try.prog 14 #[.pointer (some ⟨d, 0, none⟩), .int .i64 at', .int .i64 n] w fun e w' => e = .returned (.tuple #[]) ∧ (∃ pc', Dk B w' d s pc' m (cutF ct at' n) dn wr L) ∧ Fr d s pc w w' := by
  unfold cutF
  by_cases ha : at' < 0
  · rw [if_pos ha]
    refine (cut_no (B := B) (s := s) (m := m) (wr := wr) (pc := pc) (ct := ct) (dn := dn) (L := L) at' n ha).mono ?_
    rintro e w' ⟨rfl, rfl⟩
    exact ⟨rfl, ⟨_, h⟩, Fr.refl ..⟩
  · rw [if_neg ha]
    obtain ⟨k, rfl⟩ : ∃ k : Nat, at' = (k : Int) := ⟨at'.toNat, by omega⟩
    rw [Int.toNat_natCast]
    refine (cut_yes h hB k n).mono ?_
    rintro e w' ⟨rfl, h', f'⟩
    exact ⟨rfl, ⟨_, h'⟩, f'⟩
theorem rcut_all {B : Nat} {w : World} {p g c m wr : Nat} {ct : Option (Nat × Nat)} {dn : Bool} {L : List Nat} (at' n : Int) (h : Rk B w p g c m ct dn wr L) :
    Calls Try.prog 15 #[.pointer (some ⟨p, 0, none⟩), .int .i64 at', .int .i64 n] w fun e w' => e = .returned (.tuple #[]) ∧ Rk B w' p g c m (cutF ct at' n) dn wr L ∧ Fr p g none w w' := by
  unfold cutF
  by_cases ha : at' < 0
  · rw [if_pos ha]
    refine (rcut_no at' n ha).mono ?_
    rintro e w' ⟨rfl, rfl⟩
    exact ⟨rfl, h, Fr.refl ..⟩
  · rw [if_neg ha]
    obtain ⟨k, rfl⟩ : ∃ k : Nat, at' = (k : Int) := ⟨at'.toNat, by omega⟩
    rw [Int.toNat_natCast]
    refine (rcut_yes h k n).mono ?_
    rintro e w' ⟨rfl, h', f'⟩
    exact ⟨rfl, h', f'⟩
end Go.Proofs.Ytpjddinbbglgmaa
