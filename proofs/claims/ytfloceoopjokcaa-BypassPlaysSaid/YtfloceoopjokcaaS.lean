/- Two tables side by side. -/
import Derived.Test.YtfloceoopjokcaaP
namespace Go.Proofs.Ytfloceoopjokcaa
set_option linter.unusedVariables false
open Go.ChangeShapes Go.WideShapes Go.ChangeAt Go.RowKit

/-- As NewP; and the limits' row is new. -/
def New2P (w : World) (Lm : List Int) (e : Ending) (w' : World) : Prop :=
  ∃ t m, e = .returned (.pointer (some ⟨t, 0, none⟩)) ∧ Tb w.heap.size w' t m 0 Lm (List.replicate Lm.length 0) ∧ Below w.heap.size w w' ∧
    ∀ la lc b off, w'.heap[t]? = some (.cells #[.slice la Lm.length lc, .map (some m)] 52 (0, 0)) → la = some ⟨b, off, none⟩ → 0 < Lm.length → w.heap.size ≤ b
theorem new2_any (a : Option Addr) (n c : Nat) (Lm : List Int) (w : World) (h : ArgI w a n c Lm) (hn : n * 8 ≤ 140737488355328) :
    Calls Try.prog 8 #[.slice a n c] w (New2P w Lm) := by
  have hl := h.row.ln
  have H := Lib.hid h
  have hmm := @run_makeMap Try.prog
  clear h
  go_enter Try.func8, Try.ntmps8
  go_wp2_with fail
  refine (clone_any a n c Lm w H.out hn).mono ?_
  rintro e w1 ⟨a1, c1, rfl, h1, hf1, b1⟩
  have hp : New2P w Lm (.returned (.pointer (some ⟨w1.heap.size + 1, 0, none⟩))) ((w1.alloc (.map #[] 0)).alloc (.cells #[.slice a1 n c1, .map (some w1.heap.size)] 52 (0, 0))) := by
    have hs1 := b1.size
    have hat : ((w1.alloc (.map #[] 0)).alloc (.cells #[.slice a1 n c1, .map (some w1.heap.size)] 52 (0, 0))).heap[w1.heap.size + 1]? = some (.cells #[.slice a1 n c1, .map (some w1.heap.size)] 52 (0, 0)) := by
      have := heap_alloc_new (w1.alloc (.map #[] 0)) (.cells #[.slice a1 n c1, .map (some w1.heap.size)] 52 (0, 0))
      simp only [World.size_alloc] at this
      first | exact this | simpa using this
    refine ⟨w1.heap.size + 1, w1.heap.size, rfl, ⟨by omega, by omega, by omega, by simp, ?_, ⟨a1, c1, ?_, ?_, ?_⟩, ?_⟩, (b1.alloc hs1 _).alloc (by simp; omega) _, ?_⟩
    · intro x hx; rw [List.mem_replicate] at hx; omega
    · rw [hl]; exact hat
    · rw [hl]; exact (h1.row.below ((Below.refl _ _).alloc (Nat.le_refl _) _)).below ((Below.refl _ _).alloc (Nat.le_refl _) _)
    · intro b off e h0
      subst e
      rw [hl] at h0
      obtain ⟨b', off', e', hlt, _⟩ := h1.row.pos h0
      simp only [Option.some.injEq, Addr.mk.injEq, and_true] at e'
      omega
    · refine ((imap_made w1 Try.prog 3).below ((Below.refl _ _).alloc (Nat.le_refl _) _)).congr fun i => ?_
      unfold Fm
      rw [rep_getD]; simp
    · intro la lc b off e1 e2 _
      rw [hat] at e1
      simp only [Option.some.injEq, Obj.cells.injEq, Array.mk.injEq, List.cons.injEq, Value.slice.injEq, and_true] at e1
      subst e2
      exact hf1 b off e1.1
  have HP := Lib.hid hp
  clear hp h1 hf1 b1
  go_wp2_with fail
  go_ret
  exact HP.out

structure Two (B C : Nat) (w : World) (tx mx : Nat) (Ex : List Int) (ty my : Nat) (Ey : List Int) (cn : Nat) (Lm : List Int) : Prop where
  x : Tb B w tx mx cn Lm Ex
  y : Tb C w ty my cn Lm Ey
  xt : tx < C
  xm : mx < C
  xl : ∀ la lc b off, w.heap[tx]? = some (.cells #[.slice la Lm.length lc, .map (some mx)] 52 (0, 0)) → la = some ⟨b, off, none⟩ → 0 < Lm.length → b ≠ my
  yl : ∀ la lc b off, w.heap[ty]? = some (.cells #[.slice la Lm.length lc, .map (some my)] 52 (0, 0)) → la = some ⟨b, off, none⟩ → 0 < Lm.length → b ≠ mx
section
variable {B C tx mx ty my cn cn' : Nat} {w w' : World} {Ex Ey Ex' Ey' Lm : List Int}
theorem Two.below (h : Two B C w tx mx Ex ty my Ey cn Lm) (hb : Below w.heap.size w w') : Two B C w' tx mx Ex ty my Ey cn Lm :=
  ⟨h.x.below hb, h.y.below hb, h.xt, h.xm, fun la lc b off e => h.xl la lc b off ((hb.block tx h.x.lt.1).symm.trans e), fun la lc b off e => h.yl la lc b off ((hb.block ty h.y.lt.1).symm.trans e)⟩
theorem Two.mono (h : Two B C w tx mx Ex ty my Ey cn Lm) (hc : cn ≤ cn') : Two B C w tx mx Ex ty my Ey cn' Lm := ⟨h.x.mono hc, h.y.mono hc, h.xt, h.xm, h.xl, h.yl⟩
theorem Two.opx (h : Two B C w tx mx Ex ty my Ey cn Lm) (T : Tb B w' tx mx cn' Lm Ex') (hc : cn ≤ cn') (f : Fr mx w w') : Two B C w' tx mx Ex' ty my Ey cn' Lm := by
  have h1 := h.xt
  have h2 := h.xm
  have h3 := h.y.ht
  have h4 := h.y.hm
  exact ⟨T, (h.y.frame f (by omega) (by omega) fun b off la lc e1 e2 e3 => h.yl la lc b off e1 e2 e3).mono hc, h1, h2,
    fun la lc b off e => h.xl la lc b off ((f.block tx h.x.lt.1 h.x.ne).symm.trans e), fun la lc b off e => h.yl la lc b off ((f.block ty h.y.lt.1 (by omega)).symm.trans e)⟩
theorem Two.opy (h : Two B C w tx mx Ex ty my Ey cn Lm) (T : Tb C w' ty my cn' Lm Ey') (hc : cn ≤ cn') (f : Fr my w w') : Two B C w' tx mx Ex ty my Ey' cn' Lm := by
  have h1 := h.xt
  have h2 := h.xm
  have h3 := h.y.ht
  have h4 := h.y.hm
  exact ⟨(h.x.frame f (by omega) (by omega) fun b off la lc e1 e2 e3 => h.xl la lc b off e1 e2 e3).mono hc, T, h1, h2,
    fun la lc b off e => h.xl la lc b off ((f.block tx h.x.lt.1 (by omega)).symm.trans e), fun la lc b off e => h.yl la lc b off ((f.block ty h.y.lt.1 h.y.ne).symm.trans e)⟩
end

theorem unt_nat (E : List Int) (K : Nat) : unt E (K : Int) = E.getD K 0 := by unfold unt; rw [if_pos (by omega)]; simp
theorem put_other {Lm E : List Int} {i n now : Int} {j : Nat} (h : (j : Int) ≠ i) : (putE Lm E i n now).getD j 0 = E.getD j 0 := by
  unfold putE
  split
  · rename_i hc
    have hi : 0 ≤ i := by
      rcases Int.lt_or_le i 0 with q | q
      · unfold putC at hc; rw [if_neg (by omega)] at hc; omega
      · exact q
    by_cases hl : i.toNat < E.length
    · rw [getD_set E _ _ _ hl, if_neg (by omega)]
    · rw [List.set_eq_of_length_le (by omega)]
  · rfl
theorem putC_eq {Lm Ex Ey : List Int} {K : Nat} (h : Ex.getD K 0 = Ey.getD K 0) (n now : Int) : putC Lm Ex (K : Int) n now = putC Lm Ey (K : Int) n now := by
  unfold putC isB; rw [unt_nat, unt_nat, h]
theorem putE_eq {Lm Ex Ey : List Int} {K : Nat} (h : Ex.getD K 0 = Ey.getD K 0) (hx : K < Ex.length) (hy : K < Ey.length) (n now : Int) : (putE Lm Ex (K : Int) n now).getD K 0 = (putE Lm Ey (K : Int) n now).getD K 0 := by
  unfold putE
  rw [putC_eq h]
  split
  · simp only [Int.toNat_natCast]
    rw [getD_set Ex K K _ hx, getD_set Ey K K _ hy, if_pos rfl, if_pos rfl]
  · exact h
theorem ov_eq {Ex Ey : List Int} {K : Nat} (h : Ex.getD K 0 = Ey.getD K 0) (now : Int) (n : Nat) : ((K : Int) ∈ ovL Ex now n) = ((K : Int) ∈ ovL Ey now n) := by
  rw [ovL_mem, ovL_mem, Int.toNat_natCast, h]
theorem lapse_eq {Ex Ey : List Int} {K : Nat} (h : Ex.getD K 0 = Ey.getD K 0) (now : Int) (n : Nat) : (dropAll Ex (ovL Ex now n)).getD K 0 = (dropAll Ey (ovL Ey now n)).getD K 0 := by
  rw [dropAll_getD, dropAll_getD, h]
  simp only [ov_eq h]
end Go.Proofs.Ytfloceoopjokcaa
