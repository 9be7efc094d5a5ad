/- A request that comes in by value. -/
import Derived.Test.YthcfmfkdglmkmaaSz
import Derived.Lib.SmallJoins
namespace Go.Proofs.Ythcfmfkdglmkmaa
set_option linter.unusedVariables false
open Go.ChangeShapes Go.WideShapes Go.ChangeAt Go.RowKit Go.Joins Go.Deep

theorem array5 {α : Type} {cs : Array α} (h : cs.size = 5) : ∃ c0 c1 c2 c3 c4, cs = #[c0, c1, c2, c3, c4] := by
  obtain ⟨l⟩ := cs
  match l, h with
  | [c0, c1, c2, c3, c4], _ => exact ⟨c0, c1, c2, c3, c4, rfl⟩
theorem open_agg5 {H : Type} {enc : TypeId × Value → H} {P : Program} {w : World} {base : Nat} {spare : Nat → Bool} {held : Bool} {r : Reach} {b0 : Nat} {t : TypeId} {f0 f1 f2 f3 f4 : Field} {v : Value} {d : DataW H} {p : List MemPlace} (hs : P.underlying t = some (.struct #[f0, f1, f2, f3, f4])) (hone : oneCellFields P #[f0, f1, f2, f3, f4] = true) (hC : P.cellsOf t = 5)
    (hv : Value.okWide P w r b0 t v) (h : DataW.Trod enc P w base spare held t v d p) :
    ∃ (v0 v1 v2 v3 v4 : Value) (n : Nat), v = .agg #[v0, v1, v2, v3, v4] ∧ (∃ y, DataW.trod enc P w base spare held n f0.type [v0] = some y) ∧ (∃ y, DataW.trod enc P w base spare held n f1.type [v1] = some y) ∧ (∃ y, DataW.trod enc P w base spare held n f2.type [v2] = some y) ∧ (∃ y, DataW.trod enc P w base spare held n f3.type [v3] = some y) ∧ (∃ y, DataW.trod enc P w base spare held n f4.type [v4] = some y) := by
  obtain ⟨cs, rfl, hsz⟩ := okWide_struct hs hv
  obtain ⟨c0, c1, c2, c3, c4, rfl⟩ := array5 (hsz.trans hC)
  obtain ⟨fuel, hf⟩ := h
  obtain ⟨xs, n, _, _, hl, hlen, hfi⟩ := DataW.trod_struct hs hf
  match xs, hlen with
  | [y0, y1, y2, y3, y4], _ =>
    obtain ⟨o0, k0⟩ := hone_of hone 0 f0 rfl
    obtain ⟨o1, k1⟩ := hone_of hone 1 f1 rfl
    obtain ⟨o2, k2⟩ := hone_of hone 2 f2 rfl
    obtain ⟨o3, k3⟩ := hone_of hone 3 f3 rfl
    obtain ⟨o4, k4⟩ := hone_of hone 4 f4 rfl
    have h0 := hfi 0 f0 rfl
    have h1 := hfi 1 f1 rfl
    have h2 := hfi 2 f2 rfl
    have h3 := hfi 3 f3 rfl
    have h4 := hfi 4 f4 rfl
    exact ⟨c0, c1, c2, c3, c4, n, rfl, ⟨y0, by simpa [Value.cells, o0, k0] using h0⟩, ⟨y1, by simpa [Value.cells, o1, k1] using h1⟩, ⟨y2, by simpa [Value.cells, o2, k2] using h2⟩, ⟨y3, by simpa [Value.cells, o3, k3] using h3⟩, ⟨y4, by simpa [Value.cells, o4, k4] using h4⟩⟩
theorem arg_rq {H : Type} {enc : TypeId × Value → H} {W : World} {r : Reach} {b0 : Nat} {v : Value} {d : DataW H} {p : List MemPlace} (hv : Value.okWide Try.prog W r b0 24 v) (h : DataW.Trod enc Try.prog W 0 (fun _ => true) true 24 v d p) :
    ∃ x : Rq, v = rv x ∧ x.ok W := by
  obtain ⟨v0, v1, v2, v3, v4, n, rfl, ⟨y0, h0⟩, ⟨y1, h1⟩, ⟨y2, h2⟩, ⟨y3, h3⟩, ⟨y4, h4⟩⟩ := open_agg5 Try.underlying24 (by kernel_rfl) (by kernel_rfl) hv h
  obtain ⟨a0, e0, _, w0⟩ := DataW.trod_int Try.underlying3 h0
  obtain ⟨a1, e1, _, w1⟩ := DataW.trod_int Try.underlying3 h1
  obtain ⟨a2, e2, _, w2⟩ := DataW.trod_int Try.underlying3 h2
  obtain ⟨a4, e4, _, w4⟩ := DataW.trod_int Try.underlying3 h4
  have key : ∃ a len cap, v3 = .slice a len cap := by
    rcases Go.Deep.open_slice Try.underlying22 h3 with ⟨hcs, _⟩ | ⟨y, l', c, m, n, D, Pl, hcs, _⟩
    · exact ⟨none, 0, 0, by simpa using hcs⟩
    · exact ⟨_, _, _, by simpa using hcs⟩
  obtain ⟨s, l, c, rfl⟩ := key
  obtain ⟨L, hr⟩ := arg_words h3
  simp at e0 e1 e2 e4
  subst e0 e1 e2 e4
  exact ⟨⟨a0, a1, a2, s, l, c, L, a4⟩, rfl, hr, w0, w1, w2, w4⟩
theorem array2 {α : Type} {cs : Array α} (h : cs.size = 2) : ∃ c0 c1, cs = #[c0, c1] := by
  obtain ⟨l⟩ := cs
  match l, h with
  | [c0, c1], _ => exact ⟨c0, c1, rfl⟩
theorem open_agg2 {H : Type} {enc : TypeId × Value → H} {P : Program} {w : World} {base : Nat} {spare : Nat → Bool} {held : Bool} {r : Reach} {b0 : Nat} {t : TypeId} {f0 f1 : Field} {v : Value} {d : DataW H} {p : List MemPlace} (hs : P.underlying t = some (.struct #[f0, f1])) (hone : oneCellFields P #[f0, f1] = true) (hC : P.cellsOf t = 2)
    (hv : Value.okWide P w r b0 t v) (h : DataW.Trod enc P w base spare held t v d p) :
    ∃ (v0 v1 : Value) (n : Nat), v = .agg #[v0, v1] ∧ (∃ y, DataW.trod enc P w base spare held n f0.type [v0] = some y) ∧ (∃ y, DataW.trod enc P w base spare held n f1.type [v1] = some y) := by
  obtain ⟨cs, rfl, hsz⟩ := okWide_struct hs hv
  obtain ⟨c0, c1, rfl⟩ := array2 (hsz.trans hC)
  obtain ⟨fuel, hf⟩ := h
  obtain ⟨xs, n, _, _, hl, hlen, hfi⟩ := DataW.trod_struct hs hf
  match xs, hlen with
  | [y0, y1], _ =>
    obtain ⟨o0, k0⟩ := hone_of hone 0 f0 rfl
    obtain ⟨o1, k1⟩ := hone_of hone 1 f1 rfl
    have h0 := hfi 0 f0 rfl
    have h1 := hfi 1 f1 rfl
    exact ⟨c0, c1, n, rfl, ⟨y0, by simpa [Value.cells, o0, k0] using h0⟩, ⟨y1, by simpa [Value.cells, o1, k1] using h1⟩⟩
theorem arg_rp {H : Type} {enc : TypeId × Value → H} {W : World} {r : Reach} {b0 : Nat} {v : Value} {d : DataW H} {p : List MemPlace} (hv : Value.okWide Try.prog W r b0 26 v) (h : DataW.Trod enc Try.prog W 0 (fun _ => true) true 26 v d p) :
    ∃ x : Rp, v = rpv x ∧ x.ok W := by
  obtain ⟨v0, v1, n, rfl, ⟨y0, h0⟩, ⟨y1, h1⟩⟩ := open_agg2 Try.underlying26 (by kernel_rfl) (by kernel_rfl) hv h
  obtain ⟨a0, e0, _, w0⟩ := DataW.trod_int Try.underlying3 h0
  have key : ∃ a len cap, v1 = .slice a len cap := by
    rcases Go.Deep.open_slice Try.underlying22 h1 with ⟨hcs, _⟩ | ⟨y, l', c, m, n, D, Pl, hcs, _⟩
    · exact ⟨none, 0, 0, by simpa using hcs⟩
    · exact ⟨_, _, _, by simpa using hcs⟩
  obtain ⟨s, l, c, rfl⟩ := key
  obtain ⟨L, hr⟩ := arg_words h1
  simp at e0
  subst e0
  exact ⟨⟨a0, s, l, c, L⟩, rfl, hr, w0⟩
end Go.Proofs.Ythcfmfkdglmkmaa
