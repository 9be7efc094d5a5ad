/- A frame that comes in by value. -/
import Derived.Test.YtnihgpaandodjaaTe
namespace Go.Proofs.Ytnihgpaandodjaa
set_option linter.unusedVariables false
open Go.ChangeShapes Go.WideShapes Go.ChangeAt Go.RowKit Go.Joins
theorem arg_ad {H : Type} {enc : TypeId × Value → H} {W : World} {r : Reach} {b0 : Nat} {v : Value} {d : DataW H} {p : List MemPlace} (hv : Value.okWide Try.prog W r b0 25 v) (h : DataW.Trod enc Try.prog W 0 (fun _ => true) true 25 v d p) :
    ∃ x : Ad, v = .agg #[.int .u16 (x.id : Int), .int .u8 (x.u : Int), .slice x.s x.n x.c] ∧ x.ok W := by
  obtain ⟨v0, v1, v2, y0, y1, y2, n, rfl, rfl, rfl, h0, h1, h2⟩ := open_agg3 Try.underlying25 (by kernel_rfl) (by kernel_rfl) hv h
  obtain ⟨a, e0, rfl, wa⟩ := DataW.trod_int Try.underlying22 h0
  obtain ⟨b, e1, rfl, wb⟩ := DataW.trod_int Try.underlying5 h1
  obtain ⟨s, l, c, L, e2, hr⟩ := field_bytes (l := [v2]) (o := 0) ⟨y2, by
    have hc : Try.prog.cellsOf 23 = 1 := by kernel_rfl
    rw [hc]; exact h2⟩
  simp at e0 e1 e2
  subst e0 e1 e2
  have q0 := bd_u16 wa
  have q1 := bd_u8 wb
  have e0 : ((a.toNat : Nat) : Int) = a := by omega
  have e1 : ((b.toNat : Nat) : Int) = b := by omega
  refine ⟨⟨a.toNat, b.toNat, s, l, c, L⟩, by simp only [e0, e1], by show a.toNat < 65536; omega, by show b.toNat < 256; omega, hr.row, hr.le, hr.mx⟩
end Go.Proofs.Ytnihgpaandodjaa
