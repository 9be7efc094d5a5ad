/- What may be asked for, as plain data. -/
import Derived.Test.YtdolgpogjnfpkaaWords
import Derived.Test.YtdolgpogjnfpkaaIMap
import Derived.Test.YtdolgpogjnfpkaaStructs
namespace Go.Proofs.Ytdolgpogjnfpkaa
set_option linter.unusedVariables false
open Go.ChangeShapes Go.WideShapes Go.ChangeAt Go.RowKit

/-- What a request of one kind has. -/
structure Fo where
  rd : Bool
  wr : Bool
  bi : Bool
  q : Nat
  le : Nat
  mo : Nat
  co : Bool
  to : Bool
def fcs (f : Fo) : List Value := [.bool f.rd, .bool f.wr, .bool f.bi, .int .i64 (f.q : Int), .int .i64 (f.le : Int), .int .i64 (f.mo : Int), .bool f.co, .bool f.to]
def fv (f : Fo) : Value := .agg #[.bool f.rd, .bool f.wr, .bool f.bi, .int .i64 (f.q : Int), .int .i64 (f.le : Int), .int .i64 (f.mo : Int), .bool f.co, .bool f.to]
def fz : Fo := ⟨false, false, false, 0, 0, 0, false, false⟩
def formOf (n : Int) : Option Fo :=
  if n = 23 then some ⟨true, true, false, 125, 1, 121, true, true⟩ else
  if n = 22 then some ⟨false, true, false, 0, 2, 2, false, false⟩ else
  if n = 16 then some ⟨false, true, false, 123, 1, 123, true, false⟩ else
  if n = 15 then some ⟨false, true, true, 1968, 1, 1968, true, false⟩ else
  if n = 6 then some ⟨false, true, false, 0, 1, 1, false, false⟩ else
  if n = 5 then some ⟨false, true, true, 0, 1, 1, false, false⟩ else
  if n = 4 then some ⟨true, false, false, 125, 0, 0, false, false⟩ else
  if n = 3 then some ⟨true, false, false, 125, 0, 0, false, false⟩ else
  if n = 2 then some ⟨true, false, true, 2000, 0, 0, false, false⟩ else
  if n = 1 then some ⟨true, false, true, 2000, 0, 0, false, false⟩ else none
structure Fo.small (f : Fo) : Prop where
  q : f.q ≤ 2000
  le : f.le ≤ 2000
  mo : f.mo ≤ 2000
theorem formOf_small {n : Int} {f : Fo} (h : formOf n = some f) : f.small := by
  unfold formOf at h
  repeat' split at h
  all_goals first | (cases h; done) | (injection h with h; subst h; exact ⟨by decide, by decide, by decide⟩)
theorem fz_small : fz.small := ⟨by decide, by decide, by decide⟩
theorem form_small (n : Int) : ((formOf n).getD fz).small := by
  cases h : formOf n with
  | none => exact fz_small
  | some f => exact formOf_small h

/-- A request, as it lies. -/
structure Rq where
  fc : Int
  ad : Int
  q : Int
  vs : Option Addr
  vn : Nat
  vc : Nat
  V : List Nat
  to : Int
def rcs (r : Rq) : List Value := [.int .i64 r.fc, .int .i64 r.ad, .int .i64 r.q, .slice r.vs r.vn r.vc, .int .i64 r.to]
structure Rq.ok (r : Rq) (w : World) : Prop where
  arg : ArgW w r.vs r.vn r.vc r.V
  fc : (Lit.int .i64 r.fc).wf = true
  ad : (Lit.int .i64 r.ad).wf = true
  q : (Lit.int .i64 r.q).wf = true
  to : (Lit.int .i64 r.to).wf = true
theorem Rq.ok.below {r : Rq} {W w : World} (h : r.ok W) (hb : Below W.heap.size W w) : r.ok w := ⟨h.arg.below hb, h.fc, h.ad, h.q, h.to⟩
def isPl (n : Int) : Bool := decide (0 ≤ n) && decide (n < 65536)
def allB (V : List Nat) : Bool := V.all fun v => decide (v ≤ 1)
def sizedF (f : Fo) : Bool := f.co && !f.rd
def has (f : Fo) (r : Rq) : Bool :=
  isPl r.ad && isPl r.to && (f.to || decide (r.to = 0)) && !decide ((f.q : Int) < r.q) && !decide (r.q < (min f.q 1 : Nat)) &&
  !decide (r.V.length < f.le) && !decide (f.mo < r.V.length) && (!sizedF f || decide ((r.V.length : Int) = r.q)) && (!f.bi || allB r.V)
def fits (f : Fo) (r : Rq) : Bool := decide (r.ad + max r.q 1 ≤ 65536) && (!f.to || decide (r.to + (r.V.length : Int) ≤ 65536))
theorem has_iff (f : Fo) (r : Rq) : has f r = true ↔ isPl r.ad = true ∧ isPl r.to = true ∧ (f.to = true ∨ r.to = 0) ∧ r.q ≤ f.q ∧ (min f.q 1 : Nat) ≤ r.q ∧ f.le ≤ r.V.length ∧ r.V.length ≤ f.mo ∧ (sizedF f = true → (r.V.length : Int) = r.q) ∧ (f.bi = true → allB r.V = true) := by
  unfold has
  simp only [Bool.and_eq_true, Bool.or_eq_true, Bool.not_eq_true', decide_eq_true_eq, decide_eq_false_iff_not, Int.not_lt, Nat.not_lt]
  cases sizedF f <;> cases f.bi <;> simp [and_assoc]
end Go.Proofs.Ytdolgpogjnfpkaa
