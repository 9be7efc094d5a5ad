/- What each function of the delay does to its block: within, place, rest, and See of the value that counts. -/
import Derived.Test.YtckmgknngpjklaaRows
import Derived.WalkKit
import Derived.ProofKit
import Derived.OpenShut
import Derived.Handy
import Derived.Outline
import Derived.WalkLawsBesides
import Derived.Deep.QuietTactic
import Derived.BigQuiet
import Derived.Deep.RegionWith
import Derived.Lib.Hide
namespace Go.Proofs.Ytckmgknngpjklaa
set_option linter.unusedVariables false
open Go.ChangeShapes Go.WideShapes Go.ChangeAt Go.RowKit

def lim (n : Int) : Int := if 1099511627776 < n then 1099511627776 else n
def wi (n l : Int) : Int := if l < lim n then lim n else l
theorem ret_int {k : IntKind} {a b : Int} (h : a = b) : Ending.returned (.int k a) = .returned (.int k b) := by rw [h]
theorem ret_bool {a b : Bool} (h : a = b) : Ending.returned (.bool a) = .returned (.bool b) := by rw [h]
theorem within_any (n l : Int) (w : World) :
    Calls Try.prog 17 #[.int .i64 n, .int .i64 l] w fun e w' => e = .returned (.int .i64 (wi n l)) ∧ w = w' := by
  go_enter Try.func17, Try.ntmps17
  go_wp2
  all_goals (go_ret; exact ⟨ret_int (by unfold wi lim; split <;> split <;> omega), rfl⟩)

theorem place_any (v : Bool) (w : World) :
    Calls Try.prog 18 #[.bool v] w fun e w' => e = .returned (.int .i64 (if v then 1 else 0)) ∧ w = w' := by
  cases v
  · go_enter Try.func18, Try.ntmps18
    go_wp2
    go_ret
    exact ⟨rfl, rfl⟩
  · go_enter Try.func18, Try.ntmps18
    go_wp2
    go_ret
    exact ⟨rfl, rfl⟩

structure D where
  c : Bool
  t0 : Int
  t1 : Int
  o : Bool
  s : Int
  l : Int

def D.obj (d : D) : Obj := .cells #[.bool d.c, .int .i64 d.t0, .int .i64 d.t1, .bool d.o, .int .i64 d.s, .int .i64 d.l] 44 (0, 0)

/-- The world w' is w but for block b, which reads d. -/
structure Upd (b : Nat) (o : Obj) (w w' : World) : Prop where
  os : w'.os = w.os
  tape : w'.tape = w.tape
  output : w'.output = w.output
  size : w.heap.size ≤ w'.heap.size
  blk : w'.heap[b]? = some o
  oth : ∀ k, k ≠ b → w'.heap[k]? = w.heap[k]?

theorem cells_of {w : World} {b : Nat} {cs : Array Value} {t : TypeId} (h : w.heap[b]? = some (.cells cs t (0, 0))) (i : Nat) (hi : i < cs.size) : w.cell? ⟨b, i, none⟩ = some (cs[i]) ∧ w.frozen? ⟨b, i, none⟩ = false := by
  constructor
  · simp [World.cell?, h, hi]
  · simp [World.frozen?, h]

theorem set_block {w : World} {b : Nat} {cs : Array Value} {t : TypeId} (h : w.heap[b]? = some (.cells cs t (0, 0))) (i : Nat) (u : Value) :
    (w.setCell ⟨b, i, none⟩ u).heap[b]? = some (.cells (cs.setIfInBounds i u) t (0, 0)) := by
  have hlt : b < w.heap.size := by
    rcases Nat.lt_or_ge b w.heap.size with h' | h'
    · exact h'
    · simp [Array.getElem?_eq_none h'] at h
  have h' : w.heap[b] = .cells cs t (0, 0) := by simpa [Array.getElem?_eq_getElem hlt] using h
  show (w.heap.modify b _)[b]? = _
  rw [Array.getElem?_eq_getElem (by simpa using hlt), Array.getElem_modify_self, h']
  rfl

theorem Upd.refl {w : World} {b : Nat} {o : Obj} (h : w.heap[b]? = some o) : Upd b o w w := ⟨rfl, rfl, rfl, Nat.le_refl _, h, fun _ _ => rfl⟩
theorem Upd.set {w w' : World} {b : Nat} {cs : Array Value} {t : TypeId} (h : Upd b (.cells cs t (0, 0)) w w') (i : Nat) (u : Value) : Upd b (.cells (cs.setIfInBounds i u) t (0, 0)) w (w'.setCell ⟨b, i, none⟩ u) :=
  ⟨h.os, h.tape, h.output, by simpa [World.setCell] using h.size, set_block h.blk i u, fun k hk => (Below.heap_setCell _ _ _ _ hk).trans (h.oth k hk)⟩
theorem Upd.drew {w w' : World} {b : Nat} {o : Obj} (h : Upd b o w w') : Upd b o w w'.drew := ⟨h.os, h.tape, h.output, h.size, h.blk, h.oth⟩
theorem Upd.drewN {w w' : World} {b : Nat} {o : Obj} (h : Upd b o w w') (n : Nat) : Upd b o w (w'.drewN n) := ⟨h.os, h.tape, h.output, h.size, h.blk, h.oth⟩
theorem Upd.cast {w w' : World} {b : Nat} {o o' : Obj} (h : Upd b o w w') (e : o = o') : Upd b o' w w' := e ▸ h

theorem rest_any (b : Nat) (o : Bool) (s : Int) (w : World) (c3 : w.cell? ⟨b, 3, none⟩ = some (.bool o)) (f3 : w.frozen? ⟨b, 3, none⟩ = false) (c4 : w.cell? ⟨b, 4, none⟩ = some (.int .i64 s)) (f4 : w.frozen? ⟨b, 4, none⟩ = false) :
    Calls Try.prog 20 #[.pointer (some ⟨b, 0, none⟩)] w fun e w' => e = .returned (.tuple #[]) ∧ w' = (w.setCell ⟨b, 3, none⟩ (.bool false)).setCell ⟨b, 4, none⟩ (.int .i64 0) := by
  go_enter Try.func20, Try.ntmps20
  go_wp2
  go_end0
  exact ⟨rfl, rfl⟩

def D.see (d : D) (v : Bool) (now : Int) : D :=
  if v = d.c then { d with l := wi now d.l, o := false, s := 0 }
  else if (if v then d.t1 else d.t0) ≤ wi now d.l - (if d.o then d.s else wi now d.l) then { d with c := v, l := wi now d.l, o := false, s := 0 }
  else { d with l := wi now d.l, o := true, s := if d.o then d.s else wi now d.l }

structure D.ok (d : D) : Prop where
  l0 : 0 ≤ d.l
  l1 : d.l ≤ 1099511627776
  s0 : 0 ≤ d.s
  s1 : d.s ≤ 1099511627776

theorem wi_bd (n l : Int) (h0 : 0 ≤ l) (h1 : l ≤ 1099511627776) : 0 ≤ wi n l ∧ wi n l ≤ 1099511627776 := by
  unfold wi lim; split <;> split <;> omega

theorem see_same (b : Nat) (d : D) (now : Int) (w : World) (h : w.heap[b]? = some d.obj) :
    Calls Try.prog 11 #[.pointer (some ⟨b, 0, none⟩), .bool d.c, .int .i64 now] w fun e w' => e = .returned (.bool (d.see d.c now).c) ∧ Upd b (d.see d.c now).obj w w' := by
  have es : d.see d.c now = { d with l := wi now d.l, o := false, s := 0 } := by simp [D.see]
  rw [es]
  have hf : Upd b { d with l := wi now d.l, o := false, s := 0 }.obj w (((w.setCell ⟨b, 5, none⟩ (.int .i64 (wi now d.l))).setCell ⟨b, 3, none⟩ (.bool false)).setCell ⟨b, 4, none⟩ (.int .i64 0)) :=
    ((((Upd.refl h).set 5 _).set 3 _).set 4 _).cast rfl
  obtain ⟨c0, f0⟩ := cells_of h 0 (by simp)
  obtain ⟨c3, f3⟩ := cells_of h 3 (by simp)
  obtain ⟨c4, f4⟩ := cells_of h 4 (by simp)
  obtain ⟨c5, f5⟩ := cells_of h 5 (by simp)
  simp at c0 c3 c4 c5
  have H := Lib.hid h
  have HF := Lib.hid hf
  clear h hf es
  go_enter Try.func11, Try.ntmps11
  go_wp2_with fail
  refine (within_any _ _ _).mono ?_
  rintro e w' ⟨rfl, rfl⟩
  go_wp2_with fail
  refine (rest_any b d.o d.s _ (by go_simp) (by go_simp) (by go_simp) (by go_simp)).mono ?_
  rintro e w' ⟨rfl, rfl⟩
  go_wp2_with fail
  go_ret
  exact ⟨rfl, HF.out⟩

theorem see_yes (d : D) (v : Bool) (now : Int) (hv : v = !d.c) (ht : (if v then d.t1 else d.t0) ≤ wi now d.l - (if d.o then d.s else wi now d.l)) :
    d.see v now = { d with c := v, l := wi now d.l, o := false, s := 0 } := by
  subst hv
  simp only [D.see]
  rw [if_neg (by simp), if_pos ht]

theorem see_no (d : D) (v : Bool) (now : Int) (hv : v = !d.c) (ht : ¬ (if v then d.t1 else d.t0) ≤ wi now d.l - (if d.o then d.s else wi now d.l)) :
    d.see v now = { d with l := wi now d.l, o := true, s := if d.o then d.s else wi now d.l } := by
  subst hv
  simp only [D.see]
  rw [if_neg (by simp), if_neg ht]

theorem Upd.below {b B : Nat} {o : Obj} {w w' : World} (h : Upd b o w w') (hB : B ≤ b) : Below B w w' :=
  ⟨h.os, h.tape, h.output, h.size, fun k hk => h.oth k (by omega)⟩

theorem see_ok (d : D) (v : Bool) (now : Int) (k : d.ok) : (d.see v now).ok := by
  obtain ⟨b1, b2⟩ := wi_bd now d.l k.l0 k.l1
  have s0 := k.s0
  have s1 := k.s1
  by_cases hv : v = d.c
  · rw [show d.see v now = { d with l := wi now d.l, o := false, s := 0 } by simp [D.see, hv]]
    exact ⟨b1, b2, by simp, by simp⟩
  · have hv' : v = !d.c := by cases v <;> cases hc : d.c <;> simp_all
    by_cases ht : (if v then d.t1 else d.t0) ≤ wi now d.l - (if d.o then d.s else wi now d.l)
    · rw [see_yes d v now hv' ht]
      exact ⟨b1, b2, by simp, by simp⟩
    · rw [see_no d v now hv' ht]
      cases ho : d.o
      · exact ⟨b1, b2, by simpa using b1, by simpa using b2⟩
      · exact ⟨b1, b2, by simpa using s0, by simpa using s1⟩

end Go.Proofs.Ytckmgknngpjklaa
