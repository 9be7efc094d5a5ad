/- The document's delay, and the walk of DelayPlays. -/
import Derived.Test.YtckmgknngpjklaaStructs
import Derived.Test.YtckmgknngpjklaaFirst
namespace Go.Proofs.Ytckmgknngpjklaa
set_option linter.unusedVariables false
open Go.ChangeShapes Go.WideShapes Go.ChangeAt Go.RowKit

theorem rows_op {H : Type} {enc : TypeId × Value → H} {w : World} {fuel : Nat} {a : Option Addr} {len cap : Nat} {x : DataW H × List MemPlace} (h : DataW.trod enc Try.prog w 0 (fun _ => true) true fuel 22 [.slice a len cap] = some x) :
    ∃ f : Nat → Bool × Int, RowS w a len 2 (fun i => [.bool (f i).1, .int .i64 (f i).2]) := by
  obtain ⟨V, hV, hf⟩ := row_structs (sz := 2) Try.underlying22 Try.underlying30 (by kernel_rfl) (by omega) h
  obtain ⟨f, hff⟩ := Go.Deep.choose_lt (α := Bool × Int) (p := fun i b => V i = [.bool b.1, .int .i64 b.2]) (fun i hi => by
    obtain ⟨hl, n, hfi⟩ := hf i hi
    obtain ⟨b, hb⟩ := field_bool (P := Try.prog) Try.underlying4 (by kernel_rfl) (hfi 0 _ rfl)
    obtain ⟨m, hm, _⟩ := field_int (P := Try.prog) Try.underlying2 (by kernel_rfl) (hfi 1 _ rfl)
    exact ⟨(b, m), list2 hl hb hm⟩)
  exact ⟨f, hV.congr hff⟩

theorem clamp_any (n l : Int) (w : World) (hl : l ≤ 1099511627776) :
    Calls Try.prog 19 #[.int .i64 n, .int .i64 l] w fun e w' => e = .returned (.int .i64 (wi n l)) ∧ w = w' := by
  go_enter Try.func19, Try.ntmps19
  go_wp2
  all_goals (go_ret; exact ⟨ret_int (by unfold wi lim; (repeat' split) <;> omega), rfl⟩)

def robj (d : D) (fr : Int) : Obj := .cells #[.int .i64 d.t1, .int .i64 d.t0, .bool d.c, .bool d.o, .int .i64 fr, .int .i64 d.l] 48 (0, 0)

theorem rnew_any (on off : Int) (w : World) :
    Calls Try.prog 10 #[.int .i64 on, .int .i64 off] w fun e w' => e = .returned (.pointer (some ⟨w.heap.size, 0, none⟩)) ∧ Below w.heap.size w w' ∧ w'.heap[w.heap.size]? = some (robj (D.mk false (wi off 0) (wi on 0) false 0 0) 0) := by
  go_enter Try.func10, Try.ntmps10
  go_wp2_with fail
  refine (clamp_any _ _ _ (by omega)).mono ?_
  rintro e w1 ⟨rfl, rfl⟩
  go_wp2_with fail
  refine (clamp_any _ _ _ (by omega)).mono ?_
  rintro e w1 ⟨rfl, rfl⟩
  go_wp2_with fail
  go_ret
  refine ⟨rfl, ?_, ?_⟩
  · go_grown
  · exact heap_alloc_new w _

theorem rvalue_any (b : Nat) (d : D) (fr : Int) (w : World) (h : w.heap[b]? = some (robj d fr)) :
    Calls Try.prog 16 #[.pointer (some ⟨b, 0, none⟩)] w fun e w' => e = .returned (.bool d.c) ∧ w = w' := by
  obtain ⟨c3, f3⟩ := cells_of h 2 (by simp)
  simp at c3
  clear h
  go_enter Try.func16, Try.ntmps16
  go_wp2
  go_ret
  exact ⟨rfl, rfl⟩

theorem rsince_any (b : Nat) (d : D) (fr : Int) (w : World) (h : w.heap[b]? = some (robj d fr)) (h1 : d.o = true → fr = d.s) (h2 : d.o = false → d.s = 0) :
    Calls Try.prog 14 #[.pointer (some ⟨b, 0, none⟩)] w fun e w' => e = .returned (.tuple #[.int .i64 d.s, .bool d.o]) ∧ w = w' := by
  obtain ⟨c3, f3⟩ := cells_of h 3 (by simp)
  obtain ⟨c4, f4⟩ := cells_of h 4 (by simp)
  simp at c3 c4
  obtain ⟨c, t0, t1, o, s, l⟩ := d
  cases o
  · have e := h2 rfl
    simp at e
    subst e
    clear h h1 h2
    go_enter Try.func14, Try.ntmps14
    go_wp2
    go_ret2
    exact ⟨rfl, rfl⟩
  · have e := h1 rfl
    simp at e
    subst e
    clear h h1 h2
    go_enter Try.func14, Try.ntmps14
    go_wp2
    go_ret2
    exact ⟨rfl, rfl⟩
theorem rsee_same (b : Nat) (d : D) (fr : Int) (now : Int) (w : World) (h : w.heap[b]? = some (robj d fr)) (k : d.ok) :
    Calls Try.prog 12 #[.pointer (some ⟨b, 0, none⟩), .bool d.c, .int .i64 now] w fun e w' => e = .returned (.bool (d.see d.c now).c) ∧ ∃ fr', Upd b (robj (d.see d.c now) fr') w w' ∧ ((d.see d.c now).o = true → fr' = (d.see d.c now).s) := by
  have es : d.see d.c now = { d with l := wi now d.l, o := false, s := 0 } := by simp [D.see]
  rw [es]
  obtain ⟨c2, f2⟩ := cells_of h 2 (by simp)
  obtain ⟨c3, f3⟩ := cells_of h 3 (by simp)
  obtain ⟨c5, f5⟩ := cells_of h 5 (by simp)
  simp at c2 c3 c5
  have l1 := k.l1
  have H := Lib.hid h
  clear h es k
  go_enter Try.func12, Try.ntmps12
  go_wp2_with fail
  refine (clamp_any _ _ _ l1).mono ?_
  rintro e w' ⟨rfl, rfl⟩
  go_wp2_with fail
  go_ret
  refine ⟨rfl, fr, ?_, ?_⟩
  · apply Upd.cast
    · repeat (first | apply Upd.set | apply Upd.drewN | exact Upd.refl H.out)
    · rfl
  · intro q; cases q

set_option maxRecDepth 100000 in
set_option maxHeartbeats 1000000 in
theorem rsee_yes (b : Nat) (d : D) (fr : Int) (v : Bool) (now : Int) (w : World) (h : w.heap[b]? = some (robj d fr)) (hv : v = !d.c) (k : d.ok) (h1 : d.o = true → fr = d.s)
    (ht : (if v then d.t1 else d.t0) ≤ wi now d.l - (if d.o then d.s else wi now d.l)) :
    Calls Try.prog 12 #[.pointer (some ⟨b, 0, none⟩), .bool v, .int .i64 now] w fun e w' => e = .returned (.bool (d.see v now).c) ∧ ∃ fr', Upd b (robj (d.see v now) fr') w w' ∧ ((d.see v now).o = true → fr' = (d.see v now).s) := by
  rw [see_yes d v now hv ht]
  obtain ⟨c0, f0⟩ := cells_of h 0 (by simp)
  obtain ⟨c1, f1⟩ := cells_of h 1 (by simp)
  obtain ⟨c2, f2⟩ := cells_of h 2 (by simp)
  obtain ⟨c3, f3⟩ := cells_of h 3 (by simp)
  obtain ⟨c4, f4⟩ := cells_of h 4 (by simp)
  obtain ⟨c5, f5⟩ := cells_of h 5 (by simp)
  simp at c0 c1 c2 c3 c4 c5
  obtain ⟨c, t0, t1, o, s, l⟩ := d
  obtain ⟨b1, b2⟩ := wi_bd now l k.l0 k.l1
  have l1 := k.l1
  have s0 := k.s0
  have s1 := k.s1
  simp at hv s0 s1 l1 h1 c0 c1 c2 c3 c4 c5
  subst hv
  have H := Lib.hid h
  clear h f0 f1 k
  cases o <;> cases c <;> simp at ht h1
  all_goals
    try subst h1
    go_enter Try.func12, Try.ntmps12
    go_wp2_with fail
    refine (clamp_any _ _ _ l1).mono ?_
    rintro e w' ⟨rfl, rfl⟩
    go_wp2_with fail
    go_ret
    refine ⟨rfl, ?_⟩
    apply Exists.intro
    apply And.intro
    · apply Upd.cast
      · repeat (first | apply Upd.set | apply Upd.drewN | exact Upd.refl H.out)
      · unfold robj; rfl
    · intro q; cases q

set_option maxRecDepth 100000 in
set_option maxHeartbeats 1000000 in
theorem rsee_no (b : Nat) (d : D) (fr : Int) (v : Bool) (now : Int) (w : World) (h : w.heap[b]? = some (robj d fr)) (hv : v = !d.c) (k : d.ok) (h1 : d.o = true → fr = d.s)
    (ht : ¬ (if v then d.t1 else d.t0) ≤ wi now d.l - (if d.o then d.s else wi now d.l)) :
    Calls Try.prog 12 #[.pointer (some ⟨b, 0, none⟩), .bool v, .int .i64 now] w fun e w' => e = .returned (.bool (d.see v now).c) ∧ ∃ fr', Upd b (robj (d.see v now) fr') w w' ∧ ((d.see v now).o = true → fr' = (d.see v now).s) := by
  rw [see_no d v now hv ht]
  obtain ⟨c0, f0⟩ := cells_of h 0 (by simp)
  obtain ⟨c1, f1⟩ := cells_of h 1 (by simp)
  obtain ⟨c2, f2⟩ := cells_of h 2 (by simp)
  obtain ⟨c3, f3⟩ := cells_of h 3 (by simp)
  obtain ⟨c4, f4⟩ := cells_of h 4 (by simp)
  obtain ⟨c5, f5⟩ := cells_of h 5 (by simp)
  simp at c0 c1 c2 c3 c4 c5
  obtain ⟨c, t0, t1, o, s, l⟩ := d
  obtain ⟨b1, b2⟩ := wi_bd now l k.l0 k.l1
  have l1 := k.l1
  have s0 := k.s0
  have s1 := k.s1
  simp at hv s0 s1 l1 h1 c0 c1 c2 c3 c4 c5
  subst hv
  have H := Lib.hid h
  clear h f0 f1 k
  cases o <;> cases c <;> simp at ht h1
  all_goals
    try subst h1
    go_enter Try.func12, Try.ntmps12
    go_wp2_with fail
    refine (clamp_any _ _ _ l1).mono ?_
    rintro e w' ⟨rfl, rfl⟩
    go_wp2_with fail
    go_ret
    refine ⟨rfl, ?_⟩
    apply Upd.cast
    · repeat (first | apply Upd.set | apply Upd.drewN | exact Upd.refl H.out)
    · unfold robj; rfl

theorem rsee_any (b : Nat) (d : D) (fr : Int) (v : Bool) (now : Int) (w : World) (h : w.heap[b]? = some (robj d fr)) (k : d.ok) (h1 : d.o = true → fr = d.s) :
    Calls Try.prog 12 #[.pointer (some ⟨b, 0, none⟩), .bool v, .int .i64 now] w fun e w' => e = .returned (.bool (d.see v now).c) ∧ ∃ fr', Upd b (robj (d.see v now) fr') w w' ∧ ((d.see v now).o = true → fr' = (d.see v now).s) := by
  by_cases hv : v = d.c
  · subst hv; exact rsee_same b d fr now w h k
  · have hv' : v = !d.c := by cases v <;> cases hc : d.c <;> simp_all
    by_cases ht : (if v then d.t1 else d.t0) ≤ wi now d.l - (if d.o then d.s else wi now d.l)
    · exact rsee_yes b d fr v now w h hv' k h1 ht
    · exact rsee_no b d fr v now w h hv' k h1 ht

theorem see_s0 (d : D) (v : Bool) (now : Int) : (d.see v now).o = false → (d.see v now).s = 0 := by
  by_cases hv : v = d.c
  · rw [show d.see v now = { d with l := wi now d.l, o := false, s := 0 } by simp [D.see, hv]]
    intro _; rfl
  · have hv' : v = !d.c := by cases v <;> cases hc : d.c <;> simp_all
    by_cases ht : (if v then d.t1 else d.t0) ≤ wi now d.l - (if d.o then d.s else wi now d.l)
    · rw [see_yes d v now hv' ht]
      intro _; rfl
    · rw [see_no d v now hv' ht]
      intro q; cases q

/-- The two of them, alike. -/
structure Both (B b c : Nat) (d : D) (W w : World) : Prop where
  fst : One B b d W w
  hC : B ≤ c
  ne : b ≠ c
  ref : ∃ fr, w.heap[c]? = some (robj d fr) ∧ (d.o = true → fr = d.s)
  s0 : d.o = false → d.s = 0

/-- Behind a See of the first alone. -/
structure Half (B b c : Nat) (d d' : D) (W w : World) : Prop where
  fst : One B b d' W w
  hC : B ≤ c
  ne : b ≠ c
  ok : d.ok
  ref : ∃ fr, w.heap[c]? = some (robj d fr) ∧ (d.o = true → fr = d.s)

theorem Both.drewN {B b c : Nat} {d : D} {W w : World} (h : Both B b c d W w) (n : Nat) : Both B b c d W (w.drewN n) := ⟨h.fst.drewN n, h.hC, h.ne, h.ref, h.s0⟩
theorem Half.drewN {B b c : Nat} {d d' : D} {W w : World} (h : Half B b c d d' W w) (n : Nat) : Half B b c d d' W (w.drewN n) := ⟨h.fst.drewN n, h.hC, h.ne, h.ok, h.ref⟩

theorem see_half {B b c : Nat} {d : D} {W w : World} (h : Both B b c d W w) (v : Bool) (now : Int) :
    Calls Try.prog 11 #[.pointer (some ⟨b, 0, none⟩), .bool v, .int .i64 now] w fun e w' => e = .returned (.bool (d.see v now).c) ∧ Half B b c d (d.see v now) W w' := by
  obtain ⟨fr, hr, hf⟩ := h.ref
  exact (see_any b d v now w h.fst.blk h.fst.ok).mono fun _ _ ⟨he, u⟩ =>
    ⟨he, ⟨h.fst.bel.trans (u.below h.fst.hB), h.fst.hB, u.blk, see_ok d v now h.fst.ok⟩, h.hC, h.ne, h.fst.ok, fr, (u.oth c (fun e => h.ne e.symm)).trans hr, hf⟩

theorem see_both {B b c : Nat} {d : D} {v : Bool} {now : Int} {W w : World} (h : Half B b c d (d.see v now) W w) :
    Calls Try.prog 12 #[.pointer (some ⟨c, 0, none⟩), .bool v, .int .i64 now] w fun e w' => e = .returned (.bool (d.see v now).c) ∧ Both B b c (d.see v now) W w' := by
  obtain ⟨fr, hr, hf⟩ := h.ref
  exact (rsee_any c d fr v now w hr h.ok hf).mono fun _ _ ⟨he, fr', u, hf'⟩ =>
    ⟨he, ⟨h.fst.bel.trans (u.below h.hC), h.fst.hB, (u.oth b h.ne).trans h.fst.blk, h.fst.ok⟩, h.hC, h.ne, ⟨fr', u.blk, hf'⟩, see_s0 d v now⟩

theorem since_both {B b c : Nat} {d : D} {W w : World} (h : Both B b c d W w) :
    Calls Try.prog 13 #[.pointer (some ⟨b, 0, none⟩)] w fun e w' => e = .returned (.tuple #[.int .i64 d.s, .bool d.o]) ∧ Both B b c d W w' :=
  (since_any b d w h.fst.blk).mono fun _ _ ⟨he, n, hn⟩ => ⟨he, hn ▸ h.drewN n⟩
theorem rsince_both {B b c : Nat} {d : D} {W w : World} (h : Both B b c d W w) :
    Calls Try.prog 14 #[.pointer (some ⟨c, 0, none⟩)] w fun e w' => e = .returned (.tuple #[.int .i64 d.s, .bool d.o]) ∧ w = w' := by
  obtain ⟨fr, hr, hf⟩ := h.ref
  exact rsince_any c d fr w hr hf h.s0
theorem rvalue_both {B b c : Nat} {d : D} {W w : World} (h : Both B b c d W w) :
    Calls Try.prog 16 #[.pointer (some ⟨c, 0, none⟩)] w fun e w' => e = .returned (.bool d.c) ∧ w = w' := by
  obtain ⟨fr, hr, hf⟩ := h.ref
  exact rvalue_any c d fr w hr

theorem new_both {B b : Nat} {W w : World} {on off : Int} (h : One B b ⟨false, wi off 0, wi on 0, false, 0, 0⟩ W w) :
    Calls Try.prog 10 #[.int .i64 on, .int .i64 off] w fun e w' => e = .returned (.pointer (some ⟨w.heap.size, 0, none⟩)) ∧ Both B b w.heap.size ⟨false, wi off 0, wi on 0, false, 0, 0⟩ W w' :=
  have hlt : b < w.heap.size := by
    have hb := h.blk
    rcases Nat.lt_or_ge b w.heap.size with h' | h'
    · exact h'
    · simp [Array.getElem?_eq_none h'] at hb
  (rnew_any on off w).mono fun _ _ ⟨he, hbb, hn⟩ =>
    have hb := h.bel.trans (hbb.mono (Nat.le_trans h.hB (by omega)))
    ⟨he, ⟨hb, h.hB, (hbb.block b hlt).trans h.blk, h.ok⟩, Nat.le_trans h.hB (by omega), by omega, ⟨0, hn, fun q => by cases q⟩, fun _ => rfl⟩

end Go.Proofs.Ytckmgknngpjklaa
