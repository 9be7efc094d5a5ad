/- The calls of one and of two delays, since a world; the live question. -/
import Derived.Test.YtckmgknngpjklaaC
namespace Go.Proofs.Ytckmgknngpjklaa
set_option linter.unusedVariables false
open Go.ChangeShapes Go.WideShapes Go.ChangeAt Go.RowKit

/-- Since W, nothing below B has turned; block b reads d. -/
structure One (B b : Nat) (d : D) (W w : World) : Prop where
  bel : Below B W w
  hB : B ≤ b
  blk : w.heap[b]? = some d.obj
  ok : d.ok

theorem One.drewN {B b : Nat} {d : D} {W w : World} (h : One B b d W w) (n : Nat) : One B b d W (w.drewN n) :=
  ⟨h.bel.trans ⟨rfl, rfl, rfl, Nat.le_refl _, fun _ _ => rfl⟩, h.hB, h.blk, h.ok⟩

theorem see_one {B b : Nat} {d : D} {W w : World} (h : One B b d W w) (v : Bool) (now : Int) (d' : D) (hd : d.see v now = d') :
    Calls Try.prog 11 #[.pointer (some ⟨b, 0, none⟩), .bool v, .int .i64 now] w fun e w' => e = .returned (.bool d'.c) ∧ One B b d' W w' := by
  subst hd
  exact (see_any b d v now w h.blk h.ok).mono fun _ _ ⟨he, u⟩ => ⟨he, h.bel.trans (u.below h.hB), h.hB, u.blk, see_ok d v now h.ok⟩

theorem since_one {B b : Nat} {d : D} {W w : World} (h : One B b d W w) :
    Calls Try.prog 13 #[.pointer (some ⟨b, 0, none⟩)] w fun e w' => e = .returned (.tuple #[.int .i64 d.s, .bool d.o]) ∧ One B b d W w' :=
  (since_any b d w h.blk).mono fun _ _ ⟨he, n, hn⟩ => ⟨he, hn ▸ h.drewN n⟩

theorem value_one {B b : Nat} {d : D} {W w : World} (h : One B b d W w) :
    Calls Try.prog 15 #[.pointer (some ⟨b, 0, none⟩)] w fun e w' => e = .returned (.bool d.c) ∧ One B b d W w' :=
  (value_any b d w h.blk).mono fun _ _ ⟨he, hn⟩ => ⟨he, hn ▸ h⟩

theorem new_one {B : Nat} {W w : World} (hb : Below B W w) (hB : B ≤ w.heap.size) (on off : Int) :
    Calls Try.prog 9 #[.int .i64 on, .int .i64 off] w fun e w' => e = .returned (.pointer (some ⟨w.heap.size, 0, none⟩)) ∧ Below B W w' ∧ B ≤ w'.heap.size ∧ One B w.heap.size ⟨false, wi off 0, wi on 0, false, 0, 0⟩ W w' :=
  (new_any on off w).mono fun _ _ ⟨he, hbb, hn⟩ => ⟨he, hb.trans (hbb.mono hB), Nat.le_trans hB hbb.size, hb.trans (hbb.mono hB), hB, hn, by simp, by simp, by simp, by simp⟩

/-- Two of them. -/
structure Two (B b c : Nat) (d x : D) (W w : World) : Prop where
  fst : One B b d W w
  snd : One B c x W w
  ne : b ≠ c

theorem Two.swap {B b c : Nat} {d x : D} {W w : World} (h : Two B b c d x W w) : Two B c b x d W w := ⟨h.snd, h.fst, fun e => h.ne e.symm⟩

theorem see_fst {B b c : Nat} {d x : D} {W w : World} (h : Two B b c d x W w) (v : Bool) (now : Int) (d' : D) (hd : d.see v now = d') :
    Calls Try.prog 11 #[.pointer (some ⟨b, 0, none⟩), .bool v, .int .i64 now] w fun e w' => e = .returned (.bool d'.c) ∧ Two B b c d' x W w' := by
  subst hd
  exact (see_any b d v now w h.fst.blk h.fst.ok).mono fun _ _ ⟨he, u⟩ =>
    have hb := h.fst.bel.trans (u.below h.fst.hB)
    ⟨he, ⟨hb, h.fst.hB, u.blk, see_ok d v now h.fst.ok⟩, ⟨hb, h.snd.hB, (u.oth c (fun e => h.ne e.symm)).trans h.snd.blk, h.snd.ok⟩, h.ne⟩

theorem see_snd {B b c : Nat} {d x : D} {W w : World} (h : Two B b c d x W w) (v : Bool) (now : Int) (x' : D) (hx : x.see v now = x') :
    Calls Try.prog 11 #[.pointer (some ⟨c, 0, none⟩), .bool v, .int .i64 now] w fun e w' => e = .returned (.bool x'.c) ∧ Two B b c d x' W w' :=
  (see_fst h.swap v now x' hx).mono fun _ _ ⟨he, u⟩ => ⟨he, u.swap⟩

theorem Two.drewN {B b c : Nat} {d x : D} {W w : World} (h : Two B b c d x W w) (n : Nat) : Two B b c d x W (w.drewN n) := ⟨h.fst.drewN n, h.snd.drewN n, h.ne⟩

theorem since_fst {B b c : Nat} {d x : D} {W w : World} (h : Two B b c d x W w) :
    Calls Try.prog 13 #[.pointer (some ⟨b, 0, none⟩)] w fun e w' => e = .returned (.tuple #[.int .i64 d.s, .bool d.o]) ∧ Two B b c d x W w' :=
  (since_any b d w h.fst.blk).mono fun _ _ ⟨he, n, hn⟩ => ⟨he, hn ▸ h.drewN n⟩
theorem since_snd {B b c : Nat} {d x : D} {W w : World} (h : Two B b c d x W w) :
    Calls Try.prog 13 #[.pointer (some ⟨c, 0, none⟩)] w fun e w' => e = .returned (.tuple #[.int .i64 x.s, .bool x.o]) ∧ Two B b c d x W w' :=
  (since_fst h.swap).mono fun _ _ ⟨he, u⟩ => ⟨he, u.swap⟩
theorem value_fst {B b c : Nat} {d x : D} {W w : World} (h : Two B b c d x W w) :
    Calls Try.prog 15 #[.pointer (some ⟨b, 0, none⟩)] w fun e w' => e = .returned (.bool d.c) ∧ Two B b c d x W w' :=
  (value_any b d w h.fst.blk).mono fun _ _ ⟨he, hn⟩ => ⟨he, hn ▸ h⟩
theorem value_snd {B b c : Nat} {d x : D} {W w : World} (h : Two B b c d x W w) :
    Calls Try.prog 15 #[.pointer (some ⟨c, 0, none⟩)] w fun e w' => e = .returned (.bool x.c) ∧ Two B b c d x W w' :=
  (value_any c x w h.snd.blk).mono fun _ _ ⟨he, hn⟩ => ⟨he, hn ▸ h⟩

theorem new_two {B b : Nat} {d : D} {W w : World} (h : One B b d W w) (on off : Int) :
    Calls Try.prog 9 #[.int .i64 on, .int .i64 off] w fun e w' => e = .returned (.pointer (some ⟨w.heap.size, 0, none⟩)) ∧ Two B b w.heap.size d ⟨false, wi off 0, wi on 0, false, 0, 0⟩ W w' :=
  have hlt : b < w.heap.size := by
    have hb := h.blk
    rcases Nat.lt_or_ge b w.heap.size with h' | h'
    · exact h'
    · simp [Array.getElem?_eq_none h'] at hb
  (new_any on off w).mono fun _ _ ⟨he, hbb, hn⟩ =>
    have hb := h.bel.trans (hbb.mono (Nat.le_trans h.hB (by omega)))
    ⟨he, ⟨hb, h.hB, (hbb.block b hlt).trans h.blk, h.ok⟩, ⟨hb, Nat.le_trans h.hB (by omega), hn, by simp, by simp, by simp, by simp⟩, by omega⟩

set_option maxHeartbeats 1000000 in
theorem head_any (w : World) : Calls Try.prog 8 #[] w fun e w' => e = .returned (.bool true) ∧ Below w.heap.size w w' := by
  go_enter Try.func8, Try.ntmps8
  go_wp2_with fail
  refine (new_one (Below.refl w.heap.size w) (Nat.le_refl _) 3 1).mono ?_
  rintro e w1 ⟨rfl, hb1, hB1, o1⟩
  go_wp2_with fail
  refine (see_one o1 true 5 ⟨false, 1, 3, true, 5, 5⟩ rfl).mono ?_
  rintro e w2 ⟨rfl, o2⟩
  go_wp2_with fail
  refine (since_one o2).mono ?_
  rintro e w3 ⟨rfl, o3⟩
  go_wp2_with fail
  refine (see_one o3 true 7 ⟨false, 1, 3, true, 5, 7⟩ rfl).mono ?_
  rintro e w4 ⟨rfl, o4⟩
  go_wp2_with fail
  refine (see_one o4 true 8 ⟨true, 1, 3, false, 0, 8⟩ rfl).mono ?_
  rintro e w5 ⟨rfl, o5⟩
  go_wp2_with fail
  refine (since_one o5).mono ?_
  rintro e w6 ⟨rfl, o6⟩
  go_wp2_with fail
  refine (see_one o6 false 8 ⟨true, 1, 3, true, 8, 8⟩ rfl).mono ?_
  rintro e w7 ⟨rfl, o7⟩
  go_wp2_with fail
  refine (see_one o7 true 9 ⟨true, 1, 3, false, 0, 9⟩ rfl).mono ?_
  rintro e w8 ⟨rfl, o8⟩
  go_wp2_with fail
  refine (see_one o8 false 9 ⟨true, 1, 3, true, 9, 9⟩ rfl).mono ?_
  rintro e w9 ⟨rfl, o9⟩
  go_wp2_with fail
  refine (see_one o9 false 10 ⟨false, 1, 3, false, 0, 10⟩ rfl).mono ?_
  rintro e w10 ⟨rfl, o10⟩
  go_wp2_with fail
  refine (new_two o10 0 0).mono ?_
  rintro e w11 ⟨rfl, t1⟩
  go_wp2_with fail
  refine (see_snd t1 true 0 ⟨true, 0, 0, false, 0, 0⟩ rfl).mono ?_
  rintro e w12 ⟨rfl, t2⟩
  go_wp2_with fail
  refine (value_fst t2).mono ?_
  rintro e w13 ⟨rfl, t3⟩
  go_wp2_with fail
  go_ret
  exact ⟨rfl, t3.fst.bel⟩

end Go.Proofs.Ytckmgknngpjklaa
