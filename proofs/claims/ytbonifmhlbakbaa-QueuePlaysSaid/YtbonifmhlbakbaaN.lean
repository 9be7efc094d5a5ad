/- The walk of QueueNever. -/
import Derived.Test.YtbonifmhlbakbaaD
namespace Go.Proofs.Ytbonifmhlbakbaa
set_option linter.unusedVariables false
open Go.ChangeShapes Go.WideShapes Go.ChangeAt Go.RowKit

/-- A call: what, urgent or not, of which number. -/
abbrev Opn := Int × Bool × Int
def opV (x : Opn) : List Value := [.int .i64 x.1, .bool x.2.1, .int .i64 x.2.2]
abbrev Sl (w : World) (a : Option Addr) (len : Nat) (g : Nat → Opn) : Prop := RowS w a len 3 (fun i => opV (g i)) ∧ ∀ i, i < len → ((Lit.int .i64 (g i).1).wf = true ∧ (Lit.int .i64 (g i).2.2).wf = true)

theorem RowS.below {W w : World} {a : Option Addr} {len sz : Nat} {V : Nat → List Value} (h : RowS W a len sz V) (hb : Below W.heap.size W w) : RowS w a len sz V := by
  refine ⟨h.le, ?_⟩
  rcases h.at' with z | ⟨b, off, ha, hlt, hc⟩
  · exact .inl z
  · exact .inr ⟨b, off, ha, Nat.lt_of_lt_of_le hlt hb.size, fun i hi j hj => (hb.cell (p := ⟨b, off + (i * sz + j), none⟩) hlt).trans (hc i hi j hj)⟩

theorem rows_in {H : Type} {enc : TypeId × Value → H} {w : World} {fuel : Nat} {a : Option Addr} {len cap : Nat} {x : DataW H × List MemPlace} (h : DataW.trod enc Try.prog w 0 (fun _ => true) true fuel 22 [.slice a len cap] = some x) :
    ∃ f : Nat → Opn, Sl w a len f := by
  obtain ⟨V, hV, hf⟩ := row_structs (sz := 3) Try.underlying22 Try.underlying29 (by kernel_rfl) (by omega) h
  obtain ⟨f, hff⟩ := Go.Deep.choose_lt (α := Opn) (p := fun i b => V i = opV b ∧ ((Lit.int .i64 b.1).wf = true ∧ (Lit.int .i64 b.2.2).wf = true)) (fun i hi => by
    obtain ⟨hl, n, hfi⟩ := hf i hi
    obtain ⟨b0, h0, w0⟩ := field_int (P := Try.prog) Try.underlying3 (by kernel_rfl) (hfi 0 _ rfl)
    obtain ⟨b1, h1⟩ := field_bool (P := Try.prog) Try.underlying4 (by kernel_rfl) (hfi 1 _ rfl)
    obtain ⟨b2, h2, w2⟩ := field_int (P := Try.prog) Try.underlying3 (by kernel_rfl) (hfi 2 _ rfl)
    exact ⟨(b0, b1, b2), list3 hl h0 h1 h2, w0, w2⟩)
  exact ⟨f, hV.congr (fun i hi => (hff i hi).1), fun i hi => (hff i hi).2⟩

abbrev tr (p : Nat) : List Value := List.replicate p (bv true)
abbrev fa (q : Nat) : List Value := List.replicate q (bv false)
def up (m p : Nat) : Nat := if p < m then p + 1 else p
theorem push_rep (m p : Nat) (v : Value) : pushL m (List.replicate p v) v = List.replicate (up m p) v := by
  unfold pushL up
  rw [List.length_replicate]
  split
  · exact (List.replicate_succ' (n := p) (a := v)).symm
  · rfl

set_option maxRecDepth 100000 in
set_option maxHeartbeats 2000000 in
theorem never_walk (most : Int) (a : Option Addr) (len cap : Nat) (g : Nat → Opn) (w : World) (h : Sl w a len g) (m0 : 0 ≤ most) (m1 : most ≤ 255) :
    Calls Try.prog 5 #[.int .u8 most, .slice a len cap] w fun e w' => e = .returned (.bool true) ∧ Below w.heap.size w w' := by
  have hl := h.1.le
  unfold maxLen at hl
  have H := Lib.hid h
  clear h
  go_enter Try.func5, Try.ntmps5
  go_wp2_with fail
  refine (head_any w).mono ?_
  rintro e w0 ⟨rfl, hb⟩
  have B0 := Lib.hid hb
  have hs0 := hb.size
  clear hb
  go_wp2_with fail
  refine (new_bool most w0).mono ?_
  rintro e w1 ⟨d, cu, co, rfl, q, b⟩
  obtain ⟨m, hm⟩ : ∃ m, m = cl most := ⟨_, rfl⟩
  have hm64 : m ≤ 64 := by rw [hm]; exact (cl_bd most).2
  rw [← hm] at q
  clear hm
  have Q1 := Lib.hid q
  have B1 := Lib.hid (B0.out.trans (b.mono hs0))
  clear q b
  by_cases h5 : 1000 < len
  · have d1 : decide (1000 < (len : Int)) = true := by simp; omega
    go_wp2_with fail
    go_ret
    exact ⟨rfl, B1.out⟩
  have d1 : decide (1000 < (len : Int)) = false := by simp; omega
  go_wp2_with fail
  go_loopw [7] (fun i wr => ∃ (k p q : Nat), k ≤ len ∧ i = .int .i64 k ∧ Q w0.heap.size wr d cu co m (tr p) (fa q) ∧ Below w.heap.size w wr) (fun i _ => len - (intOf i).toNat)
  case atStart => exact ⟨0, 0, 0, Nat.zero_le _, rfl, Q1.out, B1.out⟩
  case round =>
    obtain ⟨k, p, q, hk, rfl, hq, hb⟩ := hrel
    obtain ⟨w2, hw2⟩ : ∃ w2, w2 = wr := ⟨_, rfl⟩
    subst hw2
    have HQ := Lib.hid hq
    have HB := Lib.hid hb
    have hpm : p ≤ m := by have := hq.lu; simpa using this
    have hqm : q ≤ m := by have := hq.lo; simpa using this
    clear hq hb
    by_cases hlt : k < len
    · obtain ⟨b, off, rfl, hlt', hcs⟩ := (H.out.1.below HB.out).pos (by omega)
      have c0 : w2.cell? ⟨b, off + k * 3, none⟩ = some (.int .i64 (g k).1) := hcs k hlt 0 (by omega)
      have c1 : w2.cell? ⟨b, off + k * 3 + 1, none⟩ = some (.bool (g k).2.1) := hcs k hlt 1 (by omega)
      clear hcs
      generalize (g k).1 = wh at c0
      generalize (g k).2.1 = ur at c1
      by_cases hw : wh < 3
      · cases ur
        · go_wp2_with fail
          go_region_with (go_at_call 20; refine (put_bool_o false (HQ.out.below (Below.refl _ _).drew)).mono ?_; rintro e w3 ⟨rfl, hq3, hb3⟩)
          all_goals
            have hq4 := push_rep m q (bv false) ▸ hq3
            have hb4 := HB.out.drew.trans (hb3.mono hs0)
            have HQ4 := Lib.hid hq4
            have HB4 := Lib.hid hb4
            clear hq3 hb3 hq4 hb4
            go_wp2_with fail
            go_roundw
            case rel => exact ⟨k + 1, p, up m q, by omega, by go_num, HQ4.out, HB4.out⟩
            case measure => simp [intOf]; omega
        · go_wp2_with fail
          go_region_with (go_at_call 20; refine (put_bool_u true (HQ.out.below (Below.refl _ _).drew)).mono ?_; rintro e w3 ⟨rfl, hq3, hb3⟩)
          all_goals
            have hq4 := push_rep m p (bv true) ▸ hq3
            have hb4 := HB.out.drew.trans (hb3.mono hs0)
            have HQ4 := Lib.hid hq4
            have HB4 := Lib.hid hb4
            clear hq3 hb3 hq4 hb4
            go_wp2_with fail
            go_roundw
            case rel => exact ⟨k + 1, up m p, q, by omega, by go_num, HQ4.out, HB4.out⟩
            case measure => simp [intOf]; omega
      · go_wp2_with fail
        refine (many_bool HQ.out).mono ?_
        rintro e w3 ⟨rfl, b3⟩
        have HQ3 := Lib.hid (HQ.out.below b3)
        have HB3 := Lib.hid (HB.out.trans (b3.mono HB.out.size))
        clear b3
        rw [show (tr p).length = p from List.length_replicate .., show (fa q).length = q from List.length_replicate ..]
        cases p with
        | succ p =>
          have HQ3' : Hid (Q w0.heap.size w3 d cu co m (.bool true :: tr p) (fa q)) := Lib.hid HQ3.out
          go_wp2_with fail
          refine (take_bool_u' true HQ3'.out).mono ?_
          rintro e w4 ⟨rfl, hq4, hb4⟩
          have HQ4 := Lib.hid hq4
          have HB4 := Lib.hid (HB3.out.trans (hb4.mono hs0))
          clear hq4 hb4
          have t1 : decide ((0 : Int) < ((p : Int) + 1) + (q : Int)) = true := decide_eq_true (by omega)
          have t2 : decide ((0 : Int) < (p : Int) + 1) = true := decide_eq_true (by omega)
          go_wp2_with fail
          go_roundw
          case rel => exact ⟨k + 1, p, q, by omega, by go_num, HQ4.out, HB4.out⟩
          case measure => simp [intOf]; omega
        | zero =>
          cases q with
          | succ q =>
            have HQ3' : Hid (Q w0.heap.size w3 d cu co m [] (.bool false :: fa q)) := Lib.hid HQ3.out
            go_wp2_with fail
            refine (take_bool_o' false HQ3'.out).mono ?_
            rintro e w4 ⟨rfl, hq4, hb4⟩
            have HQ4 := Lib.hid hq4
            have HB4 := Lib.hid (HB3.out.trans (hb4.mono hs0))
            clear hq4 hb4
            have t1 : decide ((0 : Int) < (q : Int) + 1) = true := decide_eq_true (by omega)
            go_wp2_with fail
            go_roundw
            case rel => exact ⟨k + 1, 0, q, by omega, by go_num, HQ4.out, HB4.out⟩
            case measure => simp [intOf]; omega
          | zero =>
            have HQ3' : Hid (Q w0.heap.size w3 d cu co m [] []) := Lib.hid HQ3.out
            go_wp2_with fail
            refine (take_bool_n' HQ3'.out).mono ?_
            rintro e w4 ⟨rfl, hq4, hb4⟩
            have HQ4 := Lib.hid hq4
            have HB4 := Lib.hid (HB3.out.trans (hb4.mono hs0))
            clear hq4 hb4
            go_wp2_with fail
            go_roundw
            case rel => exact ⟨k + 1, 0, 0, by omega, by go_num, HQ4.out, HB4.out⟩
            case measure => simp [intOf]; omega
    · have hk' : k = len := by omega
      subst hk'
      go_wp2_with fail
      go_ret
      exact ⟨rfl, HB.out⟩
theorem never_all (most : Int) (wm : (Lit.int .u8 most).wf = true) (a : Option Addr) (len cap : Nat) (g : Nat → Opn) (w : World) (h : Sl w a len g) :
    Calls Try.prog 5 #[.int .u8 most, .slice a len cap] w fun e w' => e = .returned (.bool true) ∧ Below w.heap.size w w' :=
  never_walk most a len cap g w h (bd_u8 wm).1 (bd_u8 wm).2

end Go.Proofs.Ytbonifmhlbakbaa
