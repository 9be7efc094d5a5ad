/- Calls that came in; what is too much. -/
import Derived.Test.YtedakoihlnokfaaI
namespace Go.Proofs.Ytedakoihlnokfaa
set_option linter.unusedVariables false
set_option linter.unusedSimpArgs false
open Go.ChangeShapes Go.WideShapes Go.ChangeAt Go.RowKit

theorem RowS.below {W w : World} {a : Option Addr} {len sz : Nat} {V : Nat → List Value} (h : RowS W a len sz V) (hb : Below W.heap.size W w) : RowS w a len sz V := by
  refine ⟨h.le, ?_⟩
  rcases h.at' with z | ⟨b, off, ha, hlt, hc⟩
  · exact .inl z
  · exact .inr ⟨b, off, ha, Nat.lt_of_lt_of_le hlt hb.size, fun i hi j hj => (hb.cell (p := ⟨b, off + (i * sz + j), none⟩) hlt).trans (hc i hi j hj)⟩
structure Od where
  wh : Int
  xa : Option Addr
  xl : Nat
  xc : Nat
  xf : Nat → Bool
  ya : Option Addr
  yl : Nat
  yc : Nat
  yf : Nat → Bool
  on : Bool
  za : Option Addr
  zl : Nat
  zc : Nat
  zL : List Int
instance : Inhabited Od := ⟨⟨0, none, 0, 0, fun _ => false, none, 0, 0, fun _ => false, false, none, 0, 0, []⟩⟩
def oc (o : Od) : List Value := [.int .i64 o.wh, .slice o.xa o.xl o.xc, .slice o.ya o.yl o.yc, .bool o.on, .slice o.za o.zl o.zc]
structure Od.ok (o : Od) (w : World) : Prop where
  x : Row w o.xa o.xl (fun i => .bool (o.xf i))
  y : Row w o.ya o.yl (fun i => .bool (o.yf i))
  z : Ir w o.za o.zl o.zL
theorem Od.ok.below {o : Od} {W w : World} (h : o.ok W) (hb : Below W.heap.size W w) : o.ok w := ⟨h.x.below hb, h.y.below hb, h.z.below hb⟩
structure Ops (w : World) (a : Option Addr) (len : Nat) (A : Nat → Od) : Prop where
  row : RowS w a len 5 (fun i => oc (A i))
  ok : ∀ i, i < len → (A i).ok w
theorem Ops.below {W w : World} {a : Option Addr} {len : Nat} {A : Nat → Od} (h : Ops W a len A) (hb : Below W.heap.size W w) : Ops w a len A := ⟨h.row.below hb, fun i hi => (h.ok i hi).below hb⟩
theorem Ops.at {w : World} {a : Option Addr} {len : Nat} {A : Nat → Od} (h : Ops w a len A) {k : Nat} (hk : k < len) : ∃ b off, a = some ⟨b, off, none⟩ ∧ w.cell? ⟨b, off + k * 5, none⟩ = some (.int .i64 (A k).wh) ∧ w.cell? ⟨b, off + k * 5 + 1, none⟩ = some (.slice (A k).xa (A k).xl (A k).xc) ∧ w.cell? ⟨b, off + k * 5 + 2, none⟩ = some (.slice (A k).ya (A k).yl (A k).yc) ∧ w.cell? ⟨b, off + k * 5 + 3, none⟩ = some (.bool (A k).on) ∧ w.cell? ⟨b, off + k * 5 + 4, none⟩ = some (.slice (A k).za (A k).zl (A k).zc) := by
  obtain ⟨b, off, e, _, hc⟩ := h.row.pos (by omega)
  have q := fun j (hj : j < 5) => hc k hk j hj
  exact ⟨b, off, e, by simpa [oc] using q 0 (by omega), by simpa [oc] using q 1 (by omega), by simpa [oc] using q 2 (by omega), by simpa [oc] using q 3 (by omega), by simpa [oc] using q 4 (by omega)⟩
theorem list5 {l : List Value} {x y z u v : Value} (hl : l.length = 5) (h0 : l[0]? = some x) (h1 : l[1]? = some y) (h2 : l[2]? = some z) (h3 : l[3]? = some u) (h4 : l[4]? = some v) : l = [x, y, z, u, v] := by
  match l, hl with
  | [p, q, r, s, t], _ => simp at h0 h1 h2 h3 h4; rw [h0, h1, h2, h3, h4]
section
variable {H : Type} {enc : TypeId × Value → H} {w : World}
theorem arg_ints {fuel : Nat} {a : Option Addr} {len cap : Nat} {x : DataW H × List MemPlace} (h : DataW.trod enc Try.prog w 0 (fun _ => true) true fuel 22 [.slice a len cap] = some x) :
    ∃ L : List Int, ArgI w a len cap L := by
  rcases open_ints (k := .i64) Try.underlying22 Try.underlying3 (by kernel_rfl) h with ⟨hcs, _⟩ | ⟨y, l, c, zs, hcs, _, hl, hm, hz, _, hcell, hwz⟩
  · simp at hcs
    obtain ⟨rfl, rfl, rfl⟩ := hcs
    exact ⟨[], Ir.nil _ _, fun _ => ⟨rfl, rfl⟩, Nat.le_refl _, Nat.zero_le _⟩
  · simp at hcs
    obtain ⟨rfl, rfl, rfl⟩ := hcs
    have hz' : zs.length = cap := by simpa using hz
    have hr : Row w (some y) len (fun i => .int .i64 (zs.getD i 0)) := Row.mk_of (Nat.le_trans hl hm) (fun i hi => hcell i (by omega))
    refine ⟨zs.take len, ⟨by rw [List.length_take]; omega, Nat.le_trans hl hm, fun v hv => hwz v (List.mem_of_mem_take hv), ?_⟩, (fun e => by cases e), hl, hm⟩
    rcases hr.at' with q | ⟨b, off, e, hlt, hc⟩
    · exact .inl q
    · refine .inr ⟨b, off, e, hlt, fun i hi => ?_⟩
      rw [hc i hi]
      simp only [List.getD]
      rw [List.getElem?_take_of_lt hi]
theorem field_form {T E n o : Nat} {l : List Value} (hT : Try.prog.underlying T = some (.slice E)) (hc : Try.prog.cellsOf T = 1) (h : ∃ y, DataW.trod enc Try.prog w 0 (fun _ => true) true n T ((l.drop o).take (Try.prog.cellsOf T)) = some y) :
    ∃ (a : Option Addr) (len cap : Nat), l[o]? = some (.slice a len cap) ∧ ∃ y, DataW.trod enc Try.prog w 0 (fun _ => true) true n T [.slice a len cap] = some y := by
  obtain ⟨y, hy⟩ := h
  rw [hc] at hy
  have key : ∃ a len cap, (l.drop o).take 1 = [.slice a len cap] := by
    rcases Go.Deep.open_slice hT hy with ⟨hcs, _⟩ | ⟨y, l', c, m, n, D, Pl, hcs, _⟩
    · exact ⟨none, 0, 0, hcs⟩
    · exact ⟨_, _, _, hcs⟩
  obtain ⟨a, len, cap, hk⟩ := key
  rw [hk] at hy
  have h0 : ((l.drop o).take 1)[0]? = some (.slice a len cap) := by rw [hk]; rfl
  exact ⟨a, len, cap, by simpa using h0, y, hy⟩
theorem arg_ops {fuel : Nat} {a : Option Addr} {len cap : Nat} {x : DataW H × List MemPlace} (h : DataW.trod enc Try.prog w 0 (fun _ => true) true fuel 23 [.slice a len cap] = some x) :
    ∃ A : Nat → Od, Ops w a len A := by
  obtain ⟨V, hV, hf⟩ := row_structs (sz := 5) Try.underlying23 Try.underlying30 (by kernel_rfl) (by omega) h
  obtain ⟨f, hff⟩ := Go.Deep.choose_lt (α := Od) (p := fun i x => V i = oc x ∧ x.ok w) (fun i hi => by
    obtain ⟨hl, n, hfi⟩ := hf i hi
    obtain ⟨b0, h0, w0⟩ := field_int (P := Try.prog) Try.underlying3 (by kernel_rfl) (hfi 0 _ rfl)
    obtain ⟨a1, l1, c1, h1, y1, z1⟩ := field_form Try.underlying28 (by kernel_rfl) (hfi 1 _ rfl)
    obtain ⟨f1, r1⟩ := row_bools Try.underlying28 Try.underlying4 (by kernel_rfl) z1
    obtain ⟨a2, l2, c2, h2, y2, z2⟩ := field_form Try.underlying28 (by kernel_rfl) (hfi 2 _ rfl)
    obtain ⟨f2, r2⟩ := row_bools Try.underlying28 Try.underlying4 (by kernel_rfl) z2
    obtain ⟨b3, h3⟩ := field_bool (P := Try.prog) Try.underlying4 (by kernel_rfl) (hfi 3 _ rfl)
    obtain ⟨a4, l4, c4, h4, y4, z4⟩ := field_form Try.underlying22 (by kernel_rfl) (hfi 4 _ rfl)
    obtain ⟨f4, r4⟩ := arg_ints z4
    exact ⟨⟨b0, a1, l1, c1, f1, a2, l2, c2, f2, b3, a4, l4, c4, f4⟩, list5 hl h0 h1 h2 h3 h4, r1, r2, r4.row⟩)
  refine ⟨f, ⟨hV.congr (fun i hi => (hff i hi).1), fun i hi => (hff i hi).2⟩⟩
end
def SomeB (w : World) (e : Ending) (w' : World) : Prop := ∃ b : Bool, e = .returned (.bool b) ∧ Below w.heap.size w w'
set_option maxRecDepth 100000 in
set_option maxHeartbeats 2000000 in
theorem great_any (ka : Option Addr) (n kc : Nat) (a : Option Addr) (len cap : Nat) (A : Nat → Od) (w : World) (h : Ops w a len A) : Calls Try.prog 8 #[.slice ka n kc, .slice a len cap] w (SomeB w) := by
  have hl := h.row.le
  unfold maxLen at hl
  have H := Lib.hid h
  clear h
  go_enter Try.func8, Try.ntmps8
  go_wp2_with fail
  go_loopw [5, 6] (fun v i wr => ∃ (k : Nat) (x : Int), k ≤ len ∧ v = .int .i64 x ∧ i = .int .i64 k ∧ Below w.heap.size w wr) (fun _ i _ => len - (intOf i).toNat)
  case atStart => exact ⟨0, _, Nat.zero_le _, rfl, rfl, Below.refl _ _⟩
  case round =>
    obtain ⟨wo, rfl⟩ : ∃ wo : World, wo = wr := ⟨_, rfl⟩
    obtain ⟨k, x, hk, rfl, rfl, hb⟩ := hrel
    by_cases hkn : k < len
    · cases h9 : decide (x < 9000) with
      | true =>
        obtain ⟨b, off, rfl, e0, e1, e2, e3, e4⟩ := (H.out.below hb).at hkn
        have d0 : (k : Int) < (len : Int) := by omega
        have d1 : (0 : Int) ≤ (k : Int) := by omega
        have HB := Lib.hid hb
        clear hb
        go_wp2_with fail
        go_quiet (fail)
        go_wp2_with fail
        go_roundw
        case rel => exact ⟨k + 1, _, by omega, rfl, by go_num, below_drewN HB.out _⟩
        case measure => simp [intOf]; omega
      | false =>
        have d0 : (k : Int) < (len : Int) := by omega
        have HB := Lib.hid hb
        clear hb
        go_wp2_with fail
        all_goals
          go_ret
          exact ⟨_, rfl, HB.out⟩
    · have d0 : ¬ (k : Int) < (len : Int) := by omega
      have HB := Lib.hid hb
      clear hb
      go_wp2_with fail
      all_goals
        go_ret
        exact ⟨_, rfl, HB.out⟩
end Go.Proofs.Ytedakoihlnokfaa
