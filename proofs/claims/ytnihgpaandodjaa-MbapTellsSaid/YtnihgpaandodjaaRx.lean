/- The document's First. -/
import Derived.Test.YtnihgpaandodjaaE
import Derived.Deep.RegionLaw
import Derived.Deep.AppendLies
import Derived.Laws.AppendOwnNone
namespace Go.Proofs.Ytnihgpaandodjaa
set_option linter.unusedVariables false
open Go.ChangeShapes Go.WideShapes Go.ChangeAt Go.RowKit

def RFirstP (w : World) (L : List Nat) (e : Ending) (w' : World) : Prop :=
  Below w.heap.size w w' ∧
  (match firstR L with
   | .bad => e = .returned (.tuple #[.agg #[.int .u16 0, .int .u8 0, .slice none 0 0], .int .i64 0, .int .i64 31])
   | .more => e = .returned (.tuple #[.agg #[.int .u16 0, .int .u8 0, .slice none 0 0], .int .i64 0, .int .i64 0])
   | .frame id u P => ∃ g k, e = .returned (.tuple #[.agg #[.int .u16 (id : Nat), .int .u8 (u : Nat), .slice (some ⟨g, 0, none⟩) P.length k], .int .i64 ((P.length + 7 : Nat) : Int), .int .i64 0]) ∧ OwnB w.heap.size w' g k P.length P)
theorem rf_bad {w : World} {L : List Nat} (h : firstR L = .bad) (w' : World) (hb : Below w.heap.size w w') : RFirstP w L (.returned (.tuple #[.agg #[.int .u16 0, .int .u8 0, .slice none 0 0], .int .i64 0, .int .i64 31])) w' := by
  unfold RFirstP; rw [h]; exact ⟨hb, rfl⟩
theorem rf_more {w : World} {L : List Nat} (h : firstR L = .more) (w' : World) (hb : Below w.heap.size w w') : RFirstP w L (.returned (.tuple #[.agg #[.int .u16 0, .int .u8 0, .slice none 0 0], .int .i64 0, .int .i64 0])) w' := by
  unfold RFirstP; rw [h]; exact ⟨hb, rfl⟩
theorem al3 (w : World) (x y z : Value) (o : Obj) : Below w.heap.size w ((((w.alloc o).setCell ⟨w.heap.size, 0, none⟩ x).setCell ⟨w.heap.size, 1, none⟩ y).setCell ⟨w.heap.size, 2, none⟩ z) :=
  ((((Below.refl _ _).alloc (Nat.le_refl _) _).setCell (Nat.le_refl _) _).setCell (Nat.le_refl _) _).setCell (Nat.le_refl _) _

set_option maxRecDepth 100000 in
set_option maxHeartbeats 2000000 in
theorem rf_v2 (b off len cap : Nat) (L : List Nat) (w : World) (h2 : 2 < len) (v2 : Nat) (hc2 : w.cell? ⟨b, off + 2, none⟩ = some (.int .u8 (v2 : Int))) (hb : b < w.heap.size) (hv : v2 ≠ 0) (hp : ∀ w', Below w.heap.size w w' → RFirstP w L (.returned (.tuple #[.agg #[.int .u16 0, .int .u8 0, .slice none 0 0], .int .i64 0, .int .i64 31])) w') :
    Calls Try.prog 12 #[.slice (some ⟨b, off, none⟩) len cap] w (RFirstP w L) := by
  have HP := Lib.hid hp
  clear hp
  have d1 : decide ((2 : Int) < (len : Int)) = true := by simp; omega
  have i1 : (2 : Int) < (len : Int) := by omega
  have t1 : ((v2 : Int) != 0) = true := by simp; omega
  have k2 := ((Below.refl w.heap.size w).alloc (Nat.le_refl _) (.cells #[.int .u16 0, .int .u8 0, .slice none 0 0] 25 (0, 0))).cell (p := ⟨b, off + 2, none⟩) hb |>.trans hc2
  go_enter Try.func12, Try.ntmps12
  go_wp2_with fail
  exact bodyPost_ret (v := .tuple #[.agg #[.int .u16 0, .int .u8 0, .slice none 0 0], .int .i64 0, .int .i64 31]) (by simp [results, Try.results12, go_sem]) rfl (HP.out _ ((Below.refl _ _).alloc (Nat.le_refl _) _))

set_option maxRecDepth 100000 in
set_option maxHeartbeats 2000000 in
theorem rf_s3 (b off len cap : Nat) (L : List Nat) (w : World) (h2 : len = 3) (v2 : Nat) (hc2 : w.cell? ⟨b, off + 2, none⟩ = some (.int .u8 (v2 : Int))) (hb : b < w.heap.size) (hv : v2 = 0) (hp : ∀ w', Below w.heap.size w w' → RFirstP w L (.returned (.tuple #[.agg #[.int .u16 0, .int .u8 0, .slice none 0 0], .int .i64 0, .int .i64 0])) w') :
    Calls Try.prog 12 #[.slice (some ⟨b, off, none⟩) len cap] w (RFirstP w L) := by
  have HP := Lib.hid hp
  clear hp
  have d1 : decide ((2 : Int) < (len : Int)) = true := by simp; omega
  have d2 : decide ((3 : Int) < (len : Int)) = false := by simp; omega
  have d3 : decide ((len : Int) < 6) = true := by simp; omega
  have i1 : (2 : Int) < (len : Int) := by omega
  have t1 : ((v2 : Int) != 0) = false := by simp; omega
  have k2 := ((Below.refl w.heap.size w).alloc (Nat.le_refl _) (.cells #[.int .u16 0, .int .u8 0, .slice none 0 0] 25 (0, 0))).cell (p := ⟨b, off + 2, none⟩) hb |>.trans hc2
  go_enter Try.func12, Try.ntmps12
  go_wp2_with fail
  exact bodyPost_ret (v := .tuple #[.agg #[.int .u16 0, .int .u8 0, .slice none 0 0], .int .i64 0, .int .i64 0]) (by simp [results, Try.results12, go_sem]) rfl (HP.out _ ((Below.refl _ _).alloc (Nat.le_refl _) _))

set_option maxRecDepth 100000 in
set_option maxHeartbeats 2000000 in
theorem rf_v3 (b off len cap : Nat) (L : List Nat) (w : World) (h2 : 3 < len) (v2 : Nat) (hc2 : w.cell? ⟨b, off + 2, none⟩ = some (.int .u8 (v2 : Int))) (hb : b < w.heap.size) (v3 : Nat) (hc3 : w.cell? ⟨b, off + 3, none⟩ = some (.int .u8 (v3 : Int))) (hv : v2 = 0) (hv3 : v3 ≠ 0) (hp : ∀ w', Below w.heap.size w w' → RFirstP w L (.returned (.tuple #[.agg #[.int .u16 0, .int .u8 0, .slice none 0 0], .int .i64 0, .int .i64 31])) w') :
    Calls Try.prog 12 #[.slice (some ⟨b, off, none⟩) len cap] w (RFirstP w L) := by
  have HP := Lib.hid hp
  clear hp
  have d1 : decide ((2 : Int) < (len : Int)) = true := by simp; omega
  have d2 : decide ((3 : Int) < (len : Int)) = true := by simp; omega
  have i1 : (2 : Int) < (len : Int) := by omega
  have i2 : (3 : Int) < (len : Int) := by omega
  have t1 : ((v2 : Int) != 0) = false := by simp; omega
  have t2 : ((v3 : Int) != 0) = true := by simp; omega
  have k2 := ((Below.refl w.heap.size w).alloc (Nat.le_refl _) (.cells #[.int .u16 0, .int .u8 0, .slice none 0 0] 25 (0, 0))).cell (p := ⟨b, off + 2, none⟩) hb |>.trans hc2
  have k3 := ((Below.refl w.heap.size w).alloc (Nat.le_refl _) (.cells #[.int .u16 0, .int .u8 0, .slice none 0 0] 25 (0, 0))).cell (p := ⟨b, off + 3, none⟩) hb |>.trans hc3
  go_enter Try.func12, Try.ntmps12
  go_wp2_with fail
  exact bodyPost_ret (v := .tuple #[.agg #[.int .u16 0, .int .u8 0, .slice none 0 0], .int .i64 0, .int .i64 31]) (by simp [results, Try.results12, go_sem]) rfl (HP.out _ ((Below.refl _ _).alloc (Nat.le_refl _) _))

set_option maxRecDepth 100000 in
set_option maxHeartbeats 2000000 in
theorem rf_s5 (b off len cap : Nat) (L : List Nat) (w : World) (h2 : 3 < len) (h6 : len < 6) (v2 : Nat) (hc2 : w.cell? ⟨b, off + 2, none⟩ = some (.int .u8 (v2 : Int))) (hb : b < w.heap.size) (v3 : Nat) (hc3 : w.cell? ⟨b, off + 3, none⟩ = some (.int .u8 (v3 : Int))) (hv : v2 = 0) (hv3 : v3 = 0) (hp : ∀ w', Below w.heap.size w w' → RFirstP w L (.returned (.tuple #[.agg #[.int .u16 0, .int .u8 0, .slice none 0 0], .int .i64 0, .int .i64 0])) w') :
    Calls Try.prog 12 #[.slice (some ⟨b, off, none⟩) len cap] w (RFirstP w L) := by
  have HP := Lib.hid hp
  clear hp
  have d1 : decide ((2 : Int) < (len : Int)) = true := by simp; omega
  have d2 : decide ((3 : Int) < (len : Int)) = true := by simp; omega
  have d3 : decide ((len : Int) < 6) = true := by simp; omega
  have i1 : (2 : Int) < (len : Int) := by omega
  have i2 : (3 : Int) < (len : Int) := by omega
  have t1 : ((v2 : Int) != 0) = false := by simp; omega
  have t2 : ((v3 : Int) != 0) = false := by simp; omega
  have k2 := ((Below.refl w.heap.size w).alloc (Nat.le_refl _) (.cells #[.int .u16 0, .int .u8 0, .slice none 0 0] 25 (0, 0))).cell (p := ⟨b, off + 2, none⟩) hb |>.trans hc2
  have k3 := ((Below.refl w.heap.size w).alloc (Nat.le_refl _) (.cells #[.int .u16 0, .int .u8 0, .slice none 0 0] 25 (0, 0))).cell (p := ⟨b, off + 3, none⟩) hb |>.trans hc3
  go_enter Try.func12, Try.ntmps12
  go_wp2_with fail
  exact bodyPost_ret (v := .tuple #[.agg #[.int .u16 0, .int .u8 0, .slice none 0 0], .int .i64 0, .int .i64 0]) (by simp [results, Try.results12, go_sem]) rfl (HP.out _ ((Below.refl _ _).alloc (Nat.le_refl _) _))

set_option maxRecDepth 100000 in
set_option maxHeartbeats 2000000 in
theorem rf_s1 (a : Option Addr) (len cap : Nat) (L : List Nat) (w : World) (h2 : len ≤ 2) (hp : ∀ w', Below w.heap.size w w' → RFirstP w L (.returned (.tuple #[.agg #[.int .u16 0, .int .u8 0, .slice none 0 0], .int .i64 0, .int .i64 0])) w') :
    Calls Try.prog 12 #[.slice a len cap] w (RFirstP w L) := by
  have HP := Lib.hid hp
  clear hp
  have d1 : decide ((2 : Int) < (len : Int)) = false := by simp; omega
  have d2 : decide ((3 : Int) < (len : Int)) = false := by simp; omega
  have d3 : decide ((len : Int) < 6) = true := by simp; omega
  go_enter Try.func12, Try.ntmps12
  go_wp2_with fail
  exact bodyPost_ret (v := .tuple #[.agg #[.int .u16 0, .int .u8 0, .slice none 0 0], .int .i64 0, .int .i64 0]) (by simp [results, Try.results12, go_sem]) rfl (HP.out _ ((Below.refl _ _).alloc (Nat.le_refl _) _))
theorem al3d (w : World) (x y z : Value) (o : Obj) : Below w.heap.size w (((((w.alloc o).drew).setCell ⟨w.heap.size, 0, none⟩ x).setCell ⟨w.heap.size, 1, none⟩ y).setCell ⟨w.heap.size, 2, none⟩ z) :=
  (((((Below.refl _ _).alloc (Nat.le_refl _) _).drew).setCell (Nat.le_refl _) _).setCell (Nat.le_refl _) _).setCell (Nat.le_refl _) _

set_option maxRecDepth 100000 in
set_option maxHeartbeats 4000000 in
theorem rf_lo (b off len cap : Nat) (L : List Nat) (w : World) (h6 : 6 ≤ len) (v2 : Nat) (hc2 : w.cell? ⟨b, off + 2, none⟩ = some (.int .u8 (v2 : Int))) (hb : b < w.heap.size) (v3 : Nat) (hc3 : w.cell? ⟨b, off + 3, none⟩ = some (.int .u8 (v3 : Int))) (hv : v2 = 0) (hv3 : v3 = 0) (x4 x5 : Nat) (hc4 : w.cell? ⟨b, off + 4, none⟩ = some (.int .u8 (x4 : Int))) (hc5 : w.cell? ⟨b, off + 5, none⟩ = some (.int .u8 (x5 : Int))) (l4 : x4 < 256) (l5 : x5 < 256) (hf : 256 * x4 + x5 < 2) (hp : ∀ w', Below w.heap.size w w' → RFirstP w L (.returned (.tuple #[.agg #[.int .u16 0, .int .u8 0, .slice none 0 0], .int .i64 0, .int .i64 31])) w') :
    Calls Try.prog 12 #[.slice (some ⟨b, off, none⟩) len cap] w (RFirstP w L) := by
  have HP := Lib.hid hp
  clear hp
  have d1 : decide ((2 : Int) < (len : Int)) = true := by simp; omega
  have d2 : decide ((3 : Int) < (len : Int)) = true := by simp; omega
  have d3 : decide ((len : Int) < 6) = false := by simp; omega
  have i1 : (2 : Int) < (len : Int) := by omega
  have i2 : (3 : Int) < (len : Int) := by omega
  have i4 : (4 : Int) < (len : Int) := by omega
  have i5 : (5 : Int) < (len : Int) := by omega
  have t1 : ((v2 : Int) != 0) = false := by simp; omega
  have t2 : ((v3 : Int) != 0) = false := by simp; omega
  have k2 := ((Below.refl w.heap.size w).alloc (Nat.le_refl _) (.cells #[.int .u16 0, .int .u8 0, .slice none 0 0] 25 (0, 0))).cell (p := ⟨b, off + 2, none⟩) hb |>.trans hc2
  have k3 := ((Below.refl w.heap.size w).alloc (Nat.le_refl _) (.cells #[.int .u16 0, .int .u8 0, .slice none 0 0] 25 (0, 0))).cell (p := ⟨b, off + 3, none⟩) hb |>.trans hc3
  have k4 := ((Below.refl w.heap.size w).alloc (Nat.le_refl _) (.cells #[.int .u16 0, .int .u8 0, .slice none 0 0] 25 (0, 0))).cell (p := ⟨b, off + 4, none⟩) hb |>.trans hc4
  have k5 := ((Below.refl w.heap.size w).alloc (Nat.le_refl _) (.cells #[.int .u16 0, .int .u8 0, .slice none 0 0] 25 (0, 0))).cell (p := ⟨b, off + 5, none⟩) hb |>.trans hc5
  go_enter Try.func12, Try.ntmps12
  go_wp2_with fail
  go_region
  all_goals
    have e : (256 : Int) * (x4 : Int) + (x5 : Int) = ((256 * x4 + x5 : Nat) : Int) := by omega
    rw [e]
    obtain ⟨m, hm⟩ : ∃ m, m = 256 * x4 + x5 := ⟨_, rfl⟩
    rw [← hm]
    have e1 : decide ((m : Int) < 2) = true := by simp; omega
    clear e
    go_wp2_with fail
    exact bodyPost_ret (v := .tuple #[.agg #[.int .u16 0, .int .u8 0, .slice none 0 0], .int .i64 0, .int .i64 31]) (by simp [results, Try.results12, go_sem]) rfl (HP.out _ (by first | exact al3d _ _ _ _ _ | go_grown))

set_option maxRecDepth 100000 in
set_option maxHeartbeats 4000000 in
theorem rf_hi (b off len cap : Nat) (L : List Nat) (w : World) (h6 : 6 ≤ len) (v2 : Nat) (hc2 : w.cell? ⟨b, off + 2, none⟩ = some (.int .u8 (v2 : Int))) (hb : b < w.heap.size) (v3 : Nat) (hc3 : w.cell? ⟨b, off + 3, none⟩ = some (.int .u8 (v3 : Int))) (hv : v2 = 0) (hv3 : v3 = 0) (x4 x5 : Nat) (hc4 : w.cell? ⟨b, off + 4, none⟩ = some (.int .u8 (x4 : Int))) (hc5 : w.cell? ⟨b, off + 5, none⟩ = some (.int .u8 (x5 : Int))) (l4 : x4 < 256) (l5 : x5 < 256) (hf : 254 < 256 * x4 + x5) (hp : ∀ w', Below w.heap.size w w' → RFirstP w L (.returned (.tuple #[.agg #[.int .u16 0, .int .u8 0, .slice none 0 0], .int .i64 0, .int .i64 31])) w') :
    Calls Try.prog 12 #[.slice (some ⟨b, off, none⟩) len cap] w (RFirstP w L) := by
  have HP := Lib.hid hp
  clear hp
  have d1 : decide ((2 : Int) < (len : Int)) = true := by simp; omega
  have d2 : decide ((3 : Int) < (len : Int)) = true := by simp; omega
  have d3 : decide ((len : Int) < 6) = false := by simp; omega
  have i1 : (2 : Int) < (len : Int) := by omega
  have i2 : (3 : Int) < (len : Int) := by omega
  have i4 : (4 : Int) < (len : Int) := by omega
  have i5 : (5 : Int) < (len : Int) := by omega
  have t1 : ((v2 : Int) != 0) = false := by simp; omega
  have t2 : ((v3 : Int) != 0) = false := by simp; omega
  have k2 := ((Below.refl w.heap.size w).alloc (Nat.le_refl _) (.cells #[.int .u16 0, .int .u8 0, .slice none 0 0] 25 (0, 0))).cell (p := ⟨b, off + 2, none⟩) hb |>.trans hc2
  have k3 := ((Below.refl w.heap.size w).alloc (Nat.le_refl _) (.cells #[.int .u16 0, .int .u8 0, .slice none 0 0] 25 (0, 0))).cell (p := ⟨b, off + 3, none⟩) hb |>.trans hc3
  have k4 := ((Below.refl w.heap.size w).alloc (Nat.le_refl _) (.cells #[.int .u16 0, .int .u8 0, .slice none 0 0] 25 (0, 0))).cell (p := ⟨b, off + 4, none⟩) hb |>.trans hc4
  have k5 := ((Below.refl w.heap.size w).alloc (Nat.le_refl _) (.cells #[.int .u16 0, .int .u8 0, .slice none 0 0] 25 (0, 0))).cell (p := ⟨b, off + 5, none⟩) hb |>.trans hc5
  go_enter Try.func12, Try.ntmps12
  go_wp2_with fail
  go_region
  all_goals
    have e : (256 : Int) * (x4 : Int) + (x5 : Int) = ((256 * x4 + x5 : Nat) : Int) := by omega
    rw [e]
    obtain ⟨m, hm⟩ : ∃ m, m = 256 * x4 + x5 := ⟨_, rfl⟩
    rw [← hm]
    have e1 : decide ((m : Int) < 2) = false := by simp; omega
    have e2 : decide ((254 : Int) < (m : Int)) = true := by simp; omega
    clear e
    go_wp2_with fail
    exact bodyPost_ret (v := .tuple #[.agg #[.int .u16 0, .int .u8 0, .slice none 0 0], .int .i64 0, .int .i64 31]) (by simp [results, Try.results12, go_sem]) rfl (HP.out _ (by first | exact al3d _ _ _ _ _ | go_grown))

set_option maxRecDepth 100000 in
set_option maxHeartbeats 4000000 in
theorem rf_sh (b off len cap : Nat) (L : List Nat) (w : World) (h6 : 6 ≤ len) (v2 : Nat) (hc2 : w.cell? ⟨b, off + 2, none⟩ = some (.int .u8 (v2 : Int))) (hb : b < w.heap.size) (v3 : Nat) (hc3 : w.cell? ⟨b, off + 3, none⟩ = some (.int .u8 (v3 : Int))) (hv : v2 = 0) (hv3 : v3 = 0) (x4 x5 : Nat) (hc4 : w.cell? ⟨b, off + 4, none⟩ = some (.int .u8 (x4 : Int))) (hc5 : w.cell? ⟨b, off + 5, none⟩ = some (.int .u8 (x5 : Int))) (l4 : x4 < 256) (l5 : x5 < 256) (hf : 2 ≤ 256 * x4 + x5) (hf2 : 256 * x4 + x5 ≤ 254) (hs : len < 6 + (256 * x4 + x5)) (hp : ∀ w', Below w.heap.size w w' → RFirstP w L (.returned (.tuple #[.agg #[.int .u16 0, .int .u8 0, .slice none 0 0], .int .i64 0, .int .i64 0])) w') :
    Calls Try.prog 12 #[.slice (some ⟨b, off, none⟩) len cap] w (RFirstP w L) := by
  have HP := Lib.hid hp
  clear hp
  have d1 : decide ((2 : Int) < (len : Int)) = true := by simp; omega
  have d2 : decide ((3 : Int) < (len : Int)) = true := by simp; omega
  have d3 : decide ((len : Int) < 6) = false := by simp; omega
  have i1 : (2 : Int) < (len : Int) := by omega
  have i2 : (3 : Int) < (len : Int) := by omega
  have i4 : (4 : Int) < (len : Int) := by omega
  have i5 : (5 : Int) < (len : Int) := by omega
  have t1 : ((v2 : Int) != 0) = false := by simp; omega
  have t2 : ((v3 : Int) != 0) = false := by simp; omega
  have k2 := ((Below.refl w.heap.size w).alloc (Nat.le_refl _) (.cells #[.int .u16 0, .int .u8 0, .slice none 0 0] 25 (0, 0))).cell (p := ⟨b, off + 2, none⟩) hb |>.trans hc2
  have k3 := ((Below.refl w.heap.size w).alloc (Nat.le_refl _) (.cells #[.int .u16 0, .int .u8 0, .slice none 0 0] 25 (0, 0))).cell (p := ⟨b, off + 3, none⟩) hb |>.trans hc3
  have k4 := ((Below.refl w.heap.size w).alloc (Nat.le_refl _) (.cells #[.int .u16 0, .int .u8 0, .slice none 0 0] 25 (0, 0))).cell (p := ⟨b, off + 4, none⟩) hb |>.trans hc4
  have k5 := ((Below.refl w.heap.size w).alloc (Nat.le_refl _) (.cells #[.int .u16 0, .int .u8 0, .slice none 0 0] 25 (0, 0))).cell (p := ⟨b, off + 5, none⟩) hb |>.trans hc5
  go_enter Try.func12, Try.ntmps12
  go_wp2_with fail
  go_region
  all_goals
    have e : (256 : Int) * (x4 : Int) + (x5 : Int) = ((256 * x4 + x5 : Nat) : Int) := by omega
    rw [e]
    obtain ⟨m, hm⟩ : ∃ m, m = 256 * x4 + x5 := ⟨_, rfl⟩
    rw [← hm]
    have e1 : decide ((m : Int) < 2) = false := by simp; omega
    have e2 : decide ((254 : Int) < (m : Int)) = false := by simp; omega
    have e3 : decide ((len : Int) < 6 + (m : Int)) = true := by simp; omega
    clear e
    go_wp2_with fail
    exact bodyPost_ret (v := .tuple #[.agg #[.int .u16 0, .int .u8 0, .slice none 0 0], .int .i64 0, .int .i64 0]) (by simp [results, Try.results12, go_sem]) rfl (HP.out _ (by first | exact al3d _ _ _ _ _ | go_grown))
end Go.Proofs.Ytnihgpaandodjaa
