/- The document's disk: where it lies, and its small answers. -/
import Derived.Test.YtpjddinbbglgmaaR
import Derived.Test.YtpjddinbbglgmaaH
import Derived.Test.YtpjddinbbglgmaaL
import Derived.Lib.ConvBytes
namespace Go.Proofs.Ytpjddinbbglgmaa
set_option linter.unusedVariables false
set_option linter.unusedSimpArgs false
open Go.ChangeShapes Go.WideShapes Go.ChangeAt Go.RowKit

theorem strN_app (a b : List Nat) : strN a ++ strN b = strN (a ++ b) := by
  apply ByteArray.ext
  simp [strN, strOfNums, ByteArray.data_append]
theorem strN_size (a : List Nat) : (strN a).size = a.length := by simp [strN, strOfNums_size]
theorem strN_to (a : List Nat) (n : Nat) : (strN a).extract 0 n = strN (a.take n) := by
  apply ByteArray.ext
  simp [strN, strOfNums, ByteArray.data_extract, List.map_take]
theorem strN_from (a : List Nat) (n k : Nat) (hk : a.length ≤ k) : (strN a).extract n k = strN (a.drop n) := by
  apply ByteArray.ext
  simp [strN, strOfNums, ByteArray.data_extract, List.map_drop]
  rw [List.take_of_length_le (by simp; omega)]

def afV : Option (Nat × Nat) → Int
  | none => -1
  | some x => (x.1 : Int)

/-- The document's disk: two blocks. -/
structure Rk (B : Nat) (w : World) (p g c m : Nat) (ct : Option (Nat × Nat)) (dn : Bool) (wr : Nat) (L : List Nat) : Prop where
  hp : B ≤ p
  hg : B ≤ g
  ne : p ≠ g
  pb : ∃ (by' : Nat) (torn : Int) (was meant : ByteArray), w.heap[p]? = some (.cells #[.slice (some ⟨g, 0, none⟩) m c, .bool dn, .int .i64 (afV ct), .int .i64 (by' : Int), .int .i64 (wr : Int), .int .i64 torn, .string was, .string meant] 50 (0, 0)) ∧ by' ≤ 64 ∧ (∀ x, ct = some x → by' = x.2)
  gb : ∃ cur, w.heap[g]? = some (.cells cur 9 (0, 0)) ∧ ∀ i, i < m → cur[i]? = some (.string (strN (sec L i)))
  len : L.length = m * 64
  m1 : 1 ≤ m
  m2 : m ≤ 256
  by' : ∀ b ∈ L, b < 256

theorem Rk.below {B : Nat} {w w' : World} {p g c m wr : Nat} {ct : Option (Nat × Nat)} {dn : Bool} {L : List Nat} (h : Rk B w p g c m ct dn wr L) (hb : Below w.heap.size w w') : Rk B w' p g c m ct dn wr L := by
  obtain ⟨b, t, wa, me, hpb, h2, h3⟩ := h.pb
  obtain ⟨cur, hgb, h4⟩ := h.gb
  exact ⟨h.hp, h.hg, h.ne, ⟨b, t, wa, me, (hb.block p (blk_lt hpb)).trans hpb, h2, h3⟩, ⟨cur, (hb.block g (blk_lt hgb)).trans hgb, h4⟩, h.len, h.m1, h.m2, h.by'⟩
theorem Rk.lt {B : Nat} {w : World} {p g c m wr : Nat} {ct : Option (Nat × Nat)} {dn : Bool} {L : List Nat} (h : Rk B w p g c m ct dn wr L) : p < w.heap.size ∧ g < w.heap.size := by
  obtain ⟨b, t, wa, me, hpb, h2, h3⟩ := h.pb
  obtain ⟨cur, hgb, h4⟩ := h.gb
  exact ⟨blk_lt hpb, blk_lt hgb⟩
theorem obj_ty {w : World} {a b : Nat} {c1 c2 : Array Value} {t1 t2 : TypeId} {f1 f2 : Nat × Nat} (h1 : w.heap[a]? = some (.cells c1 t1 f1)) (h2 : w.heap[b]? = some (.cells c2 t2 f2)) (ht : t1 ≠ t2) : a ≠ b := by
  rintro rfl
  rw [h1] at h2
  simp at h2
  exact ht h2.2.1
/-- The two disks lie apart. -/
theorem apart {B B' : Nat} {w : World} {d s : Nat} {pc : Option Nat} {m wr : Nat} {ct : Option (Nat × Nat)} {dn : Bool} {L : List Nat} (h : Dk B w d s pc m ct dn wr L) {p g c m' wr' : Nat} {ct' : Option (Nat × Nat)} {dn' : Bool} {L' : List Nat} (k : Rk B' w p g c m' ct' dn' wr' L') :
    (p ≠ d ∧ p ≠ s ∧ some p ≠ pc) ∧ (g ≠ d ∧ g ≠ s ∧ some g ≠ pc) := by
  obtain ⟨b, t, wa, me, hpb, h2, h3⟩ := k.pb
  obtain ⟨cur, hgb, h4⟩ := k.gb
  refine ⟨⟨obj_ty hpb h.db (by decide), obj_ty hpb h.sb (by decide), ?_⟩, ⟨obj_ty hgb h.db (by decide), obj_ty hgb h.sb (by decide), ?_⟩⟩
  · rintro rfl
    rcases h.cb with ⟨e, _⟩ | ⟨c, x, e, _, hc, _⟩
    · cases e
    · cases e; exact obj_ty hpb hc (by decide) rfl
  · rintro rfl
    rcases h.cb with ⟨e, _⟩ | ⟨c, x, e, _, hc, _⟩
    · cases e
    · cases e; exact obj_ty hgb hc (by decide) rfl
theorem Rk.fr {B B' : Nat} {w w' : World} {d s : Nat} {pc : Option Nat} {m wr : Nat} {ct : Option (Nat × Nat)} {dn : Bool} {L : List Nat} (h : Dk B w d s pc m ct dn wr L) {p g c m' wr' : Nat} {ct' : Option (Nat × Nat)} {dn' : Bool} {L' : List Nat} (k : Rk B' w p g c m' ct' dn' wr' L') (f : Fr d s pc w w') : Rk B' w' p g c m' ct' dn' wr' L' := by
  obtain ⟨⟨a1, a2, a3⟩, b1, b2, b3⟩ := apart h k
  obtain ⟨b, t, wa, me, hpb, h2, h3⟩ := k.pb
  obtain ⟨cur, hgb, h4⟩ := k.gb
  exact ⟨k.hp, k.hg, k.ne, ⟨b, t, wa, me, (f.block p (blk_lt hpb) a1 a2 a3).trans hpb, h2, h3⟩, ⟨cur, (f.block g (blk_lt hgb) b1 b2 b3).trans hgb, h4⟩, k.len, k.m1, k.m2, k.by'⟩
theorem Dk.fr {B B' : Nat} {w w' : World} {d s : Nat} {pc : Option Nat} {m wr : Nat} {ct : Option (Nat × Nat)} {dn : Bool} {L : List Nat} (h : Dk B w d s pc m ct dn wr L) {p g c m' wr' : Nat} {ct' : Option (Nat × Nat)} {dn' : Bool} {L' : List Nat} (k : Rk B' w p g c m' ct' dn' wr' L') (f : Fr p g none w w') : Dk B w' d s pc m ct dn wr L := by
  obtain ⟨⟨a1, a2, a3⟩, b1, b2, b3⟩ := apart h k
  refine ⟨h.hd, h.hs, h.hc, h.ne, (f.block d (blk_lt h.db) a1.symm b1.symm (by simp)).trans h.db, (f.block s (blk_lt h.sb) a2.symm b2.symm (by simp)).trans h.sb, ?_, h.len, h.m1, h.m2, h.by'⟩
  rcases h.cb with hn | ⟨c, x, e1, e2, e3, e4⟩
  · exact .inl hn
  · exact .inr ⟨c, x, e1, e2, (f.block c (blk_lt e3) (fun e => a3 (by rw [e1, e])) (fun e => b3 (by rw [e1, e])) (by simp)).trans e3, e4⟩
theorem Rk.step {B : Nat} {w w' : World} {p g c m wr : Nat} {ct : Option (Nat × Nat)} {dn : Bool} {L : List Nat} (h : Rk B w p g c m ct dn wr L) (f : Fr p g none w w') : Below B w w' :=
  f.below h.hp h.hg (fun c e => by cases e) (by have := h.lt.1; have := h.hp; omega)
theorem Fr.setS {d s : Nat} {pc : Option Nat} {a b : World} (h : Fr d s pc a b) (k : Nat) (v : Value) : Fr d s pc a (b.setCell ⟨s, k, none⟩ v) :=
  ⟨h.os, h.tape, h.output, by simpa using h.size, fun q hq h1 h2 h3 => (heap_setCell_other h2).trans (h.block q hq h1 h2 h3)⟩

structure R8 (w : World) (p g m c : Nat) (dn : Bool) (af : Int) (by' wr : Nat) (torn : Int) (was meant : ByteArray) : Prop where
  c0 : w.cell? ⟨p, 0, none⟩ = some (.slice (some ⟨g, 0, none⟩) m c)
  c1 : w.cell? ⟨p, 1, none⟩ = some (.bool dn)
  c2 : w.cell? ⟨p, 2, none⟩ = some (.int .i64 af)
  c3 : w.cell? ⟨p, 3, none⟩ = some (.int .i64 (by' : Int))
  c4 : w.cell? ⟨p, 4, none⟩ = some (.int .i64 (wr : Int))
  c5 : w.cell? ⟨p, 5, none⟩ = some (.int .i64 torn)
  c6 : w.cell? ⟨p, 6, none⟩ = some (.string was)
  c7 : w.cell? ⟨p, 7, none⟩ = some (.string meant)
  fz : ∀ k, w.frozen? ⟨p, k, none⟩ = false
theorem r8 {w : World} {p g m c : Nat} {dn : Bool} {af : Int} {by' wr : Nat} {torn : Int} {was meant : ByteArray} (h : w.heap[p]? = some (.cells #[.slice (some ⟨g, 0, none⟩) m c, .bool dn, .int .i64 af, .int .i64 (by' : Int), .int .i64 (wr : Int), .int .i64 torn, .string was, .string meant] 50 (0, 0))) : R8 w p g m c dn af by' wr torn was meant := by
  constructor <;> simp [World.cell?, World.frozen?, h]

theorem rdown_any {B : Nat} {w : World} {p g c m wr : Nat} {ct : Option (Nat × Nat)} {dn : Bool} {L : List Nat} (h : Rk B w p g c m ct dn wr L) :
    Calls Try.prog 21 #[.pointer (some ⟨p, 0, none⟩)] w fun e w' => e = .returned (.bool dn) ∧ w = w' := by
  obtain ⟨b, t, wa, me, hpb, h2, h3⟩ := h.pb
  have c1 := (r8 hpb).c1
  clear h hpb h3 h2
  go_enter Try.func21, Try.ntmps21
  go_wp2_with fail
  go_ret
  exact ⟨rfl, rfl⟩
theorem rwrites_any {B : Nat} {w : World} {p g c m wr : Nat} {ct : Option (Nat × Nat)} {dn : Bool} {L : List Nat} (h : Rk B w p g c m ct dn wr L) :
    Calls Try.prog 23 #[.pointer (some ⟨p, 0, none⟩)] w fun e w' => e = .returned (.int .i64 wr) ∧ w = w' := by
  obtain ⟨b, t, wa, me, hpb, h2, h3⟩ := h.pb
  have c1 := (r8 hpb).c4
  clear h hpb h3 h2
  go_enter Try.func23, Try.ntmps23
  go_wp2_with fail
  go_ret
  exact ⟨rfl, rfl⟩
theorem rmany_any {B : Nat} {w : World} {p g c m wr : Nat} {ct : Option (Nat × Nat)} {dn : Bool} {L : List Nat} (h : Rk B w p g c m ct dn wr L) :
    Calls Try.prog 25 #[.pointer (some ⟨p, 0, none⟩)] w fun e w' => e = .returned (.int .i64 m) ∧ w = w' := by
  obtain ⟨b, t, wa, me, hpb, h2, h3⟩ := h.pb
  have c1 := (r8 hpb).c0
  clear h hpb h3 h2
  go_enter Try.func25, Try.ntmps25
  go_wp2_with fail
  go_ret
  exact ⟨rfl, rfl⟩
theorem rboot_any {B : Nat} {w : World} {p g c m wr : Nat} {ct : Option (Nat × Nat)} {dn : Bool} {L : List Nat} (h : Rk B w p g c m ct dn wr L) :
    Calls Try.prog 17 #[.pointer (some ⟨p, 0, none⟩)] w fun e w' => e = .returned (.tuple #[]) ∧ Rk B w' p g c m none false wr L ∧ Fr p g none w w' := by
  obtain ⟨b, t, wa, me, hpb, h2, h3⟩ := h.pb
  obtain ⟨cur, hgb, h4⟩ := h.gb
  have hP : Rk B ((w.setCell ⟨p, 1, none⟩ (.bool false)).setCell ⟨p, 2, none⟩ (.int .i64 (-1))) p g c m none false wr L ∧ Fr p g none w ((w.setCell ⟨p, 1, none⟩ (.bool false)).setCell ⟨p, 2, none⟩ (.int .i64 (-1))) := by
    refine ⟨⟨h.hp, h.hg, h.ne, ⟨b, t, wa, me, ?_, h2, fun x e => by cases e⟩, ⟨cur, ?_, h4⟩, h.len, h.m1, h.m2, h.by'⟩, ((Fr.refl ..).setCell ..).setCell ..⟩
    · rw [heap_setCell_same (heap_setCell_same hpb)]; simp [afV]
    · rw [heap_setCell_other h.ne.symm, heap_setCell_other h.ne.symm]; exact hgb
  have q1 := (r8 hpb).c1
  have q2 := (r8 hpb).c2
  have f1 := (r8 hpb).fz 1
  have f2 := (r8 hpb).fz 2
  have HP := Lib.hid hP
  clear hP h hpb h2 h3 hgb h4
  go_enter Try.func17, Try.ntmps17
  go_wp2_with fail
  first | go_end0 | refine bodyPost_ret (results_none rfl _ _ _) rfl ?_
  exact ⟨rfl, HP.out⟩
theorem rcut_no {w : World} {p : Nat} (at' n : Int) (ha : at' < 0) :
    Calls Try.prog 15 #[.pointer (some ⟨p, 0, none⟩), .int .i64 at', .int .i64 n] w fun e w' => e = .returned (.tuple #[]) ∧ w = w' := by
  have d1 : decide (0 ≤ at') = false := by simp; omega
  go_enter Try.func15, Try.ntmps15
  go_wp2_with fail
  first | go_end0 | refine bodyPost_ret (results_none rfl _ _ _) rfl ?_
  exact ⟨rfl, rfl⟩
theorem rcut_yes {B : Nat} {w : World} {p g c m wr : Nat} {ct : Option (Nat × Nat)} {dn : Bool} {L : List Nat} (h : Rk B w p g c m ct dn wr L) (at' : Nat) (n : Int) :
    Calls Try.prog 15 #[.pointer (some ⟨p, 0, none⟩), .int .i64 (at' : Int), .int .i64 n] w fun e w' => e = .returned (.tuple #[]) ∧ Rk B w' p g c m (some (at', (wi n 0 64).toNat)) dn wr L ∧ Fr p g none w w' := by
  obtain ⟨b, t, wa, me, hpb, h2, h3⟩ := h.pb
  obtain ⟨cur, hgb, h4⟩ := h.gb
  have hw : 0 ≤ wi n 0 64 ∧ wi n 0 64 ≤ 64 := by unfold wi; (repeat' split) <;> omega
  have hP : ∀ y : Int, y = wi n 0 64 → Rk B ((w.setCell ⟨p, 2, none⟩ (.int .i64 (at' : Int))).setCell ⟨p, 3, none⟩ (.int .i64 y)) p g c m (some (at', (wi n 0 64).toNat)) dn wr L ∧ Fr p g none w ((w.setCell ⟨p, 2, none⟩ (.int .i64 (at' : Int))).setCell ⟨p, 3, none⟩ (.int .i64 y)) := by
    intro y hy
    refine ⟨⟨h.hp, h.hg, h.ne, ⟨(wi n 0 64).toNat, t, wa, me, ?_, by omega, fun x e => by cases e; rfl⟩, ⟨cur, ?_, h4⟩, h.len, h.m1, h.m2, h.by'⟩, ((Fr.refl ..).setCell ..).setCell ..⟩
    · rw [heap_setCell_same (heap_setCell_same hpb), hy]
      have : ((wi n 0 64).toNat : Int) = wi n 0 64 := by omega
      rw [this]
      simp [afV]
    · rw [heap_setCell_other h.ne.symm, heap_setCell_other h.ne.symm]; exact hgb
  have q1 := (r8 hpb).c2
  have q2 := (r8 hpb).c3
  have f1 := (r8 hpb).fz 2
  have f2 := (r8 hpb).fz 3
  have HP := Lib.hid hP
  have d1 : decide (0 ≤ (at' : Int)) = true := by simp
  clear hP h hpb h2 h3 hgb h4 hw
  go_enter Try.func15, Try.ntmps15
  go_wp2_with fail
  all_goals
    first | go_end0 | refine bodyPost_ret (results_none rfl _ _ _) rfl ?_
    exact ⟨rfl, HP.out _ (by unfold wi; (repeat' split) <;> omega)⟩
end Go.Proofs.Ytpjddinbbglgmaa
