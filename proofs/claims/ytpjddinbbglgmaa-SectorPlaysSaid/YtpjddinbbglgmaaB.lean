/- A new disk; a cut; a boot. -/
import Derived.Test.YtpjddinbbglgmaaA
namespace Go.Proofs.Ytpjddinbbglgmaa
set_option linter.unusedVariables false
open Go.ChangeShapes Go.WideShapes Go.ChangeAt Go.RowKit

theorem heap_setCell_same {w : World} {r k : Nat} {v : Value} {cs : Array Value} {t : TypeId} {fz : Nat × Nat} (h : w.heap[r]? = some (.cells cs t fz)) : (w.setCell ⟨r, k, none⟩ v).heap[r]? = some (.cells (cs.setIfInBounds k v) t fz) := by
  have hlt := blk_lt h
  have h' : w.heap[r] = .cells cs t fz := by simpa [Array.getElem?_eq_getElem hlt] using h
  show (w.heap.modify r _)[r]? = _
  rw [Array.getElem?_eq_getElem (by simpa using hlt), Array.getElem_modify_self, h']
  rfl
theorem heap_setCell_other {w : World} {r k q : Nat} {v : Value} (h : q ≠ r) : (w.setCell ⟨r, k, none⟩ v).heap[q]? = w.heap[q]? := Below.heap_setCell _ _ _ _ h

theorem Fr.trans {d s : Nat} {pc : Option Nat} {a b c : World} (h : Fr d s pc a b) (h' : Fr d s pc b c) : Fr d s pc a c :=
  ⟨h'.os.trans h.os, h'.tape.trans h.tape, h'.output.trans h.output, Nat.le_trans h.size h'.size, fun k hk h1 h2 h3 => (h'.block k (Nat.lt_of_lt_of_le hk h.size) h1 h2 h3).trans (h.block k hk h1 h2 h3)⟩
theorem Fr.setCell {d s : Nat} {pc : Option Nat} {a b : World} (h : Fr d s pc a b) (k : Nat) (v : Value) : Fr d s pc a (b.setCell ⟨d, k, none⟩ v) :=
  ⟨h.os, h.tape, h.output, by simpa using h.size, fun q hq h1 h2 h3 => (heap_setCell_other h1).trans (h.block q hq h1 h2 h3)⟩

theorem boot_any {B : Nat} {w : World} {d s m wr : Nat} {pc : Option Nat} {ct : Option (Nat × Nat)} {dn : Bool} {L : List Nat} (h : Dk B w d s pc m ct dn wr L) :
    Calls Try.prog 16 #[.pointer (some ⟨d, 0, none⟩)] w fun e w' => e = .returned (.tuple #[]) ∧ Dk B w' d s none m none false wr L ∧ Fr d s pc w w' := by
  have hp : Dk B ((w.setCell ⟨d, 2, none⟩ (.bool false)).setCell ⟨d, 1, none⟩ (.pointer none)) d s none m none false wr L ∧ Fr d s pc w ((w.setCell ⟨d, 2, none⟩ (.bool false)).setCell ⟨d, 1, none⟩ (.pointer none)) := by
    have hne := h.ne
    refine ⟨⟨h.hd, h.hs, (fun c e => by cases e), h.ne, ?_, ?_, .inl ⟨rfl, rfl⟩, h.len, h.m1, h.m2, h.by'⟩, ((Fr.refl ..).setCell ..).setCell ..⟩
    · rw [heap_setCell_same (heap_setCell_same h.db)]; simp
    · rw [heap_setCell_other hne.symm, heap_setCell_other hne.symm]; exact h.sb
  have c1 := h.cells.2.1
  have c2 := h.cells.2.2.1
  have f1 := (h.free 1).1
  have f2 := (h.free 2).1
  have HP := Lib.hid hp
  clear h hp
  cases pc
  all_goals
    go_enter Try.func16, Try.ntmps16
    go_wp2_with fail
    first | go_end0 | refine bodyPost_ret (results_none rfl _ _ _) rfl ?_
    exact ⟨rfl, HP.out⟩

theorem cut_no {B : Nat} {w : World} {d s m wr : Nat} {pc : Option Nat} {ct : Option (Nat × Nat)} {dn : Bool} {L : List Nat} (at' n : Int) (ha : at' < 0) :
    Calls Try.prog 14 #[.pointer (some ⟨d, 0, none⟩), .int .i64 at', .int .i64 n] w fun e w' => e = .returned (.tuple #[]) ∧ w = w' := by
  have d1 : decide (at' < 0) = true := by simpa using ha
  go_enter Try.func14, Try.ntmps14
  go_wp2_with fail
  first | go_end0 | refine bodyPost_ret (results_none rfl _ _ _) rfl ?_
  exact ⟨rfl, rfl⟩

def CutP (B : Nat) (w : World) (d s m wr : Nat) (pc : Option Nat) (dn : Bool) (L : List Nat) (at' n : Nat) (e : Ending) (w' : World) : Prop :=
  e = .returned (.tuple #[]) ∧ Dk B w' d s (some w.heap.size) m (some (at', n)) dn wr L ∧ Fr d s pc w w'

theorem cut_yes {B : Nat} {w : World} {d s m wr : Nat} {pc : Option Nat} {ct : Option (Nat × Nat)} {dn : Bool} {L : List Nat} (h : Dk B w d s pc m ct dn wr L) (hB : B ≤ w.heap.size) (at' : Nat) (n : Int) :
    Calls Try.prog 14 #[.pointer (some ⟨d, 0, none⟩), .int .i64 at', .int .i64 n] w (CutP B w d s m wr pc dn L at' (wi n 0 64).toNat) := by
  have hw : 0 ≤ wi n 0 64 ∧ wi n 0 64 ≤ 64 := by unfold wi; (repeat' split) <;> omega
  have hds := blk_lt h.db
  have hss := blk_lt h.sb
  obtain ⟨q, hq⟩ : ∃ q, q = (wi n 0 64).toNat := ⟨_, rfl⟩
  have hwq : wi n 0 64 = (q : Int) := by omega
  have hq64 : q ≤ 64 := by omega
  rw [← hq]
  have hp : CutP B w d s m wr pc dn L at' q (.returned (.tuple #[])) ((w.setCell ⟨d, 1, none⟩ (.pointer (some ⟨w.heap.size, 0, none⟩))).alloc (.cells #[.int .i64 (at' : Nat), .int .i64 (q : Nat)] 55 (0, 0))) := by
    have hne := h.ne
    have hsz : (w.setCell ⟨d, 1, none⟩ (.pointer (some ⟨w.heap.size, 0, none⟩))).heap.size = w.heap.size := by simp
    have hfr : Fr d s pc w (w.setCell ⟨d, 1, none⟩ (.pointer (some ⟨w.heap.size, 0, none⟩))) := (Fr.refl ..).setCell ..
    refine ⟨rfl, ⟨h.hd, h.hs, (fun c e => by cases e; exact ⟨hB, by omega, by omega⟩), h.ne, ?_, ?_, .inr ⟨_, (at', q), rfl, rfl, ?_, hq64⟩, h.len, h.m1, h.m2, h.by'⟩, hfr.trans (Fr.of_below ((Below.refl _ _).alloc (Nat.le_refl _) _))⟩
    · rw [heap_alloc_old _ _ (by rw [hsz]; exact hds), heap_setCell_same h.db]; simp
    · rw [heap_alloc_old _ _ (by rw [hsz]; exact hss), heap_setCell_other hne.symm]; exact h.sb
    · have := heap_alloc_new (w.setCell ⟨d, 1, none⟩ (.pointer (some ⟨w.heap.size, 0, none⟩))) (.cells #[.int .i64 (at' : Nat), .int .i64 (q : Nat)] 55 (0, 0))
      rw [hsz] at this
      exact this
  have c1 := h.cells.2.1
  have f1 := (h.free 1).1
  have d1 : decide ((at' : Int) < 0) = false := decide_eq_false (by omega)
  have HP := Lib.hid hp
  have HW := Lib.hid hwq
  clear h hp hw hwq hq
  cases pc
  all_goals
    go_enter Try.func14, Try.ntmps14
    go_wp2_with fail
    refine (within_any n 0 64 _).mono ?_
    rintro e w1 ⟨rfl, rfl⟩
    rw [HW.out]
    go_wp2_with fail
    first | go_end0 | refine bodyPost_ret (results_none rfl _ _ _) rfl ?_
    exact HP.out

theorem info53 : (Try.prog.info? 53).map (fun i => (i.zero, i.size, i.bytes)) = some (some (.agg (Array.replicate 64 (.int .u8 0))), 64, 64) := by kernel_rfl

theorem made_zero (n : Nat) : (madeCells (Array.replicate 64 (.int .u8 0)) n).toList = bv (List.replicate n 0) := by
  have h1 : ∀ k : Nat, (Array.replicate 64 (Value.int .u8 0))[k % 64]! = Value.int .u8 0 := by
    intro k
    have hk : k % 64 < 64 := Nat.mod_lt _ (by omega)
    simp [hk]
  simp only [madeCells, Array.size_replicate, h1]
  simp [bv, List.map_const']

theorem new_any (n : Int) (w : World) :
    Calls Try.prog 9 #[.int .i64 n] w fun e w' => ∃ d, e = .returned (.pointer (some ⟨d, 0, none⟩)) ∧ Dk w.heap.size w' d w.heap.size none (wi n 1 256).toNat none false 0 (List.replicate ((wi n 1 256).toNat * 64) 0) ∧ Below w.heap.size w w' := by
  have hw : 1 ≤ wi n 1 256 ∧ wi n 1 256 ≤ 256 := by unfold wi; (repeat' split) <;> omega
  obtain ⟨m, hm⟩ : ∃ m, m = (wi n 1 256).toNat := ⟨_, rfl⟩
  have hwm : wi n 1 256 = (m : Int) := by omega
  have hm1 : 1 ≤ m := by omega
  have hm2 : m ≤ 256 := by omega
  rw [← hm]
  have HW := Lib.hid hwm
  clear hw hwm hm
  obtain ⟨ti, hi, hz0, hz1, hz2⟩ := info_parts info53
  go_enter Try.func9, Try.ntmps9
  go_wp2_with fail
  refine (within_any n 1 256 _).mono ?_
  rintro e w1 ⟨rfl, rfl⟩
  rw [HW.out]
  go_wp2_with (at_make; refine wpList_make_full _ rfl (.tmp 4) (.tmp 4) 43 rfl w.heap.size 53 ti (.agg (Array.replicate 64 (.int .u8 0))) 64 Try.underlying43 hi hz0 hz1 .i64 .i64 _ _ m rfl rfl ?c1 ?c2 ?c3 ?c4 (Nat.le_refl _) ?_)
  case c1 => rfl
  case c2 => rfl
  case c3 => rw [hz2]; omega
  case c4 => unfold maxLen; omega
  intro w2 ho2 hg2
  have hb2 : Below w.heap.size w w2 := (Below.refl _ _).grown hg2 (Nat.le_refl _) (fun k e => by cases e)
  obtain ⟨_, ⟨hv, _⟩ | ⟨g', cap', cur, hv, hgB, hgb, hgl, hgm, hgs, hgt⟩⟩ := ho2
  · simp at hv
  simp only [Value.slice.injEq, Option.some.injEq, Addr.mk.injEq, true_and, and_true] at hv
  obtain ⟨rfl, rfl⟩ := hv
  rw [List.take_of_length_le (by simpa using Nat.le_of_eq hgs), made_zero] at hgt
  have hgb' : w2.heap[w.heap.size]? = some (.cells (bv (List.replicate (m * 64) 0)).toArray 53 (0, 0)) := by rw [hgb, ← hgt]
  have hlt2 := blk_lt hgb'
  have hP : Dk w.heap.size (w2.alloc (.cells #[.slice (some ⟨w.heap.size, 0, none⟩) m m, .pointer none, .bool false, .int .i64 0] 47 (0, 0))) w2.heap.size w.heap.size none m none false 0 (List.replicate (m * 64) 0) ∧ Below w.heap.size w (w2.alloc (.cells #[.slice (some ⟨w.heap.size, 0, none⟩) m m, .pointer none, .bool false, .int .i64 0] 47 (0, 0))) :=
    ⟨⟨hb2.size, Nat.le_refl _, (fun c e => by cases e), by omega, heap_alloc_new w2 _, (heap_alloc_old w2 _ hlt2).trans hgb', .inl ⟨rfl, rfl⟩, by simp, hm1, hm2, by intro b hb; rw [List.mem_replicate] at hb; omega⟩, hb2.alloc hb2.size _⟩
  have HP := Lib.hid hP
  clear hP hgb hgb' hgt hgs hb2 hg2
  go_wp2_with fail
  go_ret
  exact ⟨_, rfl, HP.out⟩

end Go.Proofs.Ytpjddinbbglgmaa
