/- A queue as two lists, and what its calls do to it. -/
import Derived.Test.YtbonifmhlbakbaaChA
import Derived.Test.YtbonifmhlbakbaaChB
namespace Go.Proofs.Ytbonifmhlbakbaa
set_option linter.unusedVariables false
open Go.ChangeShapes Go.WideShapes Go.ChangeAt Go.RowKit Go.Conc

theorem bcell {W w1 : World} (hb : Below W.heap.size W w1) : (∀ b o, b < W.heap.size → w1.cell? ⟨b, o, none⟩ = W.cell? ⟨b, o, none⟩) ∧ (∀ b o, b < W.heap.size → w1.frozen? ⟨b, o, none⟩ = W.frozen? ⟨b, o, none⟩) :=
  ⟨fun b o h => hb.cell (p := ⟨b, o, none⟩) h, fun b o h => hb.frozen (p := ⟨b, o, none⟩) h⟩

theorem setChan_other (w : World) (c c' cap : Nat) (buf : Array Value) (closed : Bool) (s r : Nat) (tm : Bool) (h : c ≠ c') : (w.setChan c cap buf closed s r tm).heap[c']? = w.heap[c']? := by
  simp [World.setChan, Array.getElem?_setIfInBounds_ne h]
theorem cell_setChan (w : World) (c cap : Nat) (buf : Array Value) (closed : Bool) (s r : Nat) (tm : Bool) (d o : Nat) (h : c ≠ d) : (w.setChan c cap buf closed s r tm).cell? ⟨d, o, none⟩ = w.cell? ⟨d, o, none⟩ := by
  simp only [World.cell?, setChan_other w c d cap buf closed s r tm h]

/-- A queue: what waits in its two channels. -/
structure Q (B : Nat) (w : World) (d cu co n : Nat) (U O : List Value) : Prop where
  hd : B ≤ d
  hu : B ≤ cu
  ho : B ≤ co
  dlt : d < w.heap.size
  ult : cu < w.heap.size
  olt : co < w.heap.size
  ne : cu ≠ co
  nu : cu ≠ d
  no : co ≠ d
  c0 : w.cell? ⟨d, 0, none⟩ = some (.chan (some cu))
  c1 : w.cell? ⟨d, 1, none⟩ = some (.chan (some co))
  ku : ∃ s r, w.heap[cu]? = some (.chan n U.toArray false s r false)
  ko : ∃ s r, w.heap[co]? = some (.chan n O.toArray false s r false)
  lu : U.length ≤ n
  lo : O.length ≤ n

theorem Q.below {B : Nat} {w w' : World} {d cu co n : Nat} {U O : List Value} (h : Q B w d cu co n U O) (hb : Below w.heap.size w w') : Q B w' d cu co n U O :=
  ⟨h.hd, h.hu, h.ho, Nat.lt_of_lt_of_le h.dlt hb.size, Nat.lt_of_lt_of_le h.ult hb.size, Nat.lt_of_lt_of_le h.olt hb.size, h.ne, h.nu, h.no, (hb.cell (p := ⟨d, 0, none⟩) h.dlt).trans h.c0, (hb.cell (p := ⟨d, 1, none⟩) h.dlt).trans h.c1,
    (by obtain ⟨s, r, e⟩ := h.ku; exact ⟨s, r, (hb.block cu h.ult).trans e⟩), (by obtain ⟨s, r, e⟩ := h.ko; exact ⟨s, r, (hb.block co h.olt).trans e⟩), h.lu, h.lo⟩

theorem Q.setU {B : Nat} {w : World} {d cu co n : Nat} {U O : List Value} (h : Q B w d cu co n U O) (U' : List Value) (hl : U'.length ≤ n) (bu : Array Value) (hbu : bu = U'.toArray) (s r : Nat) :
    Q B (w.setChan cu n bu false s r false) d cu co n U' O ∧ Below B w (w.setChan cu n bu false s r false) := by
  subst hbu
  refine ⟨⟨h.hd, h.hu, h.ho, by rw [size_setChan]; exact h.dlt, by rw [size_setChan]; exact h.ult, by rw [size_setChan]; exact h.olt, h.ne, h.nu, h.no, (cell_setChan _ _ _ _ _ _ _ _ _ _ h.nu).trans h.c0, (cell_setChan _ _ _ _ _ _ _ _ _ _ h.nu).trans h.c1, ⟨s, r, heap_setChan _ _ _ _ _ _ _ _ h.ult⟩, ?_, hl, h.lo⟩, below_setChan (Below.refl _ _) h.hu _ _ _ _ _ _⟩
  obtain ⟨s', r', e⟩ := h.ko
  exact ⟨s', r', (setChan_other _ _ _ _ _ _ _ _ _ h.ne).trans e⟩

theorem Q.setO {B : Nat} {w : World} {d cu co n : Nat} {U O : List Value} (h : Q B w d cu co n U O) (O' : List Value) (hl : O'.length ≤ n) (bu : Array Value) (hbu : bu = O'.toArray) (s r : Nat) :
    Q B (w.setChan co n bu false s r false) d cu co n U O' ∧ Below B w (w.setChan co n bu false s r false) := by
  subst hbu
  refine ⟨⟨h.hd, h.hu, h.ho, by rw [size_setChan]; exact h.dlt, by rw [size_setChan]; exact h.ult, by rw [size_setChan]; exact h.olt, h.ne, h.nu, h.no, (cell_setChan _ _ _ _ _ _ _ _ _ _ h.no).trans h.c0, (cell_setChan _ _ _ _ _ _ _ _ _ _ h.no).trans h.c1, ?_, ⟨s, r, heap_setChan _ _ _ _ _ _ _ _ h.olt⟩, h.lu, hl⟩, below_setChan (Below.refl _ _) h.ho _ _ _ _ _ _⟩
  obtain ⟨s', r', e⟩ := h.ku
  exact ⟨s', r', (setChan_other _ _ _ _ _ _ _ _ _ (Ne.symm h.ne)).trans e⟩

def room (n : Nat) (L : List Value) : Bool := decide (L.length < n)
def pushL (n : Nat) (L : List Value) (v : Value) : List Value := if L.length < n then L ++ [v] else L
theorem pushL_le {n : Nat} {L : List Value} {v : Value} (h : L.length ≤ n) : (pushL n L v).length ≤ n := by unfold pushL; split <;> (try rw [List.length_append]) <;> (try simp only [List.length_cons, List.length_nil]) <;> omega

/-- How many may wait. -/
def cl (n : Int) : Nat := (if n < 1 then 1 else if 64 < n then 64 else n).toNat
theorem cl_bd (n : Int) : 1 ≤ cl n ∧ cl n ≤ 64 := by unfold cl; repeat' split
                                                     all_goals omega

theorem q_new (w : World) (m cu co : Nat) (ty : TypeId) (h : (cu = w.heap.size ∧ co = w.heap.size + 1) ∨ (cu = w.heap.size + 1 ∧ co = w.heap.size)) :
    Q w.heap.size ((((w.alloc (.chan m #[] false 0 0 false)).alloc (.chan m #[] false 0 0 false)).alloc (.cells #[.chan (some cu), .chan (some co)] ty (0, 0))).drew) (w.heap.size + 1 + 1) cu co m [] [] ∧
    Below w.heap.size w ((((w.alloc (.chan m #[] false 0 0 false)).alloc (.chan m #[] false 0 0 false)).alloc (.cells #[.chan (some cu), .chan (some co)] ty (0, 0))).drew) := by
  have k0 : ((((w.alloc (.chan m #[] false 0 0 false)).alloc (.chan m #[] false 0 0 false)).alloc (.cells #[.chan (some cu), .chan (some co)] ty (0, 0))).drew).heap[w.heap.size]? = some (.chan m #[] false 0 0 false) := by
    show (((w.alloc _).alloc _).alloc _).heap[w.heap.size]? = _
    rw [Below.heap_alloc _ _ _ (by simp; omega), Below.heap_alloc _ _ _ (by simp)]
    exact heap_alloc_new w _
  have k1 : ((((w.alloc (.chan m #[] false 0 0 false)).alloc (.chan m #[] false 0 0 false)).alloc (.cells #[.chan (some cu), .chan (some co)] ty (0, 0))).drew).heap[w.heap.size + 1]? = some (.chan m #[] false 0 0 false) := by
    show (((w.alloc _).alloc _).alloc _).heap[w.heap.size + 1]? = _
    rw [Below.heap_alloc _ _ _ (by simp)]
    have := heap_alloc_new (w.alloc (.chan m #[] false 0 0 false)) (.chan m #[] false 0 0 false)
    simpa only [World.size_alloc] using this
  have k2 : ((((w.alloc (.chan m #[] false 0 0 false)).alloc (.chan m #[] false 0 0 false)).alloc (.cells #[.chan (some cu), .chan (some co)] ty (0, 0))).drew).heap[w.heap.size + 1 + 1]? = some (.cells #[.chan (some cu), .chan (some co)] ty (0, 0)) := by
    show (((w.alloc _).alloc _).alloc _).heap[w.heap.size + 1 + 1]? = _
    have := heap_alloc_new ((w.alloc (.chan m #[] false 0 0 false)).alloc (.chan m #[] false 0 0 false)) (.cells #[.chan (some cu), .chan (some co)] ty (0, 0))
    simpa only [World.size_alloc] using this
  refine ⟨⟨by omega, by omega, by omega, by simp, by simp; omega, by simp; omega, by omega, by omega, by omega, by unfold World.cell?; simp only [k2]; rfl, by unfold World.cell?; simp only [k2]; rfl, ?_, ?_, Nat.zero_le _, Nat.zero_le _⟩, by go_grown⟩
  · rcases h with ⟨rfl, rfl⟩ | ⟨rfl, rfl⟩
    · exact ⟨0, 0, k0⟩
    · exact ⟨0, 0, k1⟩
  · rcases h with ⟨rfl, rfl⟩ | ⟨rfl, rfl⟩
    · exact ⟨0, 0, k1⟩
    · exact ⟨0, 0, k0⟩

theorem cl_1 (n : Int) (h : n ≤ 1) : cl n = 1 := by unfold cl; (repeat' split) <;> omega
theorem cl_64 (n : Int) (h : 64 < n) : cl n = 64 := by unfold cl; (repeat' split) <;> omega
theorem cl_m (m : Nat) (h : 1 ≤ m) (h' : m ≤ 64) : cl m = m := by unfold cl; (repeat' split) <;> omega

theorem put_int_u (x : Int) {B : Nat} {w : World} {d cu co n : Nat} {U O : List Value} (h : Q B w d cu co n U O) :
    Calls Try.prog 15 #[.pointer (some ⟨d, 0, none⟩), .bool true, .int .i64 x] w fun e w' => e = .returned (.bool (room n U)) ∧ Q B w' d cu co n (pushL n U (.int .i64 x)) O ∧ Below B w w' := by
  obtain ⟨s, r, hk⟩ := h.ku
  by_cases hr : U.length < n
  · rw [show room n U = true by simp [room, hr], show pushL n U (.int .i64 x) = U ++ [.int .i64 x] by simp [pushL, hr]]
    refine (put_int_u_room d cu co n s r U.toArray x w h.c0 h.c1 hk (by simpa using hr)).mono ?_
    rintro e w' ⟨rfl, rfl⟩
    exact ⟨rfl, h.setU _ (by simp; omega) _ (by simp) _ _⟩
  · rw [show room n U = false by simp [room, hr], show pushL n U (.int .i64 x) = U by simp [pushL, hr]]
    refine (put_int_u_full d cu co n s r U.toArray x w h.c0 h.c1 hk (by simp; omega)).mono ?_
    rintro e w' ⟨rfl, rfl⟩
    exact ⟨rfl, h, Below.refl _ _⟩

theorem put_int_o (x : Int) {B : Nat} {w : World} {d cu co n : Nat} {U O : List Value} (h : Q B w d cu co n U O) :
    Calls Try.prog 15 #[.pointer (some ⟨d, 0, none⟩), .bool false, .int .i64 x] w fun e w' => e = .returned (.bool (room n O)) ∧ Q B w' d cu co n U (pushL n O (.int .i64 x)) ∧ Below B w w' := by
  obtain ⟨s, r, hk⟩ := h.ko
  by_cases hr : O.length < n
  · rw [show room n O = true by simp [room, hr], show pushL n O (.int .i64 x) = O ++ [.int .i64 x] by simp [pushL, hr]]
    refine (put_int_o_room d cu co n s r O.toArray x w h.c0 h.c1 hk (by simpa using hr)).mono ?_
    rintro e w' ⟨rfl, rfl⟩
    exact ⟨rfl, h.setO _ (by simp; omega) _ (by simp) _ _⟩
  · rw [show room n O = false by simp [room, hr], show pushL n O (.int .i64 x) = O by simp [pushL, hr]]
    refine (put_int_o_full d cu co n s r O.toArray x w h.c0 h.c1 hk (by simp; omega)).mono ?_
    rintro e w' ⟨rfl, rfl⟩
    exact ⟨rfl, h, Below.refl _ _⟩

theorem take_int_u' (x : Int) {B : Nat} {w : World} {d cu co n : Nat} {U O : List Value} (h : Q B w d cu co n (.int .i64 x :: U) O) :
    Calls Try.prog 11 #[.pointer (some ⟨d, 0, none⟩)] w fun e w' => e = .returned (.tuple #[.int .i64 x, .bool true]) ∧ Q B w' d cu co n U O ∧ Below B w w' := by
  obtain ⟨s, r, hk⟩ := h.ku
  refine (take_int_u d cu co n s r 0 0 (.int .i64 x :: U).toArray x w h.c0 h.c1 hk (by simp) (by simp)).mono ?_
  rintro e w' ⟨rfl, rfl⟩
  have := h.lu
  exact ⟨rfl, h.setU U (by simp at this; omega) _ (by simp) _ _⟩

theorem take_int_o' (x : Int) {B : Nat} {w : World} {d cu co n : Nat} {O : List Value} (h : Q B w d cu co n [] (.int .i64 x :: O)) :
    Calls Try.prog 11 #[.pointer (some ⟨d, 0, none⟩)] w fun e w' => e = .returned (.tuple #[.int .i64 x, .bool true]) ∧ Q B w' d cu co n [] O ∧ Below B w w' := by
  obtain ⟨s, r, hk⟩ := h.ku
  obtain ⟨s', r', hk'⟩ := h.ko
  refine (take_int_o d cu co n s r s' r' (.int .i64 x :: O).toArray x w h.c0 h.c1 hk hk' (by simp) (by simp)).mono ?_
  rintro e w' ⟨rfl, rfl⟩
  have := h.lo
  exact ⟨rfl, h.setO O (by simp at this; omega) _ (by simp) _ _⟩

theorem take_int_n' {B : Nat} {w : World} {d cu co n : Nat} (h : Q B w d cu co n [] []) :
    Calls Try.prog 11 #[.pointer (some ⟨d, 0, none⟩)] w fun e w' => e = .returned (.tuple #[.int .i64 0, .bool false]) ∧ Q B w' d cu co n [] [] ∧ Below B w w' := by
  obtain ⟨s, r, hk⟩ := h.ku
  obtain ⟨s', r', hk'⟩ := h.ko
  refine (take_int_n d cu co n s r s' r' #[] 0 w h.c0 h.c1 hk hk').mono ?_
  rintro e w' ⟨rfl, rfl⟩
  exact ⟨rfl, h, Below.refl _ _⟩

theorem many_int {B : Nat} {w : World} {d cu co n : Nat} {U O : List Value} (h : Q B w d cu co n U O) :
    Calls Try.prog 17 #[.pointer (some ⟨d, 0, none⟩)] w fun e w' => e = .returned (.tuple #[.int .i64 U.length, .int .i64 O.length]) ∧ Below w.heap.size w w' := by
  obtain ⟨s, r, hk⟩ := h.ku
  obtain ⟨s', r', hk'⟩ := h.ko
  have c0 := h.c0
  have c1 := h.c1
  have l1 := fun ty => run_len_chan (P := Try.prog) (w := w.drew) 46 ty Try.underlying46 (show w.drew.heap[cu]? = _ from hk)
  have l2 := fun ty => run_len_chan (P := Try.prog) (w := w.drew) 46 ty Try.underlying46 (show w.drew.heap[co]? = _ from hk')
  clear h hk hk'
  go_enter Try.func17, Try.ntmps17
  go_wp2_with fail
  go_region
  go_wp2_with fail
  go_ret2
  exact ⟨by simp, (Below.refl _ _).drew⟩

theorem mkch_int (m : Nat) (hm : m ≤ 64) (w : World) : (Instr.makeChan 46 (.int .i64 (m : Int))).run Try.prog w = .ok (.chan (some w.heap.size)) (w.alloc (.chan m #[] false 0 0 false)) := by
  have h : (Try.prog.info? 3).map (·.bytes) = some 8 := by kernel_rfl
  obtain ⟨i, hi, hb⟩ := Option.map_eq_some_iff.1 h
  simpa using run_makeChan (P := Try.prog) (w := w) Try.underlying46 hi .i64 m (by omega) (by rw [hb]; omega)

theorem new_int (n : Int) (w : World) :
    Calls Try.prog 9 #[.int .i64 n] w fun e w' => ∃ d cu co, e = .returned (.pointer (some ⟨d, 0, none⟩)) ∧ Q w.heap.size w' d cu co (cl n) [] [] ∧ Below w.heap.size w w' := by
  by_cases h1 : n ≤ 1
  · have hmc : ∀ w : World, (Instr.makeChan 46 (.int .i64 1)).run Try.prog w = .ok (.chan (some w.heap.size)) (w.alloc (.chan 1 #[] false 0 0 false)) := fun w => mkch_int 1 (by omega) w
    rw [cl_1 n h1]
    go_enter Try.func9, Try.ntmps9
    go_wp2_with fail
    all_goals
      go_region
      all_goals
        go_wp2_with fail
        go_ret
        first
          | exact ⟨_, _, _, rfl, q_new w _ _ _ 48 (.inl ⟨rfl, rfl⟩)⟩
          | exact ⟨_, _, _, rfl, q_new w _ _ _ 48 (.inr ⟨rfl, rfl⟩)⟩
  · by_cases h2 : 64 < n
    · have hmc : ∀ w : World, (Instr.makeChan 46 (.int .i64 64)).run Try.prog w = .ok (.chan (some w.heap.size)) (w.alloc (.chan 64 #[] false 0 0 false)) := fun w => mkch_int 64 (by omega) w
      rw [cl_64 n h2]
      go_enter Try.func9, Try.ntmps9
      go_wp2_with fail
      all_goals
        go_region
        all_goals
          go_wp2_with fail
          go_ret
          first
            | exact ⟨_, _, _, rfl, q_new w _ _ _ 48 (.inl ⟨rfl, rfl⟩)⟩
            | exact ⟨_, _, _, rfl, q_new w _ _ _ 48 (.inr ⟨rfl, rfl⟩)⟩
    · obtain ⟨m, rfl⟩ : ∃ m : Nat, n = m := ⟨n.toNat, by omega⟩
      have hmc := fun w => mkch_int m (by omega) w
      rw [cl_m m (by omega) (by omega)]
      go_enter Try.func9, Try.ntmps9
      go_wp2_with fail
      all_goals
        go_region
        all_goals
          go_wp2_with fail
          go_ret
          first
            | exact ⟨_, _, _, rfl, q_new w _ _ _ 48 (.inl ⟨rfl, rfl⟩)⟩
            | exact ⟨_, _, _, rfl, q_new w _ _ _ 48 (.inr ⟨rfl, rfl⟩)⟩

theorem put_bool_u (x : Bool) {B : Nat} {w : World} {d cu co n : Nat} {U O : List Value} (h : Q B w d cu co n U O) :
    Calls Try.prog 20 #[.pointer (some ⟨d, 0, none⟩), .bool true, .bool x] w fun e w' => e = .returned (.bool (room n U)) ∧ Q B w' d cu co n (pushL n U (.bool x)) O ∧ Below B w w' := by
  obtain ⟨s, r, hk⟩ := h.ku
  by_cases hr : U.length < n
  · rw [show room n U = true by simp [room, hr], show pushL n U (.bool x) = U ++ [.bool x] by simp [pushL, hr]]
    refine (put_bool_u_room d cu co n s r U.toArray x w h.c0 h.c1 hk (by simpa using hr)).mono ?_
    rintro e w' ⟨rfl, rfl⟩
    exact ⟨rfl, h.setU _ (by simp; omega) _ (by simp) _ _⟩
  · rw [show room n U = false by simp [room, hr], show pushL n U (.bool x) = U by simp [pushL, hr]]
    refine (put_bool_u_full d cu co n s r U.toArray x w h.c0 h.c1 hk (by simp; omega)).mono ?_
    rintro e w' ⟨rfl, rfl⟩
    exact ⟨rfl, h, Below.refl _ _⟩

theorem put_bool_o (x : Bool) {B : Nat} {w : World} {d cu co n : Nat} {U O : List Value} (h : Q B w d cu co n U O) :
    Calls Try.prog 20 #[.pointer (some ⟨d, 0, none⟩), .bool false, .bool x] w fun e w' => e = .returned (.bool (room n O)) ∧ Q B w' d cu co n U (pushL n O (.bool x)) ∧ Below B w w' := by
  obtain ⟨s, r, hk⟩ := h.ko
  by_cases hr : O.length < n
  · rw [show room n O = true by simp [room, hr], show pushL n O (.bool x) = O ++ [.bool x] by simp [pushL, hr]]
    refine (put_bool_o_room d cu co n s r O.toArray x w h.c0 h.c1 hk (by simpa using hr)).mono ?_
    rintro e w' ⟨rfl, rfl⟩
    exact ⟨rfl, h.setO _ (by simp; omega) _ (by simp) _ _⟩
  · rw [show room n O = false by simp [room, hr], show pushL n O (.bool x) = O by simp [pushL, hr]]
    refine (put_bool_o_full d cu co n s r O.toArray x w h.c0 h.c1 hk (by simp; omega)).mono ?_
    rintro e w' ⟨rfl, rfl⟩
    exact ⟨rfl, h, Below.refl _ _⟩

theorem take_bool_u' (x : Bool) {B : Nat} {w : World} {d cu co n : Nat} {U O : List Value} (h : Q B w d cu co n (.bool x :: U) O) :
    Calls Try.prog 22 #[.pointer (some ⟨d, 0, none⟩)] w fun e w' => e = .returned (.tuple #[.bool x, .bool true]) ∧ Q B w' d cu co n U O ∧ Below B w w' := by
  obtain ⟨s, r, hk⟩ := h.ku
  refine (take_bool_u d cu co n s r 0 0 (.bool x :: U).toArray x w h.c0 h.c1 hk (by simp) (by simp)).mono ?_
  rintro e w' ⟨rfl, rfl⟩
  have := h.lu
  exact ⟨rfl, h.setU U (by simp at this; omega) _ (by simp) _ _⟩

theorem take_bool_o' (x : Bool) {B : Nat} {w : World} {d cu co n : Nat} {O : List Value} (h : Q B w d cu co n [] (.bool x :: O)) :
    Calls Try.prog 22 #[.pointer (some ⟨d, 0, none⟩)] w fun e w' => e = .returned (.tuple #[.bool x, .bool true]) ∧ Q B w' d cu co n [] O ∧ Below B w w' := by
  obtain ⟨s, r, hk⟩ := h.ku
  obtain ⟨s', r', hk'⟩ := h.ko
  refine (take_bool_o d cu co n s r s' r' (.bool x :: O).toArray x w h.c0 h.c1 hk hk' (by simp) (by simp)).mono ?_
  rintro e w' ⟨rfl, rfl⟩
  have := h.lo
  exact ⟨rfl, h.setO O (by simp at this; omega) _ (by simp) _ _⟩

theorem take_bool_n' {B : Nat} {w : World} {d cu co n : Nat} (h : Q B w d cu co n [] []) :
    Calls Try.prog 22 #[.pointer (some ⟨d, 0, none⟩)] w fun e w' => e = .returned (.tuple #[.bool false, .bool false]) ∧ Q B w' d cu co n [] [] ∧ Below B w w' := by
  obtain ⟨s, r, hk⟩ := h.ku
  obtain ⟨s', r', hk'⟩ := h.ko
  refine (take_bool_n d cu co n s r s' r' #[] false w h.c0 h.c1 hk hk').mono ?_
  rintro e w' ⟨rfl, rfl⟩
  exact ⟨rfl, h, Below.refl _ _⟩

theorem many_bool {B : Nat} {w : World} {d cu co n : Nat} {U O : List Value} (h : Q B w d cu co n U O) :
    Calls Try.prog 21 #[.pointer (some ⟨d, 0, none⟩)] w fun e w' => e = .returned (.tuple #[.int .i64 U.length, .int .i64 O.length]) ∧ Below w.heap.size w w' := by
  obtain ⟨s, r, hk⟩ := h.ku
  obtain ⟨s', r', hk'⟩ := h.ko
  have c0 := h.c0
  have c1 := h.c1
  have l1 := fun ty => run_len_chan (P := Try.prog) (w := w.drew) 51 ty Try.underlying51 (show w.drew.heap[cu]? = _ from hk)
  have l2 := fun ty => run_len_chan (P := Try.prog) (w := w.drew) 51 ty Try.underlying51 (show w.drew.heap[co]? = _ from hk')
  clear h hk hk'
  go_enter Try.func21, Try.ntmps21
  go_wp2_with fail
  go_region
  go_wp2_with fail
  go_ret2
  exact ⟨by simp, (Below.refl _ _).drew⟩

theorem mkch_bool (m : Nat) (hm : m ≤ 64) (w : World) : (Instr.makeChan 51 (.int .i64 (m : Int))).run Try.prog w = .ok (.chan (some w.heap.size)) (w.alloc (.chan m #[] false 0 0 false)) := by
  have h : (Try.prog.info? 4).map (·.bytes) = some 1 := by kernel_rfl
  obtain ⟨i, hi, hb⟩ := Option.map_eq_some_iff.1 h
  simpa using run_makeChan (P := Try.prog) (w := w) Try.underlying51 hi .i64 m (by omega) (by rw [hb]; omega)

theorem new_bool (n : Int) (w : World) :
    Calls Try.prog 19 #[.int .i64 n] w fun e w' => ∃ d cu co, e = .returned (.pointer (some ⟨d, 0, none⟩)) ∧ Q w.heap.size w' d cu co (cl n) [] [] ∧ Below w.heap.size w w' := by
  by_cases h1 : n ≤ 1
  · have hmc : ∀ w : World, (Instr.makeChan 51 (.int .i64 1)).run Try.prog w = .ok (.chan (some w.heap.size)) (w.alloc (.chan 1 #[] false 0 0 false)) := fun w => mkch_bool 1 (by omega) w
    rw [cl_1 n h1]
    go_enter Try.func19, Try.ntmps19
    go_wp2_with fail
    all_goals
      go_region
      all_goals
        go_wp2_with fail
        go_ret
        first
          | exact ⟨_, _, _, rfl, q_new w _ _ _ 53 (.inl ⟨rfl, rfl⟩)⟩
          | exact ⟨_, _, _, rfl, q_new w _ _ _ 53 (.inr ⟨rfl, rfl⟩)⟩
  · by_cases h2 : 64 < n
    · have hmc : ∀ w : World, (Instr.makeChan 51 (.int .i64 64)).run Try.prog w = .ok (.chan (some w.heap.size)) (w.alloc (.chan 64 #[] false 0 0 false)) := fun w => mkch_bool 64 (by omega) w
      rw [cl_64 n h2]
      go_enter Try.func19, Try.ntmps19
      go_wp2_with fail
      all_goals
        go_region
        all_goals
          go_wp2_with fail
          go_ret
          first
            | exact ⟨_, _, _, rfl, q_new w _ _ _ 53 (.inl ⟨rfl, rfl⟩)⟩
            | exact ⟨_, _, _, rfl, q_new w _ _ _ 53 (.inr ⟨rfl, rfl⟩)⟩
    · obtain ⟨m, rfl⟩ : ∃ m : Nat, n = m := ⟨n.toNat, by omega⟩
      have hmc := fun w => mkch_bool m (by omega) w
      rw [cl_m m (by omega) (by omega)]
      go_enter Try.func19, Try.ntmps19
      go_wp2_with fail
      all_goals
        go_region
        all_goals
          go_wp2_with fail
          go_ret
          first
            | exact ⟨_, _, _, rfl, q_new w _ _ _ 53 (.inl ⟨rfl, rfl⟩)⟩
            | exact ⟨_, _, _, rfl, q_new w _ _ _ 53 (.inr ⟨rfl, rfl⟩)⟩

end Go.Proofs.Ytbonifmhlbakbaa
