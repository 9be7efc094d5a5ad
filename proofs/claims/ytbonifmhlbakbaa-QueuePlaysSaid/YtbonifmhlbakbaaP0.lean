/- The document's queue: two rows of numbers behind a pointer; contracts of its calls. -/
import Derived.Test.YtbonifmhlbakbaaAh
import Derived.WalkSmall
namespace Go.Proofs.Ytbonifmhlbakbaa
set_option linter.unusedVariables false
open Go.ChangeShapes Go.WideShapes Go.ChangeAt Go.RowKit Go.Conc

structure RQ (B1 : Nat) (w : World) (r m : Nat) (vu vo : Value) (X Y : List Int) : Prop where
  rB : B1 ≤ r
  blk : w.heap[r]? = some (.cells #[.int .i64 m, vu, vo] 50 (0, 0))
  ou : OwnI (r + 1) w vu X
  oo : OwnI (r + 1) w vo Y
  ne : ∀ g, vu.ownBlock = some g → vo.ownBlock = some g → False
  lu : X.length ≤ m
  lo : Y.length ≤ m

theorem blk_lt {w : World} {r : Nat} {o : Obj} (h : w.heap[r]? = some o) : r < w.heap.size := by
  rcases Nat.lt_or_ge r w.heap.size with h' | h'
  · exact h'
  · simp [Array.getElem?_eq_none h'] at h

theorem OwnI.below {B : Nat} {w w' : World} {v : Value} {X : List Int} (h : OwnI B w v X) (hb : Below w.heap.size w w') : OwnI B w' v X := by
  obtain ⟨h1, h2 | ⟨g, cap, cur, hv, hB, hh, hl, hm, hs, ht⟩⟩ := h
  · exact ⟨h1, .inl h2⟩
  · exact ⟨h1, .inr ⟨g, cap, cur, hv, hB, (hb.block g (blk_lt hh)).trans hh, hl, hm, hs, ht⟩⟩

theorem RQ.below {B1 : Nat} {w w' : World} {r m : Nat} {vu vo : Value} {X Y : List Int} (h : RQ B1 w r m vu vo X Y) (hb : Below w.heap.size w w') : RQ B1 w' r m vu vo X Y :=
  ⟨h.rB, (hb.block r (blk_lt h.blk)).trans h.blk, h.ou.below hb, h.oo.below hb, h.ne, h.lu, h.lo⟩

theorem RQ.kept {B1 : Nat} {w w' : World} {r m cu co : Nat} {vu vo : Value} {X Y : List Int} (h : RQ B1 w r m vu vo X Y) (hk : Kept cu co w w') (hu : cu < B1) (ho : co < B1) : RQ B1 w' r m vu vo X Y := by
  have := h.rB
  exact ⟨h.rB, (hk.2 r (by omega) (by omega)).trans h.blk, own_kept h.ou hk (by omega) (by omega), own_kept h.oo hk (by omega) (by omega), h.ne, h.lu, h.lo⟩

theorem Q.below' {B B1 : Nat} {w w' : World} {d cu co n : Nat} {U O : List Value} (h : Q B w d cu co n U O) (hb : Below B1 w w') (hd : d < B1) (hu : cu < B1) (ho : co < B1) : Q B w' d cu co n U O :=
  ⟨h.hd, h.hu, h.ho, Nat.lt_of_lt_of_le h.dlt hb.size, Nat.lt_of_lt_of_le h.ult hb.size, Nat.lt_of_lt_of_le h.olt hb.size, h.ne, h.nu, h.no, (hb.cell (p := ⟨d, 0, none⟩) hd).trans h.c0, (hb.cell (p := ⟨d, 1, none⟩) hd).trans h.c1,
    (by obtain ⟨s, r, e⟩ := h.ku; exact ⟨s, r, (hb.block cu hu).trans e⟩), (by obtain ⟨s, r, e⟩ := h.ko; exact ⟨s, r, (hb.block co ho).trans e⟩), h.lu, h.lo⟩

theorem RQ.cells {B1 : Nat} {w : World} {r m : Nat} {vu vo : Value} {X Y : List Int} (h : RQ B1 w r m vu vo X Y) :
    w.cell? ⟨r, 0, none⟩ = some (.int .i64 m) ∧ w.cell? ⟨r, 1, none⟩ = some vu ∧ w.cell? ⟨r, 2, none⟩ = some vo := by
  simp [World.cell?, h.blk]
theorem RQ.free {B1 : Nat} {w : World} {r m : Nat} {vu vo : Value} {X Y : List Int} (h : RQ B1 w r m vu vo X Y) (k : Nat) : w.frozen? ⟨r, k, none⟩ = false := by
  simp [World.frozen?, h.blk]

theorem heap_setCell_same {w : World} {r k : Nat} {v : Value} {cs : Array Value} {t : TypeId} {fz : Nat × Nat} (h : w.heap[r]? = some (.cells cs t fz)) : (w.setCell ⟨r, k, none⟩ v).heap[r]? = some (.cells (cs.setIfInBounds k v) t fz) := by
  have hlt := blk_lt h
  have h' : w.heap[r] = .cells cs t fz := by simpa [Array.getElem?_eq_getElem hlt] using h
  show (w.heap.modify r _)[r]? = _
  rw [Array.getElem?_eq_getElem (by simpa using hlt), Array.getElem_modify_self, h']
  rfl

theorem OwnI.setCell {B : Nat} {w : World} {v u : Value} {X : List Int} {r k : Nat} (h : OwnI B w v X) (hr : r < B) : OwnI B (w.setCell ⟨r, k, none⟩ u) v X := by
  obtain ⟨h1, h2 | ⟨g, cap, cur, hv, hB, hh, hl, hm, hs, ht⟩⟩ := h
  · exact ⟨h1, .inl h2⟩
  · exact ⟨h1, .inr ⟨g, cap, cur, hv, hB, (Below.heap_setCell _ _ _ _ (by show g ≠ r; omega)).trans hh, hl, hm, hs, ht⟩⟩

/-- Another row in the place of the first one. -/
theorem RQ.setU {B1 : Nat} {w : World} {r m : Nat} {vu vo v : Value} {Y X' : List Int} (hr : B1 ≤ r) (hb : w.heap[r]? = some (.cells #[.int .i64 m, vu, vo] 50 (0, 0))) (ho : OwnI (r + 1) w vo Y) (hv : OwnI (r + 1) w v X')
    (ne : ∀ g, v.ownBlock = some g → vo.ownBlock = some g → False) (lu : X'.length ≤ m) (lo : Y.length ≤ m) : RQ B1 (w.setCell ⟨r, 1, none⟩ v) r m v vo X' Y ∧ Below B1 w (w.setCell ⟨r, 1, none⟩ v) :=
  ⟨⟨hr, (heap_setCell_same hb).trans (by simp), hv.setCell (by omega), ho.setCell (by omega), ne, lu, lo⟩, (Below.refl _ _).setCell (p := ⟨r, 1, none⟩) hr v⟩
theorem RQ.setO {B1 : Nat} {w : World} {r m : Nat} {vu vo v : Value} {X Y' : List Int} (hr : B1 ≤ r) (hb : w.heap[r]? = some (.cells #[.int .i64 m, vu, vo] 50 (0, 0))) (hu : OwnI (r + 1) w vu X) (hv : OwnI (r + 1) w v Y')
    (ne : ∀ g, vu.ownBlock = some g → v.ownBlock = some g → False) (lu : X.length ≤ m) (lo : Y'.length ≤ m) : RQ B1 (w.setCell ⟨r, 2, none⟩ v) r m vu v X Y' ∧ Below B1 w (w.setCell ⟨r, 2, none⟩ v) :=
  ⟨⟨hr, (heap_setCell_same hb).trans (by simp), hu.setCell (by omega), hv.setCell (by omega), ne, lu, lo⟩, (Below.refl _ _).setCell (p := ⟨r, 2, none⟩) hr v⟩

theorem rnew (n : Int) (w : World) : Calls Try.prog 10 #[.int .i64 n] w fun e w' => e = .returned (.pointer (some ⟨w.heap.size, 0, none⟩)) ∧ RQ w.heap.size w' w.heap.size (cl n) (.slice none 0 0) (.slice none 0 0) [] [] ∧ Below w.heap.size w w' := by
  obtain ⟨m, hm⟩ : ∃ m, m = cl n := ⟨_, rfl⟩
  rw [← hm]
  have HM := Lib.hid hm
  clear hm
  have key : ∀ v : Int, v = (cl n : Int) → RQ w.heap.size (w.alloc (.cells #[.int .i64 v, .slice none 0 0, .slice none 0 0] 50 (0, 0))) w.heap.size m (.slice none 0 0) (.slice none 0 0) [] [] ∧ Below w.heap.size w (w.alloc (.cells #[.int .i64 v, .slice none 0 0, .slice none 0 0] 50 (0, 0))) := by
    intro v hv
    subst hv
    rw [← HM.out]
    exact ⟨⟨Nat.le_refl _, heap_alloc_new w _, World.ownsRow_nil _ _ _ _, World.ownsRow_nil _ _ _ _, (fun g h => by cases h), Nat.zero_le _, Nat.zero_le _⟩, (Below.refl _ _).alloc (Nat.le_refl _) _⟩
  have KEY := Lib.hid key
  clear key
  go_enter Try.func10, Try.ntmps10
  go_wp2_with fail
  all_goals
    go_ret
    exact ⟨rfl, KEY.out _ (by unfold cl; (repeat' split) <;> omega)⟩

theorem rmany {B1 : Nat} {w : World} {r m : Nat} {vu vo : Value} {X Y : List Int} (h : RQ B1 w r m vu vo X Y) :
    Calls Try.prog 18 #[.pointer (some ⟨r, 0, none⟩)] w fun e w' => e = .returned (.tuple #[.int .i64 X.length, .int .i64 Y.length]) ∧ Below w.heap.size w w' := by
  obtain ⟨au, cu, rfl⟩ := own_form h.ou
  obtain ⟨ao, co, rfl⟩ := own_form h.oo
  have c1 := h.cells.2.1
  have c2 := h.cells.2.2
  clear h
  go_enter Try.func18, Try.ntmps18
  go_wp2_with fail
  go_quiet (fail)
  go_wp2_with fail
  go_ret2
  exact ⟨rfl, below_drewN (Below.refl _ _) _⟩

theorem rdrain {B1 : Nat} {w : World} {r m : Nat} {vu vo : Value} {X Y : List Int} (h : RQ B1 w r m vu vo X Y) (hm : m ≤ 64) :
    Calls Try.prog 14 #[.pointer (some ⟨r, 0, none⟩)] w fun e w' => e = .returned (.int .i64 ((X.length + Y.length : Nat))) ∧ RQ B1 w' r m (.slice none 0 0) (.slice none 0 0) [] [] ∧ Below B1 w w' := by
  obtain ⟨au, cu, rfl⟩ := own_form h.ou
  obtain ⟨ao, co, rfl⟩ := own_form h.oo
  have c1 := h.cells.2.1
  have c2 := h.cells.2.2
  have f1 := h.free 1
  have f2 := h.free 2
  have lu := h.lu
  have lo := h.lo
  have hr := h.rB
  have H := Lib.hid h
  clear h
  go_enter Try.func14, Try.ntmps14
  go_wp2_with fail
  go_quiet (fail)
  have h3 := H.out.below (below_drewN (Below.refl _ _) nq)
  have hb3 : Below B1 w (w.drewN nq) := below_drewN (Below.refl _ _) nq
  clear H c1 c2 f1 f2
  generalize w.drewN nq = w3 at h3 hb3 ⊢
  have c1 := h3.cells.2.1
  have c2 := h3.cells.2.2
  have f1 := h3.free 1
  have f2 := h3.free 2
  have s1 := RQ.setU (X' := []) (v := .slice none 0 0) h3.rB h3.blk h3.oo (World.ownsRow_nil _ _ _ _) (fun g e => by cases e) (Nat.zero_le _) h3.lo
  have s2 := RQ.setO (Y' := []) (v := .slice none 0 0) s1.1.rB s1.1.blk s1.1.ou (World.ownsRow_nil _ _ _ _) (fun g _ e => by cases e) (Nat.zero_le _) (Nat.zero_le _)
  have HS := Lib.hid (show RQ B1 _ r m (.slice none 0 0) (.slice none 0 0) [] [] ∧ Below B1 w _ from ⟨s2.1, (hb3.trans s1.2).trans s2.2⟩)
  clear h3 hb3 s1 s2
  go_wp2_with fail
  go_ret
  exact ⟨by simp, HS.out⟩

def pushM (m : Nat) (X : List Int) (x : Int) : List Int := if X.length < m then X ++ [x] else X
theorem pushM_map (m : Nat) (X : List Int) (x : Int) : pushL m (X.map iv) (iv x) = (pushM m X x).map iv := by
  unfold pushL pushM
  rw [List.length_map]
  split <;> simp


def RPutu (B1 : Nat) (w : World) (r m : Nat) (vo : Value) (X Y : List Int) (x : Int) (e : Ending) (w' : World) : Prop :=
  e = .returned (.bool (decide (X.length < m))) ∧ (∃ v, RQ B1 w' r m v vo (pushM m X x) Y) ∧ Below B1 w w'

set_option maxHeartbeats 1000000 in
theorem rput_u (x : Int) {B1 : Nat} {w : World} {r m : Nat} {vu vo : Value} {X Y : List Int} (h : RQ B1 w r m vu vo X Y) (hm : m ≤ 64) :
    Calls Try.prog 16 #[.pointer (some ⟨r, 0, none⟩), .bool true, .int .i64 x] w (RPutu B1 w r m vo X Y x) := by
  obtain ⟨au, cu, hvu⟩ := own_form h.ou
  obtain ⟨ao, co, hvo⟩ := own_form h.oo
  subst hvu hvo
  have c0 := h.cells.1
  have c1 := h.cells.2.1
  have c2 := h.cells.2.2
  have lu := h.lu
  have lo := h.lo
  have hr := h.rB
  have H := Lib.hid h
  clear h
  by_cases hl : X.length < m
  · have t1 : decide ((m : Int) ≤ (X.length : Int)) = false := decide_eq_false (by omega)
    go_enter Try.func16, Try.ntmps16
    go_wp2_with fail
    go_quiet (fail)
    have h3 := H.out.below (below_drewN (Below.refl _ _) nq)
    have hb3 : Below B1 w (w.drewN nq) := below_drewN (Below.refl _ _) nq
    clear H c0 c1 c2
    generalize w.drewN nq = w3 at h3 hb3 ⊢
    have c1 := h3.cells.2.1
    have H3 := Lib.hid h3
    have HB3 := Lib.hid hb3
    have hrs : r < w3.heap.size := blk_lt h3.blk
    clear h3 hb3
    go_wp2_with (at_builtin; refine wpList_append_one rfl (.tmp 22) (.tmp 24) rfl (r + 1) _ hrs _ X x rfl H3.out.ou rfl (by omega) ?_)
    intro v' w4 hv4 hg4 hat4
    have hlt := fun g e => (H3.out.ou.lt g e).1
    have hblk := (hg4.block r hrs (fun e => by have := hlt r e.symm; omega)).trans H3.out.blk
    have hoth : OwnI (r + 1) w4 (.slice ao Y.length co) Y := by
      refine World.ownsRow.kept H3.out.oo hg4 ?_
      rcases hq : (Value.slice ao Y.length co).ownBlock with _ | gq
      · exact .inl rfl
      · exact .inr fun e => H3.out.ne gq e.symm hq
    have hne : ∀ g, v'.ownBlock = some g → (Value.slice ao Y.length co).ownBlock = some g → False := by
      intro g e1 e2
      rcases hat4 with e | e
      · exact H3.out.ne g (e ▸ e1) e2
      · rw [e] at e1
        have := (H3.out.oo.lt g e2).2
        simp at e1
        omega
    have hs := RQ.setU H3.out.rB hblk hoth hv4 hne (by simp; omega) H3.out.lo
    have hbw : Below B1 w w4 := HB3.out.grown hg4 (by omega) (fun k e => by have := hlt k e; omega)
    have fz : w4.frozen? ⟨r, 1, none⟩ = false := by simp [World.frozen?, hblk]
    have cz : w4.cell? ⟨r, 1, none⟩ = some (.slice au X.length cu) := by simp [World.cell?, hblk]
    have HP : Hid (RPutu B1 w r m (.slice ao Y.length co) X Y x (.returned (.bool true)) (w4.setCell ⟨r, 1, none⟩ v')) := Lib.hid ⟨by rw [decide_eq_true hl], ⟨v', by rw [pushM, if_pos hl]; exact hs.1⟩, hbw.trans hs.2⟩
    obtain ⟨av, cv, hvf⟩ := own_form hv4
    clear hlt hblk hoth hne hs hbw hv4 hg4 hat4 H3 HB3 c1
    rw [show (X ++ [x]).length = X.length + 1 by simp] at hvf
    subst hvf
    go_wp2_with fail
    go_ret
    exact HP.out
  · have t1 : decide ((m : Int) ≤ (X.length : Int)) = true := decide_eq_true (by omega)
    go_enter Try.func16, Try.ntmps16
    go_wp2_with fail
    go_quiet (fail)
    have HP : Hid (RPutu B1 w r m (.slice ao Y.length co) X Y x (.returned (.bool false)) (w.drewN nq)) := Lib.hid ⟨by rw [decide_eq_false hl], ⟨_, by rw [pushM, if_neg hl]; exact H.out.below (below_drewN (Below.refl _ _) nq)⟩, below_drewN (Below.refl _ _) nq⟩
    go_wp2_with fail
    go_ret
    exact HP.out

def RPuto (B1 : Nat) (w : World) (r m : Nat) (vu : Value) (X Y : List Int) (x : Int) (e : Ending) (w' : World) : Prop :=
  e = .returned (.bool (decide (Y.length < m))) ∧ (∃ v, RQ B1 w' r m vu v X (pushM m Y x)) ∧ Below B1 w w'

set_option maxHeartbeats 1000000 in
theorem rput_o (x : Int) {B1 : Nat} {w : World} {r m : Nat} {vu vo : Value} {X Y : List Int} (h : RQ B1 w r m vu vo X Y) (hm : m ≤ 64) :
    Calls Try.prog 16 #[.pointer (some ⟨r, 0, none⟩), .bool false, .int .i64 x] w (RPuto B1 w r m vu X Y x) := by
  obtain ⟨au, cu, hvu⟩ := own_form h.ou
  obtain ⟨ao, co, hvo⟩ := own_form h.oo
  subst hvu hvo
  have c0 := h.cells.1
  have c1 := h.cells.2.1
  have c2 := h.cells.2.2
  have lu := h.lu
  have lo := h.lo
  have hr := h.rB
  have H := Lib.hid h
  clear h
  by_cases hl : Y.length < m
  · have t1 : decide ((m : Int) ≤ (Y.length : Int)) = false := decide_eq_false (by omega)
    go_enter Try.func16, Try.ntmps16
    go_wp2_with fail
    go_quiet (fail)
    have h3 := H.out.below (below_drewN (Below.refl _ _) nq)
    have hb3 : Below B1 w (w.drewN nq) := below_drewN (Below.refl _ _) nq
    clear H c0 c1 c2
    generalize w.drewN nq = w3 at h3 hb3 ⊢
    have c2 := h3.cells.2.2
    have H3 := Lib.hid h3
    have HB3 := Lib.hid hb3
    have hrs : r < w3.heap.size := blk_lt h3.blk
    clear h3 hb3
    go_wp2_with (at_builtin; refine wpList_append_one rfl (.tmp 42) (.tmp 44) rfl (r + 1) _ hrs _ Y x rfl H3.out.oo rfl (by omega) ?_)
    intro v' w4 hv4 hg4 hat4
    have hlt := fun g e => (H3.out.oo.lt g e).1
    have hblk := (hg4.block r hrs (fun e => by have := hlt r e.symm; omega)).trans H3.out.blk
    have hoth : OwnI (r + 1) w4 (.slice au X.length cu) X := by
      refine World.ownsRow.kept H3.out.ou hg4 ?_
      rcases hq : (Value.slice au X.length cu).ownBlock with _ | gq
      · exact .inl rfl
      · exact .inr fun e => H3.out.ne gq hq e.symm
    have hne : ∀ g, (Value.slice au X.length cu).ownBlock = some g → v'.ownBlock = some g → False := by
      intro g e1 e2
      rcases hat4 with e | e
      · exact H3.out.ne g e1 (e ▸ e2)
      · rw [e] at e2
        have := (H3.out.ou.lt g e1).2
        simp at e2
        omega
    have hs := RQ.setO H3.out.rB hblk hoth hv4 hne H3.out.lu (by simp; omega)
    have hbw : Below B1 w w4 := HB3.out.grown hg4 (by omega) (fun k e => by have := hlt k e; omega)
    have fz : w4.frozen? ⟨r, 2, none⟩ = false := by simp [World.frozen?, hblk]
    have cz : w4.cell? ⟨r, 2, none⟩ = some (.slice ao Y.length co) := by simp [World.cell?, hblk]
    have HP : Hid (RPuto B1 w r m (.slice au X.length cu) X Y x (.returned (.bool true)) (w4.setCell ⟨r, 2, none⟩ v')) := Lib.hid ⟨by rw [decide_eq_true hl], ⟨v', by rw [pushM, if_pos hl]; exact hs.1⟩, hbw.trans hs.2⟩
    obtain ⟨av, cv, hvf⟩ := own_form hv4
    clear hlt hblk hoth hne hs hbw hv4 hg4 hat4 H3 HB3 c2
    rw [show (Y ++ [x]).length = Y.length + 1 by simp] at hvf
    subst hvf
    go_wp2_with fail
    go_ret
    exact HP.out
  · have t1 : decide ((m : Int) ≤ (Y.length : Int)) = true := decide_eq_true (by omega)
    go_enter Try.func16, Try.ntmps16
    go_wp2_with fail
    go_quiet (fail)
    have HP : Hid (RPuto B1 w r m (.slice au X.length cu) X Y x (.returned (.bool false)) (w.drewN nq)) := Lib.hid ⟨by rw [decide_eq_false hl], ⟨_, by rw [pushM, if_neg hl]; exact H.out.below (below_drewN (Below.refl _ _) nq)⟩, below_drewN (Below.refl _ _) nq⟩
    go_wp2_with fail
    go_ret
    exact HP.out

/-- All but the first of a row, appended to a new one. -/
theorem wpList_append_rest {ops : Array Oper} {rest : List Oper} {o : Oper} {a : Act} {Q' : Exit → Act → World → Prop} (hgd : o.guard = none) (s x : Operand)
    (ho : o.op = .call { callee := .builtin .append, args := #[s, x], argTypes := #[37, 37] }) (B : Nat) (w : World) (hB : B ≤ w.heap.size) (g cap : Nat) (x0 : Int) (Z : List Int)
    (hown : OwnI B w (.slice (some ⟨g, 0, none⟩) (Z.length + 1) cap) (x0 :: Z)) (ad : Addr) (c : Nat) (hs : a.eval s = .slice (some ⟨w.heap.size, 0, none⟩) 0 0) (hx : a.eval x = .slice (some ad) Z.length c) (had : ad = ⟨g, 1, none⟩ ∨ Z = []) (hle : Z.length ≤ 10000)
    (h : ∀ g' c' w', OwnI w.heap.size w' (.slice (some ⟨g', 0, none⟩) Z.length c') Z → w.grownBy w' none → wpList Try.prog ops Q' rest (a.put o.dst (.slice (some ⟨g', 0, none⟩) Z.length c')) w') :
    wpList Try.prog ops Q' (o :: rest) a (w.alloc (.cells #[] 3)) := by
  obtain ⟨ti, hi, hz0, hz1, hz2⟩ := info_parts info3
  have hcs : ∀ j u, (Z.map iv)[j]? = some u → (w.alloc (.cells #[] 3)).cell? (ad.add j) = some u := by
    intro j u hu
    rcases had with rfl | rfl
    · rw [addr_add_none]
      have hj : j < Z.length := by
        have := (List.getElem?_eq_some_iff.1 hu).1
        simpa using this
      have hh : w.ownsRow B 3 1 (.slice (some ⟨g, 0, none⟩) (Z.length + 1) cap) (Z.length + 1) ((x0 :: Z).map iv) := hown
      have h1 := World.ownsRow.cellAt (hh.alloc (.cells #[] 3 (0, 0))) (1 + j) (by omega)
      rw [h1, show 1 + j = j + 1 by omega, List.map_cons, List.getElem?_cons_succ]
      exact hu
    · simp at hu
  refine wpList_append_own _ hgd s x 37 ho w.heap.size 3 ti (.int .i64 0) 1 8 Try.underlying37 hi hz0 hz1 hz2 rfl (by decide) _ 0 [] hs (own_new (Nat.le_refl _)) ad Z.length c (Z.map iv) hx (by simp) hcs (by simp [Value.oneCell']) (by unfold maxLen; omega) (by omega) (by simp) ?_
  intro v' w' hown' hg hnn
  obtain ⟨q1, ⟨q2, q3⟩ | ⟨g', cap', cur', hv', hrest⟩⟩ := hown'
  · have := (hnn.1 q2).1
    simp at this
  · subst hv'
    have hz : (.slice (some ⟨g', 0, none⟩) (0 + Z.length) cap' : Value) = .slice (some ⟨g', 0, none⟩) Z.length cap' := by rw [Nat.zero_add]
    rw [hz]
    refine h g' cap' w' ?_ ⟨hg.os, hg.tape, hg.output, by have := hg.size; simp at this; omega, fun k hk _ => ?_⟩
    · have := (show w'.ownsRow w.heap.size 3 1 (.slice (some ⟨g', 0, none⟩) (0 + Z.length) cap') (0 + Z.length) ([] ++ Z.map iv) from ⟨q1, .inr ⟨g', cap', cur', rfl, hrest⟩⟩)
      rw [Nat.zero_add] at this
      exact this
    · exact (hg.block k (by simp; omega) (fun e => by simp [Value.ownBlock] at e; omega)).trans (heap_alloc_old w _ hk)

def RTakeu (B1 : Nat) (w : World) (r m : Nat) (vo : Value) (Y : List Int) (x : Int) (Z : List Int) (e : Ending) (w' : World) : Prop :=
  e = .returned (.tuple #[.int .i64 x, .bool true]) ∧ (∃ v, RQ B1 w' r m v vo Z Y) ∧ Below B1 w w'

set_option maxHeartbeats 1000000 in
theorem rtake_u (x : Int) (Z : List Int) {B1 : Nat} {w : World} {r m : Nat} {vu vo : Value} {Y : List Int} (h : RQ B1 w r m vu vo (x :: Z) Y) (hm : m ≤ 64) :
    Calls Try.prog 12 #[.pointer (some ⟨r, 0, none⟩)] w (RTakeu B1 w r m vo Y x Z) := by
  obtain ⟨g, cap, hvu, hg⟩ : ∃ g cap, vu = .slice (some ⟨g, 0, none⟩) (Z.length + 1) cap ∧ Z.length + 1 ≤ cap ∧ cap ≤ maxLen := by
    obtain ⟨_, ⟨_, h0⟩ | ⟨g, cap, cur, hv, _, _, hle, hmx, _⟩⟩ := h.ou
    · simp at h0
    · exact ⟨g, cap, hv, hle, hmx⟩
  subst hvu
  obtain ⟨hg1, hg2⟩ := hg
  unfold maxLen at hg2
  obtain ⟨ao, co, hvo⟩ := own_form h.oo
  subst hvo
  have c1 := h.cells.2.1
  have c2 := h.cells.2.2
  have f1 := h.free 1
  have lu := h.lu
  have lo := h.lo
  have hr := h.rB
  have hx0 : w.cell? ⟨g, 0, none⟩ = some (.int .i64 x) := by
    have := World.ownsRow.cellAt h.ou 0 (by simp)
    simpa using this
  have hrs : r < w.heap.size := blk_lt h.blk
  have hZ : Z.length ≤ 64 := by simp at lu; omega
  have H := Lib.hid h
  clear h lu lo
  have main : ∀ w4 g' c', OwnI w.heap.size w4 (.slice (some ⟨g', 0, none⟩) Z.length c') Z → w.grownBy w4 none → RTakeu B1 w r m (.slice ao Y.length co) Y x Z (.returned (.tuple #[.int .i64 x, .bool true])) (w4.setCell ⟨r, 1, none⟩ (.slice (some ⟨g', 0, none⟩) Z.length c')) ∧ w4.frozen? ⟨r, 1, none⟩ = false ∧ w4.cell? ⟨r, 1, none⟩ = some (.slice (some ⟨g, 0, none⟩) (Z.length + 1) cap) := by
    intro w4 g' c' ho hg
    have hblk := (hg.block r hrs (fun e => by cases e)).trans H.out.blk
    have hoth := World.ownsRow.kept H.out.oo hg (by
      rcases hq : (Value.slice ao Y.length co).ownBlock with _ | gq
      · exact .inl rfl
      · exact .inr fun e => by cases e)
    have hv4 : OwnI (r + 1) w4 (.slice (some ⟨g', 0, none⟩) Z.length c') Z := by
      obtain ⟨h1, h2 | ⟨g2, cap2, cur, hv, hB, rest⟩⟩ := ho
      · simp at h2
      · exact ⟨h1, .inr ⟨g2, cap2, cur, hv, by omega, rest⟩⟩
    have hgl := (ho.lt g' rfl).1
    have hs := RQ.setU H.out.rB hblk hoth hv4 (fun q e1 e2 => by have := (H.out.oo.lt q e2).2; simp [Value.ownBlock] at e1; omega) (by have := H.out.lu; simp at this; omega) H.out.lo
    exact ⟨⟨rfl, ⟨_, hs.1⟩, ((Below.refl _ _).grown hg (by omega) (fun k e => by cases e)).trans hs.2⟩, by simp [World.frozen?, hblk], by simp [World.cell?, hblk]⟩
  have MAIN := Lib.hid main
  clear main
  have t0 : decide ((0 : Int) < (Z.length : Int) + 1) = true := decide_eq_true (by omega)
  by_cases hc : cap = 1
  · subst hc
    have hZ0 : Z = [] := List.eq_nil_of_length_eq_zero (by omega)
    subst hZ0
    go_enter Try.func12, Try.ntmps12
    go_wp2_with (at_builtin; refine wpList_append_rest rfl (.tmp 19) (.tmp 24) rfl (r + 1) _ hrs g 1 x [] H.out.ou _ _ rfl rfl (.inr rfl) (by simp) ?_)
    intro g' c' w4 ho hg
    obtain ⟨hP, fz, cz⟩ := MAIN.out _ _ _ ho hg
    have HP := Lib.hid hP
    clear hP ho hg c1 c2 f1 hx0
    go_wp2_with fail
    go_ret2
    exact HP.out
  · have hc' : ¬ 1 = cap := fun e => hc e.symm
    go_enter Try.func12, Try.ntmps12
    go_wp2_with (at_builtin; refine wpList_append_rest rfl (.tmp 19) (.tmp 24) rfl (r + 1) _ hrs g cap x Z H.out.ou _ _ rfl rfl (.inl rfl) (by omega) ?_)
    intro g' c' w4 ho hg
    obtain ⟨hP, fz, cz⟩ := MAIN.out _ _ _ ho hg
    have HP := Lib.hid hP
    clear hP ho hg c1 c2 f1 hx0
    go_wp2_with fail
    go_ret2
    exact HP.out

def RTakeo (B1 : Nat) (w : World) (r m : Nat) (vu : Value) (x : Int) (Z : List Int) (e : Ending) (w' : World) : Prop :=
  e = .returned (.tuple #[.int .i64 x, .bool true]) ∧ (∃ v, RQ B1 w' r m vu v [] Z) ∧ Below B1 w w'

set_option maxHeartbeats 1000000 in
theorem rtake_o (x : Int) (Z : List Int) {B1 : Nat} {w : World} {r m : Nat} {vu vo : Value}  (h : RQ B1 w r m vu vo [] (x :: Z)) (hm : m ≤ 64) :
    Calls Try.prog 12 #[.pointer (some ⟨r, 0, none⟩)] w (RTakeo B1 w r m vu x Z) := by
  obtain ⟨g, cap, hvo, hg⟩ : ∃ g cap, vo = .slice (some ⟨g, 0, none⟩) (Z.length + 1) cap ∧ Z.length + 1 ≤ cap ∧ cap ≤ maxLen := by
    obtain ⟨_, ⟨_, h0⟩ | ⟨g, cap, cur, hv, _, _, hle, hmx, _⟩⟩ := h.oo
    · simp at h0
    · exact ⟨g, cap, hv, hle, hmx⟩
  subst hvo
  obtain ⟨hg1, hg2⟩ := hg
  unfold maxLen at hg2
  have hvu : ∃ a c, vu = .slice a ([] : List Int).length c := own_form h.ou
  obtain ⟨ao, co, rfl⟩ := hvu
  have c1 := h.cells.2.1
  have c2 := h.cells.2.2
  have f2 := h.free 2
  have lu := h.lu
  have lo := h.lo
  have hr := h.rB
  have hx0 : w.cell? ⟨g, 0, none⟩ = some (.int .i64 x) := by
    have := World.ownsRow.cellAt h.oo 0 (by simp)
    simpa using this
  have hrs : r < w.heap.size := blk_lt h.blk
  have hZ : Z.length ≤ 64 := by simp at lo; omega
  have H := Lib.hid h
  clear h lu lo
  have main : ∀ w4 g' c', OwnI w.heap.size w4 (.slice (some ⟨g', 0, none⟩) Z.length c') Z → w.grownBy w4 none → RTakeo B1 w r m (.slice ao ([] : List Int).length co) x Z (.returned (.tuple #[.int .i64 x, .bool true])) (w4.setCell ⟨r, 2, none⟩ (.slice (some ⟨g', 0, none⟩) Z.length c')) ∧ w4.frozen? ⟨r, 2, none⟩ = false ∧ w4.cell? ⟨r, 2, none⟩ = some (.slice (some ⟨g, 0, none⟩) (Z.length + 1) cap) := by
    intro w4 g' c' ho hg
    have hblk := (hg.block r hrs (fun e => by cases e)).trans H.out.blk
    have hoth := World.ownsRow.kept H.out.ou hg (by
      rcases hq : (Value.slice ao ([] : List Int).length co).ownBlock with _ | gq
      · exact .inl rfl
      · exact .inr fun e => by cases e)
    have hv4 : OwnI (r + 1) w4 (.slice (some ⟨g', 0, none⟩) Z.length c') Z := by
      obtain ⟨h1, h2 | ⟨g2, cap2, cur, hv, hB, rest⟩⟩ := ho
      · simp at h2
      · exact ⟨h1, .inr ⟨g2, cap2, cur, hv, by omega, rest⟩⟩
    have hgl := (ho.lt g' rfl).1
    have hs := RQ.setO H.out.rB hblk hoth hv4 (fun q e1 e2 => by have := (H.out.ou.lt q e1).2; simp [Value.ownBlock] at e2; omega) H.out.lu (by have := H.out.lo; simp at this; omega)
    exact ⟨⟨rfl, ⟨_, hs.1⟩, ((Below.refl _ _).grown hg (by omega) (fun k e => by cases e)).trans hs.2⟩, by simp [World.frozen?, hblk], by simp [World.cell?, hblk]⟩
  have MAIN := Lib.hid main
  clear main
  have t0 : decide ((0 : Int) < (Z.length : Int) + 1) = true := decide_eq_true (by omega)
  by_cases hc : cap = 1
  · subst hc
    have hZ0 : Z = [] := List.eq_nil_of_length_eq_zero (by omega)
    subst hZ0
    go_enter Try.func12, Try.ntmps12
    go_wp2_with (at_builtin; refine wpList_append_rest rfl (.tmp 42) (.tmp 47) rfl (r + 1) _ hrs g 1 x [] H.out.oo _ _ rfl rfl (.inr rfl) (by simp) ?_)
    intro g' c' w4 ho hg
    obtain ⟨hP, fz, cz⟩ := MAIN.out _ _ _ ho hg
    have HP := Lib.hid hP
    clear hP ho hg c1 c2 f2 hx0
    go_wp2_with fail
    go_ret2
    exact HP.out
  · have hc' : ¬ 1 = cap := fun e => hc e.symm
    go_enter Try.func12, Try.ntmps12
    go_wp2_with (at_builtin; refine wpList_append_rest rfl (.tmp 42) (.tmp 47) rfl (r + 1) _ hrs g cap x Z H.out.oo _ _ rfl rfl (.inl rfl) (by omega) ?_)
    intro g' c' w4 ho hg
    obtain ⟨hP, fz, cz⟩ := MAIN.out _ _ _ ho hg
    have HP := Lib.hid hP
    clear hP ho hg c1 c2 f2 hx0
    go_wp2_with fail
    go_ret2
    exact HP.out

theorem rtake_n {B1 : Nat} {w : World} {r m : Nat} {vu vo : Value} (h : RQ B1 w r m vu vo [] []) :
    Calls Try.prog 12 #[.pointer (some ⟨r, 0, none⟩)] w fun e w' => e = .returned (.tuple #[.int .i64 0, .bool false]) ∧ w = w' := by
  have hvu : ∃ a c, vu = .slice a 0 c := own_form h.ou
  have hvo : ∃ a c, vo = .slice a 0 c := own_form h.oo
  obtain ⟨au, cu, rfl⟩ := hvu
  obtain ⟨ao, co, rfl⟩ := hvo
  have c1 := h.cells.2.1
  have c2 := h.cells.2.2
  clear h
  go_enter Try.func12, Try.ntmps12
  go_wp2_with fail
  go_ret2
  exact ⟨rfl, rfl⟩

end Go.Proofs.Ytbonifmhlbakbaa
