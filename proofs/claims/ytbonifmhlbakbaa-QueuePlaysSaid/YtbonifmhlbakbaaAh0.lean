/- What a queue's calls leave alone; rows of numbers that the call owns. -/
import Derived.Test.YtbonifmhlbakbaaK
import Derived.Maps.AppendAt
import Derived.Laws.AppendOwnNone
import Derived.Laws.OwnMore
namespace Go.Proofs.Ytbonifmhlbakbaa
set_option linter.unusedVariables false
open Go.ChangeShapes Go.WideShapes Go.ChangeAt Go.RowKit Go.Conc

/-- Nothing but two channels has changed. -/
def Kept (cu co : Nat) (w w' : World) : Prop := w'.heap.size = w.heap.size ∧ ∀ b, b ≠ cu → b ≠ co → w'.heap[b]? = w.heap[b]?
theorem kept_refl (cu co : Nat) (w : World) : Kept cu co w w := ⟨rfl, fun _ _ _ => rfl⟩
theorem kept_u (cu co : Nat) (w : World) (cap : Nat) (buf : Array Value) (cl : Bool) (s r : Nat) (tm : Bool) : Kept cu co w (w.setChan cu cap buf cl s r tm) := ⟨size_setChan .., fun b h _ => setChan_other _ _ _ _ _ _ _ _ _ (Ne.symm h)⟩
theorem kept_o (cu co : Nat) (w : World) (cap : Nat) (buf : Array Value) (cl : Bool) (s r : Nat) (tm : Bool) : Kept cu co w (w.setChan co cap buf cl s r tm) := ⟨size_setChan .., fun b _ h => setChan_other _ _ _ _ _ _ _ _ _ (Ne.symm h)⟩

theorem put2_u (x : Int) {B : Nat} {w : World} {d cu co n : Nat} {U O : List Value} (h : Q B w d cu co n U O) :
    Calls Try.prog 15 #[.pointer (some ⟨d, 0, none⟩), .bool true, .int .i64 x] w fun e w' => e = .returned (.bool (room n U)) ∧ Q B w' d cu co n (pushL n U (.int .i64 x)) O ∧ Below B w w' ∧ Kept cu co w w' := by
  obtain ⟨s, r, hk⟩ := h.ku
  by_cases hr : U.length < n
  · rw [show room n U = true by simp [room, hr], show pushL n U (.int .i64 x) = U ++ [.int .i64 x] by simp [pushL, hr]]
    refine (put_int_u_room d cu co n s r U.toArray x w h.c0 h.c1 hk (by simpa using hr)).mono ?_
    rintro e w' ⟨rfl, rfl⟩
    have hs := h.setU (U ++ [.int .i64 x]) (by simp; omega) (U.toArray.push (.int .i64 x)) (by simp) (s + 1) r
    exact ⟨rfl, hs.1, hs.2, kept_u ..⟩
  · rw [show room n U = false by simp [room, hr], show pushL n U (.int .i64 x) = U by simp [pushL, hr]]
    refine (put_int_u_full d cu co n s r U.toArray x w h.c0 h.c1 hk (by simp; omega)).mono ?_
    rintro e w' ⟨rfl, rfl⟩
    exact ⟨rfl, h, Below.refl _ _, kept_refl ..⟩

theorem put2_o (x : Int) {B : Nat} {w : World} {d cu co n : Nat} {U O : List Value} (h : Q B w d cu co n U O) :
    Calls Try.prog 15 #[.pointer (some ⟨d, 0, none⟩), .bool false, .int .i64 x] w fun e w' => e = .returned (.bool (room n O)) ∧ Q B w' d cu co n U (pushL n O (.int .i64 x)) ∧ Below B w w' ∧ Kept cu co w w' := by
  obtain ⟨s, r, hk⟩ := h.ko
  by_cases hr : O.length < n
  · rw [show room n O = true by simp [room, hr], show pushL n O (.int .i64 x) = O ++ [.int .i64 x] by simp [pushL, hr]]
    refine (put_int_o_room d cu co n s r O.toArray x w h.c0 h.c1 hk (by simpa using hr)).mono ?_
    rintro e w' ⟨rfl, rfl⟩
    have hs := h.setO (O ++ [.int .i64 x]) (by simp; omega) (O.toArray.push (.int .i64 x)) (by simp) (s + 1) r
    exact ⟨rfl, hs.1, hs.2, kept_o ..⟩
  · rw [show room n O = false by simp [room, hr], show pushL n O (.int .i64 x) = O by simp [pushL, hr]]
    refine (put_int_o_full d cu co n s r O.toArray x w h.c0 h.c1 hk (by simp; omega)).mono ?_
    rintro e w' ⟨rfl, rfl⟩
    exact ⟨rfl, h, Below.refl _ _, kept_refl ..⟩

theorem take2_u (x : Int) {B : Nat} {w : World} {d cu co n : Nat} {U O : List Value} (h : Q B w d cu co n (.int .i64 x :: U) O) :
    Calls Try.prog 11 #[.pointer (some ⟨d, 0, none⟩)] w fun e w' => e = .returned (.tuple #[.int .i64 x, .bool true]) ∧ Q B w' d cu co n U O ∧ Below B w w' ∧ Kept cu co w w' := by
  obtain ⟨s, r, hk⟩ := h.ku
  refine (take_int_u d cu co n s r 0 0 (.int .i64 x :: U).toArray x w h.c0 h.c1 hk (by simp) (by simp)).mono ?_
  rintro e w' ⟨rfl, rfl⟩
  have hl := h.lu
  have hs := h.setU U (by simp at hl; omega) ((.int .i64 x :: U).toArray.extract 1 (.int .i64 x :: U).toArray.size) (by simp) s (r + 1)
  exact ⟨rfl, hs.1, hs.2, kept_u ..⟩

theorem take2_o (x : Int) {B : Nat} {w : World} {d cu co n : Nat} {O : List Value} (h : Q B w d cu co n [] (.int .i64 x :: O)) :
    Calls Try.prog 11 #[.pointer (some ⟨d, 0, none⟩)] w fun e w' => e = .returned (.tuple #[.int .i64 x, .bool true]) ∧ Q B w' d cu co n [] O ∧ Below B w w' ∧ Kept cu co w w' := by
  obtain ⟨s, r, hk⟩ := h.ku
  obtain ⟨s', r', hk'⟩ := h.ko
  refine (take_int_o d cu co n s r s' r' (.int .i64 x :: O).toArray x w h.c0 h.c1 hk hk' (by simp) (by simp)).mono ?_
  rintro e w' ⟨rfl, rfl⟩
  have hl := h.lo
  have hs := h.setO O (by simp at hl; omega) ((.int .i64 x :: O).toArray.extract 1 (.int .i64 x :: O).toArray.size) (by simp) s' (r' + 1)
  exact ⟨rfl, hs.1, hs.2, kept_o ..⟩

abbrev OwnI (B : Nat) (w : World) (v : Value) (X : List Int) : Prop := w.ownsRow B 3 1 v X.length (X.map iv)

theorem own_kept {B : Nat} {w w' : World} {v : Value} {X : List Int} {cu co : Nat} (h : OwnI B w v X) (hk : Kept cu co w w') (hu : cu < B) (ho : co < B) : OwnI B w' v X := by
  obtain ⟨h1, h2 | ⟨g, cap, cur, hv, hb, hh, hl, hm, hs, ht⟩⟩ := h
  · exact ⟨h1, .inl h2⟩
  · exact ⟨h1, .inr ⟨g, cap, cur, hv, hb, (hk.2 g (by omega) (by omega)).trans hh, hl, hm, hs, ht⟩⟩

theorem own_drew {B : Nat} {w : World} {v : Value} {X : List Int} (h : OwnI B w v X) : OwnI B w.drew v X := h

theorem Q.grown {B : Nat} {w w' : World} {d cu co n : Nat} {U O : List Value} {row : Option Nat} (h : Q B w d cu co n U O) (hg : w.grownBy w' row) (hr : ∀ k, row = some k → d < k ∧ cu < k ∧ co < k) : Q B w' d cu co n U O := by
  have e1 : some d ≠ row := fun e => by have := hr d e.symm; omega
  have e2 : some cu ≠ row := fun e => by have := hr cu e.symm; omega
  have e3 : some co ≠ row := fun e => by have := hr co e.symm; omega
  refine ⟨h.hd, h.hu, h.ho, Nat.lt_of_lt_of_le h.dlt hg.size, Nat.lt_of_lt_of_le h.ult hg.size, Nat.lt_of_lt_of_le h.olt hg.size, h.ne, h.nu, h.no, hg.cell h.c0 e1, hg.cell h.c1 e1, ?_, ?_, h.lu, h.lo⟩
  · obtain ⟨s, r, e⟩ := h.ku; exact ⟨s, r, (hg.block cu h.ult e2).trans e⟩
  · obtain ⟨s, r, e⟩ := h.ko; exact ⟨s, r, (hg.block co h.olt e3).trans e⟩

theorem info3 : (Try.prog.info? 3).map (fun i => (i.zero, i.size, i.bytes)) = some (some (.int .i64 0), 1, 8) := by kernel_rfl

/-- One number more, behind a row that the call owns, while it owns another one. -/
theorem wpList_append_one {ops : Array Oper} {rest : List Oper} {o : Oper} {a : Act} {Q' : Exit → Act → World → Prop} (hgd : o.guard = none) (s x : Operand)
    (ho : o.op = .call { callee := .builtin .append, args := #[s, x], argTypes := #[37, 37] }) (B : Nat) (w : World) (hB : B ≤ w.heap.size) (v : Value) (X : List Int) (r : Int) (hs : a.eval s = v)
    (hown : OwnI B w v X) (hx : a.eval x = .slice (some ⟨w.heap.size, 0, none⟩) 1 1) (hle : X.length ≤ 10000)
    (h : ∀ v' w', OwnI B w' v' (X ++ [r]) → w.grownBy w' v.ownBlock → (v'.ownBlock = v.ownBlock ∨ v'.ownBlock = some (w.heap.size + 1)) → wpList Try.prog ops Q' rest (a.put o.dst v') w') :
    wpList Try.prog ops Q' (o :: rest) a (w.alloc (.cells #[.int .i64 r] 3)) := by
  obtain ⟨ti, hi, hz0, hz1, hz2⟩ := info_parts info3
  refine wpList_append_own_at _ hgd s x 37 ho B 3 ti (.int .i64 0) 1 8 Try.underlying37 hi hz0 hz1 hz2 rfl (by decide) v X.length (X.map iv) hs (hown.alloc _) ⟨w.heap.size, 0, none⟩ 1 1 [.int .i64 r] hx rfl (cell_one_new _ _ _) (by simp [Value.oneCell']) (by unfold maxLen; omega) (by omega) (by simp; omega) ?_
  intro v' w' hown' hg _ hat
  refine h v' w' (by simpa [OwnI] using hown') ⟨hg.os, hg.tape, hg.output, by have := hg.size; simp at this; omega, fun k hk hne => ?_⟩ (by simpa using hat)
  exact (hg.block k (by simp; omega) hne).trans (heap_alloc_old w _ hk)

end Go.Proofs.Ytbonifmhlbakbaa
