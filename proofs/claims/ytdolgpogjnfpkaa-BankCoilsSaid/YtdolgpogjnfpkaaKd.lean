/- Places: what a request brings is written. -/
import Derived.Test.YtdolgpogjnfpkaaKc
import Derived.Laws.BitsAllLaws
namespace Go.Proofs.Ytdolgpogjnfpkaa
set_option linter.unusedVariables false
set_option linter.unusedSimpArgs false
open Go.ChangeShapes Go.WideShapes Go.ChangeAt Go.RowKit

theorem splice_wv (L F : List Nat) (o : Nat) : splice (wv L) o (wv F) = wv (splice L o F) := by
  simp [splice, wv, List.map_take, List.map_drop]
theorem splice_wd {L F : List Nat} {o : Nat} (hL : ∀ b ∈ L, b < 65536) (hF : ∀ b ∈ F, b < 65536) : ∀ b ∈ splice L o F, b < 65536 := by
  intro b hb
  simp only [splice, List.mem_append] at hb
  rcases hb with h | h | h
  · exact hL b (List.mem_of_mem_take h)
  · exact hF b h
  · exact hL b (List.mem_of_mem_drop h)
/-- copy into a row of words: nothing else is changed. -/
theorem wpList_copy_w {ops : Array Oper} {rest : List Oper} {o : Oper} {ac : Act} {w : World} {Q : Exit → Act → World → Prop} (hgd : o.guard = none) (d x : Operand)
    (ho : o.op = .call { callee := .builtin .copy, args := #[d, x], argTypes := #[30, 30] }) (g off n cd : Nat) (a : Option Addr) (len cs : Nat) (hd : ac.eval d = .slice (some ⟨g, off, none⟩) n cd) (hs : ac.eval x = .slice a len cs)
    (L : List Nat) (hg : w.heap[g]? = some (.cells (wv L).toArray 34 (0, 0))) (V : List Nat) (hV : Wds w a len V) (hfit : off + Nat.min len n ≤ L.length)
    (h : ∀ w', w'.heap[g]? = some (.cells (wv (splice L off (V.take n))).toArray 34 (0, 0)) → Fw [g] w w' → wpList Try.prog ops Q rest (ac.put o.dst (goInt (Nat.min len n))) w') :
    wpList Try.prog ops Q (o :: rest) ac w := by
  have hu := Try.underlying30
  have hsz : (Try.prog.info? 34).map (·.size) = some 1 := by kernel_rfl
  have hln := hV.ln
  have hcl : (wv (V.take n)).length = Nat.min len n := by simp [wv, hln, Nat.min_comm]
  by_cases h0 : Nat.min len n = 0
  · refine wpList_copy_nothing hgd d x 30 30 ho 34 hu hsz (some ⟨g, off, none⟩) a n cd len cs hd hs h0 ?_
    have e : V.take n = [] := by
      have : (V.take n).length = 0 := by rw [List.length_take, hln, Nat.min_comm]; exact h0
      exact List.eq_nil_of_length_eq_zero this
    have := h w (by rw [e]; simpa [splice] using hg) (Fw.refl _ _)
    rwa [h0] at this
  · obtain ⟨b, o2, rfl, hlt, hc⟩ := hV.pos (Nat.pos_of_ne_zero (fun q => h0 (by rw [q]; exact Nat.zero_min n)))
    have hsrc : ∀ j v, (wv (V.take n))[j]? = some v → w.cell? ((⟨b, o2, none⟩ : Addr).add j) = some v := by
      intro j v hv
      have hj : j < Nat.min len n := by
        have := (List.getElem?_eq_some_iff.1 hv).1
        rwa [hcl] at this
      have hj2 : j < len := Nat.lt_of_lt_of_le hj (Nat.min_le_left _ _)
      have hj3 : j < n := Nat.lt_of_lt_of_le hj (Nat.min_le_right _ _)
      rw [addr_add_none, hc j hj2, ← hv]
      rw [wv_get _ _ (by rw [List.length_take, hln]; exact Nat.lt_min.2 ⟨hj3, hj2⟩)]
      congr 3
      simp [List.getD, List.getElem?_take_of_lt hj3]
    refine wpList_copy_own hgd d x 30 30 ho 34 hu hsz g off n cd ⟨b, o2, none⟩ len cs hd hs (wv L).toArray 34 hg (wv (V.take n)) hcl hsrc (by rw [hcl]; simpa [wv] using hfit) (wv_one _) ?_
    have h2 := h (w.setRow g (splice (wv L) off (wv (V.take n))).toArray) (by rw [setRow_heap w g _ _ 34 _ hg, splice_wv]) (Fw.setRow w g _)
    rw [← hcl] at h2
    simpa [splice] using h2

/-- A mask, of one word. -/
def mskN (a x y : Nat) : Nat := (a &&& x) ||| (y &&& (65535 - x))
theorem msk_lt {a x y : Nat} (ha : a < 65536) (hy : y < 65536) : mskN a x y < 65536 := by
  unfold mskN
  exact Nat.or_lt_two_pow (n := 16) (Nat.lt_of_le_of_lt Nat.and_le_left ha) (Nat.lt_of_le_of_lt Nat.and_le_left hy)
theorem msk_go {a x y : Nat} (ha : a < 65536) (hx : x < 65536) (hy : y < 65536) : Go.bits .or .u16 (Go.bits .and .u16 (a : Int) (x : Int)) (Go.bits .andNot .u16 (y : Int) (x : Int)) = ((mskN a x y : Nat) : Int) := by
  rw [u16_and_nat a x ha hx, u16_andNot_nat y x hy hx, u16_or_nat _ _ (Nat.lt_of_le_of_lt Nat.and_le_left ha) (Nat.lt_of_le_of_lt Nat.and_le_left hy)]
  rfl
/-- What comes to stand in a row. -/
def wrL (r : Rq) (L : List Nat) (t n : Nat) : List Nat := if r.fc = 22 then L.set t (mskN (L.getD t 0) (r.V.getD 0 0) (r.V.getD 1 0)) else splice L t (r.V.take n)
def WriteQ (B : Nat) (w : World) (p : Nat) (s : Nat → Nat) (R : Nat → List Nat) (k : Nat) (L : List Nat) (e : Ending) (w' : World) : Prop :=
  e = .returned (.tuple #[]) ∧ Bn B w' p s (upR R k L) ∧ Fw (bl s) w w'
set_option maxRecDepth 100000 in
set_option maxHeartbeats 4000000 in
theorem write_any {B : Nat} {w : World} {p : Nat} {s : Nat → Nat} {R : Nat → List Nat} (h : Bn B w p s R) {k t n : Nat} (hk : k < 4) (n1 : 1 ≤ n) (hfit : t + n ≤ (R k).length) (c : Nat) (r : Rq) (hr : r.ok w) (h22 : r.fc = 22 → r.V.length = 2) (hvn : r.vn ≤ 100000) :
    Calls Try.prog 36 #[.slice (some ⟨s k, t, none⟩) n c, rv r] w (WriteQ B w p s R k (wrL r (R k) t n)) := by
  obtain ⟨P, hP⟩ : ∃ P, P = (WriteQ B w p s R k (wrL r (R k) t n) : Ending → World → Prop) := ⟨_, rfl⟩
  rw [← hP]
  have harg := hr.arg
  obtain ⟨fc, ad, q, vs, vn, vc, V, rto⟩ := r
  simp only at harg h22 hP hvn
  simp only [rv]
  obtain ⟨W, hW⟩ : ∃ W, W = w.alloc (.cells #[.int .i64 fc, .int .i64 ad, .int .i64 q, .slice vs vn vc, .int .i64 rto] 32 (0, 0)) := ⟨_, rfl⟩
  have k1 : Below w.heap.size w (w.alloc (.cells #[.int .i64 fc, .int .i64 ad, .int .i64 q, .slice vs vn vc, .int .i64 rto] 32 (0, 0))) := (Below.refl _ _).alloc (Nat.le_refl _) _
  have x0 := heap_alloc_new w (.cells #[.int .i64 fc, .int .i64 ad, .int .i64 q, .slice vs vn vc, .int .i64 rto] 32 (0, 0))
  rw [← hW] at k1 x0
  have hW2 := h.below k1
  obtain ⟨c0, c1, c2, c3, c4⟩ := cells5 x0
  have AW := harg.below k1
  by_cases hf : fc = 22
  · subst hf
    have hl2 := h22 rfl
    have hvl : vn = 2 := by have := harg.row.ln; omega
    subst hvl
    obtain ⟨b, off, rfl, hlt, hc⟩ := AW.row.pos (by omega)
    have m0 : W.cell? ⟨b, off, none⟩ = _ := hc 0 (by omega)
    have m1 := hc 1 (by omega)
    have l0 := wgetD_lt AW.row.by' 0
    have l1 := wgetD_lt AW.row.by' 1
    obtain ⟨ct, fz⟩ := hW2.at hk (i := t) (by omega)
    have lt := wgetD_lt (h.wd k hk) t
    have hm := msk_go lt l0 l1
    have hml := msk_lt (x := V.getD 0 0) lt l1
    have F : Hid (P (.returned (.tuple #[])) (W.setCell ⟨s k, t, none⟩ (.int .u16 ((mskN ((R k).getD t 0) (V.getD 0 0) (V.getD 1 0) : Nat) : Int))).drew) := Lib.hid (by
      rw [hP]
      obtain ⟨p1, p2⟩ := hW2.put hk (b := t) _ hml
      exact ⟨rfl, by unfold wrL; rw [if_pos rfl]; exact p1.below (Below.refl _ _).drew, ((Fw.of_below k1).trans p2).trans (Fw.of_below (Below.refl _ _).drew)⟩)
    generalize mskN ((R k).getD t 0) (V.getD 0 0) (V.getD 1 0) = z at hm F hml
    generalize (R k).getD t 0 = y at hm ct lt
    generalize V.getD 0 0 = v0 at *
    generalize V.getD 1 0 = v1 at *
    have HW := Lib.hid hW
    clear hP harg h hr k1 x0 hW hW2 AW hc h22
    go_enter Try.func36, Try.ntmps36
    go_upto_region 1 with fail
    rw [← HW.out]
    go_upto_region 2 with fail
    go_region
    all_goals
      go_wp2_with fail
      first | go_end0 | refine bodyPost_ret (results_none rfl _ _ _) rfl ?_ | skip
      exact F.out
  · have e22 : (fc == 22) = false := by simpa using hf
    have HW := Lib.hid hW
    have hcl : Nat.min vn n ≤ n := Nat.min_le_right _ _
    have F : Hid (∀ w', w'.heap[s k]? = some (.cells (wv (splice (R k) t (V.take n))).toArray 34 (0, 0)) → Fw [s k] W w' → P (.returned (.tuple #[])) w') := Lib.hid (by
      intro w' h1 h2
      rw [hP]
      have hfl : t + (V.take n).length ≤ (R k).length := by rw [List.length_take]; have := Nat.min_le_left n V.length; omega
      refine ⟨rfl, ?_, (Fw.of_below k1).trans (h2.mono (by intro y hy; simp at hy; subst hy; exact bl_mem hk))⟩
      unfold wrL
      rw [if_neg hf]
      exact hW2.set hk (length_splice _ _ _ hfl) (splice_wd (h.wd k hk) (fun v hv => harg.row.by' v (List.mem_of_mem_take hv))) h2 h1)
    have HRW := Lib.hid (hW2.row k hk)
    have AW := Lib.hid AW.row
    clear hP harg h hr k1 x0 hW hW2 h22 hf
    go_enter Try.func36, Try.ntmps36
    go_upto_region 1 with fail
    rw [← HW.out]
    go_upto_region 4 with fail
    go_wp2_with (refine wpList_copy_w rfl (.tmp 28) (.tmp 30) rfl (s k) t n c vs vn vc rfl rfl (R k) HRW.out V AW.out (by omega) ?_)
    intro w' h1 h2
    have F1 := Lib.hid (F.out w' h1 h2)
    clear h1 h2
    go_wp2_with fail
    first | go_end0 | refine bodyPost_ret (results_none rfl _ _ _) rfl ?_
    exact F1.out
end Go.Proofs.Ytdolgpogjnfpkaa
