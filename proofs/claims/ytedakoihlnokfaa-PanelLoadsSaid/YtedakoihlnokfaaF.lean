/- Something happens to each lamp. -/
import Derived.Test.YtedakoihlnokfaaE
import Derived.Test.YtedakoihlnokfaaLast
import Derived.StillTailTactics
import Derived.Deep.CutRange
namespace Go.Proofs.Ytedakoihlnokfaa
set_option linter.unusedVariables false
set_option linter.unusedSimpArgs false
open Go.ChangeShapes Go.WideShapes Go.ChangeAt Go.RowKit

theorem next_9 (k s h : Int) : 0 ≤ nextZ k s h ∧ nextZ k s h < 9 := by
  unfold nextZ
  split
  · rename_i hc
    obtain ⟨h1, h2, h3, h4⟩ := hc
    have hr : 0 ≤ restZ k ∧ restZ k < 9 := by unfold restZ; (repeat' split) <;> decide
    have key : ∀ x ∈ tabZ k h, 0 ≤ x ∧ x < 9 := by
      unfold tabZ
      repeat' split
      · unfold badZ badL; split <;> decide
      · unfold firstZ badZ badL; (repeat' split) <;> decide
      · unfold wellZ; intro x hx; simp at hx; omega
      · unfold ackZ; intro x hx; simp at hx; omega
      · decide
      · decide
    exact getD_9 key _
  · decide
/-- What the first k come to. -/
def mS (K S : List Int) (H : Nat → Int) (k : Nat) : List Int := (List.range S.length).map fun i => if i < k then nextZ (K.getD i 0) (S.getD i 0) (H i) else S.getD i 0
def mapN (K S : List Int) (H : Nat → Int) : List Int := mS K S H S.length
theorem mS_len (K S : List Int) (H : Nat → Int) (k : Nat) : (mS K S H k).length = S.length := by simp [mS]
theorem mapN_len (K S : List Int) (H : Nat → Int) : (mapN K S H).length = S.length := mS_len _ _ _ _
theorem mS_zero (K S : List Int) (H : Nat → Int) : mS K S H 0 = S := by
  apply List.ext_getElem
  · simp [mS]
  · intro i h1 h2; simp [mS, List.getElem?_eq_getElem h2]
theorem mS_get (K S : List Int) (H : Nat → Int) (k i : Nat) (hi : i < S.length) : (mS K S H k).getD i 0 = if i < k then nextZ (K.getD i 0) (S.getD i 0) (H i) else S.getD i 0 := by
  simp [mS, List.getD, List.getElem?_map, List.getElem?_range hi]
theorem mapN_get (K S : List Int) (H : Nat → Int) (i : Nat) (hi : i < S.length) : (mapN K S H).getD i 0 = nextZ (K.getD i 0) (S.getD i 0) (H i) := by
  unfold mapN; rw [mS_get _ _ _ _ _ hi, if_pos hi]
theorem mS_set (K S : List Int) (H : Nat → Int) (k : Nat) (hk : k < S.length) : (mS K S H k).set k (nextZ (K.getD k 0) (S.getD k 0) (H k)) = mS K S H (k + 1) := by
  apply List.ext_getElem
  · simp [mS]
  · intro i h1 h2
    rw [List.getElem_set]
    simp only [mS, List.getElem_map, List.getElem_range]
    by_cases e : k = i
    · subst e; rw [if_pos rfl, if_pos (by omega)]
    · rw [if_neg e]
      by_cases h : i < k
      · rw [if_pos h, if_pos (by omega)]
      · rw [if_neg h, if_neg (by omega)]
theorem mS_9 {K S : List Int} {H : Nat → Int} (k : Nat) (h : ∀ s ∈ S, 0 ≤ s ∧ s < 9) : ∀ s ∈ mS K S H k, 0 ≤ s ∧ s < 9 := by
  intro s hs
  simp only [mS, List.mem_map] at hs
  obtain ⟨i, _, rfl⟩ := hs
  split
  · exact next_9 _ _ _
  · exact getD_9 h i
theorem mapN_9 {K S : List Int} {H : Nat → Int} (h : ∀ s ∈ S, 0 ≤ s ∧ s < 9) : ∀ s ∈ mapN K S H, 0 ≤ s ∧ s < 9 := mS_9 _ h
def HapP (w : World) (sb : Nat) (S' : List Int) (e : Ending) (w' : World) : Prop := e = .returned (.tuple #[]) ∧ w'.heap[sb]? = some (.cells (iv S').toArray 3 (0, 0)) ∧ Fs [sb] w w'
theorem cl_ack (i : Int) (w : World) : Calls Try.prog 25 #[.int .i64 i] w (IntP w 4) := by
  go_enter Try.func25, Try.ntmps25
  go_wp2_with fail
  go_ret
  exact ⟨rfl, rfl⟩
theorem cl_reset (i : Int) (w : World) : Calls Try.prog 26 #[.int .i64 i] w (IntP w 5) := by
  go_enter Try.func26, Try.ntmps26
  go_wp2_with fail
  go_ret
  exact ⟨rfl, rfl⟩
theorem Row.pos {W : World} {a : Option Addr} {len : Nat} {V : Nat → Value} (h : Row W a len V) (hp : 0 < len) : ∃ b off, a = some ⟨b, off, none⟩ ∧ b < W.heap.size ∧ ∀ i, i < len → W.cell? ⟨b, off + i, none⟩ = some (V i) := by
  rcases h.at' with z | z
  · omega
  · exact z
theorem Row.below {W w : World} {a : Option Addr} {len : Nat} {V : Nat → Value} (h : Row W a len V) (hb : Below W.heap.size W w) : Row w a len V := by
  refine ⟨h.le, ?_⟩
  rcases h.at' with z | ⟨b, off, e, hlt, hc⟩
  · exact .inl z
  · exact .inr ⟨b, off, e, Nat.lt_of_lt_of_le hlt hb.size, fun i hi => (hb.cell (p := ⟨b, off + i, none⟩) hlt).trans (hc i hi)⟩
def hapS (f g : Nat → Bool) (i : Nat) : Int := if f i = true then (if g i = true then 2 else 1) else 3
/-- What See's closure reads. -/
structure Cap (w : World) (x y n : Nat) (f g : Nat → Bool) : Prop where
  bx : ∃ a c, w.cell? ⟨x, 0, none⟩ = some (.slice a n c) ∧ Row w a n (fun i => .bool (f i))
  by' : ∃ a c, w.cell? ⟨y, 0, none⟩ = some (.slice a n c) ∧ Row w a n (fun i => .bool (g i))
set_option maxRecDepth 100000 in
theorem cl_see {w : World} {x y n : Nat} {f g : Nat → Bool} (h : Cap w x y n f g) (i : Nat) (hi : i < n) : Calls Try.prog 27 #[.int .i64 (i : Int), .pointer (some ⟨x, 0, none⟩), .pointer (some ⟨y, 0, none⟩)] w (IntP w (hapS f g i)) := by
  obtain ⟨⟨a, c, h1, r1⟩, ⟨b, d, h2, r2⟩⟩ := h
  obtain ⟨b1, o1, rfl, _, q1⟩ := r1.pos (by omega)
  obtain ⟨b2, o2, rfl, _, q2⟩ := r2.pos (by omega)
  have e1 := q1 i hi
  have e2 := q2 i hi
  unfold hapS
  have d0 : (i : Int) < (n : Int) := by omega
  have d1 : (0 : Int) ≤ (i : Int) := by omega
  clear q1 q2 r1 r2
  cases hf : f i <;> cases hg : g i
  all_goals
    rw [hf] at e1
    rw [hg] at e2
    clear hf hg
    go_enter Try.func27, Try.ntmps27
    go_wp2_with fail
    go_ret
    exact ⟨rfl, rfl⟩
set_option maxRecDepth 100000 in
set_option maxHeartbeats 4000000 in
theorem happens_ack {B : Nat} {w : World} {p sb : Nat} {ka : Option Addr} {kc n : Nat} {K S : List Int} {si te : Bool}  (h : Pn B w p sb ka kc n K S si te) :
    Calls Try.prog 24 #[.pointer (some ⟨p, 0, none⟩), .func (.func 25) #[] #[]] w (HapP w sb (mapN K S (fun _ => 4))) := by
  obtain ⟨P, hP⟩ : ∃ P, P = (HapP w sb (mapN K S (fun _ => 4)) : Ending → World → Prop) := ⟨_, rfl⟩
  rw [← hP]
  have HP := Lib.hid hP
  have PN := Lib.hid h
  have n64 := h.n64
  obtain ⟨c0, c1, c2, c3, _, _⟩ := cells4 h.blk
  have HST := Lib.hid h.st
  have HSL := Lib.hid h.sl
  have HKL := Lib.hid h.kl
  clear h hP
  go_enter Try.func24, Try.ntmps24
  go_wp2_with fail
  clear c0 c1 c2 c3
  go_loopw [10] (fun i wr => ∃ k : Nat, k ≤ n ∧ i = .int .i64 k ∧ wr.heap[sb]? = some (.cells (iv (mS K S (fun _ => 4) k)).toArray 3 (0, 0)) ∧ Fs [sb] w wr) (fun i _ => n - (intOf i).toNat)
  case atStart => exact ⟨0, Nat.zero_le _, rfl, by rw [mS_zero]; exact HST.out, Fs.refl _ _⟩
  case round =>
    obtain ⟨wo, rfl⟩ : ∃ wo : World, wo = wr := ⟨_, rfl⟩
    obtain ⟨k, hk, rfl, hg, hb⟩ := hrel
    by_cases hkn : k < n
    · have hpn := PN.out.turn hb (by rw [mS_len, HSL.out]) (mS_9 k PN.out.s8) hg
      obtain ⟨c0, c1, c2, c3, _, _⟩ := cells4 hpn.blk
      have cs := (iv_cell hg (k := k) (by rw [mS_len, HSL.out]; exact hkn)).1
      rw [mS_get K S (fun _ => 4) k k (by rw [HSL.out]; exact hkn), if_neg (by omega)] at cs
      obtain ⟨kb, ko, rfl, hkb, hkc⟩ := hpn.ks.pos (by omega)
      have ck := hkc k hkn
      have hset := mS_set K S (fun _ => 4) k (by rw [HSL.out]; exact hkn)
      obtain ⟨s, hs⟩ : ∃ s, s = S.getD k 0 := ⟨_, rfl⟩
      obtain ⟨q, hq⟩ : ∃ q, q = K.getD k 0 := ⟨_, rfl⟩
      rw [← hs] at cs
      rw [← hq] at ck
      rw [← hs, ← hq] at hset
      have HG := Lib.hid hg
      have HB := Lib.hid hb
      have HSET := Lib.hid hset
      have d0 : (k : Int) < (n : Int) := by omega
      have d1 : (0 : Int) ≤ (k : Int) := by omega
      clear hg hb hset hs hq hkc
      have g0 : Gd wo wo.drew := (Below.refl _ _).drew
      have KS := Lib.hid (fun (w' : World) (h : Gd wo w') => And.intro ((cells4 (low_of h hpn.blk)).1) (And.intro ((cells4 (low_of h hpn.blk)).2.1) (And.intro ((Below.cell h (p := ⟨kb, ko + k, none⟩) hkb).trans ck) ((Below.cell h (p := ⟨sb, k, none⟩) hpn.lt.2).trans cs))))
      clear hpn hkb
      go_upto_region 3 with fail
      refine wp_region_last (fun w' => w'.cell? ⟨p, 0, none⟩ = some (.slice (some ⟨kb, ko, none⟩) n kc) ∧ w'.cell? ⟨p, 1, none⟩ = some (.slice (some ⟨sb, 0, none⟩) n n) ∧ w'.cell? ⟨kb, ko + k, none⟩ = some (.int .i64 q) ∧ w'.cell? ⟨sb, k, none⟩ = some (.int .i64 s)) 24 (by kernel_rfl) (fun hv => ?_)
      have hS0 := KS.out wo.drew g0
      refine wpAnyM_take 0 ?_ rfl (by kernel_rfl) (fun _ _ _ h => h) (by assumption) (by assumption) (Or.inl ⟨by rfl, ?_⟩) ?_
      rotate_left
      · intro wS hSw
        try dsimp only at hSw
        go_simp
        try with_reducible rfl
      intro hv0
      simp only [Act.put, List.setIfInBounds_toArray, List.set_cons_zero, List.set_cons_succ]
      refine wpAnyM_take 1 ?_ rfl (by kernel_rfl) (fun _ _ _ h => h) (by assumption) (by assumption) (Or.inl ⟨by rfl, ?_⟩) ?_
      rotate_left
      · intro wS hSw
        try dsimp only at hSw
        go_simp
        try with_reducible rfl
      intro hv1
      simp only [Act.put, List.setIfInBounds_toArray, List.set_cons_zero, List.set_cons_succ]
      refine wpAnyM_take 2 ?_ rfl (by kernel_rfl) (fun _ _ _ h => h) (by assumption) (by assumption) (Or.inl ⟨by rfl, ?_⟩) ?_
      rotate_left
      · intro wS hSw
        try dsimp only at hSw
        go_simp
        try with_reducible rfl
      intro hv2
      simp only [Act.put, List.setIfInBounds_toArray, List.set_cons_zero, List.set_cons_succ]
      refine wpAnyM_take 3 ?_ rfl (by kernel_rfl) (fun _ _ _ h => h) (by assumption) (by assumption) (Or.inl ⟨by rfl, ?_⟩) ?_
      rotate_left
      · intro wS hSw
        try dsimp only at hSw
        go_simp
        try with_reducible rfl
      intro hv3
      simp only [Act.put, List.setIfInBounds_toArray, List.set_cons_zero, List.set_cons_succ]
      refine wpAnyM_take 4 ?_ rfl (by kernel_rfl) (fun _ _ _ h => h) (by assumption) (by assumption) (Or.inl ⟨by rfl, ?_⟩) ?_
      rotate_left
      · intro wS hSw
        try dsimp only at hSw
        go_simp
        try with_reducible rfl
      intro hv4
      simp only [Act.put, List.setIfInBounds_toArray, List.set_cons_zero, List.set_cons_succ]
      refine wpAnyM_take 5 ?_ rfl (by kernel_rfl) (fun _ _ _ h => h) (by assumption) (by assumption) (Or.inl ⟨by rfl, ?_⟩) ?_
      rotate_left
      · intro wS hSw
        try dsimp only at hSw
        go_simp
        try with_reducible rfl
      intro hv5
      simp only [Act.put, List.setIfInBounds_toArray, List.set_cons_zero, List.set_cons_succ]
      refine wpAnyM_take 6 ?_ rfl (by kernel_rfl) (fun _ _ _ h => h) (by assumption) (by assumption) (Or.inl ⟨by rfl, ?_⟩) ?_
      rotate_left
      · intro wS hSw
        try dsimp only at hSw
        go_simp
        try with_reducible rfl
      intro hv6
      simp only [Act.put, List.setIfInBounds_toArray, List.set_cons_zero, List.set_cons_succ]
      refine wpAnyM_take 7 ?_ rfl (by kernel_rfl) (fun _ _ _ h => h) (by assumption) (by assumption) (Or.inl ⟨by rfl, ?_⟩) ?_
      rotate_left
      · intro wS hSw
        try dsimp only at hSw
        go_simp
        try with_reducible rfl
      intro hv7
      simp only [Act.put, List.setIfInBounds_toArray, List.set_cons_zero, List.set_cons_succ]
      refine wpAnyM_take 8 ?_ rfl (by kernel_rfl) (fun _ _ _ h => h) (by assumption) (by assumption) (Or.inl ⟨by rfl, ?_⟩) ?_
      rotate_left
      · intro wS hSw
        try dsimp only at hSw
        go_simp
        try with_reducible rfl
      intro hv8
      simp only [Act.put, List.setIfInBounds_toArray, List.set_cons_zero, List.set_cons_succ]
      refine wpAnyM_take 9 ?_ rfl (by kernel_rfl) (fun _ _ _ h => h) (by assumption) (by assumption) (Or.inl ⟨by rfl, ?_⟩) ?_
      rotate_left
      · intro wS hSw
        try dsimp only at hSw
        go_simp
        try with_reducible rfl
      intro hv9
      simp only [Act.put, List.setIfInBounds_toArray, List.set_cons_zero, List.set_cons_succ]
      refine wpAnyM_take 10 ?_ rfl (by kernel_rfl) (fun _ _ _ h => h) (by assumption) (by assumption) (Or.inl ⟨by rfl, ?_⟩) ?_
      rotate_left
      · intro wS hSw
        try dsimp only at hSw
        go_simp
        try with_reducible rfl
      intro hv10
      simp only [Act.put, List.setIfInBounds_toArray, List.set_cons_zero, List.set_cons_succ]
      refine wpAnyM_take 11 ?_ rfl (by kernel_rfl) (fun _ _ _ h => h) (by assumption) (by assumption) (Or.inl ⟨by rfl, ?_⟩) ?_
      rotate_left
      · intro wS hSw
        try dsimp only at hSw
        go_simp
        try with_reducible rfl
      intro hv11
      simp only [Act.put, List.setIfInBounds_toArray, List.set_cons_zero, List.set_cons_succ]
      refine wpAnyM_take 12 ?_ rfl (by kernel_rfl) (fun _ _ _ h => h) (by assumption) (by assumption) (Or.inl ⟨by rfl, ?_⟩) ?_
      rotate_left
      · intro wS hSw
        try dsimp only at hSw
        go_simp
        try with_reducible rfl
      intro hv12
      simp only [Act.put, List.setIfInBounds_toArray, List.set_cons_zero, List.set_cons_succ]
      refine wpAnyM_take 13 ?_ rfl (by kernel_rfl) (fun _ _ _ h => h) (by assumption) (by assumption) (Or.inl ⟨by rfl, ?_⟩) ?_
      rotate_left
      · intro wS hSw
        try dsimp only at hSw
        go_simp
        try with_reducible rfl
      intro hv13
      simp only [Act.put, List.setIfInBounds_toArray, List.set_cons_zero, List.set_cons_succ]
      refine wpAnyM_take 14 ?_ rfl (by kernel_rfl) (fun _ _ _ h => h) (by assumption) (by assumption) (Or.inl ⟨by rfl, ?_⟩) ?_
      rotate_left
      · intro wS hSw
        try dsimp only at hSw
        go_simp
        try with_reducible rfl
      intro hv14
      simp only [Act.put, List.setIfInBounds_toArray, List.set_cons_zero, List.set_cons_succ]
      refine wpAnyM_take 15 ?_ rfl (by kernel_rfl) (fun _ _ _ h => h) (by assumption) (by assumption) (Or.inl ⟨by rfl, ?_⟩) ?_
      rotate_left
      · intro wS hSw
        try dsimp only at hSw
        go_simp
        try with_reducible rfl
      intro hv15
      simp only [Act.put, List.setIfInBounds_toArray, List.set_cons_zero, List.set_cons_succ]
      refine wpAnyM_take 16 ?_ rfl (by kernel_rfl) (fun _ _ _ h => h) (by assumption) (by assumption) (Or.inl ⟨by rfl, ?_⟩) ?_
      rotate_left
      · intro wS hSw
        try dsimp only at hSw
        go_simp
        try with_reducible rfl
      intro hv16
      simp only [Act.put, List.setIfInBounds_toArray, List.set_cons_zero, List.set_cons_succ]
      refine wpAnyM_take 17 ?_ rfl (by kernel_rfl) (fun _ _ _ h => h) (by assumption) (by assumption) (Or.inl ⟨by rfl, ?_⟩) ?_
      rotate_left
      · intro wS hSw
        try dsimp only at hSw
        go_simp
        try with_reducible rfl
      intro hv17
      simp only [Act.put, List.setIfInBounds_toArray, List.set_cons_zero, List.set_cons_succ]
      refine wpAnyM_take 18 ?_ rfl (by kernel_rfl) (fun _ _ _ h => h) (by assumption) (by assumption) (Or.inl ⟨by rfl, ?_⟩) ?_
      rotate_left
      · intro wS hSw
        try dsimp only at hSw
        go_simp
        try with_reducible rfl
      intro hv18
      simp only [Act.put, List.setIfInBounds_toArray, List.set_cons_zero, List.set_cons_succ]
      refine wpAnyM_take 19 ?_ rfl (by kernel_rfl) (fun _ _ _ h => h) (by assumption) (by assumption) (Or.inl ⟨by rfl, ?_⟩) ?_
      rotate_left
      · intro wS hSw
        try dsimp only at hSw
        go_simp
        try with_reducible rfl
      intro hv19
      simp only [Act.put, List.setIfInBounds_toArray, List.set_cons_zero, List.set_cons_succ]
      refine wpAnyM_take 20 ?_ rfl (by kernel_rfl) (fun _ _ _ h => h) (by assumption) (by assumption) (Or.inl ⟨by rfl, ?_⟩) ?_
      rotate_left
      · intro wS hSw
        try dsimp only at hSw
        go_simp
        try with_reducible rfl
      intro hv20
      simp only [Act.put, List.setIfInBounds_toArray, List.set_cons_zero, List.set_cons_succ]
      refine wpAnyM_one 21 rfl (by kernel_rfl) (by decide) (by assumption) (fun hv21 K hK => ?_)
      go_simp
      refine (cl_ack _ _).mono ?_
      rintro e w5 ⟨rfl, rfl⟩
      refine hK.out _ _ hS0 ?_
      clear hK K
      try simp only [Act.put, List.setIfInBounds_toArray, List.set_cons_zero, List.set_cons_succ]
      refine wpAnyM_one 22 rfl (by kernel_rfl) (by decide) (by assumption) (fun hv22 K hK => ?_)
      go_simp
      refine (next_any q s _ _).mono ?_
      rintro e w6 ⟨rfl, z6⟩
      have q6 : Gd wo w6 := Gd.step g0 z6
      have hS6 := KS.out w6 q6
      refine hK.out _ _ hS6 ?_
      clear hK K z6
      try simp only [Act.put, List.setIfInBounds_toArray, List.set_cons_zero, List.set_cons_succ]
      refine wpAnyM_take 23 ?_ rfl (by kernel_rfl) (fun _ _ _ h => h) (by assumption) (by assumption) (Or.inl ⟨by rfl, ?_⟩) ?_
      rotate_left
      · intro wS hSw
        try dsimp only at hSw
        go_simp
        try with_reducible rfl
      intro hv23
      simp only [Act.put, List.setIfInBounds_toArray, List.set_cons_zero, List.set_cons_succ]
      obtain ⟨b0, b1, b2, b3⟩ := hS6
      refine wpAnyM_last rfl (by kernel_rfl) (by kernel_rfl) (fun K hK => ?_)
      have fz : w6.frozen? ⟨sb, k, none⟩ = false := (iv_cell (low_of q6 HG.out) (k := k) (by rw [mS_len, HSL.out]; exact hkn)).2
      go_simp
      refine hK.out _ _ ?_
      clear hK K b0 b1 b2 b3 fz
      clear hv hv0 hv1 hv2 hv3 hv4 hv5 hv6 hv7 hv8 hv9 hv10 hv11 hv12 hv13 hv14 hv15 hv16 hv17 hv18 hv19 hv20 hv21 hv22 hv23
      have hst := set_block (low_of q6 HG.out) k (.int .i64 (nextZ q s (4)))
      rw [iv_set, show (mS K S (fun _ => 4) k).set k (nextZ q s (4)) = mS K S (fun _ => 4) (k + 1) from HSET.out] at hst
      have HST2 := Lib.hid hst
      have HF2 := Lib.hid ((HB.out.trans (Fs.of_below q6)).trans ((Fs.set w6 sb k (.int .i64 (nextZ q s (4))))))
      clear hst hS0
      go_wp2_with fail
      go_roundw
      case rel => exact ⟨k + 1, by omega, by go_num, HST2.out, HF2.out⟩
      case measure => simp [intOf]; omega
    · have hk' : k = n := by omega
      subst hk'
      have HG : Hid (wo.heap[sb]? = some (.cells (iv (mapN K S (fun _ => 4))).toArray 3 (0, 0))) := Lib.hid (by unfold mapN; rw [HSL.out]; exact hg)
      have HB := Lib.hid hb
      clear hg hb
      go_wp2_with fail
      first | go_end0 | refine bodyPost_ret (results_none rfl _ _ _) rfl ?_
      rw [HP.out]
      exact ⟨rfl, HG.out, HB.out⟩
set_option maxRecDepth 100000 in
set_option maxHeartbeats 4000000 in
theorem happens_reset {B : Nat} {w : World} {p sb : Nat} {ka : Option Addr} {kc n : Nat} {K S : List Int} {si te : Bool}  (h : Pn B w p sb ka kc n K S si te) :
    Calls Try.prog 24 #[.pointer (some ⟨p, 0, none⟩), .func (.func 26) #[] #[]] w (HapP w sb (mapN K S (fun _ => 5))) := by
  obtain ⟨P, hP⟩ : ∃ P, P = (HapP w sb (mapN K S (fun _ => 5)) : Ending → World → Prop) := ⟨_, rfl⟩
  rw [← hP]
  have HP := Lib.hid hP
  have PN := Lib.hid h
  have n64 := h.n64
  obtain ⟨c0, c1, c2, c3, _, _⟩ := cells4 h.blk
  have HST := Lib.hid h.st
  have HSL := Lib.hid h.sl
  have HKL := Lib.hid h.kl
  clear h hP
  go_enter Try.func24, Try.ntmps24
  go_wp2_with fail
  clear c0 c1 c2 c3
  go_loopw [10] (fun i wr => ∃ k : Nat, k ≤ n ∧ i = .int .i64 k ∧ wr.heap[sb]? = some (.cells (iv (mS K S (fun _ => 5) k)).toArray 3 (0, 0)) ∧ Fs [sb] w wr) (fun i _ => n - (intOf i).toNat)
  case atStart => exact ⟨0, Nat.zero_le _, rfl, by rw [mS_zero]; exact HST.out, Fs.refl _ _⟩
  case round =>
    obtain ⟨wo, rfl⟩ : ∃ wo : World, wo = wr := ⟨_, rfl⟩
    obtain ⟨k, hk, rfl, hg, hb⟩ := hrel
    by_cases hkn : k < n
    · have hpn := PN.out.turn hb (by rw [mS_len, HSL.out]) (mS_9 k PN.out.s8) hg
      obtain ⟨c0, c1, c2, c3, _, _⟩ := cells4 hpn.blk
      have cs := (iv_cell hg (k := k) (by rw [mS_len, HSL.out]; exact hkn)).1
      rw [mS_get K S (fun _ => 5) k k (by rw [HSL.out]; exact hkn), if_neg (by omega)] at cs
      obtain ⟨kb, ko, rfl, hkb, hkc⟩ := hpn.ks.pos (by omega)
      have ck := hkc k hkn
      have hset := mS_set K S (fun _ => 5) k (by rw [HSL.out]; exact hkn)
      obtain ⟨s, hs⟩ : ∃ s, s = S.getD k 0 := ⟨_, rfl⟩
      obtain ⟨q, hq⟩ : ∃ q, q = K.getD k 0 := ⟨_, rfl⟩
      rw [← hs] at cs
      rw [← hq] at ck
      rw [← hs, ← hq] at hset
      have HG := Lib.hid hg
      have HB := Lib.hid hb
      have HSET := Lib.hid hset
      have d0 : (k : Int) < (n : Int) := by omega
      have d1 : (0 : Int) ≤ (k : Int) := by omega
      clear hg hb hset hs hq hkc
      have g0 : Gd wo wo.drew := (Below.refl _ _).drew
      have KS := Lib.hid (fun (w' : World) (h : Gd wo w') => And.intro ((cells4 (low_of h hpn.blk)).1) (And.intro ((cells4 (low_of h hpn.blk)).2.1) (And.intro ((Below.cell h (p := ⟨kb, ko + k, none⟩) hkb).trans ck) ((Below.cell h (p := ⟨sb, k, none⟩) hpn.lt.2).trans cs))))
      clear hpn hkb
      go_upto_region 3 with fail
      refine wp_region_last (fun w' => w'.cell? ⟨p, 0, none⟩ = some (.slice (some ⟨kb, ko, none⟩) n kc) ∧ w'.cell? ⟨p, 1, none⟩ = some (.slice (some ⟨sb, 0, none⟩) n n) ∧ w'.cell? ⟨kb, ko + k, none⟩ = some (.int .i64 q) ∧ w'.cell? ⟨sb, k, none⟩ = some (.int .i64 s)) 24 (by kernel_rfl) (fun hv => ?_)
      have hS0 := KS.out wo.drew g0
      refine wpAnyM_take 0 ?_ rfl (by kernel_rfl) (fun _ _ _ h => h) (by assumption) (by assumption) (Or.inl ⟨by rfl, ?_⟩) ?_
      rotate_left
      · intro wS hSw
        try dsimp only at hSw
        go_simp
        try with_reducible rfl
      intro hv0
      simp only [Act.put, List.setIfInBounds_toArray, List.set_cons_zero, List.set_cons_succ]
      refine wpAnyM_take 1 ?_ rfl (by kernel_rfl) (fun _ _ _ h => h) (by assumption) (by assumption) (Or.inl ⟨by rfl, ?_⟩) ?_
      rotate_left
      · intro wS hSw
        try dsimp only at hSw
        go_simp
        try with_reducible rfl
      intro hv1
      simp only [Act.put, List.setIfInBounds_toArray, List.set_cons_zero, List.set_cons_succ]
      refine wpAnyM_take 2 ?_ rfl (by kernel_rfl) (fun _ _ _ h => h) (by assumption) (by assumption) (Or.inl ⟨by rfl, ?_⟩) ?_
      rotate_left
      · intro wS hSw
        try dsimp only at hSw
        go_simp
        try with_reducible rfl
      intro hv2
      simp only [Act.put, List.setIfInBounds_toArray, List.set_cons_zero, List.set_cons_succ]
      refine wpAnyM_take 3 ?_ rfl (by kernel_rfl) (fun _ _ _ h => h) (by assumption) (by assumption) (Or.inl ⟨by rfl, ?_⟩) ?_
      rotate_left
      · intro wS hSw
        try dsimp only at hSw
        go_simp
        try with_reducible rfl
      intro hv3
      simp only [Act.put, List.setIfInBounds_toArray, List.set_cons_zero, List.set_cons_succ]
      refine wpAnyM_take 4 ?_ rfl (by kernel_rfl) (fun _ _ _ h => h) (by assumption) (by assumption) (Or.inl ⟨by rfl, ?_⟩) ?_
      rotate_left
      · intro wS hSw
        try dsimp only at hSw
        go_simp
        try with_reducible rfl
      intro hv4
      simp only [Act.put, List.setIfInBounds_toArray, List.set_cons_zero, List.set_cons_succ]
      refine wpAnyM_take 5 ?_ rfl (by kernel_rfl) (fun _ _ _ h => h) (by assumption) (by assumption) (Or.inl ⟨by rfl, ?_⟩) ?_
      rotate_left
      · intro wS hSw
        try dsimp only at hSw
        go_simp
        try with_reducible rfl
      intro hv5
      simp only [Act.put, List.setIfInBounds_toArray, List.set_cons_zero, List.set_cons_succ]
      refine wpAnyM_take 6 ?_ rfl (by kernel_rfl) (fun _ _ _ h => h) (by assumption) (by assumption) (Or.inl ⟨by rfl, ?_⟩) ?_
      rotate_left
      · intro wS hSw
        try dsimp only at hSw
        go_simp
        try with_reducible rfl
      intro hv6
      simp only [Act.put, List.setIfInBounds_toArray, List.set_cons_zero, List.set_cons_succ]
      refine wpAnyM_take 7 ?_ rfl (by kernel_rfl) (fun _ _ _ h => h) (by assumption) (by assumption) (Or.inl ⟨by rfl, ?_⟩) ?_
      rotate_left
      · intro wS hSw
        try dsimp only at hSw
        go_simp
        try with_reducible rfl
      intro hv7
      simp only [Act.put, List.setIfInBounds_toArray, List.set_cons_zero, List.set_cons_succ]
      refine wpAnyM_take 8 ?_ rfl (by kernel_rfl) (fun _ _ _ h => h) (by assumption) (by assumption) (Or.inl ⟨by rfl, ?_⟩) ?_
      rotate_left
      · intro wS hSw
        try dsimp only at hSw
        go_simp
        try with_reducible rfl
      intro hv8
      simp only [Act.put, List.setIfInBounds_toArray, List.set_cons_zero, List.set_cons_succ]
      refine wpAnyM_take 9 ?_ rfl (by kernel_rfl) (fun _ _ _ h => h) (by assumption) (by assumption) (Or.inl ⟨by rfl, ?_⟩) ?_
      rotate_left
      · intro wS hSw
        try dsimp only at hSw
        go_simp
        try with_reducible rfl
      intro hv9
      simp only [Act.put, List.setIfInBounds_toArray, List.set_cons_zero, List.set_cons_succ]
      refine wpAnyM_take 10 ?_ rfl (by kernel_rfl) (fun _ _ _ h => h) (by assumption) (by assumption) (Or.inl ⟨by rfl, ?_⟩) ?_
      rotate_left
      · intro wS hSw
        try dsimp only at hSw
        go_simp
        try with_reducible rfl
      intro hv10
      simp only [Act.put, List.setIfInBounds_toArray, List.set_cons_zero, List.set_cons_succ]
      refine wpAnyM_take 11 ?_ rfl (by kernel_rfl) (fun _ _ _ h => h) (by assumption) (by assumption) (Or.inl ⟨by rfl, ?_⟩) ?_
      rotate_left
      · intro wS hSw
        try dsimp only at hSw
        go_simp
        try with_reducible rfl
      intro hv11
      simp only [Act.put, List.setIfInBounds_toArray, List.set_cons_zero, List.set_cons_succ]
      refine wpAnyM_take 12 ?_ rfl (by kernel_rfl) (fun _ _ _ h => h) (by assumption) (by assumption) (Or.inl ⟨by rfl, ?_⟩) ?_
      rotate_left
      · intro wS hSw
        try dsimp only at hSw
        go_simp
        try with_reducible rfl
      intro hv12
      simp only [Act.put, List.setIfInBounds_toArray, List.set_cons_zero, List.set_cons_succ]
      refine wpAnyM_take 13 ?_ rfl (by kernel_rfl) (fun _ _ _ h => h) (by assumption) (by assumption) (Or.inl ⟨by rfl, ?_⟩) ?_
      rotate_left
      · intro wS hSw
        try dsimp only at hSw
        go_simp
        try with_reducible rfl
      intro hv13
      simp only [Act.put, List.setIfInBounds_toArray, List.set_cons_zero, List.set_cons_succ]
      refine wpAnyM_take 14 ?_ rfl (by kernel_rfl) (fun _ _ _ h => h) (by assumption) (by assumption) (Or.inl ⟨by rfl, ?_⟩) ?_
      rotate_left
      · intro wS hSw
        try dsimp only at hSw
        go_simp
        try with_reducible rfl
      intro hv14
      simp only [Act.put, List.setIfInBounds_toArray, List.set_cons_zero, List.set_cons_succ]
      refine wpAnyM_take 15 ?_ rfl (by kernel_rfl) (fun _ _ _ h => h) (by assumption) (by assumption) (Or.inl ⟨by rfl, ?_⟩) ?_
      rotate_left
      · intro wS hSw
        try dsimp only at hSw
        go_simp
        try with_reducible rfl
      intro hv15
      simp only [Act.put, List.setIfInBounds_toArray, List.set_cons_zero, List.set_cons_succ]
      refine wpAnyM_take 16 ?_ rfl (by kernel_rfl) (fun _ _ _ h => h) (by assumption) (by assumption) (Or.inl ⟨by rfl, ?_⟩) ?_
      rotate_left
      · intro wS hSw
        try dsimp only at hSw
        go_simp
        try with_reducible rfl
      intro hv16
      simp only [Act.put, List.setIfInBounds_toArray, List.set_cons_zero, List.set_cons_succ]
      refine wpAnyM_take 17 ?_ rfl (by kernel_rfl) (fun _ _ _ h => h) (by assumption) (by assumption) (Or.inl ⟨by rfl, ?_⟩) ?_
      rotate_left
      · intro wS hSw
        try dsimp only at hSw
        go_simp
        try with_reducible rfl
      intro hv17
      simp only [Act.put, List.setIfInBounds_toArray, List.set_cons_zero, List.set_cons_succ]
      refine wpAnyM_take 18 ?_ rfl (by kernel_rfl) (fun _ _ _ h => h) (by assumption) (by assumption) (Or.inl ⟨by rfl, ?_⟩) ?_
      rotate_left
      · intro wS hSw
        try dsimp only at hSw
        go_simp
        try with_reducible rfl
      intro hv18
      simp only [Act.put, List.setIfInBounds_toArray, List.set_cons_zero, List.set_cons_succ]
      refine wpAnyM_take 19 ?_ rfl (by kernel_rfl) (fun _ _ _ h => h) (by assumption) (by assumption) (Or.inl ⟨by rfl, ?_⟩) ?_
      rotate_left
      · intro wS hSw
        try dsimp only at hSw
        go_simp
        try with_reducible rfl
      intro hv19
      simp only [Act.put, List.setIfInBounds_toArray, List.set_cons_zero, List.set_cons_succ]
      refine wpAnyM_take 20 ?_ rfl (by kernel_rfl) (fun _ _ _ h => h) (by assumption) (by assumption) (Or.inl ⟨by rfl, ?_⟩) ?_
      rotate_left
      · intro wS hSw
        try dsimp only at hSw
        go_simp
        try with_reducible rfl
      intro hv20
      simp only [Act.put, List.setIfInBounds_toArray, List.set_cons_zero, List.set_cons_succ]
      refine wpAnyM_one 21 rfl (by kernel_rfl) (by decide) (by assumption) (fun hv21 K hK => ?_)
      go_simp
      refine (cl_reset _ _).mono ?_
      rintro e w5 ⟨rfl, rfl⟩
      refine hK.out _ _ hS0 ?_
      clear hK K
      try simp only [Act.put, List.setIfInBounds_toArray, List.set_cons_zero, List.set_cons_succ]
      refine wpAnyM_one 22 rfl (by kernel_rfl) (by decide) (by assumption) (fun hv22 K hK => ?_)
      go_simp
      refine (next_any q s _ _).mono ?_
      rintro e w6 ⟨rfl, z6⟩
      have q6 : Gd wo w6 := Gd.step g0 z6
      have hS6 := KS.out w6 q6
      refine hK.out _ _ hS6 ?_
      clear hK K z6
      try simp only [Act.put, List.setIfInBounds_toArray, List.set_cons_zero, List.set_cons_succ]
      refine wpAnyM_take 23 ?_ rfl (by kernel_rfl) (fun _ _ _ h => h) (by assumption) (by assumption) (Or.inl ⟨by rfl, ?_⟩) ?_
      rotate_left
      · intro wS hSw
        try dsimp only at hSw
        go_simp
        try with_reducible rfl
      intro hv23
      simp only [Act.put, List.setIfInBounds_toArray, List.set_cons_zero, List.set_cons_succ]
      obtain ⟨b0, b1, b2, b3⟩ := hS6
      refine wpAnyM_last rfl (by kernel_rfl) (by kernel_rfl) (fun K hK => ?_)
      have fz : w6.frozen? ⟨sb, k, none⟩ = false := (iv_cell (low_of q6 HG.out) (k := k) (by rw [mS_len, HSL.out]; exact hkn)).2
      go_simp
      refine hK.out _ _ ?_
      clear hK K b0 b1 b2 b3 fz
      clear hv hv0 hv1 hv2 hv3 hv4 hv5 hv6 hv7 hv8 hv9 hv10 hv11 hv12 hv13 hv14 hv15 hv16 hv17 hv18 hv19 hv20 hv21 hv22 hv23
      have hst := set_block (low_of q6 HG.out) k (.int .i64 (nextZ q s (5)))
      rw [iv_set, show (mS K S (fun _ => 5) k).set k (nextZ q s (5)) = mS K S (fun _ => 5) (k + 1) from HSET.out] at hst
      have HST2 := Lib.hid hst
      have HF2 := Lib.hid ((HB.out.trans (Fs.of_below q6)).trans ((Fs.set w6 sb k (.int .i64 (nextZ q s (5))))))
      clear hst hS0
      go_wp2_with fail
      go_roundw
      case rel => exact ⟨k + 1, by omega, by go_num, HST2.out, HF2.out⟩
      case measure => simp [intOf]; omega
    · have hk' : k = n := by omega
      subst hk'
      have HG : Hid (wo.heap[sb]? = some (.cells (iv (mapN K S (fun _ => 5))).toArray 3 (0, 0))) := Lib.hid (by unfold mapN; rw [HSL.out]; exact hg)
      have HB := Lib.hid hb
      clear hg hb
      go_wp2_with fail
      first | go_end0 | refine bodyPost_ret (results_none rfl _ _ _) rfl ?_
      rw [HP.out]
      exact ⟨rfl, HG.out, HB.out⟩
set_option maxRecDepth 100000 in
set_option maxHeartbeats 4000000 in
theorem happens_see {B : Nat} {w : World} {p sb : Nat} {ka : Option Addr} {kc n : Nat} {K S : List Int} {si te : Bool} {x y : Nat} {f g : Nat → Bool} (h : Pn B w p sb ka kc n K S si te) (hc : ∀ w', Fs [sb] w w' → Cap w' x y n f g) :
    Calls Try.prog 24 #[.pointer (some ⟨p, 0, none⟩), .func (.func 27) #[] #[.pointer (some ⟨x, 0, none⟩), .pointer (some ⟨y, 0, none⟩)]] w (HapP w sb (mapN K S (hapS f g))) := by
  obtain ⟨P, hP⟩ : ∃ P, P = (HapP w sb (mapN K S (hapS f g)) : Ending → World → Prop) := ⟨_, rfl⟩
  rw [← hP]
  have HP := Lib.hid hP
  have PN := Lib.hid h
  have n64 := h.n64
  obtain ⟨c0, c1, c2, c3, _, _⟩ := cells4 h.blk
  have HST := Lib.hid h.st
  have HSL := Lib.hid h.sl
  have HKL := Lib.hid h.kl
  have HCA := Lib.hid hc
  clear hc
  clear h hP
  go_enter Try.func24, Try.ntmps24
  go_wp2_with fail
  clear c0 c1 c2 c3
  go_loopw [10] (fun i wr => ∃ k : Nat, k ≤ n ∧ i = .int .i64 k ∧ wr.heap[sb]? = some (.cells (iv (mS K S (hapS f g) k)).toArray 3 (0, 0)) ∧ Fs [sb] w wr) (fun i _ => n - (intOf i).toNat)
  case atStart => exact ⟨0, Nat.zero_le _, rfl, by rw [mS_zero]; exact HST.out, Fs.refl _ _⟩
  case round =>
    obtain ⟨wo, rfl⟩ : ∃ wo : World, wo = wr := ⟨_, rfl⟩
    obtain ⟨k, hk, rfl, hg, hb⟩ := hrel
    by_cases hkn : k < n
    · have hpn := PN.out.turn hb (by rw [mS_len, HSL.out]) (mS_9 k PN.out.s8) hg
      obtain ⟨c0, c1, c2, c3, _, _⟩ := cells4 hpn.blk
      have cs := (iv_cell hg (k := k) (by rw [mS_len, HSL.out]; exact hkn)).1
      rw [mS_get K S (hapS f g) k k (by rw [HSL.out]; exact hkn), if_neg (by omega)] at cs
      obtain ⟨kb, ko, rfl, hkb, hkc⟩ := hpn.ks.pos (by omega)
      have ck := hkc k hkn
      have hset := mS_set K S (hapS f g) k (by rw [HSL.out]; exact hkn)
      obtain ⟨s, hs⟩ : ∃ s, s = S.getD k 0 := ⟨_, rfl⟩
      obtain ⟨q, hq⟩ : ∃ q, q = K.getD k 0 := ⟨_, rfl⟩
      rw [← hs] at cs
      rw [← hq] at ck
      rw [← hs, ← hq] at hset
      have HG := Lib.hid hg
      have HB := Lib.hid hb
      have HSET := Lib.hid hset
      have d0 : (k : Int) < (n : Int) := by omega
      have d1 : (0 : Int) ≤ (k : Int) := by omega
      clear hg hb hset hs hq hkc
      have g0 : Gd wo wo.drew := (Below.refl _ _).drew
      have KS := Lib.hid (fun (w' : World) (h : Gd wo w') => And.intro ((cells4 (low_of h hpn.blk)).1) (And.intro ((cells4 (low_of h hpn.blk)).2.1) (And.intro ((Below.cell h (p := ⟨kb, ko + k, none⟩) hkb).trans ck) ((Below.cell h (p := ⟨sb, k, none⟩) hpn.lt.2).trans cs))))
      clear hpn hkb
      go_upto_region 3 with fail
      refine wp_region_last (fun w' => w'.cell? ⟨p, 0, none⟩ = some (.slice (some ⟨kb, ko, none⟩) n kc) ∧ w'.cell? ⟨p, 1, none⟩ = some (.slice (some ⟨sb, 0, none⟩) n n) ∧ w'.cell? ⟨kb, ko + k, none⟩ = some (.int .i64 q) ∧ w'.cell? ⟨sb, k, none⟩ = some (.int .i64 s)) 24 (by kernel_rfl) (fun hv => ?_)
      have hS0 := KS.out wo.drew g0
      refine wpAnyM_take 0 ?_ rfl (by kernel_rfl) (fun _ _ _ h => h) (by assumption) (by assumption) (Or.inl ⟨by rfl, ?_⟩) ?_
      rotate_left
      · intro wS hSw
        try dsimp only at hSw
        go_simp
        try with_reducible rfl
      intro hv0
      simp only [Act.put, List.setIfInBounds_toArray, List.set_cons_zero, List.set_cons_succ]
      refine wpAnyM_take 1 ?_ rfl (by kernel_rfl) (fun _ _ _ h => h) (by assumption) (by assumption) (Or.inl ⟨by rfl, ?_⟩) ?_
      rotate_left
      · intro wS hSw
        try dsimp only at hSw
        go_simp
        try with_reducible rfl
      intro hv1
      simp only [Act.put, List.setIfInBounds_toArray, List.set_cons_zero, List.set_cons_succ]
      refine wpAnyM_take 2 ?_ rfl (by kernel_rfl) (fun _ _ _ h => h) (by assumption) (by assumption) (Or.inl ⟨by rfl, ?_⟩) ?_
      rotate_left
      · intro wS hSw
        try dsimp only at hSw
        go_simp
        try with_reducible rfl
      intro hv2
      simp only [Act.put, List.setIfInBounds_toArray, List.set_cons_zero, List.set_cons_succ]
      refine wpAnyM_take 3 ?_ rfl (by kernel_rfl) (fun _ _ _ h => h) (by assumption) (by assumption) (Or.inl ⟨by rfl, ?_⟩) ?_
      rotate_left
      · intro wS hSw
        try dsimp only at hSw
        go_simp
        try with_reducible rfl
      intro hv3
      simp only [Act.put, List.setIfInBounds_toArray, List.set_cons_zero, List.set_cons_succ]
      refine wpAnyM_take 4 ?_ rfl (by kernel_rfl) (fun _ _ _ h => h) (by assumption) (by assumption) (Or.inl ⟨by rfl, ?_⟩) ?_
      rotate_left
      · intro wS hSw
        try dsimp only at hSw
        go_simp
        try with_reducible rfl
      intro hv4
      simp only [Act.put, List.setIfInBounds_toArray, List.set_cons_zero, List.set_cons_succ]
      refine wpAnyM_take 5 ?_ rfl (by kernel_rfl) (fun _ _ _ h => h) (by assumption) (by assumption) (Or.inl ⟨by rfl, ?_⟩) ?_
      rotate_left
      · intro wS hSw
        try dsimp only at hSw
        go_simp
        try with_reducible rfl
      intro hv5
      simp only [Act.put, List.setIfInBounds_toArray, List.set_cons_zero, List.set_cons_succ]
      refine wpAnyM_take 6 ?_ rfl (by kernel_rfl) (fun _ _ _ h => h) (by assumption) (by assumption) (Or.inl ⟨by rfl, ?_⟩) ?_
      rotate_left
      · intro wS hSw
        try dsimp only at hSw
        go_simp
        try with_reducible rfl
      intro hv6
      simp only [Act.put, List.setIfInBounds_toArray, List.set_cons_zero, List.set_cons_succ]
      refine wpAnyM_take 7 ?_ rfl (by kernel_rfl) (fun _ _ _ h => h) (by assumption) (by assumption) (Or.inl ⟨by rfl, ?_⟩) ?_
      rotate_left
      · intro wS hSw
        try dsimp only at hSw
        go_simp
        try with_reducible rfl
      intro hv7
      simp only [Act.put, List.setIfInBounds_toArray, List.set_cons_zero, List.set_cons_succ]
      refine wpAnyM_take 8 ?_ rfl (by kernel_rfl) (fun _ _ _ h => h) (by assumption) (by assumption) (Or.inl ⟨by rfl, ?_⟩) ?_
      rotate_left
      · intro wS hSw
        try dsimp only at hSw
        go_simp
        try with_reducible rfl
      intro hv8
      simp only [Act.put, List.setIfInBounds_toArray, List.set_cons_zero, List.set_cons_succ]
      refine wpAnyM_take 9 ?_ rfl (by kernel_rfl) (fun _ _ _ h => h) (by assumption) (by assumption) (Or.inl ⟨by rfl, ?_⟩) ?_
      rotate_left
      · intro wS hSw
        try dsimp only at hSw
        go_simp
        try with_reducible rfl
      intro hv9
      simp only [Act.put, List.setIfInBounds_toArray, List.set_cons_zero, List.set_cons_succ]
      refine wpAnyM_take 10 ?_ rfl (by kernel_rfl) (fun _ _ _ h => h) (by assumption) (by assumption) (Or.inl ⟨by rfl, ?_⟩) ?_
      rotate_left
      · intro wS hSw
        try dsimp only at hSw
        go_simp
        try with_reducible rfl
      intro hv10
      simp only [Act.put, List.setIfInBounds_toArray, List.set_cons_zero, List.set_cons_succ]
      refine wpAnyM_take 11 ?_ rfl (by kernel_rfl) (fun _ _ _ h => h) (by assumption) (by assumption) (Or.inl ⟨by rfl, ?_⟩) ?_
      rotate_left
      · intro wS hSw
        try dsimp only at hSw
        go_simp
        try with_reducible rfl
      intro hv11
      simp only [Act.put, List.setIfInBounds_toArray, List.set_cons_zero, List.set_cons_succ]
      refine wpAnyM_take 12 ?_ rfl (by kernel_rfl) (fun _ _ _ h => h) (by assumption) (by assumption) (Or.inl ⟨by rfl, ?_⟩) ?_
      rotate_left
      · intro wS hSw
        try dsimp only at hSw
        go_simp
        try with_reducible rfl
      intro hv12
      simp only [Act.put, List.setIfInBounds_toArray, List.set_cons_zero, List.set_cons_succ]
      refine wpAnyM_take 13 ?_ rfl (by kernel_rfl) (fun _ _ _ h => h) (by assumption) (by assumption) (Or.inl ⟨by rfl, ?_⟩) ?_
      rotate_left
      · intro wS hSw
        try dsimp only at hSw
        go_simp
        try with_reducible rfl
      intro hv13
      simp only [Act.put, List.setIfInBounds_toArray, List.set_cons_zero, List.set_cons_succ]
      refine wpAnyM_take 14 ?_ rfl (by kernel_rfl) (fun _ _ _ h => h) (by assumption) (by assumption) (Or.inl ⟨by rfl, ?_⟩) ?_
      rotate_left
      · intro wS hSw
        try dsimp only at hSw
        go_simp
        try with_reducible rfl
      intro hv14
      simp only [Act.put, List.setIfInBounds_toArray, List.set_cons_zero, List.set_cons_succ]
      refine wpAnyM_take 15 ?_ rfl (by kernel_rfl) (fun _ _ _ h => h) (by assumption) (by assumption) (Or.inl ⟨by rfl, ?_⟩) ?_
      rotate_left
      · intro wS hSw
        try dsimp only at hSw
        go_simp
        try with_reducible rfl
      intro hv15
      simp only [Act.put, List.setIfInBounds_toArray, List.set_cons_zero, List.set_cons_succ]
      refine wpAnyM_take 16 ?_ rfl (by kernel_rfl) (fun _ _ _ h => h) (by assumption) (by assumption) (Or.inl ⟨by rfl, ?_⟩) ?_
      rotate_left
      · intro wS hSw
        try dsimp only at hSw
        go_simp
        try with_reducible rfl
      intro hv16
      simp only [Act.put, List.setIfInBounds_toArray, List.set_cons_zero, List.set_cons_succ]
      refine wpAnyM_take 17 ?_ rfl (by kernel_rfl) (fun _ _ _ h => h) (by assumption) (by assumption) (Or.inl ⟨by rfl, ?_⟩) ?_
      rotate_left
      · intro wS hSw
        try dsimp only at hSw
        go_simp
        try with_reducible rfl
      intro hv17
      simp only [Act.put, List.setIfInBounds_toArray, List.set_cons_zero, List.set_cons_succ]
      refine wpAnyM_take 18 ?_ rfl (by kernel_rfl) (fun _ _ _ h => h) (by assumption) (by assumption) (Or.inl ⟨by rfl, ?_⟩) ?_
      rotate_left
      · intro wS hSw
        try dsimp only at hSw
        go_simp
        try with_reducible rfl
      intro hv18
      simp only [Act.put, List.setIfInBounds_toArray, List.set_cons_zero, List.set_cons_succ]
      refine wpAnyM_take 19 ?_ rfl (by kernel_rfl) (fun _ _ _ h => h) (by assumption) (by assumption) (Or.inl ⟨by rfl, ?_⟩) ?_
      rotate_left
      · intro wS hSw
        try dsimp only at hSw
        go_simp
        try with_reducible rfl
      intro hv19
      simp only [Act.put, List.setIfInBounds_toArray, List.set_cons_zero, List.set_cons_succ]
      refine wpAnyM_take 20 ?_ rfl (by kernel_rfl) (fun _ _ _ h => h) (by assumption) (by assumption) (Or.inl ⟨by rfl, ?_⟩) ?_
      rotate_left
      · intro wS hSw
        try dsimp only at hSw
        go_simp
        try with_reducible rfl
      intro hv20
      simp only [Act.put, List.setIfInBounds_toArray, List.set_cons_zero, List.set_cons_succ]
      refine wpAnyM_one 21 rfl (by kernel_rfl) (by decide) (by assumption) (fun hv21 K hK => ?_)
      go_simp
      refine (cl_see (HCA.out _ HB.out.drew) k hkn).mono ?_
      rintro e w5 ⟨rfl, rfl⟩
      refine hK.out _ _ hS0 ?_
      clear hK K
      try simp only [Act.put, List.setIfInBounds_toArray, List.set_cons_zero, List.set_cons_succ]
      refine wpAnyM_one 22 rfl (by kernel_rfl) (by decide) (by assumption) (fun hv22 K hK => ?_)
      go_simp
      refine (next_any q s _ _).mono ?_
      rintro e w6 ⟨rfl, z6⟩
      have q6 : Gd wo w6 := Gd.step g0 z6
      have hS6 := KS.out w6 q6
      refine hK.out _ _ hS6 ?_
      clear hK K z6
      try simp only [Act.put, List.setIfInBounds_toArray, List.set_cons_zero, List.set_cons_succ]
      refine wpAnyM_take 23 ?_ rfl (by kernel_rfl) (fun _ _ _ h => h) (by assumption) (by assumption) (Or.inl ⟨by rfl, ?_⟩) ?_
      rotate_left
      · intro wS hSw
        try dsimp only at hSw
        go_simp
        try with_reducible rfl
      intro hv23
      simp only [Act.put, List.setIfInBounds_toArray, List.set_cons_zero, List.set_cons_succ]
      obtain ⟨b0, b1, b2, b3⟩ := hS6
      refine wpAnyM_last rfl (by kernel_rfl) (by kernel_rfl) (fun K hK => ?_)
      have fz : w6.frozen? ⟨sb, k, none⟩ = false := (iv_cell (low_of q6 HG.out) (k := k) (by rw [mS_len, HSL.out]; exact hkn)).2
      go_simp
      refine hK.out _ _ ?_
      clear hK K b0 b1 b2 b3 fz
      clear hv hv0 hv1 hv2 hv3 hv4 hv5 hv6 hv7 hv8 hv9 hv10 hv11 hv12 hv13 hv14 hv15 hv16 hv17 hv18 hv19 hv20 hv21 hv22 hv23
      have hst := set_block (low_of q6 HG.out) k (.int .i64 (nextZ q s (hapS f g k)))
      rw [iv_set, show (mS K S (hapS f g) k).set k (nextZ q s (hapS f g k)) = mS K S (hapS f g) (k + 1) from HSET.out] at hst
      have HST2 := Lib.hid hst
      have HF2 := Lib.hid ((HB.out.trans (Fs.of_below q6)).trans ((Fs.set w6 sb k (.int .i64 (nextZ q s (hapS f g k))))))
      clear hst hS0
      go_wp2_with fail
      go_roundw
      case rel => exact ⟨k + 1, by omega, by go_num, HST2.out, HF2.out⟩
      case measure => simp [intOf]; omega
    · have hk' : k = n := by omega
      subst hk'
      have HG : Hid (wo.heap[sb]? = some (.cells (iv (mapN K S (hapS f g))).toArray 3 (0, 0))) := Lib.hid (by unfold mapN; rw [HSL.out]; exact hg)
      have HB := Lib.hid hb
      clear hg hb
      go_wp2_with fail
      first | go_end0 | refine bodyPost_ret (results_none rfl _ _ _) rfl ?_
      rw [HP.out]
      exact ⟨rfl, HG.out, HB.out⟩
end Go.Proofs.Ytedakoihlnokfaa
