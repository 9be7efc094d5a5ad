/- The document's First, where there is a frame. -/
import Derived.Test.YtnihgpaandodjaaRx
import Derived.Deep.RegionHeld3
namespace Go.Proofs.Ytnihgpaandodjaa
set_option linter.unusedVariables false
open Go.ChangeShapes Go.WideShapes Go.ChangeAt Go.RowKit
theorem OwnB.mono {B C : Nat} {w : World} {g cap n : Nat} {L : List Nat} (h : OwnB B w g cap n L) (hC : C ≤ B) : OwnB C w g cap n L := by
  obtain ⟨hl, q | ⟨g', cap', cur, hv, hg, r⟩⟩ := h
  · exact ⟨hl, .inl q⟩
  · exact ⟨hl, .inr ⟨g', cap', cur, hv, Nat.le_trans hC hg, r⟩⟩
theorem own_setF {B : Nat} {w : World} {g cap n p i : Nat} {L : List Nat} {u : Value} (h : OwnB B w g cap n L) (hp : g ≠ p) : OwnB B (w.setCell ⟨p, i, none⟩ u) g cap n L := by
  obtain ⟨hl, q | ⟨g', cap', cur, hv, hg, hb, r⟩⟩ := h
  · exact ⟨hl, .inl q⟩
  · simp only [Value.slice.injEq, Option.some.injEq, Addr.mk.injEq, and_true, true_and] at hv
    obtain ⟨rfl, rfl⟩ := hv
    exact ⟨hl, .inr ⟨g, cap, cur, rfl, hg, (Below.heap_setCell _ _ _ _ hp).trans hb, r⟩⟩

set_option maxRecDepth 100000 in
set_option maxHeartbeats 4000000 in
theorem rf_frame (b off len cap : Nat) (L : List Nat) (w : World) (h : Bys w (some ⟨b, off, none⟩) len L) (hcap : len ≤ cap) (hcm : cap ≤ maxLen) (h6 : 6 ≤ len) (hv : L.getD 2 0 = 0) (hv3 : L.getD 3 0 = 0) (hf1 : 2 ≤ 256 * L.getD 4 0 + L.getD 5 0) (hf2 : 256 * L.getD 4 0 + L.getD 5 0 ≤ 254) (hs : 6 + (256 * L.getD 4 0 + L.getD 5 0) ≤ len) (hF : firstR L = .frame (256 * L.getD 0 0 + L.getD 1 0) (L.getD 6 0) ((L.drop 7).take (256 * L.getD 4 0 + L.getD 5 0 - 1))) :
    Calls Try.prog 12 #[.slice (some ⟨b, off, none⟩) len cap] w (RFirstP w L) := by
  have hlp : ((L.drop 7).take (256 * L.getD 4 0 + L.getD 5 0 - 1)).length = 256 * L.getD 4 0 + L.getD 5 0 - 1 := by rw [List.length_take, List.length_drop, h.ln]; omega
  have hp : ∀ w' g k, Below w.heap.size w w' → OwnB w.heap.size w' g k (256 * L.getD 4 0 + L.getD 5 0 - 1) ((L.drop 7).take (256 * L.getD 4 0 + L.getD 5 0 - 1)) → RFirstP w L (.returned (.tuple #[.agg #[.int .u16 (256 * L.getD 0 0 + L.getD 1 0 : Nat), .int .u8 (L.getD 6 0 : Nat), .slice (some ⟨g, 0, none⟩) (256 * L.getD 4 0 + L.getD 5 0 - 1) k], .int .i64 ((256 * L.getD 4 0 + L.getD 5 0 - 1 + 7 : Nat) : Int), .int .i64 0])) w' := by
    intro w' g k hb ho; unfold RFirstP; rw [hF]; refine ⟨hb, g, k, ?_, ?_⟩
    · rw [hlp]
    · rw [hlp]; exact ho
  have HP := Lib.hid hp
  have hl := h.le
  unfold maxLen at hl hcm
  have l4 := getD_lt h.by' 4
  have l5 := getD_lt h.by' 5
  have l0 := getD_lt h.by' 0
  have l1 := getD_lt h.by' 1
  have l6 := getD_lt h.by' 6
  have hby := h.by'
  obtain ⟨ob, hob⟩ : ∃ o, o = Obj.cells #[.int .u16 0, .int .u8 0, .slice none 0 0] 25 (0, 0) := ⟨_, rfl⟩
  obtain ⟨w1, hw1⟩ : ∃ W, W = w.alloc (.cells #[.int .u16 0, .int .u8 0, .slice none 0 0] 25 (0, 0)) := ⟨_, rfl⟩
  have b1 : Below w.heap.size w w1 := by rw [hw1]; exact (Below.refl _ _).alloc (Nat.le_refl _) _
  have hz1 : w1.heap.size = w.heap.size + 1 := by rw [hw1]; simp
  have hblk : w1.heap[w.heap.size]? = some (.cells #[.int .u16 0, .int .u8 0, .slice none 0 0] 25 (0, 0)) := by rw [hw1]; exact heap_alloc_new w _
  have H1 := h.below b1
  have HBN : Hid (¬ b = w.heap.size) := Lib.hid (by obtain ⟨b', off', e', hlb, hc⟩ := h.pos (by omega); simp only [Option.some.injEq, Addr.mk.injEq, and_true] at e'; omega)
  obtain ⟨b', off', e', hlb, hc⟩ := H1.pos (by omega)
  simp only [Option.some.injEq, Addr.mk.injEq, and_true] at e'
  obtain ⟨rfl, rfl⟩ := e'
  have k0 : w1.cell? ⟨b, off, none⟩ = _ := hc 0 (by omega)
  have k1 := hc 1 (by omega)
  have k2 := hc 2 (by omega)
  have k3 := hc 3 (by omega)
  have k4 := hc 4 (by omega)
  have k5 := hc 5 (by omega)
  have k6 := hc 6 (by omega)
  have HSUB := Lib.hid (H1.sub 7 (256 * L.getD 4 0 + L.getD 5 0 - 1) (by omega))
  have hPby : ∀ x ∈ (L.drop 7).take (256 * L.getD 4 0 + L.getD 5 0 - 1), x < 256 := fun x hx => hby x (List.mem_of_mem_drop (List.mem_of_mem_take hx))
  have HPB := Lib.hid hPby
  have HW1 := Lib.hid hw1
  have B1 := Lib.hid b1
  have BLK := Lib.hid hblk
  have HZ1 := Lib.hid hz1
  clear hp h hF hc H1 hby hPby hw1 b1 hblk hob ob hz1
  rw [hv] at k2
  rw [hv3] at k3
  generalize (L.drop 7).take (256 * L.getD 4 0 + L.getD 5 0 - 1) = P at *
  generalize L.getD 4 0 = x4 at *
  generalize L.getD 5 0 = x5 at *
  generalize L.getD 0 0 = x0 at *
  generalize L.getD 1 0 = x1 at *
  generalize L.getD 6 0 = x6 at *
  have d1 : decide ((2 : Int) < (len : Int)) = true := by simp; omega
  have d2 : decide ((3 : Int) < (len : Int)) = true := by simp; omega
  have d3 : decide ((len : Int) < 6) = false := by simp; omega
  have i0 : 0 < len := by omega
  have i1 : (1 : Int) < (len : Int) := by omega
  have i2 : (2 : Int) < (len : Int) := by omega
  have i3 : (3 : Int) < (len : Int) := by omega
  have i4 : (4 : Int) < (len : Int) := by omega
  have i5 : (5 : Int) < (len : Int) := by omega
  have i6 : (6 : Int) < (len : Int) := by omega
  obtain ⟨ti, hi, hz0, hz1, hz2⟩ := info_parts info5
  have q2 : (w.alloc (.cells #[.int .u16 0, .int .u8 0, .slice none 0 0] 25 (0, 0))).cell? ⟨b, off + 2, none⟩ = some (.int .u8 0) := (by rw [← HW1.out]; exact k2)
  have q3 : (w.alloc (.cells #[.int .u16 0, .int .u8 0, .slice none 0 0] 25 (0, 0))).cell? ⟨b, off + 3, none⟩ = some (.int .u8 0) := (by rw [← HW1.out]; exact k3)
  have q4 : (w.alloc (.cells #[.int .u16 0, .int .u8 0, .slice none 0 0] 25 (0, 0))).cell? ⟨b, off + 4, none⟩ = some (.int .u8 (x4 : Int)) := (by rw [← HW1.out]; exact k4)
  have q5 : (w.alloc (.cells #[.int .u16 0, .int .u8 0, .slice none 0 0] 25 (0, 0))).cell? ⟨b, off + 5, none⟩ = some (.int .u8 (x5 : Int)) := (by rw [← HW1.out]; exact k5)
  go_enter Try.func12, Try.ntmps12
  go_wp2_with fail
  go_region
  all_goals
    have e : (256 : Int) * (x4 : Int) + (x5 : Int) = ((256 * x4 + x5 : Nat) : Int) := by omega
    rw [e]
    obtain ⟨m, hm⟩ : ∃ m, m = 256 * x4 + x5 := ⟨_, rfl⟩
    rw [← HW1.out]
    have HM := Lib.hid hm
    rw [← hm] at HP HSUB hf1 hf2 hs hlp ⊢
    clear hm
    have e1 : decide ((m : Int) < 2) = false := by simp; omega
    have e2 : decide ((254 : Int) < (m : Int)) = false := by simp; omega
    have e3 : decide ((len : Int) < 6 + (m : Int)) = false := by simp; omega
    clear e q2 q3 q4 q5 k2 k3 k4 k5
    have hw1s := B1.out.size
    have hnews : ∀ W, Below w1.heap.size w1 W → ∀ j u, (bv P)[j]? = some u → W.cell? ((⟨b, off + 7, none⟩ : Addr).add j) = some u := by
      intro W hW j u hu
      have hj : j < m - 1 := by
        have := (List.getElem?_eq_some_iff.1 hu).1
        rwa [bv_len, HSUB.out.ln] at this
      rw [bv_get P j (by rw [HSUB.out.ln]; exact hj)] at hu
      obtain ⟨b', off', e, _, hc⟩ := (HSUB.out.below hW).pos (by omega)
      simp only [Option.some.injEq, Addr.mk.injEq, and_true] at e
      obtain ⟨rfl, rfl⟩ := e
      rw [addr_add_none, ← hu]
      exact hc j hj
    have HNW := Lib.hid hnews
    have HLP := Lib.hid HSUB.out.ln
    have hbig : Below w1.heap.size w1 ((w1.alloc (.cells #[] 5 (0, 0))).drew.drew) := ((((Below.refl _ _).alloc (Nat.le_refl _) _).drew).drew)
    have HBG := Lib.hid hbig
    clear hnews hbig
    have HL0 := Lib.hid hlb
    go_wp2_with fail
    obtain ⟨n, hn⟩ : ∃ n, n = 6 + m := ⟨_, rfl⟩
    have e6 : IntKind.i64.wrap (6 + (m : Int)) = (n : Int) := by rw [show (6 + (m : Int)) = (n : Int) by omega]; exact IntWalk.i64_in _ (by omega)
    have e7 : (n : Int) ≤ (cap : Int) := by omega
    have e8 : (7 : Int) ≤ (n : Int) := by omega
    have e9 : ¬ cap = 7 := by omega
    have n1 : m - 1 = n - 7 := by omega
    have n2 : ((m - 1 + 7 : Nat) : Int) = (n : Int) := by omega
    have hp2 : ∀ w' g k, Below w.heap.size w w' → OwnB w.heap.size w' g k (n - 7) P → RFirstP w L (.returned (.tuple #[.agg #[.int .u16 (256 * x0 + x1 : Nat), .int .u8 (x6 : Nat), .slice (some ⟨g, 0, none⟩) (n - 7) k], .int .i64 (n : Int), .int .i64 0])) w' := by
      intro w' g k hb ho
      rw [← n1] at ho ⊢
      rw [← n2]
      exact HP.out w' g k hb ho
    have HP2 := Lib.hid hp2
    have HN := Lib.hid hn
    have n3 : (bv P).length = n - 7 := by rw [bv_len, HLP.out]; exact n1
    have N3 := Lib.hid n3
    have u0 : IntKind.u16.wrap (x0 : Int) = (x0 : Int) := by simp [IntKind.wrap, IntKind.bits, IntKind.signed]; omega
    have u1 : IntKind.u16.wrap (x1 : Int) = (x1 : Int) := by simp [IntKind.wrap, IntKind.bits, IntKind.signed]; omega
    have o1 : IntKind.u16.wrap (256 * (x0 : Int)) = ((256 * x0 : Nat) : Int) := by simp [IntKind.wrap, IntKind.bits, IntKind.signed]; omega
    have o2 : IntKind.u16.wrap (((256 * x0 : Nat) : Int) + (x1 : Int)) = ((256 * x0 + x1 : Nat) : Int) := by simp [IntKind.wrap, IntKind.bits, IntKind.signed]; omega
    clear hp2 hn n1 n2 HP n3
    have hks : ∀ w', Below w1.heap.size w1 w' → w'.cell? ⟨b, off, none⟩ = some (.int .u8 (x0 : Int)) ∧ w'.cell? ⟨b, off + 1, none⟩ = some (.int .u8 (x1 : Int)) ∧ w'.cell? ⟨b, off + 6, none⟩ = some (.int .u8 (x6 : Int)) := fun w' hb => ⟨(hb.cell (p := ⟨b, off, none⟩) HL0.out).trans k0, (hb.cell (p := ⟨b, off + 1, none⟩) HL0.out).trans k1, (hb.cell (p := ⟨b, off + 6, none⟩) HL0.out).trans k6⟩
    have KS := Lib.hid hks
    have hbn : ¬ b = w.heap.size := HBN.out
    have hbn2 : ¬ w.heap.size = b := fun e => HBN.out e.symm
    clear hks
    go_region_held3 (fun w' => w'.cell? ⟨b, off, none⟩ = some (.int .u8 (x0 : Int)) ∧ w'.cell? ⟨b, off + 1, none⟩ = some (.int .u8 (x1 : Int)) ∧ w'.cell? ⟨b, off + 6, none⟩ = some (.int .u8 (x6 : Int))) (first | exact KS.out _ (Below.refl _ _).drew | exact KS.out _ HBG.out | exact ⟨c0', c1', c6'⟩ | go_keep) (first
      | (refine step_append_lies _ rfl (.tmp 67) (.tmp 71) 23 rfl w1.heap.size 5 ti (.int .u8 0) 1 1 Try.underlying23 hi hz0 hz1 hz2 rfl (by decide) (.slice (some ⟨w1.heap.size, 0, none⟩) 0 0) 0 (bv []) rfl (own_new (Nat.le_refl w1.heap.size)) ⟨b, off + 7, none⟩ (n - 7) (cap - 7) (bv P) rfl (by have := N3.out; omega) (HNW.out _ HBG.out) (bv_one _) (by have := HN.out; omega) (by have := HN.out; unfold maxLen; omega) (by have := HN.out; omega) (by simp) (w1.heap.size + 1) (by simp) ?_; intro g' k' w' ho' hg' _ _; have c0' : w'.cell? ⟨b, off, none⟩ = some (.int .u8 (x0 : Int)) := (World.cell?_of_block (a := ⟨b, off, none⟩) (hg'.block b (by simp; omega) (by simp [Value.ownBlock]; omega))).trans ((HBG.out.cell (p := ⟨b, off, none⟩) HL0.out).trans k0); have c1' : w'.cell? ⟨b, off + 1, none⟩ = some (.int .u8 (x1 : Int)) := (World.cell?_of_block (a := ⟨b, off + 1, none⟩) (hg'.block b (by simp; omega) (by simp [Value.ownBlock]; omega))).trans ((HBG.out.cell (p := ⟨b, off + 1, none⟩) HL0.out).trans k1); have c6' : w'.cell? ⟨b, off + 6, none⟩ = some (.int .u8 (x6 : Int)) := (World.cell?_of_block (a := ⟨b, off + 6, none⟩) (hg'.block b (by simp; omega) (by simp [Value.ownBlock]; omega))).trans ((HBG.out.cell (p := ⟨b, off + 6, none⟩) HL0.out).trans k6); obtain ⟨z0, z1, z2, y0, y1, y2⟩ := cells3 ((hg'.block w.heap.size (by have := HZ1.out; simp; omega) (by have := HZ1.out; simp [Value.ownBlock]; omega)).trans ((HBG.out.block w.heap.size (by have := HZ1.out; omega)).trans BLK.out)))
      | fail)
    all_goals
      have hX : IntKind.u16.wrap (256 * (x0 : Int) + (x1 : Int)) = ((256 * x0 + x1 : Nat) : Int) := by simp [IntKind.wrap, IntKind.bits, IntKind.signed]; omega
      rw [hX]
      have hb3 : Below w1.heap.size w1 w' := HBG.out.grown hg' (by simp) (fun k hk => by simp [Value.ownBlock] at hk; omega)
      have ho2 : OwnB w.heap.size w' g' k' (n - 7) P := by
        have h2 := ho'
        rw [show bv [] ++ bv P = bv P from rfl, Nat.zero_add] at h2
        have h3 : OwnB w1.heap.size w' g' k' (n - 7) P := h2
        exact h3.mono hw1s
      have hgg : w1.heap.size ≤ g' := (ho'.lt g' rfl).1
      have hne : g' ≠ w.heap.size := by have := HZ1.out; omega
      have hfin := HP2.out _ g' k' ((((B1.out.trans (hb3.mono hw1s)).setCell (Nat.le_refl _) (.int .u16 ((256 * x0 + x1 : Nat) : Int))).setCell (Nat.le_refl _) (.int .u8 (x6 : Int))).setCell (Nat.le_refl _) (.slice (some ⟨g', 0, none⟩) (n - 7) k')) (own_setF (i := 2) (own_setF (i := 1) (own_setF (i := 0) ho2 hne) hne) hne)
      have HFIN := Lib.hid hfin
      generalize hXX : ((256 * x0 + x1 : Nat) : Int) = X at HFIN ⊢
      clear hfin hb3 ho2 hgg ho' hg' hX hXX hne
      go_wp2_with fail
      exact bodyPost_ret (v := .tuple #[.agg #[.int .u16 X, .int .u8 (x6 : Int), .slice (some ⟨g', 0, none⟩) (n - 7) k'], .int .i64 (n : Int), .int .i64 0]) (by simp [results, Try.results12, go_sem, z0, z1, z2]) rfl HFIN.out

/-- The document's First, of whatever bytes. -/
theorem rfirst_any (a : Option Addr) (len cap : Nat) (L : List Nat) (w : World) (h : Bys w a len L) (hcap : len ≤ cap) (hcm : cap ≤ maxLen) :
    Calls Try.prog 12 #[.slice a len cap] w (RFirstP w L) := by
  have hn := h.ln
  by_cases c2 : len ≤ 2
  · refine rf_s1 a len cap L w c2 (fun w' hb => rf_more ?_ w' hb)
    rw [firstR_may ((mayF_iff _ _).2 ⟨.inl (by omega), .inl (by omega), .inl (by omega)⟩), if_pos (by omega)]
  obtain ⟨b, off, rfl, hlb, hc⟩ := h.pos (by omega)
  have k2 := hc 2 (by omega)
  by_cases v2 : ¬ L.getD 2 0 = 0
  · refine rf_v2 b off len cap L w (by omega) _ k2 hlb v2 (fun w' hb => rf_bad ?_ w' hb)
    refine firstR_not (fun q => ?_)
    rcases ((mayF_iff _ _).1 q).1 with q | q
    · omega
    · exact v2 q
  have v2 : L.getD 2 0 = 0 := Decidable.not_not.1 v2
  by_cases c3 : len = 3
  · refine rf_s3 b off len cap L w c3 _ k2 hlb v2 (fun w' hb => rf_more ?_ w' hb)
    rw [firstR_may ((mayF_iff _ _).2 ⟨.inr v2, .inl (by omega), .inl (by omega)⟩), if_pos (by omega)]
  have k3 := hc 3 (by omega)
  by_cases v3 : ¬ L.getD 3 0 = 0
  · refine rf_v3 b off len cap L w (by omega) _ k2 hlb _ k3 v2 v3 (fun w' hb => rf_bad ?_ w' hb)
    refine firstR_not (fun q => ?_)
    rcases ((mayF_iff _ _).1 q).2.1 with q | q
    · omega
    · exact v3 q
  have v3 : L.getD 3 0 = 0 := Decidable.not_not.1 v3
  by_cases c6 : len < 6
  · refine rf_s5 b off len cap L w (by omega) c6 _ k2 hlb _ k3 v2 v3 (fun w' hb => rf_more ?_ w' hb)
    rw [firstR_may ((mayF_iff _ _).2 ⟨.inr v2, .inr v3, .inl (by omega)⟩), if_pos (by omega)]
  have k4 := hc 4 (by omega)
  have k5 := hc 5 (by omega)
  have l4 := getD_lt h.by' 4
  have l5 := getD_lt h.by' 5
  by_cases f1 : 256 * L.getD 4 0 + L.getD 5 0 < 2
  · refine rf_lo b off len cap L w (by omega) _ k2 hlb _ k3 v2 v3 _ _ k4 k5 l4 l5 f1 (fun w' hb => rf_bad ?_ w' hb)
    refine firstR_not (fun q => ?_)
    rcases ((mayF_iff _ _).1 q).2.2 with q | q <;> omega
  by_cases f2 : 254 < 256 * L.getD 4 0 + L.getD 5 0
  · refine rf_hi b off len cap L w (by omega) _ k2 hlb _ k3 v2 v3 _ _ k4 k5 l4 l5 f2 (fun w' hb => rf_bad ?_ w' hb)
    refine firstR_not (fun q => ?_)
    rcases ((mayF_iff _ _).1 q).2.2 with q | q <;> omega
  have hmay := firstR_may (L := L) ((mayF_iff _ _).2 ⟨.inr v2, .inr v3, .inr ⟨by omega, by omega⟩⟩)
  by_cases fs : len < 6 + (256 * L.getD 4 0 + L.getD 5 0)
  · refine rf_sh b off len cap L w (by omega) _ k2 hlb _ k3 v2 v3 _ _ k4 k5 l4 l5 (by omega) (by omega) fs (fun w' hb => rf_more ?_ w' hb)
    have hfo : folF (fun i => L.getD i 0) = 256 * L.getD 4 0 + L.getD 5 0 := rfl
    rw [hmay, if_pos (.inr (by rw [hfo, hn]; exact fs))]
  · refine rf_frame b off len cap L w h hcap hcm (by omega) v2 v3 (by omega) (by omega) (by omega) ?_
    have hfo : folF (fun i => L.getD i 0) = 256 * L.getD 4 0 + L.getD 5 0 := rfl
    rw [hmay, if_neg (by rw [hfo, hn]; omega)]
    rfl
end Go.Proofs.Ytnihgpaandodjaa
