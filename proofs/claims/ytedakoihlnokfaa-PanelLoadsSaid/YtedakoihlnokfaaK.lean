/- The live question. -/
import Derived.Test.YtedakoihlnokfaaJ
namespace Go.Proofs.Ytedakoihlnokfaa
set_option linter.unusedVariables false
set_option linter.unusedSimpArgs false
open Go.ChangeShapes Go.WideShapes Go.ChangeAt Go.RowKit

theorem keepF {p sb g : Nat} {w w' : World} {o : Obj} (hf : Fs [p, sb] w w') (hx : w.heap[g]? = some o) (h : ¬ (g = p ∨ g = sb)) : w'.heap[g]? = some o := (hf.block g (blk_lt hx) (by simpa using h)).trans hx
theorem fs_bel {B p sb : Nat} {w0 w w' : World} (hf : Fs [p, sb] w w') (h : Below B w0 w) (hp : B ≤ p) (hs : B ≤ sb) (hB : B ≤ w.heap.size) : Below B w0 w' := h.trans (hf.below (by simp; omega) hB)
def bl2 (x y : Bool) (i : Nat) : Bool := if i = 0 then x else y
theorem row2 {w : World} {g : Nat} {x y : Bool} (h : w.heap[g]? = some (.cells #[.bool x, .bool y] 4 (0, 0))) : Row w (some ⟨g, 0, none⟩) 2 (fun i => .bool (bl2 x y i)) := by
  refine ⟨by unfold maxLen; omega, .inr ⟨g, 0, rfl, blk_lt h, fun i hi => ?_⟩⟩
  rcases (by omega : i = 0 ∨ i = 1) with rfl | rfl <;> simp [World.cell?, h, bl2]
theorem row0 (w : World) (f : Nat → Bool) : Row w none 0 (fun i => .bool (f i)) := ⟨Nat.zero_le _, .inl rfl⟩
theorem arg2 {w : World} {g : Nat} {x y : Int} (h : w.heap[g]? = some (.cells (iv [x, y]).toArray 3 (0, 0))) (hw : ∀ z ∈ [x, y], 0 ≤ z ∧ z < 100) : ArgI w (some ⟨g, 0, none⟩) 2 2 [x, y] :=
  ⟨iv_row h (by unfold maxLen; show 2 ≤ _; omega) (fun z hz => wf_i64 (by have := hw z hz; omega) (by have := hw z hz; omega)), (fun e => by cases e), Nat.le_refl _, by unfold maxLen; decide⟩
theorem arg1 {w : World} {g : Nat} {x : Int} (h : w.heap[g]? = some (.cells (iv [x]).toArray 3 (0, 0))) (hw : 0 ≤ x ∧ x < 100) : ArgI w (some ⟨g, 0, none⟩) 1 1 [x] :=
  ⟨iv_row h (by unfold maxLen; show 1 ≤ _; omega) (fun z hz => wf_i64 (by simp at hz; omega) (by simp at hz; omega)), (fun e => by cases e), Nat.le_refl _, by unfold maxLen; decide⟩
theorem hm1 : mapN [1, 2] [0, 0] (hapS (bl2 true false) (bl2 false false)) = [1, 0] := by decide +kernel
theorem hs1 : siA false [0, 0] [1, 0] 2 = false := by decide
theorem hh1 : hornP false false [1, 0] = 1 := by decide +kernel
theorem hh2 : hornP true false [1, 0] = 0 := by decide +kernel
theorem hm2 : mapN [1, 2] [1, 0] (hapS (bl2 true true) (bl2 false false)) = [1, 1] := by decide +kernel
theorem hs2 : siA true [1, 0] [1, 1] 2 = false := by decide
theorem hh3 : hornP false false [1, 1] = 1 := by decide +kernel
theorem hl1 : looks false [1, 1] = [2, 2] := by decide +kernel
theorem hm3 : mapN [1, 2] [1, 1] (fun _ => 4) = [2, 2] := by decide +kernel
theorem hm4 : mapN [1, 2] [2, 2] (hapS (bl2 false false) (bl2 false false)) = [0, 4] := by decide +kernel
theorem hs4 : siA false [2, 2] [0, 4] 2 = false := by decide
theorem hm5 : mapN [1, 2] [0, 4] (fun _ => 5) = [0, 0] := by decide +kernel
theorem hl2 : looks true [0, 0] = [1, 1] := by decide +kernel
theorem hh4 : hornP false true [0, 0] = 1 := by decide +kernel
theorem hk1 : okK [1, 2] = true := by decide
theorem hk2 : okK [0] = false := by decide
theorem hb1 : ([0, 9] : List Int).any badS = true := by decide
theorem see_yes {B : Nat} {w : World} {p sb : Nat} {ka : Option Addr} {kc n la lb : Nat} {K S : List Int} {si te : Bool} {f g : Nat → Bool} {e : Ending} {w' : World} (h : SeeP B w p sb ka kc n la lb K S si te f g e w') (h1 : la = n ∧ lb = n) :
    e = .returned (.bool true) ∧ Pn B w' p sb ka kc n K (mapN K S (hapS f g)) (siA si S (mapN K S (hapS f g)) n) te ∧ Fs [p, sb] w w' := by
  rcases h with ⟨q, _⟩ | ⟨_, _, q⟩
  · exact absurd h1 q
  · exact q
theorem see_no {B : Nat} {w : World} {p sb : Nat} {ka : Option Addr} {kc n la lb : Nat} {K S : List Int} {si te : Bool} {f g : Nat → Bool} {e : Ending} {w' : World} (h : SeeP B w p sb ka kc n la lb K S si te f g e w') (h1 : ¬ (la = n ∧ lb = n)) :
    e = .returned (.bool false) ∧ Pn B w' p sb ka kc n K S si te ∧ Fs [p, sb] w w' := by
  rcases h with ⟨_, q⟩ | ⟨q1, q2, _⟩
  · exact q
  · exact absurd ⟨q1, q2⟩ h1
set_option maxRecDepth 100000 in
set_option maxHeartbeats 8000000 in
theorem head_any (w : World) : Calls Try.prog 6 #[] w fun e w' => e = .returned (.bool true) ∧ Below w.heap.size w w' := by
  have NW := Lib.hid (new_any _ _ _ _ _ (arg2 (heap_alloc_new w (.cells (iv [1, 2]).toArray 3 (0, 0))) (by decide)))
  go_enter Try.func6, Try.ntmps6
  go_wp2_with fail
  refine NW.out.mono ?_
  rintro e w1 hn
  rcases hn with ⟨q, _⟩ | ⟨_, p, sb, ka, kc, rfl, hp, hbel⟩
  · rw [hk1] at q; cases q
  have PN := Lib.hid (hp.mono (C := w.heap.size) (by simp))
  have BE := Lib.hid ((alloc_b w (.cells (iv [1, 2]).toArray 3 (0, 0))).trans (hbel.mono (by simp)))
  have BP := Lib.hid (And.intro PN.out.bp PN.out.bs)
  clear hp hbel NW
  have NZ := Lib.hid (new_any _ _ _ _ _ (arg1 (heap_alloc_new w1 (.cells (iv [0]).toArray 3 (0, 0))) (by decide)))
  go_wp2_with fail
  refine NZ.out.mono ?_
  rintro e w2 hn
  rcases hn with ⟨_, rfl, rfl⟩ | ⟨q, _⟩
  case inr => rw [hk2] at q; cases q
  clear NZ
  obtain ⟨W, hW⟩ : ∃ W, W = w1.alloc (.cells (iv [0]).toArray 3 (0, 0)) := ⟨_, rfl⟩
  have PN : Hid (Pn w.heap.size W p sb ka kc 2 [1, 2] [0, 0] false false) := Lib.hid (by rw [hW]; exact PN.out.below (alloc_b _ _))
  have BE : Hid (Below w.heap.size w W) := Lib.hid (by rw [hW]; exact BE.out.alloc BE.out.size _)
  have HW := Lib.hid hW
  have WS := Lib.hid (show W.heap.size = w1.heap.size + 1 by rw [hW]; simp)
  clear hW
  obtain ⟨W2, hW2⟩ : ∃ W2, W2 = (W.alloc (.cells #[.bool false, .bool false] 4 (0, 0))).alloc (.cells #[.bool true, .bool false] 4 (0, 0)) := ⟨_, rfl⟩
  obtain ⟨nb, hnb⟩ : ∃ nb, nb = W.heap.size := ⟨_, rfl⟩
  have b1 := alloc_b W (.cells #[.bool false, .bool false] 4 (0, 0))
  have b2 := alloc_b (W.alloc (.cells #[.bool false, .bool false] 4 (0, 0))) (.cells #[.bool true, .bool false] 4 (0, 0))
  have bb := b1.trans (b2.mono b1.size)
  have n0 := low_of b2 (heap_alloc_new W (.cells #[.bool false, .bool false] 4 (0, 0)))
  have t0 := heap_alloc_new (W.alloc (.cells #[.bool false, .bool false] 4 (0, 0))) (.cells #[.bool true, .bool false] 4 (0, 0))
  rw [World.size_alloc, ← hW2] at t0
  rw [← hW2] at bb n0
  rw [← hnb] at n0 t0
  have hnbp : ¬ (nb = p ∨ nb = sb) := by have := PN.out.lt; omega
  have NBP := Lib.hid hnbp
  have NO := Lib.hid n0
  have PN := Lib.hid (PN.out.below bb)
  have BE := Lib.hid (BE.out.trans (bb.mono BE.out.size))
  have SE := Lib.hid (seeP_any PN.out (some ⟨nb + 1, 0, none⟩) (some ⟨nb, 0, none⟩) 2 2 2 2 _ _ (row2 t0) (row2 n0))
  have HW2 := Lib.hid hW2
  have HNB := Lib.hid hnb
  have WB := Lib.hid (show w1.heap.size + 1 = nb by rw [hnb]; exact WS.out.symm)
  clear hW2 hnb b1 b2 bb n0 t0 hnbp
  go_wp2_with fail
  rw [← HW.out, ← HW2.out, WB.out]
  refine SE.out.mono ?_
  rintro e w3 hn
  obtain ⟨rfl, hp, hf⟩ := see_yes hn ⟨rfl, rfl⟩
  rw [hm1, hs1] at hp
  have BE := Lib.hid (fs_bel hf BE.out BP.out.1 BP.out.2 BE.out.size)
  have NO := Lib.hid (keepF hf NO.out NBP.out)
  have PN := Lib.hid hp
  clear hp hf hn SE
  go_wp2_with fail
  refine (horn_panel PN.out).mono ?_
  rintro e w4 ⟨rfl, z⟩
  rw [hh1]
  have BE := Lib.hid (BE.out.trans (z.mono BE.out.size))
  have NO := Lib.hid (low_of z NO.out)
  have PN := Lib.hid (PN.out.below z)
  clear z 
  go_wp2_with fail
  refine (silenceP_any PN.out).mono ?_
  rintro e w5 ⟨rfl, hp, hf⟩
  have BE := Lib.hid (fs_bel hf BE.out BP.out.1 BP.out.2 BE.out.size)
  have NO := Lib.hid (keepF hf NO.out NBP.out)
  have PN := Lib.hid hp
  clear hp hf 
  go_wp2_with fail
  refine (horn_panel PN.out).mono ?_
  rintro e w6 ⟨rfl, z⟩
  rw [hh2]
  have BE := Lib.hid (BE.out.trans (z.mono BE.out.size))
  have NO := Lib.hid (low_of z NO.out)
  have PN := Lib.hid (PN.out.below z)
  clear z 
  have ba := alloc_b w6 (.cells #[.bool true, .bool true] 4 (0, 0))
  have t0 := heap_alloc_new w6 (.cells #[.bool true, .bool true] 4 (0, 0))
  have PA := PN.out.below ba
  have SE := Lib.hid (seeP_any PA (some ⟨w6.heap.size, 0, none⟩) (some ⟨nb, 0, none⟩) 2 2 2 2 _ _ (row2 t0) (row2 (low_of ba NO.out)))
  have BE := Lib.hid (BE.out.trans (ba.mono BE.out.size))
  have NO := Lib.hid (low_of ba NO.out)
  have PN := Lib.hid (PN.out.below ba)
  clear ba PA t0
  go_wp2_with fail
  refine SE.out.mono ?_
  rintro e w7 hn
  obtain ⟨rfl, hp, hf⟩ := see_yes hn ⟨rfl, rfl⟩
  rw [hm2, hs2] at hp
  have BE := Lib.hid (fs_bel hf BE.out BP.out.1 BP.out.2 BE.out.size)
  have NO := Lib.hid (keepF hf NO.out NBP.out)
  have PN := Lib.hid hp
  clear hp hf hn SE
  go_wp2_with fail
  refine (horn_panel PN.out).mono ?_
  rintro e w8 ⟨rfl, z⟩
  rw [hh3]
  have BE := Lib.hid (BE.out.trans (z.mono BE.out.size))
  have NO := Lib.hid (low_of z NO.out)
  have PN := Lib.hid (PN.out.below z)
  clear z 
  go_wp2_with fail
  refine (looksP_any PN.out).mono ?_
  rintro e w9 ⟨gx, rfl, hx, hge, z⟩
  rw [hl1] at hx
  have GXP : Hid (¬ (gx = p ∨ gx = sb)) := Lib.hid (by have := PN.out.lt; omega)
  have BE := Lib.hid (BE.out.trans (z.mono BE.out.size))
  have NO := Lib.hid (low_of z NO.out)
  have PN := Lib.hid (PN.out.below z)
  clear z hge
  have GX := Lib.hid hx
  clear hx
  go_wp2_with fail
  refine (ackP_any PN.out).mono ?_
  rintro e w10 ⟨rfl, hp, hf⟩
  rw [hm3] at hp
  have BE := Lib.hid (fs_bel hf BE.out BP.out.1 BP.out.2 BE.out.size)
  have NO := Lib.hid (keepF hf NO.out NBP.out)
  have GX := Lib.hid (keepF hf GX.out GXP.out)
  have PN := Lib.hid hp
  clear hp hf 
  have SE := Lib.hid (seeP_any PN.out (some ⟨nb, 0, none⟩) (some ⟨nb, 0, none⟩) 2 2 2 2 _ _ (row2 NO.out) (row2 NO.out))
  go_wp2_with fail
  refine SE.out.mono ?_
  rintro e w11 hn
  obtain ⟨rfl, hp, hf⟩ := see_yes hn ⟨rfl, rfl⟩
  rw [hm4, hs4] at hp
  have BE := Lib.hid (fs_bel hf BE.out BP.out.1 BP.out.2 BE.out.size)
  have NO := Lib.hid (keepF hf NO.out NBP.out)
  have GX := Lib.hid (keepF hf GX.out GXP.out)
  have PN := Lib.hid hp
  clear hp hf hn SE
  go_wp2_with fail
  refine (statesP_any PN.out).mono ?_
  rintro e w12 ⟨gy, rfl, hx, hge, z⟩
  have GYP : Hid (¬ (gy = p ∨ gy = sb)) := Lib.hid (by have := PN.out.lt; omega)
  have BE := Lib.hid (BE.out.trans (z.mono BE.out.size))
  have NO := Lib.hid (low_of z NO.out)
  have GX := Lib.hid (low_of z GX.out)
  have PN := Lib.hid (PN.out.below z)
  clear z hge
  have GY := Lib.hid hx
  clear hx
  go_wp2_with fail
  refine (resetP_any PN.out).mono ?_
  rintro e w13 ⟨rfl, hp, hf⟩
  rw [hm5] at hp
  have BE := Lib.hid (fs_bel hf BE.out BP.out.1 BP.out.2 BE.out.size)
  have NO := Lib.hid (keepF hf NO.out NBP.out)
  have GX := Lib.hid (keepF hf GX.out GXP.out)
  have GY := Lib.hid (keepF hf GY.out GYP.out)
  have PN := Lib.hid hp
  clear hp hf 
  go_wp2_with fail
  refine (testP_any PN.out true).mono ?_
  rintro e w14 ⟨rfl, hp, hf⟩
  have BE := Lib.hid (fs_bel hf BE.out BP.out.1 BP.out.2 BE.out.size)
  have NO := Lib.hid (keepF hf NO.out NBP.out)
  have GX := Lib.hid (keepF hf GX.out GXP.out)
  have GY := Lib.hid (keepF hf GY.out GYP.out)
  have PN := Lib.hid hp
  clear hp hf 
  go_wp2_with fail
  refine (looksP_any PN.out).mono ?_
  rintro e w15 ⟨gz, rfl, hx, hge, z⟩
  rw [hl2] at hx
  have GZP : Hid (¬ (gz = p ∨ gz = sb)) := Lib.hid (by have := PN.out.lt; omega)
  have BE := Lib.hid (BE.out.trans (z.mono BE.out.size))
  have NO := Lib.hid (low_of z NO.out)
  have GX := Lib.hid (low_of z GX.out)
  have GY := Lib.hid (low_of z GY.out)
  have PN := Lib.hid (PN.out.below z)
  clear z hge
  have GZ := Lib.hid hx
  clear hx
  have ba := alloc_b w15 (.cells (iv [2, 2]).toArray 3 (0, 0))
  have SI := Lib.hid (sameInts_any _ _ 2 2 2 2 _ _ _ (arg2 (low_of ba GX.out) (by decide)).row (arg2 (heap_alloc_new w15 (.cells (iv [2, 2]).toArray 3 (0, 0))) (by decide)).row)
  have BE := Lib.hid (BE.out.trans (ba.mono BE.out.size))
  have NO := Lib.hid (low_of ba NO.out)
  have GX := Lib.hid (low_of ba GX.out)
  have GY := Lib.hid (low_of ba GY.out)
  have GZ := Lib.hid (low_of ba GZ.out)
  have PN := Lib.hid (PN.out.below ba)
  clear ba 
  go_wp2_with fail
  refine SI.out.mono ?_
  rintro e w16 ⟨rfl, z⟩
  have BE := Lib.hid (BE.out.trans (z.mono BE.out.size))
  have NO := Lib.hid (low_of z NO.out)
  have GX := Lib.hid (low_of z GX.out)
  have GY := Lib.hid (low_of z GY.out)
  have GZ := Lib.hid (low_of z GZ.out)
  have PN := Lib.hid (PN.out.below z)
  clear z SI
  have ba := alloc_b w16 (.cells (iv [0, 4]).toArray 3 (0, 0))
  have SI := Lib.hid (sameInts_any _ _ 2 2 2 2 _ _ _ (arg2 (low_of ba GY.out) (by decide)).row (arg2 (heap_alloc_new w16 (.cells (iv [0, 4]).toArray 3 (0, 0))) (by decide)).row)
  have BE := Lib.hid (BE.out.trans (ba.mono BE.out.size))
  have NO := Lib.hid (low_of ba NO.out)
  have GX := Lib.hid (low_of ba GX.out)
  have GY := Lib.hid (low_of ba GY.out)
  have GZ := Lib.hid (low_of ba GZ.out)
  have PN := Lib.hid (PN.out.below ba)
  clear ba 
  go_wp2_with fail
  refine SI.out.mono ?_
  rintro e w17 ⟨rfl, z⟩
  have BE := Lib.hid (BE.out.trans (z.mono BE.out.size))
  have NO := Lib.hid (low_of z NO.out)
  have GX := Lib.hid (low_of z GX.out)
  have GY := Lib.hid (low_of z GY.out)
  have GZ := Lib.hid (low_of z GZ.out)
  have PN := Lib.hid (PN.out.below z)
  clear z SI
  have ba := alloc_b w17 (.cells (iv [1, 1]).toArray 3 (0, 0))
  have SI := Lib.hid (sameInts_any _ _ 2 2 2 2 _ _ _ (arg2 (low_of ba GZ.out) (by decide)).row (arg2 (heap_alloc_new w17 (.cells (iv [1, 1]).toArray 3 (0, 0))) (by decide)).row)
  have BE := Lib.hid (BE.out.trans (ba.mono BE.out.size))
  have NO := Lib.hid (low_of ba NO.out)
  have GX := Lib.hid (low_of ba GX.out)
  have GY := Lib.hid (low_of ba GY.out)
  have GZ := Lib.hid (low_of ba GZ.out)
  have PN := Lib.hid (PN.out.below ba)
  clear ba 
  go_wp2_with fail
  refine SI.out.mono ?_
  rintro e w18 ⟨rfl, z⟩
  have BE := Lib.hid (BE.out.trans (z.mono BE.out.size))
  have NO := Lib.hid (low_of z NO.out)
  have GX := Lib.hid (low_of z GX.out)
  have GY := Lib.hid (low_of z GY.out)
  have GZ := Lib.hid (low_of z GZ.out)
  have PN := Lib.hid (PN.out.below z)
  clear z SI
  go_wp2_with fail
  refine (statesP_any PN.out).mono ?_
  rintro e w19 ⟨gs, rfl, hx, hge, z⟩
  have GSP : Hid (¬ (gs = p ∨ gs = sb)) := Lib.hid (by have := PN.out.lt; omega)
  have BE := Lib.hid (BE.out.trans (z.mono BE.out.size))
  have NO := Lib.hid (low_of z NO.out)
  have GX := Lib.hid (low_of z GX.out)
  have GY := Lib.hid (low_of z GY.out)
  have GZ := Lib.hid (low_of z GZ.out)
  have PN := Lib.hid (PN.out.below z)
  clear z hge
  have GS := Lib.hid hx
  clear hx
  have ba := alloc_b w19 (.cells (iv [0, 0]).toArray 3 (0, 0))
  have SI := Lib.hid (sameInts_any _ _ 2 2 2 2 _ _ _ (arg2 (low_of ba GS.out) (by decide)).row (arg2 (heap_alloc_new w19 (.cells (iv [0, 0]).toArray 3 (0, 0))) (by decide)).row)
  have BE := Lib.hid (BE.out.trans (ba.mono BE.out.size))
  have NO := Lib.hid (low_of ba NO.out)
  have GX := Lib.hid (low_of ba GX.out)
  have GY := Lib.hid (low_of ba GY.out)
  have GZ := Lib.hid (low_of ba GZ.out)
  have GS := Lib.hid (low_of ba GS.out)
  have PN := Lib.hid (PN.out.below ba)
  clear ba 
  go_wp2_with fail
  refine SI.out.mono ?_
  rintro e w20 ⟨rfl, z⟩
  have BE := Lib.hid (BE.out.trans (z.mono BE.out.size))
  have NO := Lib.hid (low_of z NO.out)
  have GX := Lib.hid (low_of z GX.out)
  have GY := Lib.hid (low_of z GY.out)
  have GZ := Lib.hid (low_of z GZ.out)
  have GS := Lib.hid (low_of z GS.out)
  have PN := Lib.hid (PN.out.below z)
  clear z SI
  go_wp2_with fail
  refine (seeP_any PN.out none none 0 0 0 0 (fun _ => false) (fun _ => false) (row0 _ _) (row0 _ _)).mono ?_
  rintro e w21 hn
  obtain ⟨rfl, hp, hf⟩ := see_no hn (by decide)
  have BE := Lib.hid (fs_bel hf BE.out BP.out.1 BP.out.2 BE.out.size)
  have NO := Lib.hid (keepF hf NO.out NBP.out)
  have GX := Lib.hid (keepF hf GX.out GXP.out)
  have GY := Lib.hid (keepF hf GY.out GYP.out)
  have GZ := Lib.hid (keepF hf GZ.out GZP.out)
  have GS := Lib.hid (keepF hf GS.out GSP.out)
  have PN := Lib.hid hp
  clear hp hf hn
  have ba := alloc_b w21 (.cells (iv [0, 9]).toArray 3 (0, 0))
  have LO := Lib.hid (loadP_any (PN.out.below ba) _ 2 2 [0, 9] (arg2 (heap_alloc_new w21 (.cells (iv [0, 9]).toArray 3 (0, 0))) (by decide)).row)
  have BE := Lib.hid (BE.out.trans (ba.mono BE.out.size))
  have NO := Lib.hid (low_of ba NO.out)
  have GX := Lib.hid (low_of ba GX.out)
  have GY := Lib.hid (low_of ba GY.out)
  have GZ := Lib.hid (low_of ba GZ.out)
  have GS := Lib.hid (low_of ba GS.out)
  have PN := Lib.hid (PN.out.below ba)
  clear ba 
  go_wp2_with fail
  refine LO.out.mono ?_
  rintro e w22 hn
  rcases hn with ⟨rfl, rfl, _⟩ | ⟨_, q, _⟩
  case inr => rw [hb1] at q; cases q
  clear LO
  go_wp2_with fail
  refine (horn_panel PN.out).mono ?_
  rintro e wz ⟨rfl, z⟩
  rw [hh4]
  have BE := Lib.hid (BE.out.trans (z.mono BE.out.size))
  have NO := Lib.hid (low_of z NO.out)
  have GX := Lib.hid (low_of z GX.out)
  have GY := Lib.hid (low_of z GY.out)
  have GZ := Lib.hid (low_of z GZ.out)
  have GS := Lib.hid (low_of z GS.out)
  have PN := Lib.hid (PN.out.below z)
  clear z 
  go_wp2_with fail
  go_ret
  exact ⟨rfl, BE.out⟩
end Go.Proofs.Ytedakoihlnokfaa
