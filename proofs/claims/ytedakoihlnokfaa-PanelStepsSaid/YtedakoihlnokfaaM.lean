/- PanelOwn. -/
import Derived.Test.YtedakoihlnokfaaK
namespace Go.Proofs.Ytedakoihlnokfaa
set_option linter.unusedVariables false
set_option linter.unusedSimpArgs false
open Go.ChangeShapes Go.WideShapes Go.ChangeAt Go.RowKit

theorem next_stay {k s : Int} (hk : 1 ≤ k ∧ k ≤ 6) (hs : 0 ≤ s ∧ s < 9) : nextZ k s 0 = s := by
  have ht : tabZ k 0 = stayL := by simp [tabZ]
  unfold nextZ
  rw [if_pos (by omega), ht]
  rcases of9 hs with rfl | rfl | rfl | rfl | rfl | rfl | rfl | rfl | rfl <;> rfl
theorem getD_6 {K : List Int} (h : ∀ k ∈ K, 1 ≤ k ∧ k ≤ 6) {i : Nat} (hi : i < K.length) : 1 ≤ K.getD i 0 ∧ K.getD i 0 ≤ 6 := by
  simp only [List.getD, List.getElem?_eq_getElem hi]
  exact h _ (List.getElem_mem hi)
theorem od_alloc {w : World} {A : Od} {i : Nat} (hi : w.heap[i]? = some (.cells #[.int .i64 A.wh, .slice A.xa A.xl A.xc, .slice A.ya A.yl A.yc, .bool A.on, .slice A.za A.zl A.zc] 30 (0, 0))) :
    w.cell? ⟨i, 0, none⟩ = some (.int .i64 A.wh) ∧ w.cell? ⟨i, 1, none⟩ = some (.slice A.xa A.xl A.xc) ∧ w.cell? ⟨i, 2, none⟩ = some (.slice A.ya A.yl A.yc) ∧ w.cell? ⟨i, 3, none⟩ = some (.bool A.on) := by
  simp [World.cell?, hi]
def OwnP (w : World) (e : Ending) (w' : World) : Prop := e = .returned (.bool true) ∧ Below w.heap.size w w'
set_option maxRecDepth 100000 in
set_option maxHeartbeats 8000000 in
theorem own_any (a : Option Addr) (n c : Nat) (K : List Int) (la : Option Addr) (len cap : Nat) (A : Nat → Od) (at' : Nat) (w : World) (hK : ArgI w a n c K) (hA : Ops w la len A) (hat : at' < 256) :
    Calls Try.prog 3 #[.slice a n c, .slice la len cap, .int .u8 (at' : Int)] w (OwnP w) := by
  obtain ⟨P, hP⟩ : ∃ P, P = (OwnP w : Ending → World → Prop) := ⟨_, rfl⟩
  rw [← hP]
  have HP := Lib.hid hP
  have HK := Lib.hid hK
  have HA := Lib.hid hA
  have hl := hA.row.le
  have hln := hK.row.ln
  have hn1 := hK.row.le
  unfold maxLen at hl hn1
  have HLN := Lib.hid hln
  clear hP hK hA hln
  go_enter Try.func3, Try.ntmps3
  go_wp2_with fail
  refine (head_any _).mono ?_
  rintro e w1 ⟨rfl, z1⟩
  have Z1 := Lib.hid z1
  clear z1
  go_wp2_with fail
  refine (new_any a n c K w1 (HK.out.below Z1.out)).mono ?_
  rintro e w2 hn
  rcases hn with ⟨_, rfl, rfl⟩ | ⟨hok, p, sb, ka, kc, rfl, hp, hb⟩
  · go_wp2_with fail
    rw [HP.out]
    exact ⟨rfl, Z1.out⟩
  have PN := Lib.hid (hp.mono Z1.out.size)
  have Z2 := Lib.hid (Z1.out.trans (hb.mono Z1.out.size))
  have HOK := Lib.hid (okK_6 hok)
  clear hp hb hok
  go_wp2_with fail
  refine (great_any a n c la len cap A w2 (HA.out.below Z2.out)).mono ?_
  rintro e w3 ⟨b, rfl, z3⟩
  have Z3 := Lib.hid (Z2.out.trans (z3.mono Z2.out.size))
  have PN := Lib.hid (PN.out.below z3)
  clear z3
  cases b with
  | true =>
    go_wp2_with fail
    rw [HP.out]
    exact ⟨rfl, Z3.out⟩
  | false =>
  by_cases h0 : n = 0
  · subst h0
    have t0 : ((0 : Int) == 0) = true := rfl
    go_wp2_with fail
    rw [HP.out]
    exact ⟨rfl, Z3.out⟩
  have t0 : ((n : Int) == 0) = false := by simp; omega
  obtain ⟨k, hk⟩ : ∃ k, k = at' % n := ⟨_, rfl⟩
  have hkn : k < n := by rw [hk]; exact Nat.mod_lt _ (by omega)
  have e3 : (at' : Int).tmod (n : Int) = (k : Int) := by rw [hk]; simp [Int.tmod_eq_emod_of_nonneg]
  have e3' : (at' : Int) % (n : Int) = (k : Int) := by rw [hk]; simp
  have hk' : ((at' % n : Nat) : Int) = (k : Int) := by rw [hk]
  have d1 : (0 : Int) ≤ (k : Int) := by omega
  have d2 : (k : Int) < (n : Int) := by omega
  have BP := Lib.hid (And.intro PN.out.bp PN.out.bs)
  obtain ⟨q, hq⟩ : ∃ q, q = K.getD k 0 := ⟨_, rfl⟩
  have HQ := Lib.hid hq
  have Q6 := Lib.hid (getD_6 HOK.out.2 (i := k) (by rw [HLN.out]; exact hkn))
  have kcell : ∀ W, Below w.heap.size w W → ∃ b off, a = some ⟨b, off, none⟩ ∧ W.cell? ⟨b, off + k, none⟩ = some (.int .i64 q) := by
    intro W hb
    obtain ⟨b, off, e, _, hc⟩ := (HK.out.row.below hb).pos (by omega)
    exact ⟨b, off, e, by rw [HQ.out]; exact hc k hkn⟩
  have KC := Lib.hid kcell
  obtain ⟨ab, ao, ha0, _⟩ := kcell w (Below.refl _ _)
  subst ha0
  clear hk hq kcell
  go_wp2_with fail
  go_loopw [10, 11] (fun s i wr => ∃ (j : Nat) (S : List Int) (si te : Bool), j ≤ len ∧ s = .int .i64 (S.getD k 0) ∧ i = .int .i64 j ∧ Pn w.heap.size wr p sb ka kc n K S si te ∧ Below w.heap.size w wr) (fun _ i _ => len - (intOf i).toNat)
  case atStart => exact ⟨0, _, _, _, Nat.zero_le _, by simp [List.getD, List.getElem?_replicate]; split <;> rfl, rfl, PN.out, Z3.out⟩
  case round =>
    obtain ⟨wo, rfl⟩ : ∃ wo : World, wo = wr := ⟨_, rfl⟩
    obtain ⟨j, S, si, te, hj, rfl, rfl, hp, hb⟩ := hrel
    by_cases hjn : j < len
    · obtain ⟨lb, lo, rfl, e0, e1, e2, e3c, e4⟩ := (HA.out.below hb).at hjn
      have hod := (HA.out.ok j hjn).below hb
      have how := HA.out.ok j hjn
      generalize A j = o at e0 e1 e2 e3c e4 hod how
      have OW := Lib.hid how
      clear how
      have al := alloc_b wo (.cells #[.int .i64 o.wh, .slice o.xa o.xl o.xc, .slice o.ya o.yl o.yc, .bool o.on, .slice o.za o.zl o.zc] 30 (0, 0))
      have ho := heap_alloc_new wo (.cells #[.int .i64 o.wh, .slice o.xa o.xl o.xc, .slice o.ya o.yl o.yc, .bool o.on, .slice o.za o.zl o.zc] 30 (0, 0))
      have PA := Lib.hid (hp.below al)
      have BA := Lib.hid (hb.trans (al.mono hb.size))
      have OD := Lib.hid (hod.below al)
      have HO := Lib.hid ho
      have hob : ¬ (wo.heap.size = p ∨ wo.heap.size = sb) := by have := hp.lt; omega
      have HOB := Lib.hid hob
      have S8 := Lib.hid (getD_9 hp.s8 k)
      have SL := Lib.hid hp.sl
      obtain ⟨s, hs⟩ : ∃ s, s = S.getD k 0 := ⟨_, rfl⟩
      rw [← hs] at S8 ⊢
      have HS := Lib.hid hs
      have d3 : (j : Int) < (len : Int) := by omega
      have d4 : (0 : Int) ≤ (j : Int) := by omega
      clear hp hb hod al ho hob hs
      by_cases c3 : o.wh = 3
      · rw [c3] at e0 HO PA BA OD
        clear c3
        have PA := PA
        have ct := Lib.hid ((od_alloc (A := { o with wh := 3 }) HO.out))
        go_wp2_with fail
        refine (ackP_any PA.out).mono ?_
        rintro e w5 ⟨rfl, hp, hf⟩
        have BE5 := Lib.hid (fs_bel hf BA.out BP.out.1 BP.out.2 BA.out.size)
        have PN5 := Lib.hid hp
        clear hp hf
        obtain ⟨ab', ao', hab, kc5⟩ := KC.out _ BE5.out
        simp only [Option.some.injEq, Addr.mk.injEq, and_true] at hab
        obtain ⟨rfl, rfl⟩ := hab
        have hv : (mapN K S (fun _ => 4)).getD k 0 = nextZ q s (4) := by rw [mapN_get _ _ _ _ (by rw [SL.out]; exact hkn), ← HQ.out, ← HS.out]
        have HV := Lib.hid hv
        clear hv
        go_wp2_with fail
        refine (rnext_any q s (4) _).mono ?_
        rintro e w6 ⟨rfl, rfl⟩
        obtain ⟨v, hv⟩ : ∃ v, v = nextZ q s (4) := ⟨_, rfl⟩
        rw [← hv]
        have HVV := Lib.hid hv
        clear hv
        go_wp2_with fail
        refine (statesP_any PN5.out).mono ?_
        rintro e w7 ⟨g, rfl, hg, hge, z7⟩
        have gc := (iv_cell hg (k := k) (by rw [PN5.out.sl]; exact hkn)).1
        rw [HV.out, ← HVV.out] at gc
        have PN7 := Lib.hid (PN5.out.below z7)
        have BE7 := Lib.hid (BE5.out.trans (z7.mono BE5.out.size))
        have tn : ((n : Int) != (n : Int)) = false := by simp
        have tv : (v != v) = false := by simp
        clear hg hge z7 kc5
        go_wp2_with fail
        go_roundw
        case rel => exact ⟨j + 1, mapN K S (fun _ => 4), si, te, by omega, by rw [HV.out, ← HVV.out], by go_num, PN7.out, BE7.out⟩
        case measure => simp [intOf]; omega
      by_cases c4 : o.wh = 4
      · rw [c4] at e0 HO PA BA OD
        clear c4
        have PA := PA
        have ct := Lib.hid ((od_alloc (A := { o with wh := 4 }) HO.out))
        go_wp2_with fail
        refine (resetP_any PA.out).mono ?_
        rintro e w5 ⟨rfl, hp, hf⟩
        have BE5 := Lib.hid (fs_bel hf BA.out BP.out.1 BP.out.2 BA.out.size)
        have PN5 := Lib.hid hp
        clear hp hf
        obtain ⟨ab', ao', hab, kc5⟩ := KC.out _ BE5.out
        simp only [Option.some.injEq, Addr.mk.injEq, and_true] at hab
        obtain ⟨rfl, rfl⟩ := hab
        have hv : (mapN K S (fun _ => 5)).getD k 0 = nextZ q s (5) := by rw [mapN_get _ _ _ _ (by rw [SL.out]; exact hkn), ← HQ.out, ← HS.out]
        have HV := Lib.hid hv
        clear hv
        go_wp2_with fail
        refine (rnext_any q s (5) _).mono ?_
        rintro e w6 ⟨rfl, rfl⟩
        obtain ⟨v, hv⟩ : ∃ v, v = nextZ q s (5) := ⟨_, rfl⟩
        rw [← hv]
        have HVV := Lib.hid hv
        clear hv
        go_wp2_with fail
        refine (statesP_any PN5.out).mono ?_
        rintro e w7 ⟨g, rfl, hg, hge, z7⟩
        have gc := (iv_cell hg (k := k) (by rw [PN5.out.sl]; exact hkn)).1
        rw [HV.out, ← HVV.out] at gc
        have PN7 := Lib.hid (PN5.out.below z7)
        have BE7 := Lib.hid (BE5.out.trans (z7.mono BE5.out.size))
        have tn : ((n : Int) != (n : Int)) = false := by simp
        have tv : (v != v) = false := by simp
        clear hg hge z7 kc5
        go_wp2_with fail
        go_roundw
        case rel => exact ⟨j + 1, mapN K S (fun _ => 5), si, te, by omega, by rw [HV.out, ← HVV.out], by go_num, PN7.out, BE7.out⟩
        case measure => simp [intOf]; omega
      by_cases c5 : o.wh = 5
      · rw [c5] at e0 HO PA BA OD
        clear c5
        have PA := PA
        have ct := Lib.hid ((od_alloc (A := { o with wh := 5 }) HO.out))
        go_wp2_with fail
        refine (silenceP_any PA.out).mono ?_
        rintro e w5 ⟨rfl, hp, hf⟩
        have BE5 := Lib.hid (fs_bel hf BA.out BP.out.1 BP.out.2 BA.out.size)
        have PN5 := Lib.hid hp
        clear hp hf
        obtain ⟨ab', ao', hab, kc5⟩ := KC.out _ BE5.out
        simp only [Option.some.injEq, Addr.mk.injEq, and_true] at hab
        obtain ⟨rfl, rfl⟩ := hab
        have hv : (S).getD k 0 = nextZ q s (0) := by rw [next_stay (by rw [HQ.out]; exact Q6.out) S8.out]; exact HS.out.symm
        have HV := Lib.hid hv
        clear hv
        go_wp2_with fail
        refine (rnext_any q s (0) _).mono ?_
        rintro e w6 ⟨rfl, rfl⟩
        obtain ⟨v, hv⟩ : ∃ v, v = nextZ q s (0) := ⟨_, rfl⟩
        rw [← hv]
        have HVV := Lib.hid hv
        clear hv
        go_wp2_with fail
        refine (statesP_any PN5.out).mono ?_
        rintro e w7 ⟨g, rfl, hg, hge, z7⟩
        have gc := (iv_cell hg (k := k) (by rw [PN5.out.sl]; exact hkn)).1
        rw [HV.out, ← HVV.out] at gc
        have PN7 := Lib.hid (PN5.out.below z7)
        have BE7 := Lib.hid (BE5.out.trans (z7.mono BE5.out.size))
        have tn : ((n : Int) != (n : Int)) = false := by simp
        have tv : (v != v) = false := by simp
        clear hg hge z7 kc5
        go_wp2_with fail
        go_roundw
        case rel => exact ⟨j + 1, S, true, te, by omega, by rw [HV.out, ← HVV.out], by go_num, PN7.out, BE7.out⟩
        case measure => simp [intOf]; omega
      by_cases c6 : o.wh = 6
      · rw [c6] at e0 HO PA BA OD
        clear c6
        have PA := PA
        have ct := Lib.hid ((od_alloc (A := { o with wh := 6 }) HO.out))
        go_wp2_with fail
        refine (testP_any PA.out o.on).mono ?_
        rintro e w5 ⟨rfl, hp, hf⟩
        have BE5 := Lib.hid (fs_bel hf BA.out BP.out.1 BP.out.2 BA.out.size)
        have PN5 := Lib.hid hp
        clear hp hf
        obtain ⟨ab', ao', hab, kc5⟩ := KC.out _ BE5.out
        simp only [Option.some.injEq, Addr.mk.injEq, and_true] at hab
        obtain ⟨rfl, rfl⟩ := hab
        have hv : (S).getD k 0 = nextZ q s (0) := by rw [next_stay (by rw [HQ.out]; exact Q6.out) S8.out]; exact HS.out.symm
        have HV := Lib.hid hv
        clear hv
        go_wp2_with fail
        refine (rnext_any q s (0) _).mono ?_
        rintro e w6 ⟨rfl, rfl⟩
        obtain ⟨v, hv⟩ : ∃ v, v = nextZ q s (0) := ⟨_, rfl⟩
        rw [← hv]
        have HVV := Lib.hid hv
        clear hv
        go_wp2_with fail
        refine (statesP_any PN5.out).mono ?_
        rintro e w7 ⟨g, rfl, hg, hge, z7⟩
        have gc := (iv_cell hg (k := k) (by rw [PN5.out.sl]; exact hkn)).1
        rw [HV.out, ← HVV.out] at gc
        have PN7 := Lib.hid (PN5.out.below z7)
        have BE7 := Lib.hid (BE5.out.trans (z7.mono BE5.out.size))
        have tn : ((n : Int) != (n : Int)) = false := by simp
        have tv : (v != v) = false := by simp
        clear hg hge z7 kc5
        go_wp2_with fail
        go_roundw
        case rel => exact ⟨j + 1, S, si, o.on, by omega, by rw [HV.out, ← HVV.out], by go_num, PN7.out, BE7.out⟩
        case measure => simp [intOf]; omega
      have t3 : (o.wh == 3) = false := by simpa using c3
      have t4 : (o.wh == 4) = false := by simpa using c4
      have t5 : (o.wh == 5) = false := by simpa using c5
      have t6 : (o.wh == 6) = false := by simpa using c6
      clear c3 c4 c5 c6
      have SE := Lib.hid (seeP_any PA.out o.xa o.ya o.xl o.xc o.yl o.yc o.xf o.yf OD.out.x OD.out.y)
      go_wp2_with fail
      refine SE.out.mono ?_
      rintro e w5 hn
      by_cases hcc : o.xl = n ∧ o.yl = n
      · obtain ⟨rfl, hp, hf⟩ := see_yes hn hcc
        have BE5 := Lib.hid (fs_bel hf BA.out BP.out.1 BP.out.2 BA.out.size)
        have PN5 := Lib.hid hp
        obtain ⟨o0, o1, o2, o3⟩ := od_alloc (keepF hf HO.out HOB.out)
        have hok := OW.out.below BE5.out
        obtain ⟨xb, xo, hxa, _, hxc⟩ := hok.x.pos (by rw [hcc.1]; omega)
        obtain ⟨yb, yo, hya, _, hyc⟩ := hok.y.pos (by rw [hcc.2]; omega)
        have xk := hxc k (by rw [hcc.1]; exact hkn)
        have yk := hyc k (by rw [hcc.2]; exact hkn)
        rw [hxa, hcc.1] at o1
        rw [hya, hcc.2] at o2
        clear hp hf hn hcc SE hok hxc hyc hxa hya o0 o3
        cases hf : o.xf k with
        | false =>
          have HH : Hid (hapS o.xf o.yf k = 3) := Lib.hid (by simp [hapS, hf])
          rw [hf] at xk
          clear hf
          obtain ⟨ab', ao', hab, kc5⟩ := KC.out _ BE5.out
          simp only [Option.some.injEq, Addr.mk.injEq, and_true] at hab
          obtain ⟨rfl, rfl⟩ := hab
          have hv : (mapN K S (hapS o.xf o.yf)).getD k 0 = nextZ q s (3) := by rw [mapN_get _ _ _ _ (by rw [SL.out]; exact hkn), ← HQ.out, ← HS.out, HH.out]
          have HV := Lib.hid hv
          clear hv
          go_wp2_with fail
          refine (rnext_any q s (3) _).mono ?_
          rintro e w6 ⟨rfl, rfl⟩
          obtain ⟨v, hv⟩ : ∃ v, v = nextZ q s (3) := ⟨_, rfl⟩
          rw [← hv]
          have HVV := Lib.hid hv
          clear hv
          go_wp2_with fail
          refine (statesP_any PN5.out).mono ?_
          rintro e w7 ⟨g, rfl, hg, hge, z7⟩
          have gc := (iv_cell hg (k := k) (by rw [PN5.out.sl]; exact hkn)).1
          rw [HV.out, ← HVV.out] at gc
          have PN7 := Lib.hid (PN5.out.below z7)
          have BE7 := Lib.hid (BE5.out.trans (z7.mono BE5.out.size))
          have tn : ((n : Int) != (n : Int)) = false := by simp
          have tv : (v != v) = false := by simp
          clear hg hge z7 kc5
          go_wp2_with fail
          go_roundw
          case rel => exact ⟨j + 1, mapN K S (hapS o.xf o.yf), _, te, by omega, by rw [HV.out, ← HVV.out], by go_num, PN7.out, BE7.out⟩
          case measure => simp [intOf]; omega
        | true =>
          rw [hf] at xk
          cases hg : o.yf k with
          | false =>
            have HH : Hid (hapS o.xf o.yf k = 1) := Lib.hid (by simp [hapS, hf, hg])
            rw [hg] at yk
            clear hf hg
            obtain ⟨ab', ao', hab, kc5⟩ := KC.out _ BE5.out
            simp only [Option.some.injEq, Addr.mk.injEq, and_true] at hab
            obtain ⟨rfl, rfl⟩ := hab
            have hv : (mapN K S (hapS o.xf o.yf)).getD k 0 = nextZ q s (1) := by rw [mapN_get _ _ _ _ (by rw [SL.out]; exact hkn), ← HQ.out, ← HS.out, HH.out]
            have HV := Lib.hid hv
            clear hv
            go_wp2_with fail
            refine (rnext_any q s (1) _).mono ?_
            rintro e w6 ⟨rfl, rfl⟩
            obtain ⟨v, hv⟩ : ∃ v, v = nextZ q s (1) := ⟨_, rfl⟩
            rw [← hv]
            have HVV := Lib.hid hv
            clear hv
            go_wp2_with fail
            refine (statesP_any PN5.out).mono ?_
            rintro e w7 ⟨g, rfl, hg, hge, z7⟩
            have gc := (iv_cell hg (k := k) (by rw [PN5.out.sl]; exact hkn)).1
            rw [HV.out, ← HVV.out] at gc
            have PN7 := Lib.hid (PN5.out.below z7)
            have BE7 := Lib.hid (BE5.out.trans (z7.mono BE5.out.size))
            have tn : ((n : Int) != (n : Int)) = false := by simp
            have tv : (v != v) = false := by simp
            clear hg hge z7 kc5
            go_wp2_with fail
            go_roundw
            case rel => exact ⟨j + 1, mapN K S (hapS o.xf o.yf), _, te, by omega, by rw [HV.out, ← HVV.out], by go_num, PN7.out, BE7.out⟩
            case measure => simp [intOf]; omega
          | true =>
            have HH : Hid (hapS o.xf o.yf k = 2) := Lib.hid (by simp [hapS, hf, hg])
            rw [hg] at yk
            clear hf hg
            obtain ⟨ab', ao', hab, kc5⟩ := KC.out _ BE5.out
            simp only [Option.some.injEq, Addr.mk.injEq, and_true] at hab
            obtain ⟨rfl, rfl⟩ := hab
            have hv : (mapN K S (hapS o.xf o.yf)).getD k 0 = nextZ q s (2) := by rw [mapN_get _ _ _ _ (by rw [SL.out]; exact hkn), ← HQ.out, ← HS.out, HH.out]
            have HV := Lib.hid hv
            clear hv
            go_wp2_with fail
            refine (rnext_any q s (2) _).mono ?_
            rintro e w6 ⟨rfl, rfl⟩
            obtain ⟨v, hv⟩ : ∃ v, v = nextZ q s (2) := ⟨_, rfl⟩
            rw [← hv]
            have HVV := Lib.hid hv
            clear hv
            go_wp2_with fail
            refine (statesP_any PN5.out).mono ?_
            rintro e w7 ⟨g, rfl, hg, hge, z7⟩
            have gc := (iv_cell hg (k := k) (by rw [PN5.out.sl]; exact hkn)).1
            rw [HV.out, ← HVV.out] at gc
            have PN7 := Lib.hid (PN5.out.below z7)
            have BE7 := Lib.hid (BE5.out.trans (z7.mono BE5.out.size))
            have tn : ((n : Int) != (n : Int)) = false := by simp
            have tv : (v != v) = false := by simp
            clear hg hge z7 kc5
            go_wp2_with fail
            go_roundw
            case rel => exact ⟨j + 1, mapN K S (hapS o.xf o.yf), _, te, by omega, by rw [HV.out, ← HVV.out], by go_num, PN7.out, BE7.out⟩
            case measure => simp [intOf]; omega
      · obtain ⟨rfl, hp, hf⟩ := see_no hn hcc
        have BE5 := Lib.hid (fs_bel hf BA.out BP.out.1 BP.out.2 BA.out.size)
        have PN5 := Lib.hid hp
        clear hp hf hn hcc SE
        obtain ⟨ab', ao', hab, kc5⟩ := KC.out _ BE5.out
        simp only [Option.some.injEq, Addr.mk.injEq, and_true] at hab
        obtain ⟨rfl, rfl⟩ := hab
        have hv : (S).getD k 0 = nextZ q s (0) := by rw [next_stay (by rw [HQ.out]; exact Q6.out) S8.out]; exact HS.out.symm
        have HV := Lib.hid hv
        clear hv
        go_wp2_with fail
        refine (rnext_any q s (0) _).mono ?_
        rintro e w6 ⟨rfl, rfl⟩
        obtain ⟨v, hv⟩ : ∃ v, v = nextZ q s (0) := ⟨_, rfl⟩
        rw [← hv]
        have HVV := Lib.hid hv
        clear hv
        go_wp2_with fail
        refine (statesP_any PN5.out).mono ?_
        rintro e w7 ⟨g, rfl, hg, hge, z7⟩
        have gc := (iv_cell hg (k := k) (by rw [PN5.out.sl]; exact hkn)).1
        rw [HV.out, ← HVV.out] at gc
        have PN7 := Lib.hid (PN5.out.below z7)
        have BE7 := Lib.hid (BE5.out.trans (z7.mono BE5.out.size))
        have tn : ((n : Int) != (n : Int)) = false := by simp
        have tv : (v != v) = false := by simp
        clear hg hge z7 kc5
        go_wp2_with fail
        go_roundw
        case rel => exact ⟨j + 1, S, si, te, by omega, by rw [HV.out, ← HVV.out], by go_num, PN7.out, BE7.out⟩
        case measure => simp [intOf]; omega
    · have hj' : j = len := by omega
      subst hj'
      have HB := Lib.hid hb
      clear hb hp
      go_wp2_with fail
      rw [HP.out]
      exact ⟨rfl, HB.out⟩
theorem own_z (a : Option Addr) (n c : Nat) (K : List Int) (la : Option Addr) (len cap : Nat) (A : Nat → Od) (x : Int) (w : World) (hK : ArgI w a n c K) (hA : Ops w la len A) (hx : (Lit.int .u8 x).wf = true) :
    Calls Try.prog 3 #[.slice a n c, .slice la len cap, .int .u8 x] w (OwnP w) := by
  have b := bd_u8 hx
  obtain ⟨m, rfl⟩ : ∃ m : Nat, x = (m : Int) := ⟨x.toNat, by omega⟩
  exact own_any a n c K la len cap A m w hK hA (by omega)
end Go.Proofs.Ytedakoihlnokfaa
