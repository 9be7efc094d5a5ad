/- PanelSteps. -/
import Derived.Test.YtedakoihlnokfaaM
namespace Go.Proofs.Ytedakoihlnokfaa
set_option linter.unusedVariables false
set_option linter.unusedSimpArgs false
open Go.ChangeShapes Go.WideShapes Go.ChangeAt Go.RowKit

/-- What happens twice is as what happens once. -/
theorem next_twice {k s h : Int} (hk : 1 ≤ k ∧ k ≤ 6) (hs : 0 ≤ s ∧ s < 9) (hh : h = 1 ∨ h = 2 ∨ h = 3 ∨ h = 4 ∨ h = 5) : nextZ k (nextZ k s h) h = nextZ k s h := by
  rcases (by omega : k = 1 ∨ k = 2 ∨ k = 3 ∨ k = 4 ∨ k = 5 ∨ k = 6) with rfl | rfl | rfl | rfl | rfl | rfl <;>
    rcases of9 hs with rfl | rfl | rfl | rfl | rfl | rfl | rfl | rfl | rfl <;>
    rcases hh with rfl | rfl | rfl | rfl | rfl <;> decide +kernel
theorem hapS_5 (f g : Nat → Bool) (i : Nat) : hapS f g i = 1 ∨ hapS f g i = 2 ∨ hapS f g i = 3 ∨ hapS f g i = 4 ∨ hapS f g i = 5 := by
  unfold hapS
  repeat' split
  all_goals simp
theorem mapN_twice {K S : List Int} {H : Nat → Int} (hK : ∀ k ∈ K, 1 ≤ k ∧ k ≤ 6) (hS : ∀ s ∈ S, 0 ≤ s ∧ s < 9) (hl : K.length = S.length) (hH : ∀ i, H i = 1 ∨ H i = 2 ∨ H i = 3 ∨ H i = 4 ∨ H i = 5) : mapN K (mapN K S H) H = mapN K S H := by
  apply List.ext_getElem
  · rw [mapN_len]
  · intro i h1 h2
    have hi : i < S.length := by rw [mapN_len] at h2; exact h2
    have e1 := mapN_get K (mapN K S H) H i h2
    have e2 := mapN_get K S H i hi
    simp only [List.getD, List.getElem?_eq_getElem h1, List.getElem?_eq_getElem h2, Option.getD_some] at e1 e2
    rw [e1, e2, List.getElem?_eq_getElem hi]
    exact next_twice (by have := getD_6 hK (i := i) (by omega); simpa [List.getD] using this) (hS _ (List.getElem_mem hi)) (hH i)
theorem see_once {B : Nat} {w : World} {p sb : Nat} {ka : Option Addr} {kc n la lb : Nat} {K S : List Int} {si te : Bool} {f g : Nat → Bool} {e : Ending} {w' : World} (h : SeeP B w p sb ka kc n la lb K S si te f g e w') :
    ∃ (r : Bool) (S1 : List Int) (si1 : Bool), e = .returned (.bool r) ∧ Pn B w' p sb ka kc n K S1 si1 te ∧ Fs [p, sb] w w' ∧ S1 = if la = n ∧ lb = n then mapN K S (hapS f g) else S := by
  rcases h with ⟨hq, rfl, h1, h2⟩ | ⟨q1, q2, rfl, h1, h2⟩
  · exact ⟨_, _, _, rfl, h1, h2, by rw [if_neg hq]⟩
  · exact ⟨_, _, _, rfl, h1, h2, by rw [if_pos ⟨q1, q2⟩]⟩
def StepsP (w : World) (e : Ending) (w' : World) : Prop := e = .returned (.bool true) ∧ Below w.heap.size w w'
set_option maxRecDepth 100000 in
set_option maxHeartbeats 8000000 in
theorem steps_any (a : Option Addr) (n c : Nat) (K : List Int) (la : Option Addr) (len cap : Nat) (A : Nat → Od) (xa ya : Option Addr) (xl xc yl yc : Nat) (f g : Nat → Bool) (w : World) (hK : ArgI w a n c K) (hA : Ops w la len A) (hx : Row w xa xl (fun i => .bool (f i))) (hy : Row w ya yl (fun i => .bool (g i))) :
    Calls Try.prog 5 #[.slice a n c, .slice la len cap, .slice xa xl xc, .slice ya yl yc] w (StepsP w) := by
  obtain ⟨P, hP⟩ : ∃ P, P = (StepsP w : Ending → World → Prop) := ⟨_, rfl⟩
  rw [← hP]
  have HP := Lib.hid hP
  have HK := Lib.hid hK
  have HA := Lib.hid hA
  have HX := Lib.hid hx
  have HY := Lib.hid hy
  have hl := hA.row.le
  have hxl := hx.le
  have hyl := hy.le
  have hn1 := hK.row.le
  unfold maxLen at hl hn1 hxl hyl
  clear hP hK hA hx hy
  go_enter Try.func5, Try.ntmps5
  go_wp2_with fail
  refine (head_any _).mono ?_
  rintro e w1 ⟨rfl, z1⟩
  have Z1 := Lib.hid z1
  clear z1
  go_wp2_with fail
  refine (new_any a n c K w1 (HK.out.below Z1.out)).mono ?_
  rintro e w2 hn
  rcases hn with ⟨_, rfl, rfl⟩ | ⟨hok, p, sb, ka, kc, rfl, hp, hb⟩
  · go_wp2_with fail
    rw [HP.out]
    exact ⟨rfl, Z1.out⟩
  have PN := Lib.hid (hp.mono Z1.out.size)
  have Z2 := Lib.hid (Z1.out.trans (hb.mono Z1.out.size))
  have HOK := Lib.hid (okK_6 hok)
  clear hp hb hok
  go_wp2_with fail
  refine (great_any a n c la len cap A w2 (HA.out.below Z2.out)).mono ?_
  rintro e w3 ⟨b, rfl, z3⟩
  have Z3 := Lib.hid (Z2.out.trans (z3.mono Z2.out.size))
  have PN := Lib.hid (PN.out.below z3)
  have BP := Lib.hid (And.intro PN.out.bp PN.out.bs)
  clear z3
  cases b with
  | true =>
    go_wp2_with fail
    rw [HP.out]
    exact ⟨rfl, Z3.out⟩
  | false =>
  obtain ⟨b9, hb9⟩ : ∃ b9 : Bool, decide ((900 : Int) < wrap64 ((xl : Int) + (yl : Int))) = b9 := ⟨_, rfl⟩
  cases b9 with
  | true =>
    go_wp2_with fail
    rw [HP.out]
    exact ⟨rfl, Z3.out⟩
  | false =>
  go_wp2_with fail
  clear hb9
  go_loopw [11] (fun i wr => ∃ (j : Nat) (S : List Int) (si te : Bool), j ≤ len ∧ i = .int .i64 j ∧ Pn w.heap.size wr p sb ka kc n K S si te ∧ Below w.heap.size w wr) (fun i _ => len - (intOf i).toNat)
  case atStart => exact ⟨0, _, _, _, Nat.zero_le _, rfl, PN.out, Z3.out⟩
  case round =>
    obtain ⟨wo, rfl⟩ : ∃ wo : World, wo = wr := ⟨_, rfl⟩
    obtain ⟨j, S, si, te, hj, rfl, hp, hb⟩ := hrel
    by_cases hjn : j < len
    · obtain ⟨lb, lo, rfl, e0, e1, e2, e3c, e4⟩ := (HA.out.below hb).at hjn
      have OD := Lib.hid ((HA.out.ok j hjn).below hb)
      have xcs : ∀ W, Below w.heap.size w W → W.cell? ⟨lb, lo + j * 5 + 1, none⟩ = some (.slice (A j).xa (A j).xl (A j).xc) ∧ W.cell? ⟨lb, lo + j * 5 + 2, none⟩ = some (.slice (A j).ya (A j).yl (A j).yc) := by
        intro W hb'
        obtain ⟨lb', lo', e, _, x1, x2, _, _⟩ := (HA.out.below hb').at hjn
        simp only [Option.some.injEq, Addr.mk.injEq, and_true] at e
        obtain ⟨rfl, rfl⟩ := e
        exact ⟨x1, x2⟩
      generalize A j = o at e0 e1 e2 e3c e4 OD xcs
      have XC := Lib.hid xcs
      clear xcs
      have PA := Lib.hid hp
      have BA := Lib.hid hb
      have d3 : (j : Int) < (len : Int) := by omega
      have d4 : (0 : Int) ≤ (j : Int) := by omega
      clear hp hb
      by_cases c3 : o.wh = 3
      · rw [c3] at e0
        go_wp2_with fail
        refine (ackP_any PA.out).mono ?_
        rintro e w5 ⟨rfl, hp, hf⟩
        have BE5 := Lib.hid (fs_bel hf BA.out BP.out.1 BP.out.2 BA.out.size)
        have PN5 := Lib.hid hp
        clear hp hf
        go_wp2_with fail
        go_roundw
        case rel => exact ⟨j + 1, _, _, _, by omega, by go_num, PN5.out, BE5.out⟩
        case measure => simp [intOf]; omega
      · have t3 : (o.wh == 3) = false := by simpa using c3
        by_cases c4 : o.wh = 4
        · have t4 : (o.wh == 4) = true := by simpa using c4
          clear c3 c4
          go_wp2_with fail
          refine (resetP_any PA.out).mono ?_
          rintro e w5 ⟨rfl, hp, hf⟩
          have BE5 := Lib.hid (fs_bel hf BA.out BP.out.1 BP.out.2 BA.out.size)
          have PN5 := Lib.hid hp
          clear hp hf
          go_wp2_with fail
          go_roundw
          case rel => exact ⟨j + 1, _, _, _, by omega, by go_num, PN5.out, BE5.out⟩
          case measure => simp [intOf]; omega
        · have t4 : (o.wh == 4) = false := by simpa using c4
          have SE := Lib.hid (seeP_any (PA.out.below (Below.refl _ _).drew) o.xa o.ya o.xl o.xc o.yl o.yc o.xf o.yf (OD.out.x.below (Below.refl _ _).drew) (OD.out.y.below (Below.refl _ _).drew))
          have fin : ∀ (e : Ending) w5, SeeP w.heap.size wo.drew p sb ka kc n o.xl o.yl K S si te o.xf o.yf e w5 → ∃ (r : Bool) (S' : List Int) (si' : Bool), e = .returned (.bool r) ∧ Pn w.heap.size w5 p sb ka kc n K S' si' te ∧ Below w.heap.size w w5 := by
            intro e w5 hn
            rcases hn with ⟨_, rfl, h1, h2⟩ | ⟨_, _, rfl, h1, h2⟩
            · exact ⟨_, _, _, rfl, h1, fs_bel h2 BA.out.drew BP.out.1 BP.out.2 BA.out.size⟩
            · exact ⟨_, _, _, rfl, h1, fs_bel h2 BA.out.drew BP.out.1 BP.out.2 BA.out.size⟩
          have FIN := Lib.hid fin
          clear c3 c4 fin
          go_wp2_with fail
          go_region_held3 (fun w' => w'.cell? ⟨lb, lo + j * 5 + 1, none⟩ = some (.slice o.xa o.xl o.xc) ∧ w'.cell? ⟨lb, lo + j * 5 + 2, none⟩ = some (.slice o.ya o.yl o.yc)) (first | exact ⟨e1, e2⟩ | exact xx | go_keep) (first
            | (go_at_call 13; refine SE.out.mono ?_; rintro e w5 hn; obtain ⟨r, S', si', rfl, hp5, hb5⟩ := FIN.out _ _ hn; have PN5 := Lib.hid hp5; have BE5 := Lib.hid hb5; have xx := XC.out _ hb5; clear hp5 hb5 hn))
          all_goals
            go_wp2_with fail
            go_roundw
            case rel => exact ⟨j + 1, _, _, _, by omega, by go_num, PN5.out, BE5.out⟩
            case measure => simp [intOf]; omega
    · have hj' : j = len := by omega
      subst hj'
      have PA := Lib.hid hp
      have BA := Lib.hid hb
      clear hp hb
      go_wp2_with fail
      have PN := PA
      have BE := BA
      clear PA BA
      refine (seeP_any PN.out xa ya xl xc yl yc f g (HX.out.below BE.out) (HY.out.below BE.out)).mono ?_
      rintro e w6 hn
      obtain ⟨r5, S1, si5, rfl, hp, hf, hs5⟩ := see_once hn
      have PN0 := PN
      have HSE := Lib.hid hs5
      clear hs5
      have BE := Lib.hid (fs_bel hf BE.out BP.out.1 BP.out.2 BE.out.size)
      have PN := Lib.hid hp
      clear hp hf hn
      go_wp2_with fail
      refine (statesP_any PN.out).mono ?_
      rintro e w7 ⟨ga, rfl, hx, hge, z⟩
      have GAP : Hid (¬ (ga = p ∨ ga = sb)) := Lib.hid (by have := PN.out.lt; omega)
      have BE := Lib.hid (BE.out.trans (z.mono BE.out.size))
      have PN := Lib.hid (PN.out.below z)
      clear z hge
      have GA := Lib.hid hx
      have GAI := Lib.hid (fun w' (h : w'.heap[ga]? = _) => rowP_ir (w' := w') h PN.out.sl PN.out.n64 PN.out.s8)
      clear hx
      go_wp2_with fail
      refine (seeP_any PN.out xa ya xl xc yl yc f g (HX.out.below BE.out) (HY.out.below BE.out)).mono ?_
      rintro e w8 hn
      obtain ⟨r7, S2, si7, rfl, hp, hf, hs7⟩ := see_once hn
      obtain rfl : S2 = S1 := by
        rw [hs7, HSE.out]
        split
        · exact mapN_twice PN0.out.k6 PN0.out.s8 (by rw [PN0.out.kl, PN0.out.sl]) (hapS_5 f g)
        · rfl
      clear hs7
      have BE := Lib.hid (fs_bel hf BE.out BP.out.1 BP.out.2 BE.out.size)
      have GA := Lib.hid (keepF hf GA.out GAP.out)
      have PN := Lib.hid hp
      clear hp hf hn
      go_wp2_with fail
      refine (statesP_any PN.out).mono ?_
      rintro e w9 ⟨gb, rfl, hx, hge, z⟩
      have GBP : Hid (¬ (gb = p ∨ gb = sb)) := Lib.hid (by have := PN.out.lt; omega)
      have BE := Lib.hid (BE.out.trans (z.mono BE.out.size))
      have GA := Lib.hid (low_of z GA.out)
      have PN := Lib.hid (PN.out.below z)
      clear z hge
      have GB := Lib.hid hx
      have GBI := Lib.hid (fun w' (h : w'.heap[gb]? = _) => rowP_ir (w' := w') h PN.out.sl PN.out.n64 PN.out.s8)
      clear hx
      go_wp2_with fail
      refine (ackP_any PN.out).mono ?_
      rintro e w10 ⟨rfl, hp, hf⟩
      have PNa := PN
      have BE := Lib.hid (fs_bel hf BE.out BP.out.1 BP.out.2 BE.out.size)
      have GA := Lib.hid (keepF hf GA.out GAP.out)
      have GB := Lib.hid (keepF hf GB.out GBP.out)
      have PN := Lib.hid hp
      clear hp hf 
      go_wp2_with fail
      refine (statesP_any PN.out).mono ?_
      rintro e w11 ⟨gc, rfl, hx, hge, z⟩
      have GCP : Hid (¬ (gc = p ∨ gc = sb)) := Lib.hid (by have := PN.out.lt; omega)
      have BE := Lib.hid (BE.out.trans (z.mono BE.out.size))
      have GA := Lib.hid (low_of z GA.out)
      have GB := Lib.hid (low_of z GB.out)
      have PN := Lib.hid (PN.out.below z)
      clear z hge
      have GC := Lib.hid hx
      have GCI := Lib.hid (fun w' (h : w'.heap[gc]? = _) => rowP_ir (w' := w') h PN.out.sl PN.out.n64 PN.out.s8)
      clear hx
      go_wp2_with fail
      refine (ackP_any PN.out).mono ?_
      rintro e w12 ⟨rfl, hp, hf⟩
      rw [mapN_twice PNa.out.k6 PNa.out.s8 (by rw [PNa.out.kl, PNa.out.sl]) (fun _ => .inr (.inr (.inr (.inl rfl))))] at hp
      have BE := Lib.hid (fs_bel hf BE.out BP.out.1 BP.out.2 BE.out.size)
      have GA := Lib.hid (keepF hf GA.out GAP.out)
      have GB := Lib.hid (keepF hf GB.out GBP.out)
      have GC := Lib.hid (keepF hf GC.out GCP.out)
      have PN := Lib.hid hp
      clear hp hf 
      go_wp2_with fail
      refine (statesP_any PN.out).mono ?_
      rintro e w13 ⟨gd, rfl, hx, hge, z⟩
      have GDP : Hid (¬ (gd = p ∨ gd = sb)) := Lib.hid (by have := PN.out.lt; omega)
      have BE := Lib.hid (BE.out.trans (z.mono BE.out.size))
      have GA := Lib.hid (low_of z GA.out)
      have GB := Lib.hid (low_of z GB.out)
      have GC := Lib.hid (low_of z GC.out)
      have PN := Lib.hid (PN.out.below z)
      clear z hge
      have GD := Lib.hid hx
      have GDI := Lib.hid (fun w' (h : w'.heap[gd]? = _) => rowP_ir (w' := w') h PN.out.sl PN.out.n64 PN.out.s8)
      clear hx
      go_wp2_with fail
      refine (resetP_any PN.out).mono ?_
      rintro e w14 ⟨rfl, hp, hf⟩
      have PNa := PN
      have BE := Lib.hid (fs_bel hf BE.out BP.out.1 BP.out.2 BE.out.size)
      have GA := Lib.hid (keepF hf GA.out GAP.out)
      have GB := Lib.hid (keepF hf GB.out GBP.out)
      have GC := Lib.hid (keepF hf GC.out GCP.out)
      have GD := Lib.hid (keepF hf GD.out GDP.out)
      have PN := Lib.hid hp
      clear hp hf 
      go_wp2_with fail
      refine (statesP_any PN.out).mono ?_
      rintro e w15 ⟨ge, rfl, hx, hge, z⟩
      have GEP : Hid (¬ (ge = p ∨ ge = sb)) := Lib.hid (by have := PN.out.lt; omega)
      have BE := Lib.hid (BE.out.trans (z.mono BE.out.size))
      have GA := Lib.hid (low_of z GA.out)
      have GB := Lib.hid (low_of z GB.out)
      have GC := Lib.hid (low_of z GC.out)
      have GD := Lib.hid (low_of z GD.out)
      have PN := Lib.hid (PN.out.below z)
      clear z hge
      have GE := Lib.hid hx
      have GEI := Lib.hid (fun w' (h : w'.heap[ge]? = _) => rowP_ir (w' := w') h PN.out.sl PN.out.n64 PN.out.s8)
      clear hx
      go_wp2_with fail
      refine (resetP_any PN.out).mono ?_
      rintro e w16 ⟨rfl, hp, hf⟩
      rw [mapN_twice PNa.out.k6 PNa.out.s8 (by rw [PNa.out.kl, PNa.out.sl]) (fun _ => .inr (.inr (.inr (.inr rfl))))] at hp
      have BE := Lib.hid (fs_bel hf BE.out BP.out.1 BP.out.2 BE.out.size)
      have GA := Lib.hid (keepF hf GA.out GAP.out)
      have GB := Lib.hid (keepF hf GB.out GBP.out)
      have GC := Lib.hid (keepF hf GC.out GCP.out)
      have GD := Lib.hid (keepF hf GD.out GDP.out)
      have GE := Lib.hid (keepF hf GE.out GEP.out)
      have PN := Lib.hid hp
      clear hp hf 
      go_wp2_with fail
      refine (sameInts_any _ _ n n n n _ _ _ (GAI.out _ GA.out) (GBI.out _ GB.out)).mono ?_
      rintro e w17 ⟨rfl, z⟩
      rw [decide_eq_true rfl]
      have BE := Lib.hid (BE.out.trans (z.mono BE.out.size))
      have GA := Lib.hid (low_of z GA.out)
      have GB := Lib.hid (low_of z GB.out)
      have GC := Lib.hid (low_of z GC.out)
      have GD := Lib.hid (low_of z GD.out)
      have GE := Lib.hid (low_of z GE.out)
      have PN := Lib.hid (PN.out.below z)
      clear z 
      go_wp2_with fail
      refine (sameInts_any _ _ n n n n _ _ _ (GCI.out _ GC.out) (GDI.out _ GD.out)).mono ?_
      rintro e w18 ⟨rfl, z⟩
      rw [decide_eq_true rfl]
      have BE := Lib.hid (BE.out.trans (z.mono BE.out.size))
      have GA := Lib.hid (low_of z GA.out)
      have GB := Lib.hid (low_of z GB.out)
      have GC := Lib.hid (low_of z GC.out)
      have GD := Lib.hid (low_of z GD.out)
      have GE := Lib.hid (low_of z GE.out)
      have PN := Lib.hid (PN.out.below z)
      clear z 
      go_wp2_with fail
      refine (statesP_any PN.out).mono ?_
      rintro e w19 ⟨gf, rfl, hx, hge, z⟩
      have GFP : Hid (¬ (gf = p ∨ gf = sb)) := Lib.hid (by have := PN.out.lt; omega)
      have BE := Lib.hid (BE.out.trans (z.mono BE.out.size))
      have GA := Lib.hid (low_of z GA.out)
      have GB := Lib.hid (low_of z GB.out)
      have GC := Lib.hid (low_of z GC.out)
      have GD := Lib.hid (low_of z GD.out)
      have GE := Lib.hid (low_of z GE.out)
      have PN := Lib.hid (PN.out.below z)
      clear z hge
      have GF := Lib.hid hx
      have GFI := Lib.hid (fun w' (h : w'.heap[gf]? = _) => rowP_ir (w' := w') h PN.out.sl PN.out.n64 PN.out.s8)
      clear hx
      go_wp2_with fail
      refine (sameInts_any _ _ n n n n _ _ _ (GEI.out _ GE.out) (GFI.out _ GF.out)).mono ?_
      rintro e w20 ⟨rfl, z⟩
      rw [decide_eq_true rfl]
      have BE := Lib.hid (BE.out.trans (z.mono BE.out.size))
      have GA := Lib.hid (low_of z GA.out)
      have GB := Lib.hid (low_of z GB.out)
      have GC := Lib.hid (low_of z GC.out)
      have GD := Lib.hid (low_of z GD.out)
      have GE := Lib.hid (low_of z GE.out)
      have GF := Lib.hid (low_of z GF.out)
      have PN := Lib.hid (PN.out.below z)
      clear z 
      go_wp2_with fail
      rw [HP.out]
      exact ⟨rfl, BE.out⟩
end Go.Proofs.Ytedakoihlnokfaa
