/- BankCoils. -/
import Derived.Test.YtdolgpogjnfpkaaKn
import Derived.Test.YtdolgpogjnfpkaaKw
namespace Go.Proofs.Ytdolgpogjnfpkaa
set_option linter.unusedVariables false
set_option linter.unusedSimpArgs false
open Go.ChangeShapes Go.WideShapes Go.ChangeAt Go.RowKit

/-- What is left of words: coils. -/
def onN (V : List Nat) : List Nat := V.map fun x => x &&& 1
theorem on_len (V : List Nat) : (onN V).length = V.length := by simp [onN]
theorem on_le (V : List Nat) : ∀ v ∈ onN V, v ≤ 1 := by
  intro v hv
  simp only [onN, List.mem_map] at hv
  obtain ⟨x, _, rfl⟩ := hv
  exact Nat.and_le_right
theorem on_snoc (V : List Nat) (i : Nat) (h : i < V.length) : (onN V).take (i + 1) = (onN V).take i ++ [V.getD i 0 &&& 1] := by
  rw [take_snocN _ _ (by rw [on_len]; exact h)]
  congr 2
  simp [onN, List.getD, List.getElem?_map, List.getElem?_eq_getElem h]
theorem own_fw {B : Nat} {w w' : World} {v : Value} {n : Nat} {L : List Value} {l : List Nat} (h : w.ownsRow B 34 1 v n L) (f : Fw l w w') (hl : ∀ k, B ≤ k → k < w.heap.size → k ∉ l) : w'.ownsRow B 34 1 v n L :=
  own33_keep h (fun k h1 h2 => f.block k h2 (hl k h1 h2))
theorem own_setW {B : Nat} {w : World} {g n c k x : Nat} {L : List Nat} (h : w.ownsRow B 34 1 (.slice (some ⟨g, 0, none⟩) n c) n (wv L)) (hk : k < n) : (w.setCell ⟨g, k, none⟩ (.int .u16 (x : Int))).ownsRow B 34 1 (.slice (some ⟨g, 0, none⟩) n c) n (wv (L.set k x)) := by
  obtain ⟨hl, ⟨hv, _⟩ | ⟨g', cap, cur, hv, hg, hbk, h1, h2, h3, h4⟩⟩ := h
  · cases hv
  · simp only [Value.slice.injEq, Option.some.injEq, Addr.mk.injEq, true_and, and_true] at hv
    obtain ⟨rfl, rfl⟩ := hv
    refine ⟨by rw [← wv_set]; simpa using hl, .inr ⟨g, c, cur.setIfInBounds k (.int .u16 (x : Int)), rfl, hg, ?_, h1, h2, by simpa using h3, ?_⟩⟩
    · simp [World.setCell, Array.getElem?_modify, hbk]
    · rw [← wv_set, ← h4]
      simp [List.take_set]
theorem sum_snoc (L : List Nat) (i : Nat) (h : i < L.length) : (L.take (i + 1)).sum = (L.take i).sum + L.getD i 0 := by
  rw [take_snocN L i h, List.sum_append]; simp
theorem sum_le (L : List Nat) (h : ∀ v ∈ L, v < 65536) : L.sum ≤ 65536 * L.length := by
  induction L with
  | nil => simp
  | cons a l ih =>
    have h1 := ih (fun v hv => h v (by simp [hv]))
    have h2 := h a (by simp)
    simp only [List.sum_cons, List.length_cons]
    omega
theorem sum_spl (n o : Nat) (F : List Nat) : (splice (List.replicate n 0) o F).sum = F.sum := by
  simp [splice, List.take_replicate, List.drop_replicate]
theorem spl_sub (L F : List Nat) (o : Nat) (h : o + F.length ≤ L.length) : ((splice L o F).drop o).take F.length = F := by
  unfold splice
  have h1 : (L.take o).length = o := by rw [List.length_take]; omega
  rw [List.drop_append_of_le_length (by omega), List.drop_of_length_le (by omega), List.nil_append, List.take_append_of_le_length (by omega), List.take_of_length_le (by omega)]
theorem spl_set (L F : List Nat) (o k x : Nat) (hk : k < F.length) (h : o + F.length ≤ L.length) : (splice L o F).set (o + k) x = splice L o (F.set k x) := by
  have f1 : o + F.length ≤ L.length := h
  have f2 : o + (F.set k x).length ≤ L.length := by simpa using h
  apply ext_gD
  · rw [List.length_set, length_splice _ _ _ f1, length_splice _ _ _ f2]
  · intro t ht
    rw [getD_set' _ _ _ _ (by rw [length_splice _ _ _ f1]; omega), getD_spl _ _ _ _ f1, getD_spl _ _ _ _ f2, List.length_set]
    by_cases e : t = o + k
    · subst e
      rw [if_pos rfl, if_pos (by omega), getD_set' _ _ _ _ hk, if_pos (by omega)]
    · rw [if_neg e]
      by_cases e2 : o ≤ t ∧ t < o + F.length
      · rw [if_pos e2, if_pos e2, getD_set' _ _ _ _ hk, if_neg (by omega)]
      · rw [if_neg e2, if_neg e2]
theorem spl_one (L : List Nat) (o x : Nat) (h : o < L.length) : splice L o [x] = L.set o x := by
  apply ext_gD
  · rw [length_splice _ _ _ (by simp; omega)]; simp
  · intro t ht
    rw [getD_spl _ _ _ _ (by simp; omega), getD_set' _ _ _ _ h]
    by_cases e : t = o
    · subst e; simp
    · rw [if_neg e, if_neg (by simp; omega)]
/-- Coils are written, or not. -/
theorem coils_do {R : Nat → List Nat} {L V : List Nat} (hR : R 0 = L) (hL : L.length = 256) (d n : Nat) (hd : d ≤ 255) (vs : Option Addr) (vc : Nat) (hn1 : 1 ≤ n) (hn2 : n ≤ 200) (hV : V.length = n) (hb : ∀ v ∈ V, v ≤ 1) :
    doF ⟨15, (d : Int), (n : Int), vs, n, vc, V, 0⟩ R = if d + n ≤ 256 then ((0, []), upR R 0 (splice L d V)) else ((2, []), R) := by
  have hk : kdB 15 = 0 := rfl
  have hf : fo 15 = ⟨false, true, true, 1968, 1, 1968, true, false⟩ := rfl
  have h6 : (formOf 15).isSome = true := rfl
  have hmx : max ((n : Int)).toNat 1 = n := by rw [Int.toNat_natCast]; omega
  have hal : allB V = true := by unfold allB; rw [List.all_eq_true]; intro v hv; simpa using hb v hv
  have h1 : rightR ⟨15, (d : Int), (n : Int), vs, n, vc, V, 0⟩ = true := by
    simp [rightR, hf, h6, has, fits, isPl, sizedF, hV, hal]; omega
  by_cases hfit : d + n ≤ 256
  · have h2 : plB R (kdB 15) (d : Int) (max ((n : Int)).toNat 1) = true := by
      unfold plB; rw [hk, hmx]; simp [hR, hL]; omega
    have hmx2 : max n 1 = n := by omega
    rw [doF_ok h1 h2 (show (15 : Int) ≠ 23 by decide), if_pos hfit]
    simp only [hk, hf, hmx, show (0 : Int).toNat = 0 from rfl, hR, Int.toNat_natCast, hmx2]
    have e : wrL ⟨15, (d : Int), (n : Int), vs, n, vc, V, 0⟩ L d n = splice L d V := by
      unfold wrL
      rw [if_neg (show ¬ (15 : Int) = 22 by decide)]
      show splice L d (V.take n) = _
      rw [List.take_of_length_le (by omega)]
    rw [e]
    simp
  · have h2 : plB R (kdB 15) (d : Int) (max ((n : Int)).toNat 1) = false := by
      unfold plB; rw [hk, hmx]; simp [hR, hL]; omega
    rw [doF_no h1 h2, if_neg hfit]
theorem coil_do {R : Nat → List Nat} {L : List Nat} (hR : R 0 = L) (hL : L.length = 256) (d x : Nat) (hd : d < 256) (hx : x ≤ 1) (vs : Option Addr) (vc : Nat) :
    doF ⟨5, (d : Int), 0, vs, 1, vc, [x], 0⟩ R = ((0, []), upR R 0 (L.set d x)) := by
  have hk : kdB 5 = 0 := rfl
  have hf : fo 5 = ⟨false, true, true, 0, 1, 1, false, false⟩ := rfl
  have h6 : (formOf 5).isSome = true := rfl
  have h1 : rightR ⟨5, (d : Int), 0, vs, 1, vc, [x], 0⟩ = true := by
    simp [rightR, hf, h6, has, fits, isPl, sizedF, allB, hx]; omega
  have h2 : plB R (kdB 5) (d : Int) (max ((0 : Int)).toNat 1) = true := by
    unfold plB; rw [hk]; simp [hR, hL]; omega
  rw [doF_ok h1 h2 (show (5 : Int) ≠ 23 by decide)]
  simp only [hk, hf, show (0 : Int).toNat = 0 from rfl, hR, Int.toNat_natCast]
  have e : wrL ⟨5, (d : Int), 0, vs, 1, vc, [x], 0⟩ L d (max 0 1) = L.set d x := by
    unfold wrL
    rw [if_neg (show ¬ (5 : Int) = 22 by decide)]
    show splice L d ([x].take 1) = _
    exact spl_one L d x (by omega)
  rw [e]
  simp
theorem rcoil_do {R : Nat → List Nat} {L : List Nat} (hR : R 0 = L) (hL : L.length = 256) (d n : Nat) (hn1 : 1 ≤ n) (hn2 : n ≤ 200) (hfit : d + n ≤ 256) :
    doF ⟨1, (d : Int), (n : Int), none, 0, 0, [], 0⟩ R = ((0, (L.drop d).take n), upR R 0 L) := by
  have hk : kdB 1 = 0 := rfl
  have hf : fo 1 = ⟨true, false, true, 2000, 0, 0, false, false⟩ := rfl
  have h6 : (formOf 1).isSome = true := rfl
  have hmx : max ((n : Int)).toNat 1 = n := by rw [Int.toNat_natCast]; omega
  have h1 : rightR ⟨1, (d : Int), (n : Int), none, 0, 0, [], 0⟩ = true := by
    simp [rightR, hf, h6, has, fits, isPl, sizedF, allB]; omega
  have h2 : plB R (kdB 1) (d : Int) (max ((n : Int)).toNat 1) = true := by
    unfold plB; rw [hk, hmx]; simp [hR, hL]; omega
  have hmx2 : max n 1 = n := by omega
  rw [doF_ok h1 h2 (show (1 : Int) ≠ 23 by decide)]
  simp only [hk, hf, hmx, show (0 : Int).toNat = 0 from rfl, hR, Int.toNat_natCast, hmx2]
  have e : wrL ⟨1, (d : Int), (n : Int), none, 0, 0, [], 0⟩ L d n = L := by
    unfold wrL
    rw [if_neg (show ¬ (1 : Int) = 22 by decide)]
    show splice L d (([] : List Nat).take n) = L
    simp [splice]
  rw [e]
  simp [upR]
set_option maxRecDepth 100000 in
set_option maxHeartbeats 8000000 in
theorem coils_walk (d : Nat) (hd : d ≤ 255) (a1 : Option Addr) (n c1 : Nat) (V : List Nat) (o : Nat) (ho : o ≤ 255) (v : Bool) (w : World) (h1 : ArgW w a1 n c1 V) :
    Calls Try.prog 8 #[.int .u8 (d : Int), .slice a1 n c1, .int .u8 (o : Int), .bool v] w (BoolB w true) := by
  obtain ⟨P, hP⟩ : ∃ P, P = (BoolB w true : Ending → World → Prop) := ⟨_, rfl⟩
  rw [← hP]
  have FIN : Hid (∀ W', Below w.heap.size w W' → P (.returned (.bool true)) W') := Lib.hid (fun W' h => by rw [hP]; exact ⟨rfl, h⟩)
  have H1 := Lib.hid h1
  have u0 : IntKind.i64.wrap (d : Int) = (d : Int) := IntWalk.i64_in _ (by omega)
  have u1 : IntKind.i64.wrap (o : Int) = (o : Int) := IntWalk.i64_in _ (by omega)
  clear hP h1
  go_enter Try.func8, Try.ntmps8
  go_wp2_with fail
  refine (head_any w).mono ?_
  rintro e w0 ⟨rfl, z0⟩
  have B0 := Lib.hid z0
  clear z0
  go_wp2_with fail
  refine (newb_any 256 256 256 256 w0).mono ?_
  rintro e w1 ⟨p, s, rfl, nn1, z1⟩
  obtain ⟨Z, hZ⟩ : ∃ Z, Z = List.replicate 256 0 := ⟨_, rfl⟩
  obtain ⟨R0, hR0⟩ : ∃ R : Nat → List Nat, R = (fun j => List.replicate (clB (n4 256 256 256 256 j)) 0) := ⟨_, rfl⟩
  rw [← hR0] at nn1
  have H00 := Lib.hid (show R0 0 = Z by rw [hR0, hZ]; rfl)
  have H01 := Lib.hid (show R0 1 = Z by rw [hR0, hZ]; rfl)
  have H02 := Lib.hid (show R0 2 = Z by rw [hR0, hZ]; rfl)
  have HZ := Lib.hid hZ
  have HZL := Lib.hid (show Z.length = 256 by rw [hZ]; simp)
  have HZG := Lib.hid (show ∀ i, Z.getD i 0 = 0 by
    intro i
    rw [hZ]
    simp only [List.getD, List.getElem?_replicate]
    split <;> rfl)
  have N1 := Lib.hid nn1
  have B1 := Lib.hid (B0.out.trans (z1.mono B0.out.size))
  have S0 := Lib.hid B0.out.size
  clear nn1 z1 hR0 hZ
  by_cases hn0 : n = 0
  · subst hn0
    go_wp2_with fail
    exact FIN.out _ B1.out
  have d2 : ((n : Int) == 0) = false := by simp; omega
  by_cases h200 : 200 < n
  · have d1 : decide ((200 : Int) < (n : Int)) = true := by simp; omega
    clear h200
    go_wp2_with fail
    exact FIN.out _ B1.out
  have d1 : decide ((200 : Int) < (n : Int)) = false := by simp; omega
  have n200 : n ≤ 200 := by omega
  have n1 : 1 ≤ n := by omega
  obtain ⟨O, hO⟩ : ∃ O, O = onN V := ⟨_, rfl⟩
  have HSN := Lib.hid (show ∀ i, i < n → O.take (i + 1) = O.take i ++ [V.getD i 0 &&& 1] by intro i hi; rw [hO]; exact on_snoc V i (by have := H1.out.row.ln; omega))
  have HOL := Lib.hid (show O.length = n by rw [hO, on_len]; exact H1.out.row.ln)
  have HO1 := Lib.hid (show ∀ x ∈ O, x ≤ 1 by rw [hO]; exact on_le V)
  have GB := Lib.hid (show ∀ k, w1.heap.size ≤ k → k ∉ bl s from fun k hk => bl_not N1.out hk)
  clear hO h200 hn0
  go_wp2_with fail
  go_loopw [11, 12] (fun vv iv wr => ∃ i : Nat, i ≤ n ∧ iv = .int .i64 i ∧ wr.ownsRow w1.heap.size 34 1 vv i (wv (O.take i)) ∧ Below w1.heap.size w1 wr) (fun _ iv _ => n - (intOf iv).toNat)
  case atStart => exact ⟨0, Nat.zero_le _, rfl, ownw_none, Below.refl _ _⟩
  case round =>
    obtain ⟨wo, rfl⟩ : ∃ wo : World, wo = wr := ⟨_, rfl⟩
    obtain ⟨i, hi, rfl, hown, hb⟩ := hrel
    obtain ⟨xa, xc, rfl⟩ := own_formW hown
    have OW := Lib.hid hown
    have BW := Lib.hid hb
    have B2 := Lib.hid (B1.out.trans (hb.mono B1.out.size))
    clear hown hb
    by_cases hin : i < n
    · obtain ⟨b, off, rfl, hlb, hc⟩ := (H1.out.below B2.out).row.pos (by omega)
      have c0 := hc i hin
      have hv := wgetD_lt H1.out.row.by' i
      have hts := HSN.out i hin
      generalize V.getD i 0 = x at c0 hv hts
      have e1 : (i : Int) < (n : Int) := by omega
      have eX := u16_and_nat x 1 hv (by omega)
      have hx1 : x &&& 1 ≤ 1 := Nat.and_le_right
      generalize x &&& 1 = y at eX hts hx1
      have eX : Go.bits .and .u16 (x : Int) 1 = (y : Int) := eX
      have HTS := Lib.hid hts
      have al := alloc_bq wo (.cells (wv [y]).toArray 34 (0, 0))
      have OA := Lib.hid (own33_keep OW.out (fun b _ hb => (al.block b hb)))
      have BA := Lib.hid (BW.out.trans (al.mono BW.out.size))
      have WA := Lib.hid (argw_new wo [y] (by simp) (by intro b hb; simp at hb; omega)).row
      clear al hc hts
      go_wp2_with (at_builtin; refine wpList_append_wds rfl (.tmp 52) (.tmp 58) rfl w1.heap.size _ BA.out.size _ i (O.take i) rfl OA.out (some ⟨wo.heap.size, 0, none⟩) 1 1 [y] rfl WA.out (fun e => by cases e) (by omega) ?_)
      intro v4 w4 ho4 hg4 _ _
      have B4 := Lib.hid (BA.out.grown hg4 BA.out.size (fun q hq => (World.ownsRow.lt OA.out q hq).1))
      have O4 : Hid (w4.ownsRow w1.heap.size 34 1 v4 (i + 1) (wv (O.take (i + 1)))) := Lib.hid (by rw [HTS.out]; exact ho4)
      clear ho4 hg4
      go_wp2_with fail
      go_roundw
      case rel => exact ⟨i + 1, by omega, by go_num, O4.out, B4.out⟩
      case measure => simp [intOf]; omega
    · have hk' : n = i := by omega
      subst hk'
      have o5 := OW.out
      rw [List.take_of_length_le (by have := HOL.out; omega)] at o5
      obtain ⟨g, cap, hv5, hw5⟩ := ownsw_cases o5 (by omega)
      simp only [Value.slice.injEq, true_and] at hv5
      obtain ⟨rfl, rfl⟩ := hv5
      have O5 := Lib.hid o5
      have hA5 : ArgW wo (some ⟨g, 0, none⟩) n xc O := by
        have h5 : wo.ownsRow w1.heap.size 34 1 (.slice (some ⟨g, 0, none⟩) n xc) O.length (wv O) := by rw [HOL.out]; exact o5
        obtain ⟨a', c', e, hA, _⟩ := own33_arg h5 (fun x hx => by have := HO1.out x hx; omega)
        rw [HOL.out] at e hA
        simp only [Value.slice.injEq, true_and] at e
        obtain ⟨rfl, rfl⟩ := e
        exact hA
      have hgB : w1.heap.size ≤ g := by
        have := (World.ownsRow.lt o5 g (by simp [Value.ownBlock])).1
        exact this
      have HGB := Lib.hid hgB
      have NB := Lib.hid (N1.out.below BW.out)
      have hdo := coils_do H00.out HZL.out d n hd (some ⟨g, 0, none⟩) xc n1 n200 HOL.out HO1.out
      have DO := do_any NB.out ⟨15, (d : Int), (n : Int), some ⟨g, 0, none⟩, n, xc, O, 0⟩ ⟨hA5, (show (Lit.int .i64 15).wf = true by decide), wf_i64 (by show (-9223372036854775808 : Int) ≤ (d : Int); omega) (by show (d : Int) ≤ (9223372036854775807 : Int); omega), wf_i64 (by show (-9223372036854775808 : Int) ≤ (n : Int); omega) (by show (n : Int) ≤ (9223372036854775807 : Int); omega), (show (Lit.int .i64 0).wf = true by decide)⟩
      have u2 : IntKind.i64.wrap ((d : Int) + (n : Int)) = (d : Int) + (n : Int) := IntWalk.i64_in _ (by omega)
      clear o5 hw5 hA5 hgB hin
      by_cases hfit : d + n ≤ 256
      · rw [hdo, if_pos hfit] at DO
        have e5 : decide ((256 : Int) < (d : Int) + (n : Int)) = false := by simp; omega
        have HDO := Lib.hid DO
        obtain ⟨kk, hkk⟩ : ∃ k, k = o % n := ⟨_, rfl⟩
        have kkn : kk < n := by rw [hkk]; exact Nat.mod_lt _ (by omega)
        have hkm : (o : Int) % (n : Int) = (kk : Int) := by rw [hkk]; simp
        have u3 : IntKind.i64.wrap ((d : Int) + (kk : Int)) = ((d + kk : Nat) : Int) := by rw [show ((d : Int) + (kk : Int)) = ((d + kk : Nat) : Int) by omega]; exact IntWalk.i64_in _ (by omega)
        have HGP := Lib.hid (show p ≠ g by have := blk_ltB N1.out.blk; have := HGB.out; omega)
        have HGS := Lib.hid (bl_ne (GB.out g HGB.out))
        have HGW := Lib.hid (show w.heap.size ≤ g by have := B1.out.size; have := HGB.out; omega)
        clear DO hdo hkk
        go_wp2_with fail
        refine HDO.out.mono ?_
        rintro e w5 ⟨a5, n5, c5, rfl, A5, N5, f5, _⟩
        simp only at A5 N5 ⊢
        have b5 := B2.out.trans ((NB.out.step f5).mono S0.out)
        have o5 := own_fw O5.out f5 (fun k h1 _ => GB.out k h1)
        have al := alloc_bq w5 (.cells #[.int .i64 0, .slice a5 n5 c5] 40 (0, 0))
        have b6 := b5.trans (al.mono b5.size)
        have o6 := own33_keep o5 (fun b _ hb => (al.block b hb))
        have N6 := N5.below al
        have gl6 : g < w5.heap.size := (World.ownsRow.lt o5 g (by simp [Value.ownBlock])).2
        have hs56 : w1.heap.size ≤ w5.heap.size := by have := HGB.out; omega
        have NX6 := Lib.hid (GB.out w5.heap.size hs56)
        have gne0 : w5.heap.size ≠ g := by omega
        obtain ⟨g6, hg6⟩ : ∃ q, q = w5.heap.size := ⟨_, rfl⟩
        obtain ⟨W6, hW6⟩ : ∃ W, W = w5.alloc (.cells #[.int .i64 0, .slice a5 n5 c5] 40 (0, 0)) := ⟨_, rfl⟩
        have X6 := Lib.hid (show W6.heap[g6]? = some (.cells #[.int .i64 0, .slice a5 n5 c5] 40 (0, 0)) by rw [hg6, hW6]; exact heap_alloc_new w5 _)
        rw [← hW6] at b6 o6 N6
        rw [← hg6] at NX6 gne0
        have GNE := Lib.hid gne0
        have HG6 := Lib.hid hg6
        have HW6 := Lib.hid hW6
        have B6 := Lib.hid b6
        have O6 := Lib.hid o6
        obtain ⟨L1, hL1⟩ : ∃ l, l = splice Z d O := ⟨_, rfl⟩
        have HL1 := Lib.hid hL1
        have HL1L := Lib.hid (show L1.length = 256 by rw [hL1, length_splice _ _ _ (by have := HZL.out; have := HOL.out; omega)]; exact HZL.out)
        rw [← hL1] at N6
        have NN6 := Lib.hid N6
        clear A5 N5 f5 b5 o5 al b6 o6 N6 HDO gl6 hs56 hg6 hW6 hL1 gne0
        go_upto_region 11 with fail
        rw [← HW6.out, ← HG6.out]
        obtain ⟨x, hx⟩ : ∃ x : Nat, x = if v = true then 1 else 0 := ⟨_, rfl⟩
        have hx1 : x ≤ 1 := by rw [hx]; split <;> omega
        have al := alloc_bq W6 (.cells (wv [x]).toArray 34 (0, 0))
        have B7 := Lib.hid (B6.out.trans (al.mono B6.out.size))
        have O7 := Lib.hid (own33_keep O6.out (fun b _ hb => (al.block b hb)))
        have N7 := Lib.hid (NN6.out.below al)
        have X7 := Lib.hid (low_of al X6.out)
        have A7 := argw_new W6 [x] (by simp) (by intro b hb; simp at hb; omega)
        have DO := do_any N7.out ⟨5, ((d + kk : Nat) : Int), 0, some ⟨W6.heap.size, 0, none⟩, 1, 1, [x], 0⟩ ⟨A7, (show (Lit.int .i64 5).wf = true by decide), wf_i64 (by show (-9223372036854775808 : Int) ≤ ((d + kk : Nat) : Int); omega) (by show ((d + kk : Nat) : Int) ≤ (9223372036854775807 : Int); omega), (show (Lit.int .i64 0).wf = true by decide), (show (Lit.int .i64 0).wf = true by decide)⟩
        rw [coil_do (L := L1) (by simp [upR]) HL1L.out (d + kk) x (by omega) hx1] at DO
        obtain ⟨O2, hO2⟩ : ∃ l, l = O.set kk x := ⟨_, rfl⟩
        obtain ⟨L2, hL2⟩ : ∃ l, l = L1.set (d + kk) x := ⟨_, rfl⟩
        have HL2 := Lib.hid (show L2 = splice Z d O2 by rw [hL2, hO2, HL1.out, spl_set _ _ _ _ _ (by have := HOL.out; omega) (by have := HZL.out; have := HOL.out; omega)])
        have HL2L := Lib.hid (show L2.length = 256 by rw [hL2, List.length_set]; exact HL1L.out)
        have HO2L := Lib.hid (show O2.length = n by rw [hO2, List.length_set]; exact HOL.out)
        have HO2B := Lib.hid (show ∀ q ∈ O2, q < 65536 by
          intro q hq
          rw [hO2] at hq
          rcases List.mem_or_eq_of_mem_set hq with h | h
          · have := HO1.out q h; omega
          · omega)
        have HO2 := Lib.hid hO2
        rw [← hL2] at DO
        obtain ⟨R2, hR2⟩ : ∃ R : Nat → List Nat, R = upR (upR R0 0 L1) 0 L2 := ⟨_, rfl⟩
        have R20 := Lib.hid (show R2 0 = L2 by rw [hR2]; simp [upR])
        have R21 := Lib.hid (show R2 1 = Z by rw [hR2]; simp [upR, H01.out])
        have R22 := Lib.hid (show R2 2 = Z by rw [hR2]; simp [upR, H02.out])
        rw [← hR2] at DO
        have HDO := Lib.hid DO
        clear al A7 DO hO2 hL2 hR2
        cases v
        case false =>
          simp only [Bool.false_eq_true, if_true, if_false] at hx
          subst hx
          go_wp2_with fail
          refine HDO.out.mono ?_
          rintro e w8 ⟨a8, n8, c8, rfl, A8, N8, f8, _⟩
          simp only at A8 N8 ⊢
          rw [hkm]
          have o8 := own_fw O7.out f8 (fun k h1 _ => GB.out k h1)
          have x8 := (f8.block g6 (blk_ltB X7.out) NX6.out).trans X7.out
          have b8 := B7.out.trans ((N7.out.step f8).mono S0.out)
          obtain ⟨cur, hcur⟩ : ∃ q, w8.cell? ⟨g, kk, none⟩ = some q := by
            obtain ⟨_, ⟨hv, _⟩ | ⟨g', cap', cur, hv, hg, hbk, h1, h2, h3, h4⟩⟩ := o8
            · cases hv
            · simp only [Value.slice.injEq, Option.some.injEq, Addr.mk.injEq, true_and, and_true] at hv
              obtain ⟨rfl, rfl⟩ := hv
              have : kk < cur.size := by omega
              exact ⟨cur[kk], by simp [World.cell?, hbk, this]⟩
          have hfz : w8.frozen? ⟨g, kk, none⟩ = false := by
            obtain ⟨_, ⟨hv, _⟩ | ⟨g', cap', cur, hv, hg, hbk, h1, h2, h3, h4⟩⟩ := o8
            · cases hv
            · simp only [Value.slice.injEq, Option.some.injEq, Addr.mk.injEq, true_and, and_true] at hv
              obtain ⟨rfl, rfl⟩ := hv
              simp [World.frozen?, hbk]
          have kk2 : (kk : Int) < (n : Int) := by omega
          have O8 := Lib.hid o8
          have X8 := Lib.hid x8
          have B8 := Lib.hid b8
          have HN8 := Lib.hid N8
          clear A8 N8 f8 o8 x8 b8 HDO
          go_upto_region 18 with fail
          have hW9s := O8.out
          have o9 := own_setW (x := 0) O8.out kkn
          rw [← HO2.out] at o9
          obtain ⟨W9, hW9⟩ : ∃ W, W = w8.setCell ⟨g, kk, none⟩ (.int .u16 0) := ⟨_, rfl⟩
          have O9 : Hid (W9.ownsRow w1.heap.size 34 1 (.slice (some ⟨g, 0, none⟩) n xc) n (wv O2)) := Lib.hid (by rw [hW9]; exact o9)
          have N9 : Hid (Bn w0.heap.size W9 p s R2) := Lib.hid (by rw [hW9]; exact HN8.out.one HGP.out HGS.out kk _)
          have X9 : Hid (W9.heap[g6]? = some (.cells #[.int .i64 0, .slice a5 n5 c5] 40 (0, 0))) := Lib.hid (by rw [hW9]; exact (Below.heap_setCell w8 ⟨g, kk, none⟩ (.int .u16 0) g6 GNE.out).trans X8.out)
          have B9 : Hid (Below w.heap.size w W9) := Lib.hid (by rw [hW9]; exact B8.out.setCell HGW.out _)
          have HW9 := Lib.hid hW9
          clear hW9s o9 hW9
          go_upto_region 19 with fail
          rw [← HW9.out]
          have DR := do_any N9.out ⟨1, (d : Int), (n : Int), none, 0, 0, [], 0⟩ ⟨argW_noB _, (show (Lit.int .i64 1).wf = true by decide), wf_i64 (by show (-9223372036854775808 : Int) ≤ (d : Int); omega) (by show (d : Int) ≤ (9223372036854775807 : Int); omega), wf_i64 (by show (-9223372036854775808 : Int) ≤ (n : Int); omega) (by show (n : Int) ≤ (9223372036854775807 : Int); omega), (show (Lit.int .i64 0).wf = true by decide)⟩
          rw [rcoil_do R20.out HL2L.out d n n1 n200 hfit] at DR
          rw [show (L2.drop d).take n = O2 by rw [HL2.out]; have := spl_sub Z O2 d (by have := HZL.out; have := HO2L.out; omega); rwa [HO2L.out] at this] at DR
          have HDR := Lib.hid DR
          obtain ⟨R3, hR3⟩ : ∃ R : Nat → List Nat, R = upR R2 0 L2 := ⟨_, rfl⟩
          rw [← hR3] at HDR
          have R30 := Lib.hid (show R3 0 = L2 by rw [hR3]; simp [upR])
          have R31 := Lib.hid (show R3 1 = Z by rw [hR3]; simp [upR, R21.out])
          have R32 := Lib.hid (show R3 2 = Z by rw [hR3]; simp [upR, R22.out])
          clear DR hR3 hcur hfz
          go_wp2_with fail
          refine HDR.out.mono ?_
          rintro e wA ⟨aA, nA, cA, rfl, AA, NA, fA, frA⟩
          simp only at AA NA ⊢
          obtain rfl : nA = n := by have h9 := AA.row.ln; rw [HO2L.out] at h9; omega
          have oA := own_fw O9.out fA (fun k h1 _ => GB.out k h1)
          have xA := (fA.block g6 (blk_ltB X9.out) NX6.out).trans X9.out
          have bA := B9.out.trans ((N9.out.step fA).mono S0.out)
          have al := alloc_bq wA (.cells #[.int .i64 0, .slice aA nA cA] 40 (0, 0))
          obtain ⟨gC, hgC⟩ : ∃ q, q = wA.heap.size := ⟨_, rfl⟩
          obtain ⟨WC, hWC⟩ : ∃ W, W = wA.alloc (.cells #[.int .i64 0, .slice aA nA cA] 40 (0, 0)) := ⟨_, rfl⟩
          have XC := Lib.hid (show WC.heap[gC]? = some (.cells #[.int .i64 0, .slice aA nA cA] 40 (0, 0)) by rw [hgC, hWC]; exact heap_alloc_new wA _)
          rw [← hWC] at al
          have OC := Lib.hid (own33_keep oA (fun b _ hb => (al.block b hb)))
          have NC := Lib.hid (NA.below al)
          have X6C := Lib.hid (low_of al xA)
          have BC := Lib.hid (bA.trans (al.mono bA.size))
          have AC := Lib.hid (AA.below al)
          have HGC := Lib.hid hgC
          have HWC := Lib.hid hWC
          clear AA NA fA frA oA xA bA al hgC hWC HDR
          go_upto_region 20 with fail
          rw [← HWC.out, ← HGC.out]
          go_wp2_with fail
          go_loop [17, 18] (fun nv iv => ∃ i : Nat, i ≤ 256 ∧ iv = .int .i64 i ∧ nv = .int .i64 ((L2.take i).sum : Nat)) (fun _ iv => 256 - (intOf iv).toNat)
          case atStart => exact ⟨0, by omega, rfl, rfl⟩
          case round =>
            obtain ⟨i, hi, rfl, rfl⟩ := hrel
            by_cases hi6 : i < 256
            · have i1 : (i : Int) < 256 := by omega
              have p0 : plB R3 0 (i : Int) 1 = true := by unfold plB; have := HL2L.out; simp [R30.out]; omega
              have p1 : plB R3 1 (i : Int) 1 = true := by unfold plB; have := HZL.out; simp [R31.out]; omega
              have p2 : plB R3 2 (i : Int) 1 = true := by unfold plB; have := HZL.out; simp [R32.out]; omega
              have T0 := at_any NC.out 0 (i : Int) (by omega)
              have T1 := at_any NC.out 1 (i : Int) (by omega)
              have T2 := at_any NC.out 2 (i : Int) (by omega)
              unfold AtP at T0 T1 T2
              rw [show atB R3 0 (i : Int) = L2.getD i 0 by unfold atB; rw [p0]; simp [R30.out], p0] at T0
              rw [show atB R3 1 (i : Int) = 0 by unfold atB; rw [p1]; have := HZG.out i; simpa [R31.out] using this, p1] at T1
              rw [show atB R3 2 (i : Int) = 0 by unfold atB; rw [p2]; have := HZG.out i; simpa [R32.out] using this, p2] at T2
              have hss := sum_snoc L2 i (by have := HL2L.out; omega)
              have hwd : ∀ q ∈ L2, q < 65536 := by have := NC.out.wd 0 (by omega); rw [R30.out] at this; exact this
              have hv := wgetD_lt hwd i
              have hsl := sum_le (L2.take i) (fun q hq => hwd q (List.mem_of_mem_take hq))
              have htl : (L2.take i).length ≤ 256 := by rw [List.length_take]; omega
              generalize L2.getD i 0 = vv at T0 hss hv
              have HSS := Lib.hid hss
              generalize (L2.take i).sum = sm at hsl hss HSS ⊢
              have w1' : IntKind.i64.wrap (vv : Int) = (vv : Int) := IntWalk.i64_in _ (by omega)
              have w2' : IntKind.i64.wrap ((sm : Int) + (vv : Int)) = (sm : Int) + (vv : Int) := IntWalk.i64_in _ (by omega)
              have HT1 := Lib.hid T1
              have HT2 := Lib.hid T2
              clear p0 p1 p2 T1 T2 hss hwd hsl htl
              go_wp2_with fail
              refine T0.mono ?_
              rintro e wq ⟨rfl, rfl⟩
              clear T0
              go_wp2_with fail
              refine HT1.out.mono ?_
              rintro e wq ⟨rfl, rfl⟩
              go_wp2_with fail
              refine HT2.out.mono ?_
              rintro e wq ⟨rfl, rfl⟩
              go_wp2_with fail
              go_round
              case rel => exact ⟨i + 1, by omega, by go_num, by rw [HSS.out]; push_cast; rfl⟩
              case measure => simp [intOf]; omega
            · have hk' : i = 256 := by omega
              subst hk'
              have hS : (L2.take 256).sum = O2.sum := by
                rw [List.take_of_length_le (by have := HL2L.out; omega), HL2.out, HZ.out]
                exact sum_spl 256 d O2
              rw [hS]
              have hS2 := sum_le O2 HO2B.out
              have hS3 := HO2L.out
              obtain ⟨SS, hSS⟩ : ∃ q, q = O2.sum := ⟨_, rfl⟩
              rw [← hSS] at hS2 ⊢
              have HSS := Lib.hid hSS
              clear hS hSS
              go_wp2_with fail
              go_loop [17, 25] (fun nv iv => ∃ i : Nat, i ≤ nA ∧ iv = .int .i64 i ∧ nv = .int .i64 ((SS : Int) - ((O2.take i).sum : Nat))) (fun _ iv => nA - (intOf iv).toNat)
              case atStart => exact ⟨0, by omega, rfl, by simp⟩
              case round =>
                obtain ⟨i, hi, rfl, rfl⟩ := hrel
                have hO5 : WC.ownsRow w1.heap.size 34 1 (.slice (some ⟨g, 0, none⟩) nA xc) O2.length (wv O2) := by rw [HO2L.out]; exact OC.out
                obtain ⟨a', c', e, hA, _⟩ := own33_arg hO5 HO2B.out
                rw [HO2L.out] at e hA
                simp only [Value.slice.injEq, true_and] at e
                obtain ⟨rfl, rfl⟩ := e
                by_cases hin : i < nA
                · obtain ⟨b, off, eb, _, hc⟩ := hA.row.pos (by omega)
                  simp only [Option.some.injEq, Addr.mk.injEq, and_true] at eb
                  obtain ⟨rfl, rfl⟩ := eb
                  have c0 := hc i hin
                  rw [Nat.zero_add] at c0
                  have hss := sum_snoc O2 i (by have := HO2L.out; omega)
                  have hv := wgetD_lt HO2B.out i
                  have hle := sum_le (O2.take i) (fun q hq => HO2B.out q (List.mem_of_mem_take hq))
                  have htl : (O2.take i).length ≤ 200 := by rw [List.length_take]; omega
                  generalize O2.getD i 0 = vv at c0 hss hv
                  have HSS2 := Lib.hid hss
                  generalize (O2.take i).sum = sm at hss HSS2 hle ⊢
                  have i1 : (i : Int) < (nA : Int) := by omega
                  have w1' : IntKind.i64.wrap (vv : Int) = (vv : Int) := IntWalk.i64_in _ (by omega)
                  have w2' : IntKind.i64.wrap ((SS : Int) - (sm : Int) - (vv : Int)) = (SS : Int) - (sm : Int) - (vv : Int) := IntWalk.i64_in _ (by omega)
                  clear hss hle htl hc hO5 hA
                  go_wp2_with fail
                  go_round
                  case rel => exact ⟨i + 1, by omega, by go_num, by rw [HSS2.out]; congr 1; push_cast; omega⟩
                  case measure => simp [intOf]; omega
                · have hk' : nA = i := by omega
                  subst hk'
                  have hz : ((SS : Int) - ((O2.take nA).sum : Nat)) = 0 := by
                    rw [List.take_of_length_le (by have := HO2L.out; omega), ← HSS.out]; omega
                  rw [hz]
                  have SM := samevals_any aA nA cA O2 (some ⟨g, 0, none⟩) nA xc O2 WC AC.out.row hA.row
                  rw [decide_eq_true rfl] at SM
                  obtain ⟨k0, _⟩ := cells2q X6C.out
                  obtain ⟨_, k1⟩ := cells2q XC.out
                  clear hz hO5 hA hin
                  go_wp2_with fail
                  refine SM.mono ?_
                  rintro e wE ⟨rfl, zE⟩
                  have BE := Lib.hid (BC.out.trans (zE.mono BC.out.size))
                  clear zE SM k0 k1
                  go_wp2_with fail
                  exact FIN.out _ BE.out
        case true =>
          simp only [Bool.false_eq_true, if_true, if_false] at hx
          subst hx
          go_wp2_with fail
          refine HDO.out.mono ?_
          rintro e w8 ⟨a8, n8, c8, rfl, A8, N8, f8, _⟩
          simp only at A8 N8 ⊢
          rw [hkm]
          have o8 := own_fw O7.out f8 (fun k h1 _ => GB.out k h1)
          have x8 := (f8.block g6 (blk_ltB X7.out) NX6.out).trans X7.out
          have b8 := B7.out.trans ((N7.out.step f8).mono S0.out)
          obtain ⟨cur, hcur⟩ : ∃ q, w8.cell? ⟨g, kk, none⟩ = some q := by
            obtain ⟨_, ⟨hv, _⟩ | ⟨g', cap', cur, hv, hg, hbk, h1, h2, h3, h4⟩⟩ := o8
            · cases hv
            · simp only [Value.slice.injEq, Option.some.injEq, Addr.mk.injEq, true_and, and_true] at hv
              obtain ⟨rfl, rfl⟩ := hv
              have : kk < cur.size := by omega
              exact ⟨cur[kk], by simp [World.cell?, hbk, this]⟩
          have hfz : w8.frozen? ⟨g, kk, none⟩ = false := by
            obtain ⟨_, ⟨hv, _⟩ | ⟨g', cap', cur, hv, hg, hbk, h1, h2, h3, h4⟩⟩ := o8
            · cases hv
            · simp only [Value.slice.injEq, Option.some.injEq, Addr.mk.injEq, true_and, and_true] at hv
              obtain ⟨rfl, rfl⟩ := hv
              simp [World.frozen?, hbk]
          have kk2 : (kk : Int) < (n : Int) := by omega
          have O8 := Lib.hid o8
          have X8 := Lib.hid x8
          have B8 := Lib.hid b8
          have HN8 := Lib.hid N8
          clear A8 N8 f8 o8 x8 b8 HDO
          go_upto_region 18 with fail
          have hW9s := O8.out
          have o9 := own_setW (x := 1) O8.out kkn
          rw [← HO2.out] at o9
          obtain ⟨W9, hW9⟩ : ∃ W, W = w8.setCell ⟨g, kk, none⟩ (.int .u16 1) := ⟨_, rfl⟩
          have O9 : Hid (W9.ownsRow w1.heap.size 34 1 (.slice (some ⟨g, 0, none⟩) n xc) n (wv O2)) := Lib.hid (by rw [hW9]; exact o9)
          have N9 : Hid (Bn w0.heap.size W9 p s R2) := Lib.hid (by rw [hW9]; exact HN8.out.one HGP.out HGS.out kk _)
          have X9 : Hid (W9.heap[g6]? = some (.cells #[.int .i64 0, .slice a5 n5 c5] 40 (0, 0))) := Lib.hid (by rw [hW9]; exact (Below.heap_setCell w8 ⟨g, kk, none⟩ (.int .u16 1) g6 GNE.out).trans X8.out)
          have B9 : Hid (Below w.heap.size w W9) := Lib.hid (by rw [hW9]; exact B8.out.setCell HGW.out _)
          have HW9 := Lib.hid hW9
          clear hW9s o9 hW9
          go_upto_region 19 with fail
          rw [← HW9.out]
          have DR := do_any N9.out ⟨1, (d : Int), (n : Int), none, 0, 0, [], 0⟩ ⟨argW_noB _, (show (Lit.int .i64 1).wf = true by decide), wf_i64 (by show (-9223372036854775808 : Int) ≤ (d : Int); omega) (by show (d : Int) ≤ (9223372036854775807 : Int); omega), wf_i64 (by show (-9223372036854775808 : Int) ≤ (n : Int); omega) (by show (n : Int) ≤ (9223372036854775807 : Int); omega), (show (Lit.int .i64 0).wf = true by decide)⟩
          rw [rcoil_do R20.out HL2L.out d n n1 n200 hfit] at DR
          rw [show (L2.drop d).take n = O2 by rw [HL2.out]; have := spl_sub Z O2 d (by have := HZL.out; have := HO2L.out; omega); rwa [HO2L.out] at this] at DR
          have HDR := Lib.hid DR
          obtain ⟨R3, hR3⟩ : ∃ R : Nat → List Nat, R = upR R2 0 L2 := ⟨_, rfl⟩
          rw [← hR3] at HDR
          have R30 := Lib.hid (show R3 0 = L2 by rw [hR3]; simp [upR])
          have R31 := Lib.hid (show R3 1 = Z by rw [hR3]; simp [upR, R21.out])
          have R32 := Lib.hid (show R3 2 = Z by rw [hR3]; simp [upR, R22.out])
          clear DR hR3 hcur hfz
          go_wp2_with fail
          refine HDR.out.mono ?_
          rintro e wA ⟨aA, nA, cA, rfl, AA, NA, fA, frA⟩
          simp only at AA NA ⊢
          obtain rfl : nA = n := by have h9 := AA.row.ln; rw [HO2L.out] at h9; omega
          have oA := own_fw O9.out fA (fun k h1 _ => GB.out k h1)
          have xA := (fA.block g6 (blk_ltB X9.out) NX6.out).trans X9.out
          have bA := B9.out.trans ((N9.out.step fA).mono S0.out)
          have al := alloc_bq wA (.cells #[.int .i64 0, .slice aA nA cA] 40 (0, 0))
          obtain ⟨gC, hgC⟩ : ∃ q, q = wA.heap.size := ⟨_, rfl⟩
          obtain ⟨WC, hWC⟩ : ∃ W, W = wA.alloc (.cells #[.int .i64 0, .slice aA nA cA] 40 (0, 0)) := ⟨_, rfl⟩
          have XC := Lib.hid (show WC.heap[gC]? = some (.cells #[.int .i64 0, .slice aA nA cA] 40 (0, 0)) by rw [hgC, hWC]; exact heap_alloc_new wA _)
          rw [← hWC] at al
          have OC := Lib.hid (own33_keep oA (fun b _ hb => (al.block b hb)))
          have NC := Lib.hid (NA.below al)
          have X6C := Lib.hid (low_of al xA)
          have BC := Lib.hid (bA.trans (al.mono bA.size))
          have AC := Lib.hid (AA.below al)
          have HGC := Lib.hid hgC
          have HWC := Lib.hid hWC
          clear AA NA fA frA oA xA bA al hgC hWC HDR
          go_upto_region 20 with fail
          rw [← HWC.out, ← HGC.out]
          go_wp2_with fail
          go_loop [17, 18] (fun nv iv => ∃ i : Nat, i ≤ 256 ∧ iv = .int .i64 i ∧ nv = .int .i64 ((L2.take i).sum : Nat)) (fun _ iv => 256 - (intOf iv).toNat)
          case atStart => exact ⟨0, by omega, rfl, rfl⟩
          case round =>
            obtain ⟨i, hi, rfl, rfl⟩ := hrel
            by_cases hi6 : i < 256
            · have i1 : (i : Int) < 256 := by omega
              have p0 : plB R3 0 (i : Int) 1 = true := by unfold plB; have := HL2L.out; simp [R30.out]; omega
              have p1 : plB R3 1 (i : Int) 1 = true := by unfold plB; have := HZL.out; simp [R31.out]; omega
              have p2 : plB R3 2 (i : Int) 1 = true := by unfold plB; have := HZL.out; simp [R32.out]; omega
              have T0 := at_any NC.out 0 (i : Int) (by omega)
              have T1 := at_any NC.out 1 (i : Int) (by omega)
              have T2 := at_any NC.out 2 (i : Int) (by omega)
              unfold AtP at T0 T1 T2
              rw [show atB R3 0 (i : Int) = L2.getD i 0 by unfold atB; rw [p0]; simp [R30.out], p0] at T0
              rw [show atB R3 1 (i : Int) = 0 by unfold atB; rw [p1]; have := HZG.out i; simpa [R31.out] using this, p1] at T1
              rw [show atB R3 2 (i : Int) = 0 by unfold atB; rw [p2]; have := HZG.out i; simpa [R32.out] using this, p2] at T2
              have hss := sum_snoc L2 i (by have := HL2L.out; omega)
              have hwd : ∀ q ∈ L2, q < 65536 := by have := NC.out.wd 0 (by omega); rw [R30.out] at this; exact this
              have hv := wgetD_lt hwd i
              have hsl := sum_le (L2.take i) (fun q hq => hwd q (List.mem_of_mem_take hq))
              have htl : (L2.take i).length ≤ 256 := by rw [List.length_take]; omega
              generalize L2.getD i 0 = vv at T0 hss hv
              have HSS := Lib.hid hss
              generalize (L2.take i).sum = sm at hsl hss HSS ⊢
              have w1' : IntKind.i64.wrap (vv : Int) = (vv : Int) := IntWalk.i64_in _ (by omega)
              have w2' : IntKind.i64.wrap ((sm : Int) + (vv : Int)) = (sm : Int) + (vv : Int) := IntWalk.i64_in _ (by omega)
              have HT1 := Lib.hid T1
              have HT2 := Lib.hid T2
              clear p0 p1 p2 T1 T2 hss hwd hsl htl
              go_wp2_with fail
              refine T0.mono ?_
              rintro e wq ⟨rfl, rfl⟩
              clear T0
              go_wp2_with fail
              refine HT1.out.mono ?_
              rintro e wq ⟨rfl, rfl⟩
              go_wp2_with fail
              refine HT2.out.mono ?_
              rintro e wq ⟨rfl, rfl⟩
              go_wp2_with fail
              go_round
              case rel => exact ⟨i + 1, by omega, by go_num, by rw [HSS.out]; push_cast; rfl⟩
              case measure => simp [intOf]; omega
            · have hk' : i = 256 := by omega
              subst hk'
              have hS : (L2.take 256).sum = O2.sum := by
                rw [List.take_of_length_le (by have := HL2L.out; omega), HL2.out, HZ.out]
                exact sum_spl 256 d O2
              rw [hS]
              have hS2 := sum_le O2 HO2B.out
              have hS3 := HO2L.out
              obtain ⟨SS, hSS⟩ : ∃ q, q = O2.sum := ⟨_, rfl⟩
              rw [← hSS] at hS2 ⊢
              have HSS := Lib.hid hSS
              clear hS hSS
              go_wp2_with fail
              go_loop [17, 25] (fun nv iv => ∃ i : Nat, i ≤ nA ∧ iv = .int .i64 i ∧ nv = .int .i64 ((SS : Int) - ((O2.take i).sum : Nat))) (fun _ iv => nA - (intOf iv).toNat)
              case atStart => exact ⟨0, by omega, rfl, by simp⟩
              case round =>
                obtain ⟨i, hi, rfl, rfl⟩ := hrel
                have hO5 : WC.ownsRow w1.heap.size 34 1 (.slice (some ⟨g, 0, none⟩) nA xc) O2.length (wv O2) := by rw [HO2L.out]; exact OC.out
                obtain ⟨a', c', e, hA, _⟩ := own33_arg hO5 HO2B.out
                rw [HO2L.out] at e hA
                simp only [Value.slice.injEq, true_and] at e
                obtain ⟨rfl, rfl⟩ := e
                by_cases hin : i < nA
                · obtain ⟨b, off, eb, _, hc⟩ := hA.row.pos (by omega)
                  simp only [Option.some.injEq, Addr.mk.injEq, and_true] at eb
                  obtain ⟨rfl, rfl⟩ := eb
                  have c0 := hc i hin
                  rw [Nat.zero_add] at c0
                  have hss := sum_snoc O2 i (by have := HO2L.out; omega)
                  have hv := wgetD_lt HO2B.out i
                  have hle := sum_le (O2.take i) (fun q hq => HO2B.out q (List.mem_of_mem_take hq))
                  have htl : (O2.take i).length ≤ 200 := by rw [List.length_take]; omega
                  generalize O2.getD i 0 = vv at c0 hss hv
                  have HSS2 := Lib.hid hss
                  generalize (O2.take i).sum = sm at hss HSS2 hle ⊢
                  have i1 : (i : Int) < (nA : Int) := by omega
                  have w1' : IntKind.i64.wrap (vv : Int) = (vv : Int) := IntWalk.i64_in _ (by omega)
                  have w2' : IntKind.i64.wrap ((SS : Int) - (sm : Int) - (vv : Int)) = (SS : Int) - (sm : Int) - (vv : Int) := IntWalk.i64_in _ (by omega)
                  clear hss hle htl hc hO5 hA
                  go_wp2_with fail
                  go_round
                  case rel => exact ⟨i + 1, by omega, by go_num, by rw [HSS2.out]; congr 1; push_cast; omega⟩
                  case measure => simp [intOf]; omega
                · have hk' : nA = i := by omega
                  subst hk'
                  have hz : ((SS : Int) - ((O2.take nA).sum : Nat)) = 0 := by
                    rw [List.take_of_length_le (by have := HO2L.out; omega), ← HSS.out]; omega
                  rw [hz]
                  have SM := samevals_any aA nA cA O2 (some ⟨g, 0, none⟩) nA xc O2 WC AC.out.row hA.row
                  rw [decide_eq_true rfl] at SM
                  obtain ⟨k0, _⟩ := cells2q X6C.out
                  obtain ⟨_, k1⟩ := cells2q XC.out
                  clear hz hO5 hA hin
                  go_wp2_with fail
                  refine SM.mono ?_
                  rintro e wE ⟨rfl, zE⟩
                  have BE := Lib.hid (BC.out.trans (zE.mono BC.out.size))
                  clear zE SM k0 k1
                  go_wp2_with fail
                  exact FIN.out _ BE.out
      · rw [hdo, if_neg hfit] at DO
        have HDO := Lib.hid DO
        have e5 : decide ((256 : Int) < (d : Int) + (n : Int)) = true := by simp; omega
        clear DO hdo hfit
        go_wp2_with fail
        refine HDO.out.mono ?_
        rintro e w5 ⟨a5, n5, c5, rfl, A5, N5, f5, _⟩
        simp only at A5 N5 ⊢
        have b5 := B2.out.trans ((NB.out.step f5).mono S0.out)
        have al := alloc_bq w5 (.cells #[.int .i64 2, .slice a5 n5 c5] 40 (0, 0))
        have B6 := Lib.hid (b5.trans (al.mono b5.size))
        obtain ⟨k0, k1⟩ := cells2q (heap_alloc_new w5 (.cells #[.int .i64 2, .slice a5 n5 c5] 40 (0, 0)))
        clear A5 N5 f5 b5 al HDO
        go_wp2_with fail
        exact FIN.out _ B6.out
theorem coils_all (d : Int) (wd : (Lit.int .u8 d).wf = true) (a1 : Option Addr) (n c1 : Nat) (V : List Nat) (o : Int) (wo : (Lit.int .u8 o).wf = true) (v : Bool) (w : World) (h1 : ArgW w a1 n c1 V) :
    Calls Try.prog 8 #[.int .u8 d, .slice a1 n c1, .int .u8 o, .bool v] w (BoolB w true) := by
  have h0 := bd_u8 wd
  have h2 := bd_u8 wo
  obtain ⟨d, rfl⟩ : ∃ k : Nat, d = (k : Int) := ⟨d.toNat, by omega⟩
  obtain ⟨o, rfl⟩ : ∃ k : Nat, o = (k : Int) := ⟨o.toNat, by omega⟩
  exact coils_walk d (by omega) a1 n c1 V o (by omega) v w h1
end Go.Proofs.Ytdolgpogjnfpkaa
