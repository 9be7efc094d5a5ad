/- The key of words. -/
import Derived.Test.YtogpbclfdnijpaaDoorG
namespace Go.Proofs.YtogpbclfdnijpaaDoor
set_option linter.unusedVariables false
set_option linter.unusedSimpArgs false
open Go.ChangeShapes Go.WideShapes Go.ChangeAt Go.RowKit

def byV (V : List Nat) (i : Nat) : Nat := if i % 2 = 0 then V.getD (i / 2) 0 / 256 else V.getD (i / 2) 0 % 256
def txN (V : List Nat) : Nat := min (2 * V.length) 33
def tx (V : List Nat) : List Nat := ((List.range (txN V)).map (byV V)).takeWhile fun x => decide (x ≠ 0)
def textK (V : List Nat) : List Nat := if keyB (tx V) = true then tx V else []
theorem tx_all (V : List Nat) (k : Nat) (hk : k ≤ txN V) (h : ∀ x ∈ (List.range k).map (byV V), x ≠ 0) (he : k < txN V → byV V k = 0) : tx V = (List.range k).map (byV V) := by
  unfold tx
  obtain ⟨d, hd⟩ : ∃ d, txN V = k + d := ⟨_, (Nat.add_sub_cancel' hk).symm⟩
  rw [hd, List.range_add, List.map_append, List.takeWhile_append_of_pos (by intro x hx; simpa using h x hx)]
  cases d with
  | zero => simp
  | succ d =>
    rw [List.range_succ_eq_map]
    have := he (by omega)
    simp [this]
theorem range_snoc (V : List Nat) (k : Nat) : (List.range (k + 1)).map (byV V) = (List.range k).map (byV V) ++ [byV V k] := by
  rw [List.range_succ, List.map_append]; rfl
theorem made33 (w : World) : (Instr.makeSlice 30 (.int .i64 0) (.int .i64 33)).run Tryd.prog w = .ok (.slice (some ⟨w.heap.size, 0, none⟩) 0 33) (w.alloc (.cells (bv (List.replicate 33 0)).toArray 5 (0, 0))) := by kernel_rfl
theorem own33 (w : World) : (w.alloc (.cells (bv (List.replicate 33 0)).toArray 5 (0, 0))).ownsRow w.heap.size 5 1 (.slice (some ⟨w.heap.size, 0, none⟩) 0 33) 0 (bv []) :=
  ⟨rfl, .inr ⟨w.heap.size, 33, _, rfl, Nat.le_refl _, heap_alloc_new w _, by omega, by unfold maxLen; omega, rfl, rfl⟩⟩
theorem own_form {B : Nat} {w : World} {v : Value} {n : Nat} {L : List Value} (h : w.ownsRow B 5 1 v n L) : ∃ a c, v = .slice a n c := by
  rcases h.2 with ⟨h, h0⟩ | ⟨g, cap, cur, h, _⟩
  · exact ⟨none, 0, by rw [h, h0]⟩
  · exact ⟨_, _, h⟩
theorem own_bys {B : Nat} {w : World} {a : Option Addr} {c : Nat} {L : List Nat} (h : w.ownsRow B 5 1 (.slice a L.length c) L.length (bv L)) (hb : ∀ b ∈ L, b < 256) : Bys w a L.length L := by
  rcases h.2 with ⟨hv, h0⟩ | ⟨g, cap, cur, hv, hg, hbk, r⟩
  · have hl : L = [] := List.eq_nil_of_length_eq_zero h0
    subst hl
    exact Bys.nil _ _
  · have ho : OwnB B w g cap L.length L := ⟨h.1, .inr ⟨g, cap, cur, rfl, hg, hbk, r⟩⟩
    simp only [Value.slice.injEq] at hv
    rw [hv.1]
    exact ho.bys hb
theorem byV_lt (V : List Nat) (h : ∀ v ∈ V, v < 65536) (i : Nat) : byV V i < 256 := by
  have := wgetD_lt h (i / 2)
  unfold byV
  split <;> omega
theorem shr_even {v : Nat} (h : v < 65536) : IntKind.u8.wrap ((v : Int) / 256) = ((v / 256 : Nat) : Int) := by
  simp only [IntKind.wrap, IntKind.bits, IntKind.signed]
  simp
  omega
theorem shr_odd (v : Nat) : IntKind.u8.wrap (v : Int) = ((v % 256 : Nat) : Int) := by
  simp only [IntKind.wrap, IntKind.bits, IntKind.signed]
  simp
set_option maxRecDepth 100000 in
set_option maxHeartbeats 8000000 in
theorem text_any (a : Option Addr) (n c : Nat) (V : List Nat) (w : World) (h : Wds w a n V) (hn : n ≤ 100000) : Calls Tryd.prog 9 #[.slice a n c] w (StrP w (textK V)) := by
  obtain ⟨P, hP⟩ : ∃ P, P = (StrP w (textK V) : Ending → World → Prop) := ⟨_, rfl⟩
  rw [← hP]
  have FIN : Hid (∀ W L T, T = strN L → L = textK V → Below w.heap.size w W → P (.returned (.string T)) W) := Lib.hid (fun W L T h1 h2 h3 => by rw [hP, h1, h2]; exact ⟨rfl, h3⟩)
  have H := Lib.hid h
  have hln := h.ln
  obtain ⟨N, hN⟩ : ∃ N, N = txN V := ⟨_, rfl⟩
  have hNe : N = min (2 * n) 33 := by rw [hN]; unfold txN; rw [hln]
  have hby' : ∀ L : List Nat, (∃ k, L = (List.range k).map (byV V)) → ∀ b ∈ L, b < 256 := by
    rintro L ⟨k, rfl⟩ b hb
    simp only [List.mem_map] at hb
    obtain ⟨i, _, rfl⟩ := hb
    exact byV_lt V H.out.by' i
  have HN := Lib.hid hN
  have HNE := Lib.hid hNe
  have HLN := Lib.hid hln
  have hN33 : N ≤ 33 := by omega
  have hNn : N ≤ 2 * n := by omega
  have hmin : (if 33 < 2 * (n : Int) then (33 : Int) else 2 * (n : Int)) = (N : Int) := by split <;> omega
  have hmin2 : min (2 * (n : Int)) 33 = (N : Int) := by omega
  obtain ⟨Z, hZ⟩ : ∃ Z, Z = (bv (List.replicate 33 0)).toArray := ⟨_, rfl⟩
  have hmk := fun W => made33 W
  rw [← hZ] at hmk
  have O0 : Hid ((w.alloc (.cells Z 5 (0, 0))).ownsRow w.heap.size 5 1 (.slice (some ⟨w.heap.size, 0, none⟩) 0 33) 0 (bv [])) := Lib.hid (by rw [hZ]; exact own33 w)
  have hle := H.out.le
  clear hP h hN hNe hln hmin hZ
  go_enter Tryd.func9, Tryd.ntmps9
  go_wp2_with fail
  go_loopw [3, 13] (fun bvv iv wr => ∃ (k : Nat) (va : Option Addr) (vc : Nat), k ≤ N ∧ iv = .int .i64 k ∧ bvv = .slice va k vc ∧ wr.ownsRow w.heap.size 5 1 (.slice va k vc) k (bv ((List.range k).map (byV V))) ∧ (∀ x ∈ (List.range k).map (byV V), x ≠ 0) ∧ Below w.heap.size w wr) (fun _ iv _ => N - (intOf iv).toNat)
  case atStart => exact ⟨0, _, _, Nat.zero_le _, rfl, rfl, O0.out, by simp, (Below.refl _ _).alloc (Nat.le_refl _) _⟩
  case round =>
    obtain ⟨wo, rfl⟩ : ∃ wo : World, wo = wr := ⟨_, rfl⟩
    obtain ⟨k, va, vc, hk, rfl, rfl, ho, hnz, hbel⟩ := hrel
    obtain ⟨L, hL⟩ : ∃ L, L = (List.range k).map (byV V) := ⟨_, rfl⟩
    have hlL : k = L.length := by rw [hL]; simp
    have hbL := hby' L ⟨k, hL⟩
    have hbys : Bys wo va k L := by
      have h2 := ho
      rw [← hL] at h2
      rw [hlL] at h2 ⊢
      exact own_bys h2 hbL
    have hvnil : va = none → vc = 0 := by
      intro e
      rcases ho.2 with ⟨hv, _⟩ | ⟨g, cap, cur, hv, _⟩
      · simp only [Value.slice.injEq] at hv; exact hv.2.2
      · simp only [Value.slice.injEq] at hv; rw [e] at hv; cases hv.1
    by_cases hkN : k < N
    · obtain ⟨b, off, rfl, hblt, hcc⟩ := (H.out.below hbel).pos (by omega)
      have hc0 := hcc (k / 2) (by omega)
      have hv := wgetD_lt H.out.by' (k / 2)
      have hbyk : byV V k = if k % 2 = 0 then V.getD (k / 2) 0 / 256 else V.getD (k / 2) 0 % 256 := rfl
      generalize V.getD (k / 2) 0 = v at hc0 hv hbyk
      have kI : (k : Int) < (N : Int) := by omega
      have i1 : (k : Int) / 2 < (n : Int) := by omega
      have i2 : (0 : Int) ≤ (k : Int) / 2 := by omega
      rcases Nat.mod_two_eq_zero_or_one k with hev | hev
      · obtain ⟨x, hx⟩ : ∃ x, x = v / 256 := ⟨_, rfl⟩
        have hbx : byV V k = x := by rw [hbyk, if_pos hev, hx]
        have hsh : IntKind.u8.wrap ((v : Int) / 256) = (x : Int) := by rw [hx]; exact shr_even hv
        have e3 : (k : Int) % 2 = 0 := by omega
        have hx256 : x < 256 := by omega
        have HBX := Lib.hid hbx
        clear hx hbyk hbx
        by_cases hz0 : x = 0
        · have t0 : ((x : Int) == 0) = true := by simp [hz0]
          have htx : textK V = if keyB L = true then L else [] := by
            have := tx_all V k (by rw [← HN.out]; omega) hnz (fun _ => by rw [HBX.out]; exact hz0)
            unfold textK
            rw [this, hL]
          have hz : ∃ k, L = (List.range k).map (byV V) := ⟨k, hL⟩
          have hL33 : L.length ≤ 33 := by omega
          have hown := ho
          clear hmin2 hL hnz hz0
          subst hlL
          clear HBX
          have HK := sl_strN (hby' L hz)
          have IK0 := isKey_any (strN L) wo (by rw [strN_size]; unfold maxLen; omega)
          rw [HK] at IK0
          have IK := Lib.hid IK0
          have hcv := conv_bys (cap := vc) hbys
          obtain ⟨T, hT⟩ : ∃ T, T = strN L := ⟨_, rfl⟩
          have HT := Lib.hid hT
          rw [← hT] at hcv IK
          have HX := Lib.hid htx
          have HBE := Lib.hid hbel
          clear IK0 HK hT htx hbel hbys ho hz hown
          cases hkb : keyB L with
          | true =>
            have FF := Lib.hid (FIN.out wo L T HT.out (by rw [HX.out, if_pos (by rw [hkb])]) HBE.out)
            rw [hkb] at IK
            clear hkb
            go_wp2_with fail
            refine IK.out.mono ?_
            rintro e w5 ⟨rfl, e5⟩
            rw [e5]
            clear e5
            go_wp2_with fail
            exact FF.out
          | false =>
            have FF := Lib.hid (FIN.out wo [] ⟨#[]⟩ rfl (by rw [HX.out, if_neg (by rw [hkb]; simp)]) HBE.out)
            rw [hkb] at IK
            clear hkb
            go_wp2_with fail
            refine IK.out.mono ?_
            rintro e w5 ⟨rfl, e5⟩
            rw [e5]
            clear e5
            go_wp2_with fail
            exact FF.out
        · have t0 : ((x : Int) == 0) = false := by simp [hz0]
          have hsn := range_snoc V k
          rw [HBX.out] at hsn
          have hnz2 : ∀ y ∈ (List.range (k + 1)).map (byV V), y ≠ 0 := by
            intro y hy
            rw [hsn] at hy
            rcases List.mem_append.1 hy with q | q
            · exact hnz y q
            · simp at q; rw [q]; exact hz0
          have HO := Lib.hid ho
          have HB := Lib.hid hbel
          have HSN := Lib.hid hsn
          have HNZ := Lib.hid hnz2
          clear hmin2 ho hbel hsn hnz2 hnz hbys hL hlL hz0 HBX
          go_wp2_with (at_builtin; refine wpList_append_bys rfl (.tmp 29) (.tmp 31) rfl w.heap.size _ ?hBe (.slice va k vc) k ((List.range k).map (byV V)) rfl ?owne (some ⟨wo.heap.size, 0, none⟩) 1 1 [x] rfl ?hbye ?nile ?lee ?_)
          case hBe => simp; have := HB.out.size; omega
          case owne => exact World.ownsRow.alloc HO.out _
          case hbye => exact bys_block [x] (by unfold maxLen; simp) (by simpa using hx256) (heap_alloc_new wo (.cells #[.int .u8 (x : Int)] 5 (0, 0)))
          case nile => exact fun e => by cases e
          case lee => omega
          intro v2 w2 ho2 hg2 _ _
          have hb2 : Below w.heap.size w w2 := (HB.out.alloc HB.out.size _).grown hg2 (by simp; have := HB.out.size; omega) (fun q hq => (World.ownsRow.lt HO.out q hq).1)
          obtain ⟨va2, vc2, rfl⟩ := own_form ho2
          have HO2 := Lib.hid ho2
          have HB2 := Lib.hid hb2
          clear ho2 hg2 hb2
          go_wp2_with fail
          go_roundw
          case rel => exact ⟨k + 1, va2, vc2, by omega, by go_num, rfl, by rw [HSN.out]; exact HO2.out, HNZ.out, HB2.out⟩
          case measure => simp [intOf]; omega
      · obtain ⟨x, hx⟩ : ∃ x, x = v % 256 := ⟨_, rfl⟩
        have hbx : byV V k = x := by rw [hbyk, if_neg (by omega), hx]
        have hsh : IntKind.u8.wrap ((v : Int)) = (x : Int) := by rw [hx]; exact shr_odd v
        have e3 : (k : Int) % 2 = 1 := by omega
        have hx256 : x < 256 := by omega
        have HBX := Lib.hid hbx
        clear hx hbyk hbx
        by_cases hz0 : x = 0
        · have t0 : ((x : Int) == 0) = true := by simp [hz0]
          have htx : textK V = if keyB L = true then L else [] := by
            have := tx_all V k (by rw [← HN.out]; omega) hnz (fun _ => by rw [HBX.out]; exact hz0)
            unfold textK
            rw [this, hL]
          have hz : ∃ k, L = (List.range k).map (byV V) := ⟨k, hL⟩
          have hL33 : L.length ≤ 33 := by omega
          have hown := ho
          clear hmin2 hL hnz hz0
          subst hlL
          clear HBX
          have HK := sl_strN (hby' L hz)
          have IK0 := isKey_any (strN L) wo (by rw [strN_size]; unfold maxLen; omega)
          rw [HK] at IK0
          have IK := Lib.hid IK0
          have hcv := conv_bys (cap := vc) hbys
          obtain ⟨T, hT⟩ : ∃ T, T = strN L := ⟨_, rfl⟩
          have HT := Lib.hid hT
          rw [← hT] at hcv IK
          have HX := Lib.hid htx
          have HBE := Lib.hid hbel
          clear IK0 HK hT htx hbel hbys ho hz hown
          cases hkb : keyB L with
          | true =>
            have FF := Lib.hid (FIN.out wo L T HT.out (by rw [HX.out, if_pos (by rw [hkb])]) HBE.out)
            rw [hkb] at IK
            clear hkb
            go_wp2_with fail
            refine IK.out.mono ?_
            rintro e w5 ⟨rfl, e5⟩
            rw [e5]
            clear e5
            go_wp2_with fail
            exact FF.out
          | false =>
            have FF := Lib.hid (FIN.out wo [] ⟨#[]⟩ rfl (by rw [HX.out, if_neg (by rw [hkb]; simp)]) HBE.out)
            rw [hkb] at IK
            clear hkb
            go_wp2_with fail
            refine IK.out.mono ?_
            rintro e w5 ⟨rfl, e5⟩
            rw [e5]
            clear e5
            go_wp2_with fail
            exact FF.out
        · have t0 : ((x : Int) == 0) = false := by simp [hz0]
          have hsn := range_snoc V k
          rw [HBX.out] at hsn
          have hnz2 : ∀ y ∈ (List.range (k + 1)).map (byV V), y ≠ 0 := by
            intro y hy
            rw [hsn] at hy
            rcases List.mem_append.1 hy with q | q
            · exact hnz y q
            · simp at q; rw [q]; exact hz0
          have HO := Lib.hid ho
          have HB := Lib.hid hbel
          have HSN := Lib.hid hsn
          have HNZ := Lib.hid hnz2
          clear hmin2 ho hbel hsn hnz2 hnz hbys hL hlL hz0 HBX
          go_wp2_with (at_builtin; refine wpList_append_bys rfl (.tmp 29) (.tmp 31) rfl w.heap.size _ ?hBo (.slice va k vc) k ((List.range k).map (byV V)) rfl ?owno (some ⟨wo.heap.size, 0, none⟩) 1 1 [x] rfl ?hbyo ?nilo ?leo ?_)
          case hBo => simp; have := HB.out.size; omega
          case owno => exact World.ownsRow.alloc HO.out _
          case hbyo => exact bys_block [x] (by unfold maxLen; simp) (by simpa using hx256) (heap_alloc_new wo (.cells #[.int .u8 (x : Int)] 5 (0, 0)))
          case nilo => exact fun e => by cases e
          case leo => omega
          intro v2 w2 ho2 hg2 _ _
          have hb2 : Below w.heap.size w w2 := (HB.out.alloc HB.out.size _).grown hg2 (by simp; have := HB.out.size; omega) (fun q hq => (World.ownsRow.lt HO.out q hq).1)
          obtain ⟨va2, vc2, rfl⟩ := own_form ho2
          have HO2 := Lib.hid ho2
          have HB2 := Lib.hid hb2
          clear ho2 hg2 hb2
          go_wp2_with fail
          go_roundw
          case rel => exact ⟨k + 1, va2, vc2, by omega, by go_num, rfl, by rw [HSN.out]; exact HO2.out, HNZ.out, HB2.out⟩
          case measure => simp [intOf]; omega
    · obtain rfl : k = N := by omega
      have htx : textK V = if keyB L = true then L else [] := by
        have := tx_all V k (by rw [HN.out]; exact Nat.le_refl _) hnz (fun e => by rw [HN.out] at e; omega)
        unfold textK
        rw [this, hL]
      have hz : ∃ k, L = (List.range k).map (byV V) := ⟨k, hL⟩
      have hL33 : L.length ≤ 33 := by omega
      have hown := ho
      clear hmin2 hL hnz
      subst hlL
      have HK := sl_strN (hby' L hz)
      have IK0 := isKey_any (strN L) wo (by rw [strN_size]; unfold maxLen; omega)
      rw [HK] at IK0
      have IK := Lib.hid IK0
      have hcv := conv_bys (cap := vc) hbys
      obtain ⟨T, hT⟩ : ∃ T, T = strN L := ⟨_, rfl⟩
      have HT := Lib.hid hT
      rw [← hT] at hcv IK
      have HX := Lib.hid htx
      have HBE := Lib.hid hbel
      clear IK0 HK hT htx hbel hbys ho hz hown
      cases hkb : keyB L with
      | true =>
        have FF := Lib.hid (FIN.out wo L T HT.out (by rw [HX.out, if_pos (by rw [hkb])]) HBE.out)
        rw [hkb] at IK
        clear hkb
        go_wp2_with fail
        refine IK.out.mono ?_
        rintro e w5 ⟨rfl, e5⟩
        rw [e5]
        clear e5
        go_wp2_with fail
        exact FF.out
      | false =>
        have FF := Lib.hid (FIN.out wo [] ⟨#[]⟩ rfl (by rw [HX.out, if_neg (by rw [hkb]; simp)]) HBE.out)
        rw [hkb] at IK
        clear hkb
        go_wp2_with fail
        refine IK.out.mono ?_
        rintro e w5 ⟨rfl, e5⟩
        rw [e5]
        clear e5
        go_wp2_with fail
        exact FF.out
end Go.Proofs.YtogpbclfdnijpaaDoor
