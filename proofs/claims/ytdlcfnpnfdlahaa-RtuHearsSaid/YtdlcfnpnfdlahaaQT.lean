/- The document's sums: contracts. -/
import Derived.Test.YtdlcfnpnfdlahaaQBytes
import Derived.Laws.AppendOwnNone
namespace Go.Proofs.Ytdlcfnpnfdlahaa
set_option linter.unusedVariables false
open Go.ChangeShapes Go.WideShapes Go.ChangeAt Go.RowKit

theorem bys_newq {w : World} {b : Nat} {t : TypeId} {m : Nat × Nat} (L : List Nat) (hl : L.length ≤ maxLen) (h : w.heap[b]? = some (.cells (vals L).toArray t m)) : RowB w (some ⟨b, 0, none⟩) L.length (fun i => L.getD i 0) := by
  refine ⟨hl, .inr ⟨b, 0, rfl, ?_, fun i hi => ?_⟩⟩
  · rcases Nat.lt_or_ge b w.heap.size with h' | h'
    · exact h'
    · simp [Array.getElem?_eq_none h'] at h
  · simp only [World.cell?, h, Nat.zero_add]
    simp [vals, List.getD, hi]


set_option maxRecDepth 100000 in
set_option maxHeartbeats 2000000 in
theorem rsum_any (a : Option Addr) (len cap : Nat) (f : Nat → Nat) (w : World) (h : RowB w a len f) (hf : ∀ i, i < len → f i < 256) :
    Calls Try.prog 27 #[.slice a len cap] w fun e w' => e = .returned (.int .u16 ((crcF f len : Nat) : Int)) ∧ w = w' := by
  have hl := h.le
  unfold maxLen at hl
  have HR := Lib.hid h
  have HF := Lib.hid hf
  clear h hf
  go_enter Try.func27, Try.ntmps27
  go_wp2_with fail
  go_loop [3, 4, 5, 6] (fun t i _ _ => ∃ k : Nat, k ≤ len ∧ i = .int .i64 k ∧ t = .int .u16 ((crcF f k : Nat) : Int)) (fun _ i _ _ => len - (intOf i).toNat)
  case atStart => exact ⟨0, Nat.zero_le _, rfl, rfl⟩
  case round =>
    obtain ⟨k, hk, rfl, rfl⟩ := hrel
    by_cases hlt : k < len
    · have hx := crcF_lt f k (fun i hi => HF.out i (by omega))
      have hfk := HF.out k hlt
      obtain ⟨b, off, ha, _, hc⟩ := HR.out.pos (by omega)
      have hc0 := hc k hlt
      clear hc
      subst ha
      have hxor := bits_xor_u16_nat (crcF f k) (f k) hx (by omega)
      have hx0 : crcF f k ^^^ f k < 65536 := Nat.xor_lt_two_pow (n := 16) hx (by omega)
      have hfin : crcF f (k + 1) = halves 8 (crcF f k ^^^ f k) := rfl
      generalize crcF f k ^^^ f k = y at hxor hx0 hfin
      generalize crcF f k = x at hx hxor ⊢
      have HFIN := Lib.hid hfin
      clear hfin
      generalize f k = z at hc0 hfk hxor
      go_wp2_with fail
      go_loop [3, 5, 6] (fun t j _ => ∃ m : Nat, m ≤ 8 ∧ j = .int .i64 m ∧ t = .int .u16 ((halves m y : Nat) : Int)) (fun _ j _ => 8 - (intOf j).toNat)
      case atStart => exact ⟨0, by omega, rfl, by simp [halves]⟩
      case round =>
        obtain ⟨m, hm, rfl, rfl⟩ := hrel
        by_cases hlt2 : m < 8
        · have hq := halves_lt m y hx0
          have hadd : halves (m + 1) y = half (halves m y) := halves_succ m y
          generalize halves m y = q at hq hadd ⊢
          have hxx := bits_xor_u16_nat (q / 2) 40961 (by omega) (by omega)
          have hxx' : bits .xor .u16 ((q : Int) / 2) 40961 = ((q / 2 ^^^ 40961 : Nat) : Int) := by
            rw [show ((q : Int) / 2) = ((q / 2 : Nat) : Int) by simp]; exact hxx
          clear hxx
          have HADD := Lib.hid hadd
          clear hadd
          by_cases hodd : q % 2 = 1
          · have t1 : ((q : Int) % 2 == 1) = true := by simp; omega
            have t2 : half q = q / 2 ^^^ 40961 := by unfold half; rw [if_pos hodd]
            have T2 := Lib.hid t2
            clear t2 hodd
            generalize q / 2 ^^^ 40961 = r at hxx' T2
            go_wp2_with fail
            go_round
            case rel => exact ⟨m + 1, by omega, by go_num, by rw [HADD.out, T2.out]⟩
            case measure => simp [intOf]; omega
          · have t1 : ((q : Int) % 2 == 1) = false := by simp; omega
            have t2 : ((half q : Nat) : Int) = (q : Int) / 2 := by unfold half; rw [if_neg hodd]; simp
            have T2 := Lib.hid t2
            clear t2 hodd hxx'
            go_wp2_with fail
            go_round
            case rel => exact ⟨m + 1, by omega, by go_num, by rw [HADD.out, T2.out]⟩
            case measure => simp [intOf]; omega
        · have hm' : m = 8 := by omega
          subst hm'
          go_wp2_with fail
          go_round
          case rel => exact ⟨k + 1, by omega, by go_num, by rw [HFIN.out]⟩
          case measure => simp [intOf]; omega
    · have hk' : len = k := by omega
      subst hk'
      go_wp2_with fail
      go_ret
      exact ⟨rfl, rfl⟩

/-- Bytes that came in, or nothing, behind a row that the call owns. -/
theorem wpList_append_bysq {ops : Array Oper} {rest : List Oper} {o : Oper} {ac : Act} {Q : Exit → Act → World → Prop} (hgd : o.guard = none) (s x : Operand)
    (ho : o.op = .call { callee := .builtin .append, args := #[s, x], argTypes := #[22, 22] }) (B : Nat) (w : World) (hB : B ≤ w.heap.size) (g c n : Nat) (L : List Nat) (hn : n = L.length) (hs : ac.eval s = .slice (some ⟨g, 0, none⟩) n c)
    (hown : w.ownsRow B 5 1 (.slice (some ⟨g, 0, none⟩) n c) n (vals L)) (a : Option Addr) (len cap : Nat) (f : Nat → Nat) (hx : ac.eval x = .slice a len cap) (hb : RowB w a len f) (hnil : a = none → len = 0 ∧ cap = 0) (hle : n + len ≤ 200000)
    (h : ∀ g' c' w', w'.ownsRow B 5 1 (.slice (some ⟨g', 0, none⟩) (n + len) c') (n + len) (vals (L ++ bl f len)) → w.grownBy w' (some g) → wpList Try.prog ops Q rest (ac.put o.dst (.slice (some ⟨g', 0, none⟩) (n + len) c')) w') :
    wpList Try.prog ops Q (o :: rest) ac w := by
  obtain ⟨ti, hi, hz0, hz1, hz2⟩ := info_parts info5q
  cases a with
  | none =>
    obtain ⟨rfl, rfl⟩ := hnil rfl
    refine wpList_append_own_none hgd s x 22 ho B 5 ti 1 Try.underlying22 hi _ n (vals L) hs hown hx ?_
    have := h g c w (by simpa [bl] using hown) ⟨rfl, rfl, rfl, Nat.le_refl _, fun _ _ _ => rfl⟩
    simpa using this
  | some ad =>
    have hc : ∀ j u, (vals (bl f len))[j]? = some u → w.cell? (ad.add j) = some u := by
      intro j u hu
      have hj : j < len := by
        have := (List.getElem?_eq_some_iff.1 hu).1
        rw [vals_len, bl_len] at this
        exact this
      obtain ⟨b, off, ha, _, hcc⟩ := hb.pos (by omega)
      simp at ha
      subst ha
      have h2 : (vals (bl f len))[j]? = some (.int .u8 ((f j : Nat) : Int)) := by simp [vals, bl, hj]
      rw [h2] at hu
      simp at hu
      subst hu
      rw [addr_add_noneq]
      exact hcc j hj
    refine wpList_append_own _ hgd s x 22 ho B 5 ti (.int .u8 0) 1 1 Try.underlying22 hi hz0 hz1 hz2 rfl (by decide) _ n (vals L) hs hown ad len cap (vals (bl f len)) hx (by rw [vals_len, bl_len]; omega) hc (vals_one _) (by unfold maxLen; omega) (by omega) hB ?_
    intro v' w' hown' hg hnn
    obtain ⟨q1, ⟨q2, q3⟩ | ⟨g', cap', cur', hv', hrest⟩⟩ := hown'
    · have := (hnn.1 q2).1
      simp at this
    · subst hv'
      refine h g' cap' w' ?_ hg
      rw [vals_app]
      exact ⟨q1, .inr ⟨g', cap', cur', rfl, hrest⟩⟩

theorem own_newq {B : Nat} {w : World} (hB : B ≤ w.heap.size) : (w.alloc (.cells #[] 5 (0, 0))).ownsRow B 5 1 (.slice (some ⟨w.heap.size, 0, none⟩) 0 0) 0 (vals []) :=
  ⟨rfl, .inr ⟨w.heap.size, 0, #[], rfl, hB, heap_alloc_new w _, Nat.le_refl _, Nat.zero_le _, rfl, rfl⟩⟩

theorem own_bys {B : Nat} {w : World} {g c n : Nat} {L : List Nat} (hn : n = L.length) (h : w.ownsRow B 5 1 (.slice (some ⟨g, 0, none⟩) n c) n (vals L)) : RowB w (some ⟨g, 0, none⟩) n (fun i => L.getD i 0) := by
  subst hn
  exact OwnR.bys (cap := c) h

def RSealP (w : World) (f : Nat → Nat) (len : Nat) (e : Ending) (w' : World) : Prop :=
  ∃ g c, e = .returned (.slice (some ⟨g, 0, none⟩) (len + 2) c) ∧ RowB w' (some ⟨g, 0, none⟩) (len + 2) (sF f len) ∧ Below w.heap.size w w'

set_option maxRecDepth 100000 in
set_option maxHeartbeats 2000000 in
theorem rseal_any (a : Option Addr) (len cap : Nat) (f : Nat → Nat) (w : World) (h : RowB w a len f) (hf : ∀ i, i < len → f i < 256) (hn : a = none → len = 0 ∧ cap = 0) (hlen : len ≤ 100000) :
    Calls Try.prog 26 #[.slice a len cap] w (RSealP w f len) := by
  have hcr := crcF_lt f len hf
  have H := Lib.hid h
  have HF := Lib.hid hf
  have HN := Lib.hid hn
  clear h hf hn
  go_enter Try.func26, Try.ntmps26
  go_wp2_with fail
  refine (rsum_any a len cap f _ H.out HF.out).mono ?_
  rintro e w1 ⟨rfl, rfl⟩
  have hb1 : Below w.heap.size w (w.alloc (.cells #[] 5 (0, 0))) := (Below.refl _ _).alloc (Nat.le_refl _) _
  go_wp2_with (at_builtin; refine wpList_append_bysq rfl (.tmp 6) (.tmp 7) rfl w.heap.size _ (by simp) w.heap.size 0 0 [] rfl rfl (own_newq (Nat.le_refl _)) a len cap f rfl (H.out.below hb1) HN.out (by omega) ?_)
  intro g1 c1 w2 ho2 hg2
  have hb2 : Below w.heap.size w w2 := hb1.grown hg2 (by simp) (fun k hk => by simp at hk; omega)
  have HO2 := Lib.hid ho2
  have HB2 := Lib.hid hb2
  have hs2 := hb2.size
  have hg1 := (ho2.lt g1 rfl).1
  clear ho2 hb2 hg2 hb1
  generalize hcc : crcF f len = c at hcr ⊢
  have HCC := Lib.hid hcc
  clear hcc
  have hlast : ∀ W : World, W = w2.alloc (.cells #[.int .u8 ((c : Int) % 256), .int .u8 ((c : Int) / 256)] 5 (0, 0)) → RowB W (some ⟨w2.heap.size, 0, none⟩) 2 (fun i => [c % 256, c / 256].getD i 0) := by
    intro W hW
    have : RowB W (some ⟨w2.heap.size, 0, none⟩) [c % 256, c / 256].length (fun i => [c % 256, c / 256].getD i 0) :=
      bys_newq (t := 5) (m := (0, 0)) [c % 256, c / 256] (by simp [maxLen]) (by
        rw [hW]
        have := heap_alloc_new w2 (.cells #[.int .u8 ((c : Int) % 256), .int .u8 ((c : Int) / 256)] 5 (0, 0))
        rw [this]
        simp [vals])
    exact this
  have HLAST := Lib.hid hlast
  clear hlast
  go_wp2_with (at_builtin; refine wpList_append_bysq rfl (.tmp 8) (.tmp 14) rfl w.heap.size _ (by simp; omega) g1 c1 len (bl f len) (bl_len f len).symm rfl (HO2.out.alloc _) (some ⟨w2.heap.size, 0, none⟩) 2 2 (fun i => [c % 256, c / 256].getD i 0) rfl (HLAST.out _ rfl) (fun e => by cases e) (by omega) ?_)
  intro g2 c2 w3 ho3 hg3
  have hb3 : Below w.heap.size w w3 := (HB2.out.alloc hs2 _).grown hg3 (by simp; omega) (fun k hk => by simp at hk; omega)
  have hfin : RSealP w f len (.returned (.slice (some ⟨g2, 0, none⟩) (len + 2) c2)) w3 := by
    refine ⟨g2, c2, rfl, ?_, hb3⟩
    have hL : bl f len ++ bl (fun i => [c % 256, c / 256].getD i 0) 2 = sealL f len := by
      unfold sealL
      rw [HCC.out]
      rfl
    have ho4 : w3.ownsRow w.heap.size 5 1 (.slice (some ⟨g2, 0, none⟩) (len + 2) c2) (len + 2) (vals (sealL f len)) := by rw [← hL]; exact ho3
    exact own_bys (by rw [sealL_len]) ho4
  have HFIN := Lib.hid hfin
  clear hfin ho3 hb3 hg3 HO2 HB2 HLAST
  go_wp2_with fail
  go_ret
  exact HFIN.out

def ROpenP (w : World) (f : Nat → Nat) (len : Nat) (e : Ending) (w' : World) : Prop :=
  Below w.heap.size w w' ∧ (if okF f len then ∃ g c, e = .returned (.tuple #[.slice (some ⟨g, 0, none⟩) (len - 2) c, .bool true]) ∧ RowB w' (some ⟨g, 0, none⟩) (len - 2) (fun i => (bl f (len - 2)).getD i 0) else e = .returned (.tuple #[.slice none 0 0, .bool false]))

theorem ropen_short (a : Option Addr) (len cap : Nat) (f : Nat → Nat) (w : World) (h : len < 2) :
    Calls Try.prog 23 #[.slice a len cap] w (ROpenP w f len) := by
  have hp : ROpenP w f len (.returned (.tuple #[.slice none 0 0, .bool false])) w := by
    refine ⟨Below.refl _ _, ?_⟩
    rw [if_neg (by simp [okF]; omega)]
  have HP := Lib.hid hp
  clear hp
  go_enter Try.func23, Try.ntmps23
  go_wp2_with fail
  go_ret2
  exact HP.out

set_option maxRecDepth 100000 in
set_option maxHeartbeats 2000000 in
theorem ropen_long (b off n cap : Nat) (f : Nat → Nat) (w : World) (h : RowB w (some ⟨b, off, none⟩) (n + 2) f) (hf : ∀ i, i < n + 2 → f i < 256) (hcap : n + 2 ≤ cap) (hcm : cap ≤ maxLen) (hlen : n ≤ 100000) :
    Calls Try.prog 23 #[.slice (some ⟨b, off, none⟩) (n + 2) cap] w (ROpenP w f (n + 2)) := by
  have hcr := crcF_lt f n (fun i hi => hf i (by omega))
  unfold maxLen at hcm
  obtain ⟨b', off', ha, hlt, hc⟩ := h.pos (by omega)
  simp at ha
  obtain ⟨rfl, rfl⟩ := ha
  have hx0 := hf n (by omega)
  have hx1 := hf (n + 1) (by omega)
  have hok : okF f (n + 2) = (decide (f n = crcF f n % 256) && decide (f (n + 1) = crcF f n / 256)) := by simp [okF]
  have H := Lib.hid h
  have HF := Lib.hid hf
  have e0 := hc n (by omega)
  have e1 := hc (n + 1) (by omega)
  have HOK := Lib.hid hok
  clear h hf hc hok
  go_enter Try.func23, Try.ntmps23
  go_wp2_with fail
  refine (rsum_any (some ⟨b, off, none⟩) n cap f _ (H.out.cut (by omega)) (fun i hi => HF.out i (by omega))).mono ?_
  rintro e w1 ⟨rfl, rfl⟩
  generalize hcc : crcF f n = c at hcr ⊢
  rw [hcc] at HOK
  clear hcc
  have hq : okF f (n + 2) = (decide (f n = c % 256) && decide (f (n + 1) = c / 256)) := HOK.out
  clear HOK
  generalize hxx : f n = x at hx0 e0 hq
  generalize hyy : f (n + 1) = y at hx1 e1 hq
  have HQ := Lib.hid hq
  clear hxx hyy hq
  have hno : okF f (n + 2) = false → ROpenP w f (n + 2) (.returned (.tuple #[.slice none 0 0, .bool false])) w := by
    intro h
    exact ⟨Below.refl _ _, by rw [if_neg (by simp [h])]⟩
  have hb1 : Below w.heap.size w (w.alloc (.cells #[] 5 (0, 0))) := (Below.refl _ _).alloc (Nat.le_refl _) _
  by_cases h1 : x = c % 256
  · have t1' : ((x : Int) != (c : Int) % 256) = false := by rw [h1]; simp
    by_cases h2 : y = c / 256
    · have t2' : ((y : Int) != (c : Int) / 256) = false := by rw [h2]; simp
      have hyes : okF f (n + 2) = true := by rw [HQ.out, h1, h2]; simp
      have HY := Lib.hid hyes
      clear hno hyes h1 h2
      go_wp2_with (at_builtin; refine wpList_append_bysq rfl (.tmp 34) (.tmp 37) rfl w.heap.size _ (by simp) w.heap.size 0 0 [] rfl rfl (own_newq (Nat.le_refl _)) (some ⟨b, off, none⟩) n cap f rfl ((H.out.cut (by omega)).below hb1) (fun e => by cases e) (by omega) ?_)
      intro g1 c1 w2 ho2 hg2
      have hb2 : Below w.heap.size w w2 := hb1.grown hg2 (by simp) (fun k hk => by simp at hk; omega)
      have hfin : ROpenP w f (n + 2) (.returned (.tuple #[.slice (some ⟨g1, 0, none⟩) n c1, .bool true])) w2 := by
        refine ⟨hb2, ?_⟩
        rw [if_pos HY.out]
        exact ⟨g1, c1, rfl, own_bys (bl_len f n).symm ho2⟩
      have HFIN := Lib.hid hfin
      clear hfin ho2 hg2 hb2 hb1
      go_wp2_with fail
      go_ret2
      exact HFIN.out
    · have t2' : ((y : Int) != (c : Int) / 256) = true := by simp; omega
      have HNO := Lib.hid (hno (by rw [HQ.out]; simp [h2]))
      clear hno hb1
      go_wp2_with fail
      go_ret2
      exact HNO.out
  · have t1' : ((x : Int) != (c : Int) % 256) = true := by simp; omega
    have HNO := Lib.hid (hno (by rw [HQ.out]; simp [h1]))
    clear hno hb1
    go_wp2_with fail
    go_ret2
    exact HNO.out
end Go.Proofs.Ytdlcfnpnfdlahaa
