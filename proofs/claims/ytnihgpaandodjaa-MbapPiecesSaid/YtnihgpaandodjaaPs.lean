/- MbapPieces. -/
import Derived.Test.YtnihgpaandodjaaBk
namespace Go.Proofs.Ytnihgpaandodjaa
set_option linter.unusedVariables false
open Go.ChangeShapes Go.WideShapes Go.ChangeAt Go.RowKit
attribute [local go_sem ↓] Go.wp_at_zero Go.wp_at_succ

theorem acl_one' (F : List Fd) : ∀ u ∈ acl F, u.oneCell' = true := by
  intro u hu
  simp only [acl, List.mem_flatMap] at hu
  obtain ⟨f, _, hu⟩ := hu
  simp [fcl] at hu
  rcases hu with rfl | rfl | rfl <;> rfl
theorem wpList_append_acl {ops : Array Oper} {rest : List Oper} {o : Oper} {ac : Act} {Q : Exit → Act → World → Prop} (hgd : o.guard = none) (s x : Operand)
    (ho : o.op = .call { callee := .builtin .append, args := #[s, x], argTypes := #[28, 28] }) (B : Nat) (w : World) (hB : B ≤ w.heap.size) (v : Value) (n : Nat) (L : List Value) (hs : ac.eval s = v)
    (hown : w.ownsRow B 25 3 v n L) (b2 : Nat) (vx : Value) (F : List Fd) (m : Nat) (hx : ac.eval x = vx) (hm : m = F.length) (hxo : w.ownsRow b2 25 3 vx F.length (acl F)) (hle : n + m ≤ 1000000)
    (h : ∀ v' w', w'.ownsRow B 25 3 v' (n + m) (L ++ acl F) → w.grownBy w' v.ownBlock → wpList Try.prog ops Q rest (ac.put o.dst v') w') :
    wpList Try.prog ops Q (o :: rest) ac w := by
  obtain ⟨ti, hi, hz0, hz1, hz2⟩ := info_parts info25
  subst hm
  obtain ⟨hl, ⟨hv, h0⟩ | ⟨g, cap, cur, hv, hg, hb, hlc, hmx, hsz, ht⟩⟩ := hxo
  · have hF : F = [] := List.eq_nil_of_length_eq_zero h0
    subst hF
    refine wpList_append_own_none hgd s x 28 ho B 25 ti 3 Try.underlying28 hi v n L hs hown (hx.trans hv) ?_
    exact h v w (by simpa [acl] using hown) ⟨rfl, rfl, rfl, Nat.le_refl _, fun _ _ _ => rfl⟩
  · refine wpList_append_own_at _ hgd s x 28 ho B 25 ti _ 3 32 Try.underlying28 hi hz0 hz1 hz2 rfl (by decide) v n L hs hown ⟨g, 0, none⟩ F.length cap (acl F) (hx.trans hv) (acl_len F) ?_ (acl_one' F) (by unfold maxLen; omega) (by omega) hB ?_
    · intro j u hu
      rw [addr_add_none, Nat.zero_add]
      rw [← ht] at hu
      have hj := (List.getElem?_eq_some_iff.1 hu).1
      rw [List.length_take] at hj
      rw [List.getElem?_take_of_lt (by omega)] at hu
      simpa [World.cell?, hb] using hu
    · intro v' w' hown' hg' _ _
      exact h v' w' hown' hg'
theorem Lie.grow5 {s s' n : Nat} {F : List Fd} {W w1 : World} {v : Value} {L : List Value} (h : Lie s F W) (hlt : ∀ f ∈ F, f.g < s') (ho : W.ownsRow s' 5 1 v n L) (hg : W.grownBy w1 v.ownBlock) : Lie s F w1 := fun f hf => by
  obtain ⟨h1, h2, h3⟩ := h f hf
  refine ⟨h1, h2, (hg.block _ (blk_lt h3) (fun e => ?_)).trans h3⟩
  have h4 := (ho.lt _ e.symm).1
  have h5 := hlt f hf
  omega
theorem Lie.grow25 {s b n : Nat} {F : List Fd} {W w1 : World} {v : Value} {L : List Value} (h : Lie s F W) (ho : W.ownsRow b 25 3 v n L) (hg : W.grownBy w1 v.ownBlock) : Lie s F w1 := fun f hf => by
  obtain ⟨h1, h2, h3⟩ := h f hf
  refine ⟨h1, h2, (hg.block _ (blk_lt h3) (fun e => ?_)).trans h3⟩
  rcases ho.2 with ⟨rfl, _⟩ | ⟨g, cap, cur, hv, _, hb, _⟩
  · simp [Value.ownBlock] at e
  · subst hv
    simp [Value.ownBlock] at e
    subst e
    rw [hb] at h3
    simp at h3
/-- What is held between two rounds: p bytes have been taken; G are the frames, M is what is left. -/
def Held (s : Nat) (B : List Nat) (p : Nat) (E : Nat) (vl vg : Value) (W : World) : Prop :=
  ∃ (G : List Fd) (M : List Nat) (s' : Nat), B.take p = fb G ++ M ∧ firstN M = 0 ∧ firstE M = E ∧ Lie s G W ∧ (∀ f ∈ G, f.g < s') ∧ s ≤ s' ∧ s' ≤ W.heap.size ∧ W.ownsRow s 25 3 vg G.length (acl G) ∧ W.ownsRow s' 5 1 vl M.length (bv M)
theorem Held.end {s p E : Nat} {B : List Nat} {vl vg : Value} {W : World} (h : Held s B p E vl vg W) (hx : E ≠ 0 ∨ p = B.length) : ∃ (G : List Fd) (R : List Nat), B = fb G ++ R ∧ firstN R = 0 ∧ firstE R = E ∧ Lie s G W ∧ W.ownsRow s 25 3 vg G.length (acl G) := by
  obtain ⟨G, M, s', h1, h2, h3, h4, _, _, _, h8, _⟩ := h
  have hB : B = fb G ++ (M ++ B.drop p) := by rw [← List.append_assoc, ← h1, List.take_append_drop]
  rcases hx with hx | hx
  · obtain ⟨m1, _, m3⟩ := (head_math M (B.drop p)).1 (by rw [h3]; exact hx)
    exact ⟨G, _, hB, m3, m1.trans h3, h4, h8⟩
  · have hd : B.drop p = [] := List.drop_of_length_le (by omega)
    rw [hd, List.append_nil] at hB
    exact ⟨G, M, hB, h2, h3, h4, h8⟩
theorem held_start (B : List Nat) (w : World) : Held w.heap.size B 0 0 (.slice none 0 0) (.slice none 0 0) w :=
  ⟨[], [], w.heap.size, by simp [fb], firstN_nil, firstE_nil, (fun f hf => by simp at hf), (fun f hf => by simp at hf), Nat.le_refl _, Nat.le_refl _, ⟨rfl, .inl ⟨rfl, rfl⟩⟩, own_none⟩
theorem held_mk {s s2 p E Q m : Nat} {B M1 R1 : List Nat} {G F1 : List Fd} {w7 w8 : World} {v7 v8 : Value} (hT : B.take (p + Q) = fb G ++ M1) (hL1 : M1 = fb F1 ++ R1) (hN : firstN R1 = 0) (hE : firstE R1 = E) (l1 : Lie s G w7) (l2 : Lie s2 F1 w7) (hs2 : s ≤ s2) (hs7 : s ≤ w7.heap.size)
    (o7 : w7.ownsRow s 25 3 v7 (G.length + F1.length) (acl G ++ acl F1)) (o8 : w8.ownsRow w7.heap.size 5 1 v8 m (bv R1)) (hm : m = R1.length) (hg8 : (w7.alloc (.cells #[] 5 (0, 0))).grownBy w8 (Value.slice (some ⟨w7.heap.size, 0, none⟩) 0 0).ownBlock) : Held s B (p + Q) E v8 v7 w8 := by
  have hlie : Lie s (G ++ F1) w7 := fun f hf => by
    rcases List.mem_append.1 hf with h | h
    · exact l1 f h
    · obtain ⟨q1, q2, q3⟩ := l2 f h
      exact ⟨q1, by omega, q3⟩
  have hlt : ∀ f ∈ G ++ F1, f.g < w7.heap.size := fun f hf => blk_lt (hlie f hf).2.2
  have hnew := own_new (B := w7.heap.size) (w := w7) (Nat.le_refl _)
  refine ⟨G ++ F1, R1, w7.heap.size, by rw [hT, hL1, fb_app, List.append_assoc], hN, hE, (hlie.cs (Cs.below (alB _ _))).grow5 hlt hnew hg8, hlt, hs7, ?_, ?_, ?_⟩
  · have := hg8.size
    simp at this
    omega
  · rw [List.length_append, acl_app]
    exact own_grow hnew (o7.alloc _) (by decide) hg8
  · rw [← hm]; exact o8
theorem firstE_le (M : List Nat) : firstE M = 0 ∨ firstE M = 31 := by unfold firstE; split <;> simp
set_option maxRecDepth 100000 in
set_option maxHeartbeats 16000000 in
theorem pieces_walk (a : Option Addr) (len cap : Nat) (L : List Nat) (b : Option Addr) (len2 cap2 : Nat) (Z : List Nat) (w : World) (h : ArgB w a len cap L) (h2 : ArgB w b len2 cap2 Z) :
    Calls Try.prog 5 #[.slice a len cap, .slice b len2 cap2] w (TrueP w) := by
  have hle := h.row.le
  have hle2 := h2.row.le
  unfold maxLen at hle hle2
  have AA := Lib.hid h
  have ZZ := Lib.hid h2
  clear h h2
  go_enter Try.func5, Try.ntmps5
  go_wp2_with fail
  refine (head_any w).mono ?_
  rintro e w1 ⟨rfl, b1⟩
  have B1 := Lib.hid b1
  have s1 := b1.size
  clear b1
  by_cases hg : 9000 < len
  · have d1 : decide ((9000 : Int) < (len : Int)) = true := by simp; omega
    go_wp2_with fail
    go_ret
    exact ⟨rfl, B1.out⟩
  have d1 : decide ((9000 : Int) < (len : Int)) = false := by simp; omega
  by_cases hg2 : 300 < len2
  · have d2 : decide ((300 : Int) < (len2 : Int)) = true := by simp; omega
    go_wp2_with fail
    go_ret
    exact ⟨rfl, B1.out⟩
  have d2 : decide ((300 : Int) < (len2 : Int)) = false := by simp; omega
  have A1 := Lib.hid (AA.out.below B1.out)
  have Z1 := Lib.hid (ZZ.out.below B1.out)
  clear AA ZZ
  go_wp2_with fail
  go_loopw [6, 7, 8, 9, 10] (fun vl vg pv ev iv wr => ∃ k p E : Nat, k ≤ len2 + 1 ∧ p ≤ len ∧ (k = len2 + 1 → p = len) ∧ iv = .int .i64 k ∧ pv = .int .i64 p ∧ ev = .int .i64 E ∧ Held w1.heap.size L p E vl vg wr ∧ Below w1.heap.size w1 wr) (fun _ _ _ _ iv _ => len2 + 1 - (intOf iv).toNat)
  case atStart => exact ⟨0, 0, 0, Nat.zero_le _, Nat.zero_le _, by omega, rfl, rfl, rfl, held_start L w1, Below.refl _ _⟩
  case round =>
    obtain ⟨wo, rfl⟩ : ∃ wo : World, wo = wr := ⟨_, rfl⟩
    obtain ⟨k, p, E, hk, hp, hkp, rfl, rfl, rfl, hheld, hbe⟩ := hrel
    by_cases hgo : k ≤ len2 ∧ E = 0
    · obtain ⟨hk2, rfl⟩ := hgo
      obtain ⟨G, M, s', hT, hN, hE, hlie, hlt, hss, hsw, hog, hol⟩ := hheld
      have HT := Lib.hid hT
      have HN := Lib.hid hN
      have HE := Lib.hid hE
      have HLIE := Lib.hid hlie
      have HLT := Lib.hid hlt
      have OG := Lib.hid hog
      have OL := Lib.hid hol
      have BE := Lib.hid hbe
      have sw := hbe.size
      have AW := Lib.hid (A1.out.below hbe)
      have hM : fb G ++ M = L.take p := hT.symm
      have hMl : M.length ≤ p := by have := congrArg List.length hT; rw [List.length_append, List.length_take] at this; omega
      have hGl : G.length ≤ p := by have := congrArg List.length hT; have := fb_count G; rw [List.length_append, List.length_take] at *; omega
      clear hT hN hE hlie hlt hog hol hbe hkp hM
      have t1 : decide ((k : Int) ≤ (len2 : Int)) = true := by simp; omega
      by_cases hlast : k < len2
      · have hY := Z1.out.below BE.out
        obtain ⟨zb, zo, hza, _, hzc⟩ := hY.row.pos (by omega)
        subst hza
        have hz := hzc k hlast
        have hzl := getD_lt hY.row.by' k
        generalize Z.getD k 0 = z at *
        clear hzc hY
        have t2 : decide ((k : Int) < (len2 : Int)) = true := by simp; omega
        have i1 : (0 : Int) ≤ (k : Int) := by omega
        have i2 : (k : Int) < (len2 : Int) := by omega
        obtain ⟨r, hr⟩ : ∃ r : Nat, (len : Int) - (p : Int) = (r : Int) := ⟨len - p, by omega⟩
        have hcl := AW.out.le
        have hcm := AW.out.mx
        unfold maxLen at hcm
        by_cases hce : cap = p
        · have hr0 : r = 0 := by omega
          subst hr0
          subst hce
          by_cases hz0 : z = 0
          · subst hz0
            have HC0 : Hid (L.take (cap + 0) = fb G ++ (M ++ [])) := Lib.hid (by rw [List.append_nil, Nat.add_zero]; exact HT.out)
            have CB : Hid (Bys wo a 0 ([] : List Nat)) := Lib.hid (Bys.nil _ _)
            have CN : Hid (a = none → (0 : Nat) = 0) := Lib.hid (fun _ => rfl)
            obtain ⟨C, hC⟩ : ∃ C : List Nat, C = [] := ⟨_, rfl⟩
            rw [← hC] at HC0 CB
            have hCl : C.length = 0 := by rw [hC]; rfl
            clear hC
            go_wp2_with (at_builtin; refine wpList_append_bys rfl (.tmp 53) (.tmp 59) rfl s' _ ?hB5_1 _ M.length M rfl ?own5_1 a 0 0 C ?hx5_1 ?hby5_1 ?nil5_1 ?le5_1 ?_)
            try case hx5_1 => simp only [Act.eval, Array.getD_eq_getD_getElem?, List.getElem?_toArray, List.getElem?_cons_zero, List.getElem?_cons_succ, Option.getD_some]; first | done | rw [Nat.add_sub_cancel_left] | simp
            try case hB5_1 => exact hsw
            case own5_1 => exact OL.out
            case hby5_1 => exact CB.out
            try case nil5_1 => first | exact CN.out | exact (fun e => by have h1 := AW.out.nil e; omega)
            case le5_1 => omega
            intro v5 w5 ho5 hg5 _ _
            obtain ⟨n5, hn5⟩ : ∃ n5, n5 = M.length := ⟨_, rfl⟩
            obtain ⟨M1, hM1⟩ : ∃ M1, M1 = M ++ C := ⟨_, rfl⟩
            rw [← hn5, ← hM1] at ho5
            rw [← hM1] at HC0
            have HCH := HC0
            have hM1l : M1.length = n5 := by rw [hM1, List.length_append]; omega
            have hM1b : ∀ b ∈ M1, b < 256 := fun b hb => by
              have hm : b ∈ L.take (cap + 0) := by rw [HCH.out]; simp [hb]
              exact AW.out.row.by' b (List.mem_of_mem_take hm)
            have L5 := Lib.hid (HLIE.out.grow5 HLT.out OL.out hg5)
            have G5 := Lib.hid (own_grow OL.out OG.out (by decide) hg5)
            have hb5 : Below w1.heap.size wo w5 := (Below.refl _ _).grown hg5 sw (fun q hq => by have := (OL.out.lt q hq).1; omega)
            have B5 := Lib.hid (BE.out.trans hb5)
            have s15 := B5.out.size
            have O5 := Lib.hid ho5
            obtain ⟨a5, c5, rfl, hv5, _⟩ := owns_arg ho5 hM1b
            have V5 := Lib.hid hv5
            have MB := Lib.hid hM1b
            have hn5' : n5 ≤ 9000 := by omega
            have HM1L := Lib.hid hM1l
            clear hn5 hM1l HC0 CB CN hCl hM1 ho5 hg5 hM1b hb5 hv5 HLIE HLT OG OL HT HN HE BE
            go_wp2_with fail
            refine (cut_any a5 n5 c5 M1 w5 V5.out.row V5.out.le V5.out.mx (by omega)).mono ?_
            rintro e w6 ⟨F1, R1, vl, rfl, hL1, hN1, hof, hlie1, b6⟩
            obtain ⟨kk, hkk⟩ : ∃ kk, kk = (fb F1).length := ⟨_, rfl⟩
            obtain ⟨e1, he1⟩ : ∃ e1, e1 = firstE R1 := ⟨_, rfl⟩
            rw [← hkk, ← he1]
            obtain ⟨fa, fc, hvl, _, _, _, _⟩ := own_ads hof hlie1
            subst hvl
            have hlen1 : kk + R1.length = n5 := by rw [← HM1L.out, hL1, List.length_append, hkk]
            have hkl : kk ≤ n5 := by omega
            have R1L : Hid (R1.length = n5 - kk) := Lib.hid (by omega)
            have R1D : Hid (R1 = M1.drop kk) := Lib.hid (by
              rw [hL1, List.drop_append_of_le_length (by rw [hkk]; exact Nat.le_refl _), hkk]
              simp)
            have hF1 := fb_count F1
            rw [← hkk] at hF1
            have HL1 := Lib.hid hL1
            have HN1 := Lib.hid hN1
            have HE1 := Lib.hid he1
            have HOF := Lib.hid hof
            have L6 := Lib.hid (L5.out.cs (Cs.below b6))
            have M6 := Lib.hid hlie1
            have G6 := Lib.hid (own_cs (Cs.below b6) G5.out)
            have O6 := Lib.hid (own_cs (Cs.below b6) O5.out)
            have B6 := Lib.hid (B5.out.trans (b6.mono s15))
            have s16 := B6.out.size
            have e2 : decide ((kk : Int) < 0) = false := by simp
            have e3 : decide ((n5 : Int) < (kk : Int)) = false := by simp; omega
            have e4 : decide (n5 < kk) = false := by simp; omega
            have hvc := V5.out.le
            have hvm := V5.out.mx
            unfold maxLen at hvm
            clear hL1 hN1 he1 hkk hof hlie1 b6 L5 G5 O5 hlen1 V5
            go_wp2_with (at_builtin; refine wpList_append_acl rfl (.tmp 78) (.tmp 79) rfl w1.heap.size w6 ?hB7_1 _ G.length (acl G) rfl ?own7_1 w5.heap.size (.slice fa F1.length fc) F1 F1.length rfl rfl ?xo7_1 ?le7_1 ?_)
            case hB7_1 => exact s16
            case own7_1 => exact G6.out
            case xo7_1 => exact HOF.out
            case le7_1 => omega
            intro v7 w7 ho7 hg7
            have L7a := Lib.hid (L6.out.grow25 G6.out hg7)
            have L7b := Lib.hid (M6.out.grow25 G6.out hg7)
            have O7 := own_grow G6.out O6.out (by decide) hg7
            obtain ⟨a7, c7, e7, hv7, _⟩ := owns_arg O7 MB.out
            simp only [Value.slice.injEq, true_and] at e7
            obtain ⟨rfl, rfl⟩ := e7
            have AL7 := Lib.hid hv7
            have O7g := Lib.hid ho7
            have hb7 : Below w1.heap.size w6 w7 := (Below.refl _ _).grown hg7 s16 (fun q hq => (G6.out.lt q hq).1)
            have B7 := Lib.hid (B6.out.trans hb7)
            have s17 := B7.out.size
            clear ho7 hg7 hb7 O7 hv7 L6 M6 G6 O6 HOF
            by_cases hc5 : c5 = kk
            · subst hc5
              go_wp2_with (at_builtin; refine wpList_append_bys rfl (.tmp 81) (.tmp 84) rfl w7.heap.size _ ?hB8a_1 (.slice (some ⟨w7.heap.size, 0, none⟩) 0 0) 0 [] rfl ?own8a_1 a5 0 0 R1 ?hx8a_1 ?hby8a_1 (fun _ => rfl) ?le8a_1 ?_)
              try case hx8a_1 => simp only [Act.eval, Array.getD_eq_getD_getElem?, List.getElem?_toArray, List.getElem?_cons_zero, List.getElem?_cons_succ, Option.getD_some]
              try case hB8a_1 => simp
              case own8a_1 => exact own_new (Nat.le_refl _)
              case hby8a_1 => exact by have hz : R1 = [] := List.eq_nil_of_length_eq_zero (by rw [R1L.out]; omega); rw [hz]; exact Bys.nil _ _
              
              case le8a_1 => omega
              intro v8 w8 ho8 hg8 _ _
              have HH := Lib.hid (held_mk HCH.out HL1.out HN1.out HE1.out.symm L7a.out L7b.out s15 s17 O7g.out ho8 (by have := R1L.out; omega) hg8)
              have hb8 : Below w1.heap.size w7 w8 := (Below.alloc (Below.refl _ _) s17 _).grown hg8 (by simp; omega) (fun q hq => by simp [Value.ownBlock] at hq; omega)
              have B8 := Lib.hid (B7.out.trans hb8)
              clear ho8 hg8 hb8
              go_wp2_with fail
              go_roundw
              case rel => exact ⟨k + 1, cap + 0, e1, by omega, by omega, (fun _ => by omega), by go_num, by go_num, rfl, HH.out, B8.out⟩
              case measure => simp [intOf]; omega
            · have hc6 : kk < c5 := by omega
              have d7 : (c5 == kk) = false := by simp [hc5]
              have d8 : (c5 - kk = 0) = False := by simp; omega
              go_wp2_with (at_builtin; refine wpList_append_bys rfl (.tmp 81) (.tmp 84) rfl w7.heap.size _ ?hB8b_1 (.slice (some ⟨w7.heap.size, 0, none⟩) 0 0) 0 [] rfl ?own8b_1 (Option.map (fun x => x.add kk) a5) (n5 - kk) (c5 - kk) R1 ?hx8b_1 ?hby8b_1 ?nil8b_1 ?le8b_1 ?_)
              try case hx8b_1 => simp only [Act.eval, Array.getD_eq_getD_getElem?, List.getElem?_toArray, List.getElem?_cons_zero, List.getElem?_cons_succ, Option.getD_some]
              try case hB8b_1 => simp
              case own8b_1 => exact own_new (Nat.le_refl _)
              case hby8b_1 => exact by rw [R1D.out]; exact (AL7.out.row.below (alB _ _)).dropO kk hkl
              case nil8b_1 => exact fun e => by have h1 := AL7.out.nil (by cases a5 with | none => rfl | some y => simp at e); omega
              case le8b_1 => omega
              intro v8 w8 ho8 hg8 _ _
              have HH := Lib.hid (held_mk HCH.out HL1.out HN1.out HE1.out.symm L7a.out L7b.out s15 s17 O7g.out ho8 (by have := R1L.out; omega) hg8)
              have hb8 : Below w1.heap.size w7 w8 := (Below.alloc (Below.refl _ _) s17 _).grown hg8 (by simp; omega) (fun q hq => by simp [Value.ownBlock] at hq; omega)
              have B8 := Lib.hid (B7.out.trans hb8)
              clear ho8 hg8 hb8
              go_wp2_with fail
              go_roundw
              case rel => exact ⟨k + 1, cap + 0, e1, by omega, by omega, (fun _ => by omega), by go_num, by go_num, rfl, HH.out, B8.out⟩
              case measure => simp [intOf]; omega
          · have hz0' : 0 < z := by omega
            have m1 : (0 : Int) < (z : Int) := by omega
            have HC0 : Hid (L.take (cap + 0) = fb G ++ (M ++ [])) := Lib.hid (by rw [List.append_nil, Nat.add_zero]; exact HT.out)
            have CB : Hid (Bys wo a 0 ([] : List Nat)) := Lib.hid (Bys.nil _ _)
            have CN : Hid (a = none → (0 : Nat) = 0) := Lib.hid (fun _ => rfl)
            obtain ⟨C, hC⟩ : ∃ C : List Nat, C = [] := ⟨_, rfl⟩
            rw [← hC] at HC0 CB
            have hCl : C.length = 0 := by rw [hC]; rfl
            clear hC
            go_wp2_with (at_builtin; refine wpList_append_bys rfl (.tmp 53) (.tmp 59) rfl s' _ ?hB5_2 _ M.length M rfl ?own5_2 a 0 0 C ?hx5_2 ?hby5_2 ?nil5_2 ?le5_2 ?_)
            try case hx5_2 => simp only [Act.eval, Array.getD_eq_getD_getElem?, List.getElem?_toArray, List.getElem?_cons_zero, List.getElem?_cons_succ, Option.getD_some]; first | done | rw [Nat.add_sub_cancel_left] | simp
            try case hB5_2 => exact hsw
            case own5_2 => exact OL.out
            case hby5_2 => exact CB.out
            try case nil5_2 => first | exact CN.out | exact (fun e => by have h1 := AW.out.nil e; omega)
            case le5_2 => omega
            intro v5 w5 ho5 hg5 _ _
            obtain ⟨n5, hn5⟩ : ∃ n5, n5 = M.length := ⟨_, rfl⟩
            obtain ⟨M1, hM1⟩ : ∃ M1, M1 = M ++ C := ⟨_, rfl⟩
            rw [← hn5, ← hM1] at ho5
            rw [← hM1] at HC0
            have HCH := HC0
            have hM1l : M1.length = n5 := by rw [hM1, List.length_append]; omega
            have hM1b : ∀ b ∈ M1, b < 256 := fun b hb => by
              have hm : b ∈ L.take (cap + 0) := by rw [HCH.out]; simp [hb]
              exact AW.out.row.by' b (List.mem_of_mem_take hm)
            have L5 := Lib.hid (HLIE.out.grow5 HLT.out OL.out hg5)
            have G5 := Lib.hid (own_grow OL.out OG.out (by decide) hg5)
            have hb5 : Below w1.heap.size wo w5 := (Below.refl _ _).grown hg5 sw (fun q hq => by have := (OL.out.lt q hq).1; omega)
            have B5 := Lib.hid (BE.out.trans hb5)
            have s15 := B5.out.size
            have O5 := Lib.hid ho5
            obtain ⟨a5, c5, rfl, hv5, _⟩ := owns_arg ho5 hM1b
            have V5 := Lib.hid hv5
            have MB := Lib.hid hM1b
            have hn5' : n5 ≤ 9000 := by omega
            have HM1L := Lib.hid hM1l
            clear hn5 hM1l HC0 CB CN hCl hM1 ho5 hg5 hM1b hb5 hv5 HLIE HLT OG OL HT HN HE BE
            go_wp2_with fail
            refine (cut_any a5 n5 c5 M1 w5 V5.out.row V5.out.le V5.out.mx (by omega)).mono ?_
            rintro e w6 ⟨F1, R1, vl, rfl, hL1, hN1, hof, hlie1, b6⟩
            obtain ⟨kk, hkk⟩ : ∃ kk, kk = (fb F1).length := ⟨_, rfl⟩
            obtain ⟨e1, he1⟩ : ∃ e1, e1 = firstE R1 := ⟨_, rfl⟩
            rw [← hkk, ← he1]
            obtain ⟨fa, fc, hvl, _, _, _, _⟩ := own_ads hof hlie1
            subst hvl
            have hlen1 : kk + R1.length = n5 := by rw [← HM1L.out, hL1, List.length_append, hkk]
            have hkl : kk ≤ n5 := by omega
            have R1L : Hid (R1.length = n5 - kk) := Lib.hid (by omega)
            have R1D : Hid (R1 = M1.drop kk) := Lib.hid (by
              rw [hL1, List.drop_append_of_le_length (by rw [hkk]; exact Nat.le_refl _), hkk]
              simp)
            have hF1 := fb_count F1
            rw [← hkk] at hF1
            have HL1 := Lib.hid hL1
            have HN1 := Lib.hid hN1
            have HE1 := Lib.hid he1
            have HOF := Lib.hid hof
            have L6 := Lib.hid (L5.out.cs (Cs.below b6))
            have M6 := Lib.hid hlie1
            have G6 := Lib.hid (own_cs (Cs.below b6) G5.out)
            have O6 := Lib.hid (own_cs (Cs.below b6) O5.out)
            have B6 := Lib.hid (B5.out.trans (b6.mono s15))
            have s16 := B6.out.size
            have e2 : decide ((kk : Int) < 0) = false := by simp
            have e3 : decide ((n5 : Int) < (kk : Int)) = false := by simp; omega
            have e4 : decide (n5 < kk) = false := by simp; omega
            have hvc := V5.out.le
            have hvm := V5.out.mx
            unfold maxLen at hvm
            clear hL1 hN1 he1 hkk hof hlie1 b6 L5 G5 O5 hlen1 V5
            go_wp2_with (at_builtin; refine wpList_append_acl rfl (.tmp 78) (.tmp 79) rfl w1.heap.size w6 ?hB7_2 _ G.length (acl G) rfl ?own7_2 w5.heap.size (.slice fa F1.length fc) F1 F1.length rfl rfl ?xo7_2 ?le7_2 ?_)
            case hB7_2 => exact s16
            case own7_2 => exact G6.out
            case xo7_2 => exact HOF.out
            case le7_2 => omega
            intro v7 w7 ho7 hg7
            have L7a := Lib.hid (L6.out.grow25 G6.out hg7)
            have L7b := Lib.hid (M6.out.grow25 G6.out hg7)
            have O7 := own_grow G6.out O6.out (by decide) hg7
            obtain ⟨a7, c7, e7, hv7, _⟩ := owns_arg O7 MB.out
            simp only [Value.slice.injEq, true_and] at e7
            obtain ⟨rfl, rfl⟩ := e7
            have AL7 := Lib.hid hv7
            have O7g := Lib.hid ho7
            have hb7 : Below w1.heap.size w6 w7 := (Below.refl _ _).grown hg7 s16 (fun q hq => (G6.out.lt q hq).1)
            have B7 := Lib.hid (B6.out.trans hb7)
            have s17 := B7.out.size
            clear ho7 hg7 hb7 O7 hv7 L6 M6 G6 O6 HOF
            by_cases hc5 : c5 = kk
            · subst hc5
              go_wp2_with (at_builtin; refine wpList_append_bys rfl (.tmp 81) (.tmp 84) rfl w7.heap.size _ ?hB8a_2 (.slice (some ⟨w7.heap.size, 0, none⟩) 0 0) 0 [] rfl ?own8a_2 a5 0 0 R1 ?hx8a_2 ?hby8a_2 (fun _ => rfl) ?le8a_2 ?_)
              try case hx8a_2 => simp only [Act.eval, Array.getD_eq_getD_getElem?, List.getElem?_toArray, List.getElem?_cons_zero, List.getElem?_cons_succ, Option.getD_some]
              try case hB8a_2 => simp
              case own8a_2 => exact own_new (Nat.le_refl _)
              case hby8a_2 => exact by have hz : R1 = [] := List.eq_nil_of_length_eq_zero (by rw [R1L.out]; omega); rw [hz]; exact Bys.nil _ _
              
              case le8a_2 => omega
              intro v8 w8 ho8 hg8 _ _
              have HH := Lib.hid (held_mk HCH.out HL1.out HN1.out HE1.out.symm L7a.out L7b.out s15 s17 O7g.out ho8 (by have := R1L.out; omega) hg8)
              have hb8 : Below w1.heap.size w7 w8 := (Below.alloc (Below.refl _ _) s17 _).grown hg8 (by simp; omega) (fun q hq => by simp [Value.ownBlock] at hq; omega)
              have B8 := Lib.hid (B7.out.trans hb8)
              clear ho8 hg8 hb8
              go_wp2_with fail
              go_roundw
              case rel => exact ⟨k + 1, cap + 0, e1, by omega, by omega, (fun _ => by omega), by go_num, by go_num, rfl, HH.out, B8.out⟩
              case measure => simp [intOf]; omega
            · have hc6 : kk < c5 := by omega
              have d7 : (c5 == kk) = false := by simp [hc5]
              have d8 : (c5 - kk = 0) = False := by simp; omega
              go_wp2_with (at_builtin; refine wpList_append_bys rfl (.tmp 81) (.tmp 84) rfl w7.heap.size _ ?hB8b_2 (.slice (some ⟨w7.heap.size, 0, none⟩) 0 0) 0 [] rfl ?own8b_2 (Option.map (fun x => x.add kk) a5) (n5 - kk) (c5 - kk) R1 ?hx8b_2 ?hby8b_2 ?nil8b_2 ?le8b_2 ?_)
              try case hx8b_2 => simp only [Act.eval, Array.getD_eq_getD_getElem?, List.getElem?_toArray, List.getElem?_cons_zero, List.getElem?_cons_succ, Option.getD_some]
              try case hB8b_2 => simp
              case own8b_2 => exact own_new (Nat.le_refl _)
              case hby8b_2 => exact by rw [R1D.out]; exact (AL7.out.row.below (alB _ _)).dropO kk hkl
              case nil8b_2 => exact fun e => by have h1 := AL7.out.nil (by cases a5 with | none => rfl | some y => simp at e); omega
              case le8b_2 => omega
              intro v8 w8 ho8 hg8 _ _
              have HH := Lib.hid (held_mk HCH.out HL1.out HN1.out HE1.out.symm L7a.out L7b.out s15 s17 O7g.out ho8 (by have := R1L.out; omega) hg8)
              have hb8 : Below w1.heap.size w7 w8 := (Below.alloc (Below.refl _ _) s17 _).grown hg8 (by simp; omega) (fun q hq => by simp [Value.ownBlock] at hq; omega)
              have B8 := Lib.hid (B7.out.trans hb8)
              clear ho8 hg8 hb8
              go_wp2_with fail
              go_roundw
              case rel => exact ⟨k + 1, cap + 0, e1, by omega, by omega, (fun _ => by omega), by go_num, by go_num, rfl, HH.out, B8.out⟩
              case measure => simp [intOf]; omega
        · have hpc : p < cap := by omega
          have d7 : (cap - p = 0) = False := by simp; omega
          by_cases hrz : r < z
          · have m1 : (r : Int) < (z : Int) := by omega
            have HC0 : Hid (L.take (p + r) = fb G ++ (M ++ (L.drop p).take r)) := Lib.hid (by rw [List.take_add, HT.out, List.append_assoc])
            have CB : Hid (Bys wo (Option.map (fun x => x.add p) a) r ((L.drop p).take r)) := Lib.hid ((AW.out.row.dropO p hp).take r (by omega))
            have CN : Hid (Option.map (fun x => x.add p) a = none → cap - p = 0) := Lib.hid (fun e => by have h1 := AW.out.nil (by cases a with | none => rfl | some y => simp at e); omega)
            obtain ⟨C, hC⟩ : ∃ C : List Nat, C = (L.drop p).take r := ⟨_, rfl⟩
            rw [← hC] at HC0 CB
            have hCl : C.length = r := CB.out.ln
            clear hC
            go_wp2_with (at_builtin; refine wpList_append_bys rfl (.tmp 53) (.tmp 59) rfl s' _ ?hB5_3 _ M.length M rfl ?own5_3 (Option.map (fun x => x.add p) a) r (cap - p) C ?hx5_3 ?hby5_3 ?nil5_3 ?le5_3 ?_)
            try case hx5_3 => simp only [Act.eval, Array.getD_eq_getD_getElem?, List.getElem?_toArray, List.getElem?_cons_zero, List.getElem?_cons_succ, Option.getD_some]; first | done | rw [Nat.add_sub_cancel_left] | simp
            try case hB5_3 => exact hsw
            case own5_3 => exact OL.out
            case hby5_3 => exact CB.out
            try case nil5_3 => first | exact CN.out | exact (fun e => by have h1 := AW.out.nil e; omega)
            case le5_3 => omega
            intro v5 w5 ho5 hg5 _ _
            obtain ⟨n5, hn5⟩ : ∃ n5, n5 = M.length + r := ⟨_, rfl⟩
            obtain ⟨M1, hM1⟩ : ∃ M1, M1 = M ++ C := ⟨_, rfl⟩
            rw [← hn5, ← hM1] at ho5
            rw [← hM1] at HC0
            have HCH := HC0
            have hM1l : M1.length = n5 := by rw [hM1, List.length_append]; omega
            have hM1b : ∀ b ∈ M1, b < 256 := fun b hb => by
              have hm : b ∈ L.take (p + r) := by rw [HCH.out]; simp [hb]
              exact AW.out.row.by' b (List.mem_of_mem_take hm)
            have L5 := Lib.hid (HLIE.out.grow5 HLT.out OL.out hg5)
            have G5 := Lib.hid (own_grow OL.out OG.out (by decide) hg5)
            have hb5 : Below w1.heap.size wo w5 := (Below.refl _ _).grown hg5 sw (fun q hq => by have := (OL.out.lt q hq).1; omega)
            have B5 := Lib.hid (BE.out.trans hb5)
            have s15 := B5.out.size
            have O5 := Lib.hid ho5
            obtain ⟨a5, c5, rfl, hv5, _⟩ := owns_arg ho5 hM1b
            have V5 := Lib.hid hv5
            have MB := Lib.hid hM1b
            have hn5' : n5 ≤ 9000 := by omega
            have HM1L := Lib.hid hM1l
            clear hn5 hM1l HC0 CB CN hCl hM1 ho5 hg5 hM1b hb5 hv5 HLIE HLT OG OL HT HN HE BE
            go_wp2_with fail
            refine (cut_any a5 n5 c5 M1 w5 V5.out.row V5.out.le V5.out.mx (by omega)).mono ?_
            rintro e w6 ⟨F1, R1, vl, rfl, hL1, hN1, hof, hlie1, b6⟩
            obtain ⟨kk, hkk⟩ : ∃ kk, kk = (fb F1).length := ⟨_, rfl⟩
            obtain ⟨e1, he1⟩ : ∃ e1, e1 = firstE R1 := ⟨_, rfl⟩
            rw [← hkk, ← he1]
            obtain ⟨fa, fc, hvl, _, _, _, _⟩ := own_ads hof hlie1
            subst hvl
            have hlen1 : kk + R1.length = n5 := by rw [← HM1L.out, hL1, List.length_append, hkk]
            have hkl : kk ≤ n5 := by omega
            have R1L : Hid (R1.length = n5 - kk) := Lib.hid (by omega)
            have R1D : Hid (R1 = M1.drop kk) := Lib.hid (by
              rw [hL1, List.drop_append_of_le_length (by rw [hkk]; exact Nat.le_refl _), hkk]
              simp)
            have hF1 := fb_count F1
            rw [← hkk] at hF1
            have HL1 := Lib.hid hL1
            have HN1 := Lib.hid hN1
            have HE1 := Lib.hid he1
            have HOF := Lib.hid hof
            have L6 := Lib.hid (L5.out.cs (Cs.below b6))
            have M6 := Lib.hid hlie1
            have G6 := Lib.hid (own_cs (Cs.below b6) G5.out)
            have O6 := Lib.hid (own_cs (Cs.below b6) O5.out)
            have B6 := Lib.hid (B5.out.trans (b6.mono s15))
            have s16 := B6.out.size
            have e2 : decide ((kk : Int) < 0) = false := by simp
            have e3 : decide ((n5 : Int) < (kk : Int)) = false := by simp; omega
            have e4 : decide (n5 < kk) = false := by simp; omega
            have hvc := V5.out.le
            have hvm := V5.out.mx
            unfold maxLen at hvm
            clear hL1 hN1 he1 hkk hof hlie1 b6 L5 G5 O5 hlen1 V5
            go_wp2_with (at_builtin; refine wpList_append_acl rfl (.tmp 78) (.tmp 79) rfl w1.heap.size w6 ?hB7_3 _ G.length (acl G) rfl ?own7_3 w5.heap.size (.slice fa F1.length fc) F1 F1.length rfl rfl ?xo7_3 ?le7_3 ?_)
            case hB7_3 => exact s16
            case own7_3 => exact G6.out
            case xo7_3 => exact HOF.out
            case le7_3 => omega
            intro v7 w7 ho7 hg7
            have L7a := Lib.hid (L6.out.grow25 G6.out hg7)
            have L7b := Lib.hid (M6.out.grow25 G6.out hg7)
            have O7 := own_grow G6.out O6.out (by decide) hg7
            obtain ⟨a7, c7, e7, hv7, _⟩ := owns_arg O7 MB.out
            simp only [Value.slice.injEq, true_and] at e7
            obtain ⟨rfl, rfl⟩ := e7
            have AL7 := Lib.hid hv7
            have O7g := Lib.hid ho7
            have hb7 : Below w1.heap.size w6 w7 := (Below.refl _ _).grown hg7 s16 (fun q hq => (G6.out.lt q hq).1)
            have B7 := Lib.hid (B6.out.trans hb7)
            have s17 := B7.out.size
            clear ho7 hg7 hb7 O7 hv7 L6 M6 G6 O6 HOF
            by_cases hc5 : c5 = kk
            · subst hc5
              go_wp2_with (at_builtin; refine wpList_append_bys rfl (.tmp 81) (.tmp 84) rfl w7.heap.size _ ?hB8a_3 (.slice (some ⟨w7.heap.size, 0, none⟩) 0 0) 0 [] rfl ?own8a_3 a5 0 0 R1 ?hx8a_3 ?hby8a_3 (fun _ => rfl) ?le8a_3 ?_)
              try case hx8a_3 => simp only [Act.eval, Array.getD_eq_getD_getElem?, List.getElem?_toArray, List.getElem?_cons_zero, List.getElem?_cons_succ, Option.getD_some]
              try case hB8a_3 => simp
              case own8a_3 => exact own_new (Nat.le_refl _)
              case hby8a_3 => exact by have hz : R1 = [] := List.eq_nil_of_length_eq_zero (by rw [R1L.out]; omega); rw [hz]; exact Bys.nil _ _
              
              case le8a_3 => omega
              intro v8 w8 ho8 hg8 _ _
              have HH := Lib.hid (held_mk HCH.out HL1.out HN1.out HE1.out.symm L7a.out L7b.out s15 s17 O7g.out ho8 (by have := R1L.out; omega) hg8)
              have hb8 : Below w1.heap.size w7 w8 := (Below.alloc (Below.refl _ _) s17 _).grown hg8 (by simp; omega) (fun q hq => by simp [Value.ownBlock] at hq; omega)
              have B8 := Lib.hid (B7.out.trans hb8)
              clear ho8 hg8 hb8
              go_wp2_with fail
              go_roundw
              case rel => exact ⟨k + 1, p + r, e1, by omega, by omega, (fun _ => by omega), by go_num, by go_num, rfl, HH.out, B8.out⟩
              case measure => simp [intOf]; omega
            · have hc6 : kk < c5 := by omega
              have d7 : (c5 == kk) = false := by simp [hc5]
              have d8 : (c5 - kk = 0) = False := by simp; omega
              go_wp2_with (at_builtin; refine wpList_append_bys rfl (.tmp 81) (.tmp 84) rfl w7.heap.size _ ?hB8b_3 (.slice (some ⟨w7.heap.size, 0, none⟩) 0 0) 0 [] rfl ?own8b_3 (Option.map (fun x => x.add kk) a5) (n5 - kk) (c5 - kk) R1 ?hx8b_3 ?hby8b_3 ?nil8b_3 ?le8b_3 ?_)
              try case hx8b_3 => simp only [Act.eval, Array.getD_eq_getD_getElem?, List.getElem?_toArray, List.getElem?_cons_zero, List.getElem?_cons_succ, Option.getD_some]
              try case hB8b_3 => simp
              case own8b_3 => exact own_new (Nat.le_refl _)
              case hby8b_3 => exact by rw [R1D.out]; exact (AL7.out.row.below (alB _ _)).dropO kk hkl
              case nil8b_3 => exact fun e => by have h1 := AL7.out.nil (by cases a5 with | none => rfl | some y => simp at e); omega
              case le8b_3 => omega
              intro v8 w8 ho8 hg8 _ _
              have HH := Lib.hid (held_mk HCH.out HL1.out HN1.out HE1.out.symm L7a.out L7b.out s15 s17 O7g.out ho8 (by have := R1L.out; omega) hg8)
              have hb8 : Below w1.heap.size w7 w8 := (Below.alloc (Below.refl _ _) s17 _).grown hg8 (by simp; omega) (fun q hq => by simp [Value.ownBlock] at hq; omega)
              have B8 := Lib.hid (B7.out.trans hb8)
              clear ho8 hg8 hb8
              go_wp2_with fail
              go_roundw
              case rel => exact ⟨k + 1, p + r, e1, by omega, by omega, (fun _ => by omega), by go_num, by go_num, rfl, HH.out, B8.out⟩
              case measure => simp [intOf]; omega
          · have m1 : ¬ (r : Int) < (z : Int) := by omega
            have HC0 : Hid (L.take (p + z) = fb G ++ (M ++ (L.drop p).take z)) := Lib.hid (by rw [List.take_add, HT.out, List.append_assoc])
            have CB : Hid (Bys wo (Option.map (fun x => x.add p) a) z ((L.drop p).take z)) := Lib.hid ((AW.out.row.dropO p hp).take z (by omega))
            have CN : Hid (Option.map (fun x => x.add p) a = none → cap - p = 0) := Lib.hid (fun e => by have h1 := AW.out.nil (by cases a with | none => rfl | some y => simp at e); omega)
            obtain ⟨C, hC⟩ : ∃ C : List Nat, C = (L.drop p).take z := ⟨_, rfl⟩
            rw [← hC] at HC0 CB
            have hCl : C.length = z := CB.out.ln
            clear hC
            go_wp2_with (at_builtin; refine wpList_append_bys rfl (.tmp 53) (.tmp 59) rfl s' _ ?hB5_4 _ M.length M rfl ?own5_4 (Option.map (fun x => x.add p) a) z (cap - p) C ?hx5_4 ?hby5_4 ?nil5_4 ?le5_4 ?_)
            try case hx5_4 => simp only [Act.eval, Array.getD_eq_getD_getElem?, List.getElem?_toArray, List.getElem?_cons_zero, List.getElem?_cons_succ, Option.getD_some]; first | done | rw [Nat.add_sub_cancel_left] | simp
            try case hB5_4 => exact hsw
            case own5_4 => exact OL.out
            case hby5_4 => exact CB.out
            try case nil5_4 => first | exact CN.out | exact (fun e => by have h1 := AW.out.nil e; omega)
            case le5_4 => omega
            intro v5 w5 ho5 hg5 _ _
            obtain ⟨n5, hn5⟩ : ∃ n5, n5 = M.length + z := ⟨_, rfl⟩
            obtain ⟨M1, hM1⟩ : ∃ M1, M1 = M ++ C := ⟨_, rfl⟩
            rw [← hn5, ← hM1] at ho5
            rw [← hM1] at HC0
            have HCH := HC0
            have hM1l : M1.length = n5 := by rw [hM1, List.length_append]; omega
            have hM1b : ∀ b ∈ M1, b < 256 := fun b hb => by
              have hm : b ∈ L.take (p + z) := by rw [HCH.out]; simp [hb]
              exact AW.out.row.by' b (List.mem_of_mem_take hm)
            have L5 := Lib.hid (HLIE.out.grow5 HLT.out OL.out hg5)
            have G5 := Lib.hid (own_grow OL.out OG.out (by decide) hg5)
            have hb5 : Below w1.heap.size wo w5 := (Below.refl _ _).grown hg5 sw (fun q hq => by have := (OL.out.lt q hq).1; omega)
            have B5 := Lib.hid (BE.out.trans hb5)
            have s15 := B5.out.size
            have O5 := Lib.hid ho5
            obtain ⟨a5, c5, rfl, hv5, _⟩ := owns_arg ho5 hM1b
            have V5 := Lib.hid hv5
            have MB := Lib.hid hM1b
            have hn5' : n5 ≤ 9000 := by omega
            have HM1L := Lib.hid hM1l
            clear hn5 hM1l HC0 CB CN hCl hM1 ho5 hg5 hM1b hb5 hv5 HLIE HLT OG OL HT HN HE BE
            go_wp2_with fail
            refine (cut_any a5 n5 c5 M1 w5 V5.out.row V5.out.le V5.out.mx (by omega)).mono ?_
            rintro e w6 ⟨F1, R1, vl, rfl, hL1, hN1, hof, hlie1, b6⟩
            obtain ⟨kk, hkk⟩ : ∃ kk, kk = (fb F1).length := ⟨_, rfl⟩
            obtain ⟨e1, he1⟩ : ∃ e1, e1 = firstE R1 := ⟨_, rfl⟩
            rw [← hkk, ← he1]
            obtain ⟨fa, fc, hvl, _, _, _, _⟩ := own_ads hof hlie1
            subst hvl
            have hlen1 : kk + R1.length = n5 := by rw [← HM1L.out, hL1, List.length_append, hkk]
            have hkl : kk ≤ n5 := by omega
            have R1L : Hid (R1.length = n5 - kk) := Lib.hid (by omega)
            have R1D : Hid (R1 = M1.drop kk) := Lib.hid (by
              rw [hL1, List.drop_append_of_le_length (by rw [hkk]; exact Nat.le_refl _), hkk]
              simp)
            have hF1 := fb_count F1
            rw [← hkk] at hF1
            have HL1 := Lib.hid hL1
            have HN1 := Lib.hid hN1
            have HE1 := Lib.hid he1
            have HOF := Lib.hid hof
            have L6 := Lib.hid (L5.out.cs (Cs.below b6))
            have M6 := Lib.hid hlie1
            have G6 := Lib.hid (own_cs (Cs.below b6) G5.out)
            have O6 := Lib.hid (own_cs (Cs.below b6) O5.out)
            have B6 := Lib.hid (B5.out.trans (b6.mono s15))
            have s16 := B6.out.size
            have e2 : decide ((kk : Int) < 0) = false := by simp
            have e3 : decide ((n5 : Int) < (kk : Int)) = false := by simp; omega
            have e4 : decide (n5 < kk) = false := by simp; omega
            have hvc := V5.out.le
            have hvm := V5.out.mx
            unfold maxLen at hvm
            clear hL1 hN1 he1 hkk hof hlie1 b6 L5 G5 O5 hlen1 V5
            go_wp2_with (at_builtin; refine wpList_append_acl rfl (.tmp 78) (.tmp 79) rfl w1.heap.size w6 ?hB7_4 _ G.length (acl G) rfl ?own7_4 w5.heap.size (.slice fa F1.length fc) F1 F1.length rfl rfl ?xo7_4 ?le7_4 ?_)
            case hB7_4 => exact s16
            case own7_4 => exact G6.out
            case xo7_4 => exact HOF.out
            case le7_4 => omega
            intro v7 w7 ho7 hg7
            have L7a := Lib.hid (L6.out.grow25 G6.out hg7)
            have L7b := Lib.hid (M6.out.grow25 G6.out hg7)
            have O7 := own_grow G6.out O6.out (by decide) hg7
            obtain ⟨a7, c7, e7, hv7, _⟩ := owns_arg O7 MB.out
            simp only [Value.slice.injEq, true_and] at e7
            obtain ⟨rfl, rfl⟩ := e7
            have AL7 := Lib.hid hv7
            have O7g := Lib.hid ho7
            have hb7 : Below w1.heap.size w6 w7 := (Below.refl _ _).grown hg7 s16 (fun q hq => (G6.out.lt q hq).1)
            have B7 := Lib.hid (B6.out.trans hb7)
            have s17 := B7.out.size
            clear ho7 hg7 hb7 O7 hv7 L6 M6 G6 O6 HOF
            by_cases hc5 : c5 = kk
            · subst hc5
              go_wp2_with (at_builtin; refine wpList_append_bys rfl (.tmp 81) (.tmp 84) rfl w7.heap.size _ ?hB8a_4 (.slice (some ⟨w7.heap.size, 0, none⟩) 0 0) 0 [] rfl ?own8a_4 a5 0 0 R1 ?hx8a_4 ?hby8a_4 (fun _ => rfl) ?le8a_4 ?_)
              try case hx8a_4 => simp only [Act.eval, Array.getD_eq_getD_getElem?, List.getElem?_toArray, List.getElem?_cons_zero, List.getElem?_cons_succ, Option.getD_some]
              try case hB8a_4 => simp
              case own8a_4 => exact own_new (Nat.le_refl _)
              case hby8a_4 => exact by have hz : R1 = [] := List.eq_nil_of_length_eq_zero (by rw [R1L.out]; omega); rw [hz]; exact Bys.nil _ _
              
              case le8a_4 => omega
              intro v8 w8 ho8 hg8 _ _
              have HH := Lib.hid (held_mk HCH.out HL1.out HN1.out HE1.out.symm L7a.out L7b.out s15 s17 O7g.out ho8 (by have := R1L.out; omega) hg8)
              have hb8 : Below w1.heap.size w7 w8 := (Below.alloc (Below.refl _ _) s17 _).grown hg8 (by simp; omega) (fun q hq => by simp [Value.ownBlock] at hq; omega)
              have B8 := Lib.hid (B7.out.trans hb8)
              clear ho8 hg8 hb8
              go_wp2_with fail
              go_roundw
              case rel => exact ⟨k + 1, p + z, e1, by omega, by omega, (fun _ => by omega), by go_num, by go_num, rfl, HH.out, B8.out⟩
              case measure => simp [intOf]; omega
            · have hc6 : kk < c5 := by omega
              have d7 : (c5 == kk) = false := by simp [hc5]
              have d8 : (c5 - kk = 0) = False := by simp; omega
              go_wp2_with (at_builtin; refine wpList_append_bys rfl (.tmp 81) (.tmp 84) rfl w7.heap.size _ ?hB8b_4 (.slice (some ⟨w7.heap.size, 0, none⟩) 0 0) 0 [] rfl ?own8b_4 (Option.map (fun x => x.add kk) a5) (n5 - kk) (c5 - kk) R1 ?hx8b_4 ?hby8b_4 ?nil8b_4 ?le8b_4 ?_)
              try case hx8b_4 => simp only [Act.eval, Array.getD_eq_getD_getElem?, List.getElem?_toArray, List.getElem?_cons_zero, List.getElem?_cons_succ, Option.getD_some]
              try case hB8b_4 => simp
              case own8b_4 => exact own_new (Nat.le_refl _)
              case hby8b_4 => exact by rw [R1D.out]; exact (AL7.out.row.below (alB _ _)).dropO kk hkl
              case nil8b_4 => exact fun e => by have h1 := AL7.out.nil (by cases a5 with | none => rfl | some y => simp at e); omega
              case le8b_4 => omega
              intro v8 w8 ho8 hg8 _ _
              have HH := Lib.hid (held_mk HCH.out HL1.out HN1.out HE1.out.symm L7a.out L7b.out s15 s17 O7g.out ho8 (by have := R1L.out; omega) hg8)
              have hb8 : Below w1.heap.size w7 w8 := (Below.alloc (Below.refl _ _) s17 _).grown hg8 (by simp; omega) (fun q hq => by simp [Value.ownBlock] at hq; omega)
              have B8 := Lib.hid (B7.out.trans hb8)
              clear ho8 hg8 hb8
              go_wp2_with fail
              go_roundw
              case rel => exact ⟨k + 1, p + z, e1, by omega, by omega, (fun _ => by omega), by go_num, by go_num, rfl, HH.out, B8.out⟩
              case measure => simp [intOf]; omega
      · have hke : k = len2 := by omega
        have t2 : decide ((k : Int) < (len2 : Int)) = false := by simp; omega
        obtain ⟨r, hr⟩ : ∃ r : Nat, (len : Int) - (p : Int) = (r : Int) := ⟨len - p, by omega⟩
        have hcl := AW.out.le
        have hcm := AW.out.mx
        unfold maxLen at hcm
        by_cases hce : cap = p
        · have hr0 : r = 0 := by omega
          subst hr0
          subst hce
          have HC0 : Hid (L.take (cap + 0) = fb G ++ (M ++ [])) := Lib.hid (by rw [List.append_nil, Nat.add_zero]; exact HT.out)
          have CB : Hid (Bys wo a 0 ([] : List Nat)) := Lib.hid (Bys.nil _ _)
          have CN : Hid (a = none → (0 : Nat) = 0) := Lib.hid (fun _ => rfl)
          obtain ⟨C, hC⟩ : ∃ C : List Nat, C = [] := ⟨_, rfl⟩
          rw [← hC] at HC0 CB
          have hCl : C.length = 0 := by rw [hC]; rfl
          clear hC
          go_wp2_with (at_builtin; refine wpList_append_bys rfl (.tmp 53) (.tmp 59) rfl s' _ ?hB5_5 _ M.length M rfl ?own5_5 a 0 0 C ?hx5_5 ?hby5_5 ?nil5_5 ?le5_5 ?_)
          try case hx5_5 => simp only [Act.eval, Array.getD_eq_getD_getElem?, List.getElem?_toArray, List.getElem?_cons_zero, List.getElem?_cons_succ, Option.getD_some]; first | done | rw [Nat.add_sub_cancel_left] | simp
          try case hB5_5 => exact hsw
          case own5_5 => exact OL.out
          case hby5_5 => exact CB.out
          try case nil5_5 => first | exact CN.out | exact (fun e => by have h1 := AW.out.nil e; omega)
          case le5_5 => omega
          intro v5 w5 ho5 hg5 _ _
          obtain ⟨n5, hn5⟩ : ∃ n5, n5 = M.length := ⟨_, rfl⟩
          obtain ⟨M1, hM1⟩ : ∃ M1, M1 = M ++ C := ⟨_, rfl⟩
          rw [← hn5, ← hM1] at ho5
          rw [← hM1] at HC0
          have HCH := HC0
          have hM1l : M1.length = n5 := by rw [hM1, List.length_append]; omega
          have hM1b : ∀ b ∈ M1, b < 256 := fun b hb => by
            have hm : b ∈ L.take (cap + 0) := by rw [HCH.out]; simp [hb]
            exact AW.out.row.by' b (List.mem_of_mem_take hm)
          have L5 := Lib.hid (HLIE.out.grow5 HLT.out OL.out hg5)
          have G5 := Lib.hid (own_grow OL.out OG.out (by decide) hg5)
          have hb5 : Below w1.heap.size wo w5 := (Below.refl _ _).grown hg5 sw (fun q hq => by have := (OL.out.lt q hq).1; omega)
          have B5 := Lib.hid (BE.out.trans hb5)
          have s15 := B5.out.size
          have O5 := Lib.hid ho5
          obtain ⟨a5, c5, rfl, hv5, _⟩ := owns_arg ho5 hM1b
          have V5 := Lib.hid hv5
          have MB := Lib.hid hM1b
          have hn5' : n5 ≤ 9000 := by omega
          have HM1L := Lib.hid hM1l
          clear hn5 hM1l HC0 CB CN hCl hM1 ho5 hg5 hM1b hb5 hv5 HLIE HLT OG OL HT HN HE BE
          go_wp2_with fail
          refine (cut_any a5 n5 c5 M1 w5 V5.out.row V5.out.le V5.out.mx (by omega)).mono ?_
          rintro e w6 ⟨F1, R1, vl, rfl, hL1, hN1, hof, hlie1, b6⟩
          obtain ⟨kk, hkk⟩ : ∃ kk, kk = (fb F1).length := ⟨_, rfl⟩
          obtain ⟨e1, he1⟩ : ∃ e1, e1 = firstE R1 := ⟨_, rfl⟩
          rw [← hkk, ← he1]
          obtain ⟨fa, fc, hvl, _, _, _, _⟩ := own_ads hof hlie1
          subst hvl
          have hlen1 : kk + R1.length = n5 := by rw [← HM1L.out, hL1, List.length_append, hkk]
          have hkl : kk ≤ n5 := by omega
          have R1L : Hid (R1.length = n5 - kk) := Lib.hid (by omega)
          have R1D : Hid (R1 = M1.drop kk) := Lib.hid (by
            rw [hL1, List.drop_append_of_le_length (by rw [hkk]; exact Nat.le_refl _), hkk]
            simp)
          have hF1 := fb_count F1
          rw [← hkk] at hF1
          have HL1 := Lib.hid hL1
          have HN1 := Lib.hid hN1
          have HE1 := Lib.hid he1
          have HOF := Lib.hid hof
          have L6 := Lib.hid (L5.out.cs (Cs.below b6))
          have M6 := Lib.hid hlie1
          have G6 := Lib.hid (own_cs (Cs.below b6) G5.out)
          have O6 := Lib.hid (own_cs (Cs.below b6) O5.out)
          have B6 := Lib.hid (B5.out.trans (b6.mono s15))
          have s16 := B6.out.size
          have e2 : decide ((kk : Int) < 0) = false := by simp
          have e3 : decide ((n5 : Int) < (kk : Int)) = false := by simp; omega
          have e4 : decide (n5 < kk) = false := by simp; omega
          have hvc := V5.out.le
          have hvm := V5.out.mx
          unfold maxLen at hvm
          clear hL1 hN1 he1 hkk hof hlie1 b6 L5 G5 O5 hlen1 V5
          go_wp2_with (at_builtin; refine wpList_append_acl rfl (.tmp 78) (.tmp 79) rfl w1.heap.size w6 ?hB7_5 _ G.length (acl G) rfl ?own7_5 w5.heap.size (.slice fa F1.length fc) F1 F1.length rfl rfl ?xo7_5 ?le7_5 ?_)
          case hB7_5 => exact s16
          case own7_5 => exact G6.out
          case xo7_5 => exact HOF.out
          case le7_5 => omega
          intro v7 w7 ho7 hg7
          have L7a := Lib.hid (L6.out.grow25 G6.out hg7)
          have L7b := Lib.hid (M6.out.grow25 G6.out hg7)
          have O7 := own_grow G6.out O6.out (by decide) hg7
          obtain ⟨a7, c7, e7, hv7, _⟩ := owns_arg O7 MB.out
          simp only [Value.slice.injEq, true_and] at e7
          obtain ⟨rfl, rfl⟩ := e7
          have AL7 := Lib.hid hv7
          have O7g := Lib.hid ho7
          have hb7 : Below w1.heap.size w6 w7 := (Below.refl _ _).grown hg7 s16 (fun q hq => (G6.out.lt q hq).1)
          have B7 := Lib.hid (B6.out.trans hb7)
          have s17 := B7.out.size
          clear ho7 hg7 hb7 O7 hv7 L6 M6 G6 O6 HOF
          by_cases hc5 : c5 = kk
          · subst hc5
            go_wp2_with (at_builtin; refine wpList_append_bys rfl (.tmp 81) (.tmp 84) rfl w7.heap.size _ ?hB8a_5 (.slice (some ⟨w7.heap.size, 0, none⟩) 0 0) 0 [] rfl ?own8a_5 a5 0 0 R1 ?hx8a_5 ?hby8a_5 (fun _ => rfl) ?le8a_5 ?_)
            try case hx8a_5 => simp only [Act.eval, Array.getD_eq_getD_getElem?, List.getElem?_toArray, List.getElem?_cons_zero, List.getElem?_cons_succ, Option.getD_some]
            try case hB8a_5 => simp
            case own8a_5 => exact own_new (Nat.le_refl _)
            case hby8a_5 => exact by have hz : R1 = [] := List.eq_nil_of_length_eq_zero (by rw [R1L.out]; omega); rw [hz]; exact Bys.nil _ _
            
            case le8a_5 => omega
            intro v8 w8 ho8 hg8 _ _
            have HH := Lib.hid (held_mk HCH.out HL1.out HN1.out HE1.out.symm L7a.out L7b.out s15 s17 O7g.out ho8 (by have := R1L.out; omega) hg8)
            have hb8 : Below w1.heap.size w7 w8 := (Below.alloc (Below.refl _ _) s17 _).grown hg8 (by simp; omega) (fun q hq => by simp [Value.ownBlock] at hq; omega)
            have B8 := Lib.hid (B7.out.trans hb8)
            clear ho8 hg8 hb8
            go_wp2_with fail
            go_roundw
            case rel => exact ⟨k + 1, cap + 0, e1, by omega, by omega, (fun _ => by omega), by go_num, by go_num, rfl, HH.out, B8.out⟩
            case measure => simp [intOf]; omega
          · have hc6 : kk < c5 := by omega
            have d7 : (c5 == kk) = false := by simp [hc5]
            have d8 : (c5 - kk = 0) = False := by simp; omega
            go_wp2_with (at_builtin; refine wpList_append_bys rfl (.tmp 81) (.tmp 84) rfl w7.heap.size _ ?hB8b_5 (.slice (some ⟨w7.heap.size, 0, none⟩) 0 0) 0 [] rfl ?own8b_5 (Option.map (fun x => x.add kk) a5) (n5 - kk) (c5 - kk) R1 ?hx8b_5 ?hby8b_5 ?nil8b_5 ?le8b_5 ?_)
            try case hx8b_5 => simp only [Act.eval, Array.getD_eq_getD_getElem?, List.getElem?_toArray, List.getElem?_cons_zero, List.getElem?_cons_succ, Option.getD_some]
            try case hB8b_5 => simp
            case own8b_5 => exact own_new (Nat.le_refl _)
            case hby8b_5 => exact by rw [R1D.out]; exact (AL7.out.row.below (alB _ _)).dropO kk hkl
            case nil8b_5 => exact fun e => by have h1 := AL7.out.nil (by cases a5 with | none => rfl | some y => simp at e); omega
            case le8b_5 => omega
            intro v8 w8 ho8 hg8 _ _
            have HH := Lib.hid (held_mk HCH.out HL1.out HN1.out HE1.out.symm L7a.out L7b.out s15 s17 O7g.out ho8 (by have := R1L.out; omega) hg8)
            have hb8 : Below w1.heap.size w7 w8 := (Below.alloc (Below.refl _ _) s17 _).grown hg8 (by simp; omega) (fun q hq => by simp [Value.ownBlock] at hq; omega)
            have B8 := Lib.hid (B7.out.trans hb8)
            clear ho8 hg8 hb8
            go_wp2_with fail
            go_roundw
            case rel => exact ⟨k + 1, cap + 0, e1, by omega, by omega, (fun _ => by omega), by go_num, by go_num, rfl, HH.out, B8.out⟩
            case measure => simp [intOf]; omega
        · have hpc : p < cap := by omega
          have d7 : (cap - p = 0) = False := by simp; omega
          have HC0 : Hid (L.take (p + r) = fb G ++ (M ++ (L.drop p).take r)) := Lib.hid (by rw [List.take_add, HT.out, List.append_assoc])
          have CB : Hid (Bys wo (Option.map (fun x => x.add p) a) r ((L.drop p).take r)) := Lib.hid ((AW.out.row.dropO p hp).take r (by omega))
          have CN : Hid (Option.map (fun x => x.add p) a = none → cap - p = 0) := Lib.hid (fun e => by have h1 := AW.out.nil (by cases a with | none => rfl | some y => simp at e); omega)
          obtain ⟨C, hC⟩ : ∃ C : List Nat, C = (L.drop p).take r := ⟨_, rfl⟩
          rw [← hC] at HC0 CB
          have hCl : C.length = r := CB.out.ln
          clear hC
          go_wp2_with (at_builtin; refine wpList_append_bys rfl (.tmp 53) (.tmp 59) rfl s' _ ?hB5_6 _ M.length M rfl ?own5_6 (Option.map (fun x => x.add p) a) r (cap - p) C ?hx5_6 ?hby5_6 ?nil5_6 ?le5_6 ?_)
          try case hx5_6 => simp only [Act.eval, Array.getD_eq_getD_getElem?, List.getElem?_toArray, List.getElem?_cons_zero, List.getElem?_cons_succ, Option.getD_some]; first | done | rw [Nat.add_sub_cancel_left] | simp
          try case hB5_6 => exact hsw
          case own5_6 => exact OL.out
          case hby5_6 => exact CB.out
          try case nil5_6 => first | exact CN.out | exact (fun e => by have h1 := AW.out.nil e; omega)
          case le5_6 => omega
          intro v5 w5 ho5 hg5 _ _
          obtain ⟨n5, hn5⟩ : ∃ n5, n5 = M.length + r := ⟨_, rfl⟩
          obtain ⟨M1, hM1⟩ : ∃ M1, M1 = M ++ C := ⟨_, rfl⟩
          rw [← hn5, ← hM1] at ho5
          rw [← hM1] at HC0
          have HCH := HC0
          have hM1l : M1.length = n5 := by rw [hM1, List.length_append]; omega
          have hM1b : ∀ b ∈ M1, b < 256 := fun b hb => by
            have hm : b ∈ L.take (p + r) := by rw [HCH.out]; simp [hb]
            exact AW.out.row.by' b (List.mem_of_mem_take hm)
          have L5 := Lib.hid (HLIE.out.grow5 HLT.out OL.out hg5)
          have G5 := Lib.hid (own_grow OL.out OG.out (by decide) hg5)
          have hb5 : Below w1.heap.size wo w5 := (Below.refl _ _).grown hg5 sw (fun q hq => by have := (OL.out.lt q hq).1; omega)
          have B5 := Lib.hid (BE.out.trans hb5)
          have s15 := B5.out.size
          have O5 := Lib.hid ho5
          obtain ⟨a5, c5, rfl, hv5, _⟩ := owns_arg ho5 hM1b
          have V5 := Lib.hid hv5
          have MB := Lib.hid hM1b
          have hn5' : n5 ≤ 9000 := by omega
          have HM1L := Lib.hid hM1l
          clear hn5 hM1l HC0 CB CN hCl hM1 ho5 hg5 hM1b hb5 hv5 HLIE HLT OG OL HT HN HE BE
          go_wp2_with fail
          refine (cut_any a5 n5 c5 M1 w5 V5.out.row V5.out.le V5.out.mx (by omega)).mono ?_
          rintro e w6 ⟨F1, R1, vl, rfl, hL1, hN1, hof, hlie1, b6⟩
          obtain ⟨kk, hkk⟩ : ∃ kk, kk = (fb F1).length := ⟨_, rfl⟩
          obtain ⟨e1, he1⟩ : ∃ e1, e1 = firstE R1 := ⟨_, rfl⟩
          rw [← hkk, ← he1]
          obtain ⟨fa, fc, hvl, _, _, _, _⟩ := own_ads hof hlie1
          subst hvl
          have hlen1 : kk + R1.length = n5 := by rw [← HM1L.out, hL1, List.length_append, hkk]
          have hkl : kk ≤ n5 := by omega
          have R1L : Hid (R1.length = n5 - kk) := Lib.hid (by omega)
          have R1D : Hid (R1 = M1.drop kk) := Lib.hid (by
            rw [hL1, List.drop_append_of_le_length (by rw [hkk]; exact Nat.le_refl _), hkk]
            simp)
          have hF1 := fb_count F1
          rw [← hkk] at hF1
          have HL1 := Lib.hid hL1
          have HN1 := Lib.hid hN1
          have HE1 := Lib.hid he1
          have HOF := Lib.hid hof
          have L6 := Lib.hid (L5.out.cs (Cs.below b6))
          have M6 := Lib.hid hlie1
          have G6 := Lib.hid (own_cs (Cs.below b6) G5.out)
          have O6 := Lib.hid (own_cs (Cs.below b6) O5.out)
          have B6 := Lib.hid (B5.out.trans (b6.mono s15))
          have s16 := B6.out.size
          have e2 : decide ((kk : Int) < 0) = false := by simp
          have e3 : decide ((n5 : Int) < (kk : Int)) = false := by simp; omega
          have e4 : decide (n5 < kk) = false := by simp; omega
          have hvc := V5.out.le
          have hvm := V5.out.mx
          unfold maxLen at hvm
          clear hL1 hN1 he1 hkk hof hlie1 b6 L5 G5 O5 hlen1 V5
          go_wp2_with (at_builtin; refine wpList_append_acl rfl (.tmp 78) (.tmp 79) rfl w1.heap.size w6 ?hB7_6 _ G.length (acl G) rfl ?own7_6 w5.heap.size (.slice fa F1.length fc) F1 F1.length rfl rfl ?xo7_6 ?le7_6 ?_)
          case hB7_6 => exact s16
          case own7_6 => exact G6.out
          case xo7_6 => exact HOF.out
          case le7_6 => omega
          intro v7 w7 ho7 hg7
          have L7a := Lib.hid (L6.out.grow25 G6.out hg7)
          have L7b := Lib.hid (M6.out.grow25 G6.out hg7)
          have O7 := own_grow G6.out O6.out (by decide) hg7
          obtain ⟨a7, c7, e7, hv7, _⟩ := owns_arg O7 MB.out
          simp only [Value.slice.injEq, true_and] at e7
          obtain ⟨rfl, rfl⟩ := e7
          have AL7 := Lib.hid hv7
          have O7g := Lib.hid ho7
          have hb7 : Below w1.heap.size w6 w7 := (Below.refl _ _).grown hg7 s16 (fun q hq => (G6.out.lt q hq).1)
          have B7 := Lib.hid (B6.out.trans hb7)
          have s17 := B7.out.size
          clear ho7 hg7 hb7 O7 hv7 L6 M6 G6 O6 HOF
          by_cases hc5 : c5 = kk
          · subst hc5
            go_wp2_with (at_builtin; refine wpList_append_bys rfl (.tmp 81) (.tmp 84) rfl w7.heap.size _ ?hB8a_6 (.slice (some ⟨w7.heap.size, 0, none⟩) 0 0) 0 [] rfl ?own8a_6 a5 0 0 R1 ?hx8a_6 ?hby8a_6 (fun _ => rfl) ?le8a_6 ?_)
            try case hx8a_6 => simp only [Act.eval, Array.getD_eq_getD_getElem?, List.getElem?_toArray, List.getElem?_cons_zero, List.getElem?_cons_succ, Option.getD_some]
            try case hB8a_6 => simp
            case own8a_6 => exact own_new (Nat.le_refl _)
            case hby8a_6 => exact by have hz : R1 = [] := List.eq_nil_of_length_eq_zero (by rw [R1L.out]; omega); rw [hz]; exact Bys.nil _ _
            
            case le8a_6 => omega
            intro v8 w8 ho8 hg8 _ _
            have HH := Lib.hid (held_mk HCH.out HL1.out HN1.out HE1.out.symm L7a.out L7b.out s15 s17 O7g.out ho8 (by have := R1L.out; omega) hg8)
            have hb8 : Below w1.heap.size w7 w8 := (Below.alloc (Below.refl _ _) s17 _).grown hg8 (by simp; omega) (fun q hq => by simp [Value.ownBlock] at hq; omega)
            have B8 := Lib.hid (B7.out.trans hb8)
            clear ho8 hg8 hb8
            go_wp2_with fail
            go_roundw
            case rel => exact ⟨k + 1, p + r, e1, by omega, by omega, (fun _ => by omega), by go_num, by go_num, rfl, HH.out, B8.out⟩
            case measure => simp [intOf]; omega
          · have hc6 : kk < c5 := by omega
            have d7 : (c5 == kk) = false := by simp [hc5]
            have d8 : (c5 - kk = 0) = False := by simp; omega
            go_wp2_with (at_builtin; refine wpList_append_bys rfl (.tmp 81) (.tmp 84) rfl w7.heap.size _ ?hB8b_6 (.slice (some ⟨w7.heap.size, 0, none⟩) 0 0) 0 [] rfl ?own8b_6 (Option.map (fun x => x.add kk) a5) (n5 - kk) (c5 - kk) R1 ?hx8b_6 ?hby8b_6 ?nil8b_6 ?le8b_6 ?_)
            try case hx8b_6 => simp only [Act.eval, Array.getD_eq_getD_getElem?, List.getElem?_toArray, List.getElem?_cons_zero, List.getElem?_cons_succ, Option.getD_some]
            try case hB8b_6 => simp
            case own8b_6 => exact own_new (Nat.le_refl _)
            case hby8b_6 => exact by rw [R1D.out]; exact (AL7.out.row.below (alB _ _)).dropO kk hkl
            case nil8b_6 => exact fun e => by have h1 := AL7.out.nil (by cases a5 with | none => rfl | some y => simp at e); omega
            case le8b_6 => omega
            intro v8 w8 ho8 hg8 _ _
            have HH := Lib.hid (held_mk HCH.out HL1.out HN1.out HE1.out.symm L7a.out L7b.out s15 s17 O7g.out ho8 (by have := R1L.out; omega) hg8)
            have hb8 : Below w1.heap.size w7 w8 := (Below.alloc (Below.refl _ _) s17 _).grown hg8 (by simp; omega) (fun q hq => by simp [Value.ownBlock] at hq; omega)
            have B8 := Lib.hid (B7.out.trans hb8)
            clear ho8 hg8 hb8
            go_wp2_with fail
            go_roundw
            case rel => exact ⟨k + 1, p + r, e1, by omega, by omega, (fun _ => by omega), by go_num, by go_num, rfl, HH.out, B8.out⟩
            case measure => simp [intOf]; omega
    · by_cases hk2 : k ≤ len2
      · have hE : ¬ E = 0 := by omega
        have t1 : decide ((k : Int) ≤ (len2 : Int)) = true := by simp; omega
        have t2 : ((E : Int) == 0) = false := by simp; omega
        have hxx : E ≠ 0 ∨ p = L.length := by rw [A1.out.row.ln]; omega
        obtain ⟨G, R2, hL2, hN2, hE2, hlieG, hownG⟩ := hheld.end hxx
        have AW := A1.out.below hbe
        have BE := Lib.hid (B1.out.trans (hbe.mono s1))
        have sw := BE.out.size
        obtain ⟨wa, wc, rfl, hadsG, _, _, _⟩ := own_ads hownG hlieG
        obtain ⟨gn, hgn⟩ : ∃ gn, gn = G.length := ⟨_, rfl⟩
        rw [← hgn] at hadsG ⊢
        have GADS := Lib.hid hadsG
        have HGN := Lib.hid hgn
        have GOK := Lib.hid (fun f hf => (hlieG f hf).1)
        have HL2 := Lib.hid hL2
        have HN2 := Lib.hid hN2
        have HE2 := Lib.hid hE2
        clear hheld hbe hL2 hN2 hE2 hlieG hownG hadsG hgn hxx
        go_wp2_with fail
        refine (cut_any a len cap L wo AW.row AW.le AW.mx (by omega)).mono ?_
        rintro e w4 ⟨F, R, v, rfl, hL, hN, hof, hlie, b4⟩
        obtain ⟨hFG, rfl⟩ := cut_unique (HL2.out.symm.trans hL) GOK.out (fun f hf => (hlie f hf).1) HN2.out hN
        have hFl : F.length = gn := by have := congrArg List.length hFG; rw [HGN.out]; simpa using this.symm
        rw [HE2.out]
        obtain ⟨fa, fc, rfl, hads, hfc, hfm, hfb⟩ := own_ads hof hlie
        rw [hFl] at hads ⊢
        have hads2 := GADS.out.below b4
        have B4 := Lib.hid (BE.out.trans (b4.mono sw))
        have SA := Lib.hid (fun (W : World) (g : Gd w4 W) => same_all wa fa gn wc fc _ _ W (hads2.below g) (hads.below g) (by rw [dt_ad, dt_ad]; exact hFG))
        obtain ⟨kn, hkn⟩ : ∃ kn, kn = (fb F).length := ⟨_, rfl⟩
        rw [← hkn]
        clear hkn AW hof hlie b4 hN hL hads hads2 hfb hFG GADS HGN HL2 HN2 HE2 GOK
        go_wp2_with fail
        refine (SA.out w4 (Below.refl _ _)).mono ?_
        rintro e w9 ⟨rfl, b18⟩
        have B9 := Lib.hid (B4.out.trans (b18.mono B4.out.size))
        clear b18
        go_wp2_with fail
        go_ret
        exact ⟨rfl, B9.out⟩
      · have t1 : decide ((k : Int) ≤ (len2 : Int)) = false := by simp; omega
        have hxx : E ≠ 0 ∨ p = L.length := by rw [A1.out.row.ln]; omega
        obtain ⟨G, R2, hL2, hN2, hE2, hlieG, hownG⟩ := hheld.end hxx
        have AW := A1.out.below hbe
        have BE := Lib.hid (B1.out.trans (hbe.mono s1))
        have sw := BE.out.size
        obtain ⟨wa, wc, rfl, hadsG, _, _, _⟩ := own_ads hownG hlieG
        obtain ⟨gn, hgn⟩ : ∃ gn, gn = G.length := ⟨_, rfl⟩
        rw [← hgn] at hadsG ⊢
        have GADS := Lib.hid hadsG
        have HGN := Lib.hid hgn
        have GOK := Lib.hid (fun f hf => (hlieG f hf).1)
        have HL2 := Lib.hid hL2
        have HN2 := Lib.hid hN2
        have HE2 := Lib.hid hE2
        clear hheld hbe hL2 hN2 hE2 hlieG hownG hadsG hgn hxx
        go_wp2_with fail
        refine (cut_any a len cap L wo AW.row AW.le AW.mx (by omega)).mono ?_
        rintro e w4 ⟨F, R, v, rfl, hL, hN, hof, hlie, b4⟩
        obtain ⟨hFG, rfl⟩ := cut_unique (HL2.out.symm.trans hL) GOK.out (fun f hf => (hlie f hf).1) HN2.out hN
        have hFl : F.length = gn := by have := congrArg List.length hFG; rw [HGN.out]; simpa using this.symm
        rw [HE2.out]
        obtain ⟨fa, fc, rfl, hads, hfc, hfm, hfb⟩ := own_ads hof hlie
        rw [hFl] at hads ⊢
        have hads2 := GADS.out.below b4
        have B4 := Lib.hid (BE.out.trans (b4.mono sw))
        have SA := Lib.hid (fun (W : World) (g : Gd w4 W) => same_all wa fa gn wc fc _ _ W (hads2.below g) (hads.below g) (by rw [dt_ad, dt_ad]; exact hFG))
        obtain ⟨kn, hkn⟩ : ∃ kn, kn = (fb F).length := ⟨_, rfl⟩
        rw [← hkn]
        clear hkn AW hof hlie b4 hN hL hads hads2 hfb hFG GADS HGN HL2 HN2 HE2 GOK
        go_wp2_with fail
        refine (SA.out w4 (Below.refl _ _)).mono ?_
        rintro e w9 ⟨rfl, b18⟩
        have B9 := Lib.hid (B4.out.trans (b18.mono B4.out.size))
        clear b18
        go_wp2_with fail
        go_ret
        exact ⟨rfl, B9.out⟩
end Go.Proofs.Ytnihgpaandodjaa
