/- MbapBack. -/
import Derived.Test.YtnihgpaandodjaaAr
namespace Go.Proofs.Ytnihgpaandodjaa
set_option linter.unusedVariables false
open Go.ChangeShapes Go.WideShapes Go.ChangeAt Go.RowKit
attribute [local go_sem ↓] Go.wp_at_zero Go.wp_at_succ

def avl (A : List Ad) : List Value := A.flatMap adv
theorem avl_len (A : List Ad) : (avl A).length = A.length * 3 := by
  induction A with
  | nil => rfl
  | cons x A ih => simp only [avl, List.flatMap_cons, List.length_append] at ih ⊢; rw [ih]; simp [adv]; omega
theorem avl_app (A B : List Ad) : avl (A ++ B) = avl A ++ avl B := by simp [avl]
theorem avl_one (x : Ad) : avl [x] = adv x := by simp [avl]
theorem avl_at (A : List Ad) (i j : Nat) (hi : i < A.length) (hj : j < 3) : (avl A)[i * 3 + j]? = (adv (A.getD i default))[j]? := by
  induction A generalizing i with
  | nil => simp at hi
  | cons x A ih =>
    have e : avl (x :: A) = adv x ++ avl A := rfl
    rw [e]
    cases i with
    | zero => rw [List.getElem?_append_left (by simp [adv]; omega)]; simp
    | succ i =>
      rw [List.getElem?_append_right (by simp [adv]; omega)]
      have e2 : (i + 1) * 3 + j - (adv x).length = i * 3 + j := by simp [adv]; omega
      rw [e2, ih i (by simpa using hi)]
      simp
theorem own_avl {B : Nat} {w : World} {v : Value} {A : List Ad} (h : w.ownsRow B 25 3 v A.length (avl A)) (hok : ∀ x ∈ A, x.ok w) : ∃ a c, v = .slice a A.length c ∧ Ads w a A.length A ∧ A.length ≤ c ∧ c ≤ maxLen ∧ (∀ b off, a = some ⟨b, off, none⟩ → B ≤ b) := by
  have hok : ∀ i, i < A.length → (A.getD i default).ok w := by
    intro i hi
    have : A.getD i default = A[i] := by simp [List.getD, List.getElem?_eq_getElem hi]
    rw [this]
    exact hok _ (List.getElem_mem hi)
  obtain ⟨hln, ⟨hv, h0⟩ | ⟨g, cap, cur, hv, hg, hb, hl', hm, hs, ht⟩⟩ := h
  · rw [h0] at hok ⊢
    refine ⟨none, 0, hv, ⟨h0, Nat.zero_le _, hok, .inl rfl⟩, Nat.le_refl _, Nat.zero_le _, fun b off e => by cases e⟩
  · refine ⟨_, cap, hv, ⟨rfl, by omega, hok, .inr ⟨g, 0, rfl, blk_lt hb, fun i hi j hj => ?_⟩⟩, hl', hm, fun b off e => by simp only [Option.some.injEq, Addr.mk.injEq, and_true] at e; omega⟩
    have h1 : (cur.toList.take (A.length * 3))[i * 3 + j]? = (avl A)[i * 3 + j]? := by rw [ht]
    rw [List.getElem?_take_of_lt (by omega), avl_at A i j hi hj] at h1
    rw [← h1]
    simp [World.cell?, hb]
/-- A row of one type grows: a row of another is where it was. -/
theorem own_grow {W w1 : World} {b e sz n b' e' sz' n' : Nat} {v v' : Value} {L L' : List Value} (h : W.ownsRow b e sz v n L) (h' : W.ownsRow b' e' sz' v' n' L') (ht : e' ≠ e) (hg : W.grownBy w1 v.ownBlock) : w1.ownsRow b' e' sz' v' n' L' := by
  obtain ⟨hl, q | ⟨g, cap, cur, hv, hgb, hb, r⟩⟩ := h'
  · exact ⟨hl, .inl q⟩
  · refine ⟨hl, .inr ⟨g, cap, cur, hv, hgb, (hg.block g (blk_lt hb) (fun e => ?_)).trans hb, r⟩⟩
    rcases h.2 with ⟨rfl, _⟩ | ⟨g2, cap2, cur2, hv2, _, hb2, _⟩
    · simp [Value.ownBlock] at e
    · subst hv2
      simp [Value.ownBlock] at e
      subst e
      rw [hb2] at hb
      simp at hb
      exact ht hb.2.symm
theorem cell_new (w : World) (cs : Array Value) (t : TypeId) (m : Nat × Nat) (j : Nat) : (w.alloc (.cells cs t m)).cell? ⟨w.heap.size, j, none⟩ = cs[j]? := by
  unfold World.cell?; simp only [heap_alloc_new]; rfl
def fine (x : Ad) : Bool := decide (0 < x.n) && decide (x.n ≤ 253)
def tf (x : Ad) : Fd := ⟨x.id, x.u, 0, x.P⟩
def gd (A : List Ad) : List Ad := A.filter fine
theorem gd_snoc (A : List Ad) (k : Nat) (h : k < A.length) : gd (A.take (k + 1)) = gd (A.take k) ++ (if fine (A.getD k default) then [A.getD k default] else []) := by
  rw [take_snoc A k h, gd, List.filter_append, List.filter_cons]; rfl
theorem gd_take_len (A : List Ad) (k : Nat) : (gd (A.take k)).length ≤ A.length := Nat.le_trans (List.length_filter_le _ _) (List.length_take_le' _ _)
theorem tf_ok {x : Ad} {w : World} (h : x.ok w) (hf : fine x = true) : (tf x).ok := by
  simp only [fine, Bool.and_eq_true, decide_eq_true_eq] at hf
  obtain ⟨h1, h2, h3, h4, h5⟩ := h
  have := h3.ln
  exact ⟨h1, h2, by show 1 ≤ x.P.length; omega, by show x.P.length ≤ 253; omega, h3.by'⟩
def fbl (A : List Ad) : List Nat := fb ((gd A).map tf)
theorem fbl_bound {w : World} (A : List Ad) (hok : ∀ x ∈ A, x.ok w) : (fbl A).length ≤ 4 * (A.length + psum A) := by
  induction A with
  | nil => simp [fbl, gd, fb]
  | cons x A ih =>
    have ih := ih (fun y hy => hok y (by simp [hy]))
    have hx := hok x (by simp)
    have e2 : psum (x :: A) = min x.n 20000 + psum A := by simp [psum]
    rw [e2, List.length_cons]
    by_cases hf : fine x = true
    · have e1 : fbl (x :: A) = putL x.id x.u x.P ++ fbl A := by simp [fbl, gd, hf, fb, tf]
      have hl := hx.2.2.1.ln
      simp only [fine, Bool.and_eq_true, decide_eq_true_eq] at hf
      rw [e1, List.length_append, putL_len]
      omega
    · have e1 : fbl (x :: A) = fbl A := by simp [fbl, gd, hf]
      rw [e1]; omega
theorem fbl_app (A B : List Ad) : fbl (A ++ B) = fbl A ++ fbl B := by simp [fbl, gd, fb_app]
theorem fbl_take (A : List Ad) (k : Nat) : (fbl (A.take k)).length ≤ (fbl A).length := by
  conv => rhs; rw [← List.take_append_drop k A]
  rw [fbl_app, List.length_append]; omega
theorem fbl_snoc (A : List Ad) (k : Nat) (h : k < A.length) : fbl (A.take (k + 1)) = fbl (A.take k) ++ (if fine (A.getD k default) then putL (A.getD k default).id (A.getD k default).u (A.getD k default).P else []) := by
  rw [take_snoc A k h, fbl_app]
  congr 1
  generalize A.getD k default = x
  by_cases hf : fine x = true
  · simp [fbl, gd, hf, fb, tf]
  · simp [fbl, gd, hf, fb]
theorem mem_gd {A : List Ad} {x : Ad} (h : x ∈ gd A) : x ∈ A ∧ fine x = true := by simpa [gd] using h
theorem Ads.mem {w : World} {a : Option Addr} {n : Nat} {A : List Ad} (h : Ads w a n A) : ∀ x ∈ A, x.ok w := by
  intro x hx
  obtain ⟨i, hi, rfl⟩ := List.getElem_of_mem hx
  have := h.ok i (by rw [← h.ln]; exact hi)
  simpa [List.getD, List.getElem?_eq_getElem hi] using this
theorem dt_tf (A : List Ad) : (A.map tf).map fdt = A.map dt := by simp [tf, dt, fdt]
set_option maxRecDepth 100000 in
set_option maxHeartbeats 16000000 in
theorem back_any (a : Option Addr) (len cap : Nat) (A : List Ad) (w : World) (h : Ads w a len A) :
    Calls Try.prog 4 #[.slice a len cap] w (TrueP w) := by
  have hle := h.le
  unfold maxLen at hle
  have AA := Lib.hid h
  clear h
  go_enter Try.func4, Try.ntmps4
  go_wp2_with fail
  refine (head_any w).mono ?_
  rintro e w1 ⟨rfl, b1⟩
  have B1 := Lib.hid b1
  have s1 := b1.size
  clear b1
  go_wp2_with fail
  refine (great_any a len cap A w1 (AA.out.below B1.out)).mono ?_
  rintro e w2 ⟨r, rfl, hr, b2⟩
  have B2 := Lib.hid (B1.out.trans (b2.mono s1))
  have s2 := B2.out.size
  clear b2
  cases r with
  | true =>
    go_wp2_with fail
    go_ret
    exact ⟨rfl, B2.out⟩
  | false =>
    have hs := hr rfl
    have A2 := Lib.hid (AA.out.below B2.out)
    have hbd := fbl_bound A A2.out.mem
    have hln := A2.out.ln
    clear hr
    go_wp2_with fail
    go_loopw [4, 5, 6] (fun v v2 iv wr => ∃ k : Nat, k ≤ len ∧ iv = .int .i64 k ∧ wr.ownsRow w2.heap.size 25 3 v (gd (A.take k)).length (avl (gd (A.take k))) ∧ wr.ownsRow w2.heap.size 5 1 v2 (fbl (A.take k)).length (bv (fbl (A.take k))) ∧ Below w2.heap.size w2 wr) (fun _ _ iv _ => len - (intOf iv).toNat)
    case atStart => exact ⟨0, Nat.zero_le _, rfl, ⟨rfl, .inl ⟨rfl, rfl⟩⟩, own_none, Below.refl _ _⟩
    case round =>
      obtain ⟨wo, rfl⟩ : ∃ wo : World, wo = wr := ⟨_, rfl⟩
      obtain ⟨k, hk, rfl, hown, hown2, hbe⟩ := hrel
      by_cases hkl : k < len
      · have hA := A2.out.below hbe
        obtain ⟨b, off, ha, hbl, hc⟩ := hA.pos (by omega)
        subst ha
        obtain ⟨x0, x1, x2⟩ := hc k hkl
        have hxo := hA.ok k hkl
        have hg1 := gd_snoc A k (by omega)
        have hf1 := fbl_snoc A k (by omega)
        have hft := fbl_take A (k + 1)
        generalize A.getD k default = x at *
        have PUT := put_any x.id x.u x.s x.n x.c x.P wo hxo.2.2.1 hxo.1 hxo.2.1
        have hpl := hxo.2.2.1.ln
        have hnl := hxo.2.2.1.le
        unfold maxLen at hnl
        have G1 := Lib.hid hg1
        have F1 := Lib.hid hf1
        have FT := Lib.hid hft
        have XO := Lib.hid hxo
        have PUT := Lib.hid PUT
        have O := Lib.hid hown
        have O2 := Lib.hid hown2
        have BE := Lib.hid hbe
        have sw := hbe.size
        have i1 : (0 : Int) ≤ (k : Int) := by omega
        have i2 : (k : Int) < (len : Int) := by omega
        obtain ⟨id, u, s, n, c, P⟩ := x
        simp only at x0 x1 x2 hpl hnl
        clear hg1 hf1 hft hxo hown hown2 hbe hA hc
        by_cases hfi : fine ⟨id, u, s, n, c, P⟩ = true
        · have hfi' := hfi
          simp only [fine, Bool.and_eq_true, decide_eq_true_eq] at hfi'
          have HFI := Lib.hid hfi
          clear hfi
          obtain ⟨f1, f2⟩ := hfi'
          go_wp2_with fail
          refine PUT.out.mono ?_
          rintro e w4 ⟨b4, hif⟩
          try simp only at hif
          rw [if_pos ⟨by omega, by omega⟩, hpl] at hif
          obtain ⟨g4, c4, rfl, ho4⟩ := hif
          have P4 := Lib.hid ho4
          have O4 := Lib.hid (own_cs (Cs.below b4) O.out)
          have Q4 := Lib.hid (own_cs (Cs.below b4) O2.out)
          have B4 := Lib.hid (BE.out.trans (b4.mono sw))
          have s4 := B4.out.size
          have y0 := (b4.cell (p := ⟨b, off + k * 3, none⟩) hbl).trans x0
          have y1 := (b4.cell (p := ⟨b, off + k * 3 + 1, none⟩) hbl).trans x1
          have y2 := (b4.cell (p := ⟨b, off + k * 3 + 2, none⟩) hbl).trans x2
          clear b4 ho4
          clear x0 x1 x2 PUT O O2
          obtain ⟨i0, hi, hz0, hz1, hz2⟩ := info_parts info25
          go_wp2_with (at_builtin; refine wpList_append_own _ rfl (.tmp 64) (.tmp 69) 28 rfl w2.heap.size 25 i0 _ 3 32 Try.underlying28 hi hz0 hz1 hz2 rfl (by decide) _ _ _ rfl (O4.out.alloc _) ⟨w4.heap.size, 0, none⟩ 1 1 (adv ⟨id, u, s, n, c, P⟩) rfl rfl ?cs ?one ?mx ?byt ?hB ?_)
          case cs =>
            intro j u' hu
            rw [addr_add_none, Nat.zero_add]
            rw [cell_new]; simpa [adv] using hu
          case one => intro u hu; simp [adv] at hu; rcases hu with rfl | rfl | rfl <;> rfl
          case mx => have := gd_take_len A k; unfold maxLen; omega
          case byt => have := gd_take_len A k; omega
          case hB => simp; omega
          intro v' w5 hown' hgrow hnn
          have hbA : Below w2.heap.size w4 w5 := (Below.alloc (Below.refl _ _) s4 _).grown hgrow (by simp; omega) (fun q hq => (O4.out.lt q hq).1)
          have P5 := own_grow (O4.out.alloc (.cells #[.int .u16 (id : Int), .int .u8 (u : Int), .slice s n c] 25)) (P4.out.alloc _) (by decide) hgrow
          have Q5 := own_grow (O4.out.alloc (.cells #[.int .u16 (id : Int), .int .u8 (u : Int), .slice s n c] 25)) (Q4.out.alloc _) (by decide) hgrow
          have hg2 := G1.out
          rw [HFI.out, if_pos rfl] at hg2
          have O5 : Hid (w5.ownsRow w2.heap.size 25 3 v' (gd (A.take (k + 1))).length (avl (gd (A.take (k + 1))))) := Lib.hid (by rw [hg2, avl_app, avl_one, List.length_append]; exact hown')
          have s5 := hbA.size
          have s4w := B4.out.size
          have P5b := Lib.hid ((show OwnB wo.heap.size w5 g4 c4 (n + 7) (putL id u P) from P5).bys (putL_by (tf_ok XO.out HFI.out)))
          have B5 := Lib.hid (B4.out.trans hbA)
          have Q5 := Lib.hid Q5
          have hf2 := F1.out
          rw [HFI.out, if_pos rfl] at hf2
          have F2 := Lib.hid hf2
          have FB := Lib.hid (fbl_take A k)
          clear hown' hgrow hnn hbA P5 hg2 hf2 O4 P4 Q4 y0 y1 y2
          go_wp2_with (at_builtin; refine wpList_append_bys rfl (.tmp 71) (.tmp 72) rfl w2.heap.size _ ?hB _ (fbl (A.take k)).length (fbl (A.take k)) rfl ?own (some ⟨g4, 0, none⟩) (n + 7) c4 (putL id u P) rfl ?hby ?nil ?le ?_)
          case hB => omega
          case own => exact Q5.out
          case hby => exact P5b.out
          case nil => intro e; cases e
          case le => have := FB.out; omega
          intro v6 w6 ho6 hg6 _ _
          have hb6 : Below w2.heap.size w5 w6 := (Below.refl _ _).grown hg6 (by omega) (fun q hq => (Q5.out.lt q hq).1)
          have O6 := Lib.hid (own_grow Q5.out O5.out (by decide) hg6)
          have Q6 : Hid (w6.ownsRow w2.heap.size 5 1 v6 (fbl (A.take (k + 1))).length (bv (fbl (A.take (k + 1))))) := Lib.hid (by rw [F2.out, List.length_append, putL_len, hpl]; exact ho6)
          have B6 := Lib.hid (B5.out.trans hb6)
          clear ho6 hg6 hb6
          go_wp2_with fail
          go_roundw
          case rel => exact ⟨k + 1, by omega, by go_num, O6.out, Q6.out, B6.out⟩
          case measure => simp [intOf]; omega
        · have hfi' : fine ⟨id, u, s, n, c, P⟩ = false := by simpa using hfi
          have hno : n = 0 ∨ 253 < n := by
            simp only [fine, Bool.and_eq_true, decide_eq_true_eq] at hfi
            omega
          have HFI := Lib.hid hfi'
          clear hfi hfi'
          go_wp2_with fail
          refine PUT.out.mono ?_
          rintro e w4 ⟨b4, hif⟩
          try simp only at hif
          rw [if_neg (by omega)] at hif
          subst hif
          have O4 := Lib.hid (own_cs (Cs.below b4) O.out)
          have Q4 := Lib.hid (own_cs (Cs.below b4) O2.out)
          have B4 := Lib.hid (BE.out.trans (b4.mono sw))
          have s4 := B4.out.size
          have y0 := (b4.cell (p := ⟨b, off + k * 3, none⟩) hbl).trans x0
          have y1 := (b4.cell (p := ⟨b, off + k * 3 + 1, none⟩) hbl).trans x1
          have y2 := (b4.cell (p := ⟨b, off + k * 3 + 2, none⟩) hbl).trans x2
          have hg2 := G1.out
          rw [HFI.out, if_neg (by simp), List.append_nil] at hg2
          have hf2 := F1.out
          rw [HFI.out, if_neg (by simp), List.append_nil] at hf2
          have G2 := Lib.hid hg2
          have F2 := Lib.hid hf2
          clear b4 x0 x1 x2 PUT O O2 hg2 hf2
          rcases hno with h0 | h0
          · subst h0
            go_wp2_with fail
            go_roundw
            case rel => exact ⟨k + 1, by omega, by go_num, by rw [G2.out]; exact O4.out, by rw [F2.out]; exact Q4.out, B4.out⟩
            case measure => simp [intOf]; omega
          · have j1 : decide ((0 : Int) < (n : Int)) = true := by simp; omega
            have j2 : decide ((n : Int) ≤ 253) = false := by simp; omega
            go_wp2_with fail
            go_roundw
            case rel => exact ⟨k + 1, by omega, by go_num, by rw [G2.out]; exact O4.out, by rw [F2.out]; exact Q4.out, B4.out⟩
            case measure => simp [intOf]; omega
      · have hk' : k = len := by omega
        have hfull : A.take k = A := List.take_of_length_le (by omega)
        rw [hfull] at hown hown2
        subst hk'
        obtain ⟨q, hq⟩ : ∃ q, q = (fbl A).length := ⟨_, rfl⟩
        have hA := A2.out.below hbe
        have hgok : ∀ f ∈ (gd A).map tf, f.ok := by
          intro f hf
          obtain ⟨x, hx, rfl⟩ := List.mem_map.1 hf
          exact tf_ok (A2.out.mem x (mem_gd hx).1) (mem_gd hx).2
        obtain ⟨va, vc, rfl, hv, _⟩ := owns_arg hown2 (fb_by hgok)
        obtain ⟨wa, wc, rfl, hads, _, _, _⟩ := own_avl hown (fun x hx => hA.mem x (mem_gd hx).1)
        obtain ⟨gn, hgn⟩ : ∃ gn, gn = (gd A).length := ⟨_, rfl⟩
        rw [← hq] at hv hbd ⊢
        rw [← hgn] at hads ⊢
        have HQ := Lib.hid hq
        have HGN := Lib.hid hgn
        have GOK := Lib.hid hgok
        have WADS := Lib.hid hads
        have BE := Lib.hid (B2.out.trans (hbe.mono s2))
        have sw := BE.out.size
        clear hq hgn hgok hads hown hown2 hbe hA hfull
        go_wp2_with fail
        refine (cut_any va q vc (fbl A) wo hv.row hv.le hv.mx (by omega)).mono ?_
        rintro e w4 ⟨F, R, v, rfl, hL, hN, hof, hlie, b4⟩
        obtain ⟨hFG, rfl⟩ := cut_all hL (fun f hf => (hlie f hf).1) GOK.out hN
        rw [dt_tf] at hFG
        have hFl : F.length = gn := by have := congrArg List.length hFG; rw [HGN.out]; simpa using this
        have hL' : (fb F).length = q := by rw [HQ.out, hL, List.append_nil]
        rw [hL', firstE_nil]
        obtain ⟨fa, fc, rfl, hads, hfc, hfm, hfb⟩ := own_ads hof hlie
        rw [hFl] at hads ⊢
        have hads2 := WADS.out.below b4
        have B4 := Lib.hid (BE.out.trans (b4.mono sw))
        have SA := Lib.hid (fun (W : World) (g : Gd w4 W) => same_all fa wa gn fc wc _ _ W (hads.below g) (hads2.below g) ((dt_ad F).trans hFG))
        clear hv hof hlie b4 hN hL hL' hads hads2 hfb hFG WADS HQ HGN
        go_wp2_with fail
        refine (SA.out w4 (Below.refl _ _)).mono ?_
        rintro e w9 ⟨rfl, b18⟩
        have B9 := Lib.hid (B4.out.trans (b18.mono B4.out.size))
        clear b18
        go_wp2_with fail
        go_ret
        exact ⟨rfl, B9.out⟩
end Go.Proofs.Ytnihgpaandodjaa
