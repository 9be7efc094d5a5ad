/- MbapMany. -/
import Derived.Test.YtnihgpaandodjaaUn
namespace Go.Proofs.Ytnihgpaandodjaa
set_option linter.unusedVariables false
open Go.ChangeShapes Go.WideShapes Go.ChangeAt Go.RowKit
attribute [local go_sem ↓] Go.wp_at_zero Go.wp_at_succ

def mf (id u : Nat) (Z : List Nat) (i : Nat) : Fd := ⟨(id + i) % 65536, u, 0, i % 256 :: List.replicate (Z.getD i 0 % 253) 0⟩
def ml (id u : Nat) (Z : List Nat) (k : Nat) : List Fd := (List.range k).map (mf id u Z)
theorem ml_succ (id u : Nat) (Z : List Nat) (k : Nat) : ml id u Z (k + 1) = ml id u Z k ++ [mf id u Z k] := by simp [ml, List.range_succ]
theorem mf_ok {id u : Nat} {Z : List Nat} {i : Nat} (hu : u < 256) : (mf id u Z i).ok := by
  refine ⟨Nat.mod_lt _ (by decide), hu, by simp [mf], by simp [mf]; omega, ?_⟩
  intro b hb
  simp only [mf, List.mem_cons, List.mem_replicate] at hb
  omega
theorem ml_ok {id u : Nat} {Z : List Nat} {k : Nat} (hu : u < 256) : ∀ f ∈ ml id u Z k, f.ok := by
  intro f hf
  simp only [ml, List.mem_map] at hf
  obtain ⟨i, _, rfl⟩ := hf
  exact mf_ok hu
theorem ml_len (id u : Nat) (Z : List Nat) (k : Nat) : (ml id u Z k).length = k := by simp [ml]
theorem fb_ml (id u : Nat) (Z : List Nat) (k : Nat) : (fb (ml id u Z k)).length ≤ k * 260 := by
  induction k with
  | zero => simp [ml, fb]
  | succ k ih =>
    rw [ml_succ, fb_app, fb_one, List.length_append, putL_len]
    have : (mf id u Z k).P.length = Z.getD k 0 % 253 + 1 := by simp [mf]
    rw [this]
    have := Nat.mod_lt (Z.getD k 0) (show 0 < 253 by decide)
    omega
theorem Bys.set0 {W : World} {b n v : Nat} {P : List Nat} (h : Bys W (some ⟨b, 0, none⟩) n P) (hp : 0 < n) (hv : v < 256) : Bys (W.setCell ⟨b, 0, none⟩ (.int .u8 (v : Int))) (some ⟨b, 0, none⟩) n (v :: P.drop 1) := by
  have hln := h.ln
  obtain ⟨b', o', e, hlt, hc⟩ := h.pos hp
  simp only [Option.some.injEq, Addr.mk.injEq, and_true] at e
  obtain ⟨rfl, rfl⟩ := e
  refine ⟨by rw [List.length_cons, List.length_drop, hln]; omega, h.le, ?_, .inr ⟨b, 0, rfl, ?_, ?_⟩⟩
  · intro x hx
    rcases List.mem_cons.1 hx with rfl | hx
    · exact hv
    · exact h.by' x (List.mem_of_mem_drop hx)
  · simpa using hlt
  · intro i hi
    cases i with
    | zero => simpa using World.cell?_setCell_same W ⟨b, 0, none⟩ (.int .u8 (v : Int)) (hc 0 hp)
    | succ i =>
      have h1 := hc (i + 1) hi
      rw [World.cell?_setCell_other W _ _ _ (by intro e; simp at e), h1]
      have : (v :: P.drop 1).getD (i + 1) 0 = P.getD (i + 1) 0 := by
        simp [List.getD]
      rw [this]
set_option maxRecDepth 100000 in
set_option maxHeartbeats 16000000 in
theorem many_any (id u : Nat) (hid : id < 65536) (hu : u < 256) (a : Option Addr) (len cap : Nat) (L : List Nat) (w : World) (h : ArgB w a len cap L) :
    Calls Try.prog 8 #[.int .u16 (id : Int), .int .u8 (u : Int), .slice a len cap] w (TrueP w) := by
  have hle := h.row.le
  unfold maxLen at hle
  have A := Lib.hid h
  clear h
  go_enter Try.func8, Try.ntmps8
  go_wp2_with fail
  refine (head_any w).mono ?_
  rintro e w1 ⟨rfl, b1⟩
  have B1 := Lib.hid b1
  have s1 := b1.size
  clear b1
  by_cases hg : 60 < len
  · have d1 : decide ((60 : Int) < (len : Int)) = true := by simp; omega
    go_wp2_with fail
    go_ret
    exact ⟨rfl, B1.out⟩
  have d1 : decide ((60 : Int) < (len : Int)) = false := by simp; omega
  have A1 := Lib.hid (A.out.below B1.out)
  go_wp2_with fail
  go_loopw [8, 9, 10] (fun v nv iv wr => ∃ k : Nat, k ≤ len ∧ iv = .int .i64 k ∧ nv = .int .i64 ((fb (ml id u L k)).length : Nat) ∧ wr.ownsRow w1.heap.size 5 1 v (fb (ml id u L k)).length (bv (fb (ml id u L k))) ∧ Below w1.heap.size w1 wr) (fun _ _ iv _ => len - (intOf iv).toNat)
  case atStart => exact ⟨0, Nat.zero_le _, rfl, rfl, own_none, Below.refl _ _⟩
  case round =>
    obtain ⟨wo, rfl⟩ : ∃ wo : World, wo = wr := ⟨_, rfl⟩
    obtain ⟨k, hk, rfl, rfl, hown, hbe⟩ := hrel
    have hb60 := fb_ml id u L k
    by_cases hkl : k < len
    · have hA := A1.out.below hbe
      obtain ⟨b, off, ha, hbl, hc⟩ := hA.row.pos (by omega)
      subst ha
      have hz := hc k hkl
      have hzl := getD_lt hA.row.by' k
      have hst := ml_succ id u L k
      have hfb : fb (ml id u L (k + 1)) = fb (ml id u L k) ++ putL ((id + k) % 65536) u (k % 256 :: List.replicate (L.getD k 0 % 253) 0) := by rw [hst, fb_app, fb_one]; rfl
      generalize L.getD k 0 = z at *
      generalize hQ : fb (ml id u L k) = Q at *
      have FB := Lib.hid hfb
      have O := Lib.hid hown
      have BE := Lib.hid hbe
      have sw := hbe.size
      have i1 : (0 : Int) ≤ (k : Int) := by omega
      have i2 : (k : Int) < (len : Int) := by omega
      clear hst hfb hown hbe hA hc hQ
      obtain ⟨s, hs⟩ : ∃ s : Nat, s = 1 + z % 253 := ⟨_, rfl⟩
      have hs1 : (1 : Int) + (z : Int) % 253 = (s : Int) := by omega
      have hs2 : 0 < s ∧ s ≤ 253 := by omega
      have hz1 : z % 253 = s - 1 := by omega
      rw [hz1] at FB
      have HS1 := Lib.hid hs1
      clear hz1 hs hs1
      obtain ⟨ti, hi, hz0, hz1, hz2⟩ := info_parts info5
      go_wp2_with (at_make; refine wpList_make_full _ rfl (.tmp 35) (.tmp 35) 23 rfl wo.heap.size 5 ti (.int .u8 0) 1 Try.underlying23 hi hz0 hz1 .i64 .i64 _ _ s rfl rfl ?c1 ?c2 ?c3 ?c4 (Nat.le_refl _) ?_)
      case c1 => exact HS1.out
      case c2 => exact HS1.out
      case c3 => rw [hz2]; omega
      case c4 => unfold maxLen; omega
      intro w2 ho2 hg2
      have mz : (madeCells #[Value.int .u8 0] s).toList = bv (List.replicate s 0) := by rw [← made_zero s, Nat.mul_one]; rfl
      rw [mz] at ho2
      have hb2 : Below wo.heap.size wo w2 := (Below.refl _ _).grown hg2 (Nat.le_refl _) (fun k hk => by cases hk)
      obtain ⟨g', c', e', hO2⟩ := owns_cases ho2 hs2.1
      simp only [Value.slice.injEq, Option.some.injEq, Addr.mk.injEq, and_true, true_and] at e'
      obtain ⟨rfl, rfl⟩ := e'
      have hfz : w2.frozen? ⟨wo.heap.size, 0, none⟩ = false := by
        obtain ⟨cur, _, _, hh, _⟩ := hO2.at
        simp [World.frozen?, hh]
      have hy2 := hO2.bys (by intro b hb; rw [List.mem_replicate] at hb; omega)
      have hk2 : k % 256 < 256 := Nat.mod_lt _ (by decide)
      have h3 := hy2.set0 (v := k % 256) hs2.1 hk2
      have e3 : k % 256 :: (List.replicate s 0).drop 1 = k % 256 :: List.replicate (s - 1) 0 := by simp
      rw [e3] at h3
      have H3 := Lib.hid h3
      have B2 := Lib.hid hb2
      obtain ⟨b', o', e', _, hcl⟩ := hy2.pos hs2.1
      simp only [Option.some.injEq, Addr.mk.injEq, and_true] at e'
      obtain ⟨rfl, rfl⟩ := e'
      have hkk : k % 256 = k := by omega
      rw [hkk] at H3 FB
      have hw16 : IntKind.u16.wrap ((id : Int) + (k : Int)) = (((id + k) % 65536 : Nat) : Int) := by simp [IntKind.wrap, IntKind.bits, IntKind.signed]
      have PUT := Lib.hid (fun (W : World) (q : Bys W (some ⟨wo.heap.size, 0, none⟩) s (k :: List.replicate (s - 1) 0)) => put_any ((id + k) % 65536) u (some ⟨wo.heap.size, 0, none⟩) s s (k :: List.replicate (s - 1) 0) W q (Nat.mod_lt _ (by decide)) hu)
      have hcl0 := hcl 0 hs2.1
      simp only [Nat.add_zero] at hcl0
      have j1 : (0 : Int) < (s : Int) := by omega
      clear h3 e3 hcl hy2 hO2 ho2 hg2 hb2 mz
      go_wp2_with fail
      have hw17 : ((id : Int) + (k : Int)) % 65536 = (((id + k) % 65536 : Nat) : Int) := by omega
      rw [hw17]
      refine (PUT.out _ H3.out).mono ?_
      rintro e w4 ⟨b4, hif⟩
      have hPl : (k :: List.replicate (s - 1) 0).length = s := by simp; omega
      rw [hPl, if_pos ⟨by omega, by omega⟩] at hif
      obtain ⟨g4, c4, rfl, ho4⟩ := hif
      have hpb : ∀ b ∈ putL ((id + k) % 65536) u (k :: List.replicate (s - 1) 0), b < 256 := putL_by (f := ⟨(id + k) % 65536, u, 0, k :: List.replicate (s - 1) 0⟩) ⟨Nat.mod_lt _ (by decide), hu, by rw [hPl]; omega, by rw [hPl]; omega, by intro b hb; simp only [List.mem_cons, List.mem_replicate] at hb; omega⟩
      have hbs : Below wo.heap.size w2 (w2.setCell ⟨wo.heap.size, 0, none⟩ (.int .u8 (k : Int))) := bel_set (Nat.le_refl _)
      have P4 := Lib.hid (ho4.bys hpb)
      have hbW : Below wo.heap.size wo w4 := B2.out.trans (hbs.trans (b4.mono (Nat.le_trans B2.out.size hbs.size)))
      have O4 := Lib.hid (own_cs (Cs.below hbW) O.out)
      have B4 := Lib.hid (BE.out.trans (hbW.mono sw))
      have s4 := B4.out.size
      have s4' := hbW.size
      clear b4 ho4 hbs hbW hpb H3 hcl0 hfz PUT
      have HPL := Lib.hid hPl
      clear hw16 hw17 hPl
      go_wp2_with (at_builtin; refine wpList_append_bys rfl (.tmp 41) (.tmp 49) rfl w1.heap.size _ ?hB _ Q.length Q rfl ?own (some ⟨g4, 0, none⟩) (s + 7) c4 (putL ((id + k) % 65536) u (k :: List.replicate (s - 1) 0)) rfl ?hby ?nil ?le ?_)
      case hB => omega
      case own => exact O4.out
      case hby => exact P4.out
      case nil => intro e; cases e
      case le => omega
      intro v5 w5 ho5 hg5 _ _
      have hb5 : Below w1.heap.size w4 w5 := (Below.refl _ _).grown hg5 s4 (fun q hq => (O4.out.lt q hq).1)
      have hfl : (fb (ml id u L (k + 1))).length = Q.length + (s + 7) := by rw [FB.out, List.length_append, putL_len, HPL.out]
      have O5 : Hid (w5.ownsRow w1.heap.size 5 1 v5 (fb (ml id u L (k + 1))).length (bv (fb (ml id u L (k + 1))))) := Lib.hid (by rw [hfl, FB.out]; exact ho5)
      have B5 := Lib.hid (B4.out.trans hb5)
      have HFL := Lib.hid hfl
      clear ho5 hg5 hb5 O4 O P4 hfl
      go_wp2_with fail
      go_roundw
      case rel => exact ⟨k + 1, by omega, by go_num, by rw [HFL.out, HS1.out]; go_num, O5.out, B5.out⟩
      case measure => simp [intOf]; omega
    · have hk' : k = len := by omega
      subst hk'
      have hok := ml_ok (id := id) (Z := L) (k := k) hu
      have hln := ml_len id u L k
      obtain ⟨G, hG⟩ : ∃ G, G = ml id u L k := ⟨_, rfl⟩
      rw [← hG] at hok hln hown hb60 ⊢
      have HG := Lib.hid hG
      clear hG
      obtain ⟨va, vc, rfl, hv, _⟩ := owns_arg hown (fb_by hok)
      obtain ⟨q, hq⟩ : ∃ q, q = (fb G).length := ⟨_, rfl⟩
      rw [← hq] at hb60 hv ⊢
      have HQ := Lib.hid hq
      have OK := Lib.hid hok
      have BE := Lib.hid (B1.out.trans (hbe.mono s1))
      have sw := BE.out.size
      have AW := A1.out.below hbe
      clear hq hok hown hbe
      go_wp2_with fail
      refine (cut_any va q vc (fb G) wo hv.row hv.le hv.mx (by omega)).mono ?_
      rintro e w2 ⟨F, R, v, rfl, hL, hN, hof, hlie, b2⟩
      obtain ⟨hFG, rfl⟩ := cut_all hL (fun f hf => (hlie f hf).1) OK.out hN
      have hFl : F.length = k := by have := congrArg List.length hFG; simpa [hln] using this
      rw [List.append_nil] at hL
      rw [← hL, ← HQ.out, firstE_nil]
      obtain ⟨fa, fc, rfl, hads, hfc, hfm, hfb⟩ := own_ads hof hlie
      rw [hFl] at hads hfc ⊢
      have B2 := Lib.hid (BE.out.trans (b2.mono sw))
      have hA2 := AW.below b2
      have A2 := Lib.hid hA2
      have ADS := Lib.hid hads
      have hdt := dt_ad F
      rw [hFG] at hdt
      have DT := Lib.hid hdt
      have s2 := B2.out.size
      clear AW hv hof hlie b2 hN hL hads hfb hFG hdt hA2
      go_wp2_with fail
      go_loopw [16] (fun iv wr => ∃ j : Nat, j ≤ k ∧ iv = .int .i64 j ∧ Below w2.heap.size w2 wr) (fun iv _ => k - (intOf iv).toNat)
      case atStart => exact ⟨0, Nat.zero_le _, rfl, Below.refl _ _⟩
      case round =>
        obtain ⟨wo, rfl⟩ : ∃ wo : World, wo = wr := ⟨_, rfl⟩
        obtain ⟨j, hj, rfl, hbe⟩ := hrel
        by_cases hjk : j < k
        · have hA := ADS.out.below hbe
          have hY := A2.out.below hbe
          obtain ⟨b, off, ha, hbl, hc⟩ := hA.pos (by omega)
          subst ha
          obtain ⟨x0, x1, x2⟩ := hc j hjk
          have hxo := hA.ok j hjk
          have hxd : dt ((F.map Fd.ad).getD j default) = ((id + j) % 65536, u, j % 256 :: List.replicate (L.getD j 0 % 253) 0) := by
            have h1 := congrArg (fun M : List (Nat × Nat × List Nat) => M[j]?) DT.out
            have hjF : j < F.length := by omega
            have hjk' : j < (List.range k).length := by simpa using hjk
            simp only [HG.out, ml, List.getElem?_map, List.getElem?_eq_getElem hjF, List.getElem?_eq_getElem hjk', Option.map_some, Option.some.injEq, List.getElem_range] at h1
            simpa [List.getD, List.getElem?_eq_getElem hjF, fdt, mf] using h1
          obtain ⟨zb, zo, hza, _, hzc⟩ := hY.row.pos (by omega)
          subst hza
          have hz := hzc j hjk
          have hzl := getD_lt hY.row.by' j
          generalize L.getD j 0 = z at *
          generalize (F.map Fd.ad).getD j default = x at *
          obtain ⟨xi, xu, xs, xn, xc, P⟩ := x
          simp only [dt, Prod.mk.injEq] at hxd
          obtain ⟨rfl, rfl, rfl⟩ := hxd
          obtain ⟨_, _, hby, _, _⟩ := hxo
          simp only at x0 x1 x2 hby
          have hxn : xn = z % 253 + 1 := by rw [← hby.ln]; simp
          obtain ⟨pb, po, rfl, _, hpc⟩ := hby.pos (by omega)
          have hp0 := hpc 0 (by omega)
          have hjm : j % 256 = j := by omega
          simp only [List.getD_cons_zero, hjm, Nat.add_zero] at hp0
          have hxe : 1 + (z : Int) % 253 = (xn : Int) := by omega
          obtain ⟨X, hX⟩ : ∃ X : Int, IntKind.u16.wrap ((id : Int) + (j : Int)) = X := ⟨_, rfl⟩
          have hX' : (((id + j) % 65536 : Nat) : Int) = X := by rw [← hX]; simp [IntKind.wrap, IntKind.bits, IntKind.signed]
          have hw1 : IntKind.u16.wrap (j : Int) = (j : Int) := by simp [IntKind.wrap, IntKind.bits, IntKind.signed]; omega
          have hw2 : IntKind.u8.wrap (j : Int) = (j : Int) := by simp [IntKind.wrap, IntKind.bits, IntKind.signed]; omega
          have hw4 : IntKind.i64.wrap (z : Int) = (z : Int) := by simp [IntKind.wrap, IntKind.bits, IntKind.signed]; omega
          have hw5 : (z : Int).tmod 253 = (z : Int) % 253 := Int.tmod_eq_emod_of_nonneg (by omega)
          have hw3 : IntKind.i64.wrap (1 + (z : Int).tmod 253) = (xn : Int) := by rw [hw5, hxe]; simp [IntKind.wrap, IntKind.bits, IntKind.signed]; omega
          clear hw5
          rw [hX'] at x0
          have i1 : (0 : Int) ≤ (j : Int) := by omega
          have i2 : (j : Int) < (k : Int) := by omega
          have i3 : (0 : Int) < (xn : Int) := by omega
          have i4 : 0 < xn := by omega
          have BE := Lib.hid hbe
          have KS := Lib.hid (show wo.drew.cell? ⟨b, off + j * 3, none⟩ = some (.int .u16 X) ∧ wo.drew.cell? ⟨b, off + j * 3 + 1, none⟩ = some (.int .u8 (xu : Int)) ∧ wo.drew.cell? ⟨b, off + j * 3 + 2, none⟩ = some (.slice (some ⟨pb, po, none⟩) xn xc) ∧ wo.drew.cell? ⟨zb, zo + j, none⟩ = some (.int .u8 (z : Int)) ∧ wo.drew.cell? ⟨pb, po, none⟩ = some (.int .u8 (j : Int)) from ⟨x0, x1, x2, hz, hp0⟩)
          clear hX' hby hpc hzc hc hA hY hbe hjm hxn
          go_wp2_with fail
          clear x0 x1 x2 hz hp0
          go_region_held3 (fun w' => w'.cell? ⟨b, off + j * 3, none⟩ = some (.int .u16 X) ∧ w'.cell? ⟨b, off + j * 3 + 1, none⟩ = some (.int .u8 (xu : Int)) ∧ w'.cell? ⟨b, off + j * 3 + 2, none⟩ = some (.slice (some ⟨pb, po, none⟩) xn xc) ∧ w'.cell? ⟨zb, zo + j, none⟩ = some (.int .u8 (z : Int)) ∧ w'.cell? ⟨pb, po, none⟩ = some (.int .u8 (j : Int))) (first | exact KS.out | go_keep) (fail)
          go_wp2_with fail
          go_roundw
          case rel => exact ⟨j + 1, by omega, by go_num, BE.out.drew⟩
          case measure => simp [intOf]; omega
        · have hj' : j = k := by omega
          have BE2 := Lib.hid (B2.out.trans (hbe.mono s2))
          clear hbe
          go_wp2_with fail
          go_ret
          exact ⟨rfl, BE2.out⟩
end Go.Proofs.Ytnihgpaandodjaa
