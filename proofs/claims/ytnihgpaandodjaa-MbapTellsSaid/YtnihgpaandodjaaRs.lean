/- MbapRest. -/
import Derived.Test.YtnihgpaandodjaaSm
import Derived.Deep.RegionHeld
namespace Go.Proofs.Ytnihgpaandodjaa
set_option linter.unusedVariables false
open Go.ChangeShapes Go.WideShapes Go.ChangeAt Go.RowKit
attribute [local go_sem ↓] Go.wp_at_zero Go.wp_at_succ

theorem owns_arg {B : Nat} {w : World} {v : Value} {n : Nat} {L : List Nat} (h : w.ownsRow B 5 1 v n (bv L)) (hb : ∀ b ∈ L, b < 256) : ∃ a c, v = .slice a n c ∧ ArgB w a n c L ∧ ∀ b off, a = some ⟨b, off, none⟩ → B ≤ b := by
  obtain ⟨h1, ⟨hv, h0⟩ | ⟨g, cap, cur, hv, hrest⟩⟩ := h
  · subst h0
    have : L = [] := List.eq_nil_of_length_eq_zero (by simpa [bv_len] using h1)
    subst this
    exact ⟨none, 0, hv, ⟨Bys.nil _ _, fun _ => ⟨rfl, rfl⟩, Nat.le_refl _, Nat.zero_le _⟩, fun b off e => by cases e⟩
  · have ho : OwnB B w g cap n L := ⟨h1, .inr ⟨g, cap, cur, rfl, hrest⟩⟩
    exact ⟨_, cap, hv, ho.arg hb, fun b off e => by simp only [Option.some.injEq, Addr.mk.injEq, and_true] at e; have := hrest.1; omega⟩
theorem putL_by {f : Fd} (h : f.ok) : ∀ b ∈ putL f.id f.u f.P, b < 256 := by
  obtain ⟨h1, h2, h3, h4, h5⟩ := h
  intro b hb
  simp only [putL, List.mem_append, List.mem_cons, List.not_mem_nil, or_false] at hb
  rcases hb with (h | h | h | h | h | h | h) | h
  all_goals first | (subst h; omega) | exact h5 b h
theorem fb_by {F : List Fd} (h : ∀ f ∈ F, f.ok) : ∀ b ∈ fb F, b < 256 := by
  intro b hb
  simp only [fb, List.mem_flatMap] at hb
  obtain ⟨f, hf, hb⟩ := hb
  exact putL_by (h f hf) b hb
theorem take_snoc {α : Type} [Inhabited α] (F : List α) (k : Nat) (h : k < F.length) : F.take (k + 1) = F.take k ++ [F.getD k default] := by
  rw [List.take_add_one, List.getElem?_eq_getElem h]
  simp [List.getD, List.getElem?_eq_getElem h]
instance : Inhabited Fd := ⟨⟨0, 0, 0, []⟩⟩
theorem fb_take_le (F : List Fd) (k : Nat) : (fb (F.take k)).length ≤ (fb F).length := by
  conv => rhs; rw [← List.take_append_drop k F]
  rw [fb_app, List.length_append]; omega
theorem first_zero {w : World} {R : List Nat} {e : Ending} {w' : World} (h : FirstP w R e w') (h0 : firstN R = 0) : e = .returned (.tuple #[.agg #[.int .u16 0, .int .u8 0, .slice none 0 0], .int .i64 0, .int .i64 (firstE R : Nat)]) ∧ Below w.heap.size w w' := by
  obtain ⟨hb, h⟩ := h
  unfold firstN at h0
  unfold firstE
  cases hR : firstR R with
  | bad => rw [hR] at h; exact ⟨h, hb⟩
  | more => rw [hR] at h; exact ⟨h, hb⟩
  | frame id u P => rw [hR] at h0; simp at h0
theorem Bys.dropO {W : World} {a : Option Addr} {len : Nat} {L : List Nat} (h : Bys W a len L) (n : Nat) (hn : n ≤ len) : Bys W (Option.map (fun x => x.add n) a) (len - n) (L.drop n) := by
  by_cases h0 : n = len
  · subst h0
    have : L.drop n = [] := List.drop_of_length_le (by rw [h.ln]; exact Nat.le_refl _)
    rw [this, Nat.sub_self]
    exact Bys.nil _ _
  · obtain ⟨b, off, rfl, _, _⟩ := h.pos (by omega)
    have := h.sub n (len - n) (by omega)
    rw [List.take_of_length_le (by rw [List.length_drop, h.ln]; exact Nat.le_refl _)] at this
    simp only [Option.map_some, addr_add_none]
    exact this
def TrueP (w : World) (e : Ending) (w' : World) : Prop := e = .returned (.bool true) ∧ Below w.heap.size w w'
set_option maxRecDepth 100000 in
set_option maxHeartbeats 16000000 in
theorem rest_any (a : Option Addr) (len cap : Nat) (L : List Nat) (w : World) (h : ArgB w a len cap L) :
    Calls Try.prog 6 #[.slice a len cap] w (TrueP w) := by
  have hle := h.row.le
  unfold maxLen at hle
  have A := Lib.hid h
  clear h
  go_enter Try.func6, Try.ntmps6
  go_wp2_with fail
  refine (head_any w).mono ?_
  rintro e w1 ⟨rfl, b1⟩
  have B1 := Lib.hid b1
  have s1 := b1.size
  clear b1
  by_cases hg : 20000 < len
  · have d1 : decide ((20000 : Int) < (len : Int)) = true := by simp; omega
    go_wp2_with fail
    go_ret
    exact ⟨rfl, B1.out⟩
  have d1 : decide ((20000 : Int) < (len : Int)) = false := by simp; omega
  go_wp2_with fail
  refine (cut_any a len cap L w1 (A.out.row.below B1.out) A.out.le A.out.mx (by omega)).mono ?_
  rintro e w2 ⟨F, R, v, rfl, hL, hN, hown, hlie, b2⟩
  obtain ⟨fa, fc, rfl, hads, hfc, hfm, hfb⟩ := own_ads hown hlie
  have B2 := Lib.hid (B1.out.trans (b2.mono s1))
  have s2 := B2.out.size
  have hll : (fb F).length + R.length = len := by rw [← A.out.row.ln, hL, List.length_append]
  have hok : ∀ f ∈ F, f.ok := fun f hf => (hlie f hf).1
  have ADS := Lib.hid hads
  have HL := Lib.hid hL
  have HN := Lib.hid hN
  have OK := Lib.hid hok
  have LL := Lib.hid hll
  have hFl := fb_count F
  have hnlen : (fb F).length ≤ len := by omega
  clear hL hN hown hlie b2 hads hfb hok hll
  obtain ⟨n, hn⟩ : ∃ n, n = (fb F).length := ⟨_, rfl⟩
  obtain ⟨m, hm⟩ : ∃ m, m = F.length := ⟨_, rfl⟩
  obtain ⟨er, her⟩ : ∃ er, er = firstE R := ⟨_, rfl⟩
  rw [← hn, ← hm, ← her]
  rw [← hn] at hnlen hFl
  rw [← hm] at hFl hfc
  have HNN := Lib.hid hn
  have HM := Lib.hid hm
  have HER := Lib.hid her
  clear hn hm her
  have d2 : decide ((n : Int) < 0) = false := by simp
  have d3 : decide ((len : Int) < (n : Int)) = false := by simp; omega
  have d3' : decide (len < n) = false := by simp; omega
  go_wp2_with fail
  go_loopw [7, 8] (fun v iv wr => ∃ k : Nat, k ≤ m ∧ iv = .int .i64 k ∧ wr.ownsRow w2.heap.size 5 1 v (fb (F.take k)).length (bv (fb (F.take k))) ∧ Below w2.heap.size w2 wr) (fun _ iv _ => m - (intOf iv).toNat)
  case atStart => exact ⟨0, Nat.zero_le _, rfl, own_none, Below.refl _ _⟩
  case round =>
    obtain ⟨wo, rfl⟩ : ∃ wo : World, wo = wr := ⟨_, rfl⟩
    obtain ⟨k, hk, rfl, hown, hbe⟩ := hrel
    by_cases hkm : k < m
    · have hA := ADS.out.below hbe
      rw [← HM.out] at hA
      obtain ⟨b, off, ha, hbl, hc⟩ := hA.pos (by omega)
      subst ha
      obtain ⟨x0, x1, x2⟩ := hc k hkm
      have hxo := hA.ok k hkm
      have hkF : k < F.length := by rw [← HM.out]; exact hkm
      have hfk : (F.map Fd.ad).getD k default = (F.getD k default).ad := by simp [List.getD, List.getElem?_eq_getElem hkF]
      have hokk : (F.getD k default).ok := by
        have : F.getD k default = F[k] := by simp [List.getD, List.getElem?_eq_getElem hkF]
        rw [this]; exact OK.out _ (List.getElem_mem hkF)
      have hst : fb (F.take (k + 1)) = fb (F.take k) ++ putL (F.getD k default).id (F.getD k default).u (F.getD k default).P := by
        rw [take_snoc F k hkF, fb_app, fb_one]
      have hbound := fb_take_le F (k + 1)
      rw [← HNN.out] at hbound
      rw [hfk] at x0 x1 x2 hxo
      generalize F.getD k default = f at *
      have ST := Lib.hid hst
      have O := Lib.hid hown
      have BE := Lib.hid hbe
      have PUT := Lib.hid (put_any f.id f.u (some ⟨f.g, 0, none⟩) f.P.length f.P.length f.P wo hxo.2.2.1 hxo.1 hxo.2.1)
      have HB := Lib.hid hbound
      have FOK := Lib.hid hokk
      have sw := hbe.size
      clear hc hA hst hown hbe hxo hfk hokk hbound
      simp only [Fd.ad] at x0 x1 x2
      go_wp2_with fail
      refine PUT.out.mono ?_
      rintro e w4 ⟨b4, hif⟩
      rw [if_pos ⟨by have := FOK.out.2.2.1; omega, FOK.out.2.2.2.1⟩] at hif
      obtain ⟨g4, c4, rfl, ho4⟩ := hif
      have P4 := Lib.hid (ho4.bys (putL_by FOK.out))
      have O4 := Lib.hid (own_cs (Cs.below b4) O.out)
      have B4 := Lib.hid (BE.out.trans (b4.mono sw))
      have s4 := B4.out.size
      clear b4 ho4
      go_wp2_with (at_builtin; refine wpList_append_bys rfl (.tmp 37) (.tmp 42) rfl w2.heap.size _ ?hB _ (fb (F.take k)).length (fb (F.take k)) rfl ?own (some ⟨g4, 0, none⟩) (f.P.length + 7) c4 (putL f.id f.u f.P) rfl ?hby ?nil ?le ?_)
      case hB => omega
      case own => exact O4.out
      case hby => exact P4.out
      case nil => intro e; cases e
      case le =>
        have := congrArg List.length ST.out
        rw [List.length_append, putL_len] at this
        have := HB.out
        omega
      intro v5 w5 ho5 hg5 _ _
      have hb5 : Below w2.heap.size w4 w5 := (Below.refl _ _).grown hg5 s4 (fun q hq => (O4.out.lt q hq).1)
      have O5 : Hid (w5.ownsRow w2.heap.size 5 1 v5 (fb (F.take (k + 1))).length (bv (fb (F.take (k + 1))))) := Lib.hid (by rw [ST.out, List.length_append, putL_len]; exact ho5)
      have B5 := Lib.hid (B4.out.trans hb5)
      clear ho5 hg5 hb5 O4 O P4
      go_wp2_with fail
      go_roundw
      case rel => exact ⟨k + 1, by omega, by go_num, O5.out, B5.out⟩
      case measure => simp [intOf]; omega
    · have hk' : k = m := by omega
      have hfull : F.take k = F := List.take_of_length_le (by rw [hk', HM.out]; exact Nat.le_refl _)
      rw [hfull] at hown
      have hby := fb_by OK.out
      obtain ⟨va, vc, rfl, hv, hvb⟩ := owns_arg hown hby
      rw [← HNN.out] at hv ⊢
      have sw := hbe.size
      have VA := Lib.hid hv
      have BE := Lib.hid (B2.out.trans (hbe.mono s2))
      have hRl : R.length = len - n := by have := LL.out; rw [← HNN.out] at this; omega
      have RL := Lib.hid hRl
      have hRd : R = L.drop n := by
        have h1 := HL.out
        rw [h1, List.drop_append_of_le_length (by rw [HNN.out]; exact Nat.le_refl _), HNN.out]
        simp
      have hFt : fb F = L.take n := by
        have h1 := HL.out
        rw [h1, List.take_append_of_le_length (by rw [HNN.out]; exact Nat.le_refl _), HNN.out]
        simp
      have RD := Lib.hid hRd
      have FT := Lib.hid hFt
      have BW := Lib.hid hbe
      clear hown hvb hfull hby hv hbe hRl hRd hFt
      have AW := Lib.hid (A.out.below BE.out)
      have hcap := A.out.le
      have hcm := A.out.mx
      have hRb : Bys wo a len L := AW.out.row
      have F1 : cap = n → Calls Try.prog 11 #[.slice a 0 0] wo fun e w' => e = .returned (.tuple #[.agg #[.int .u16 0, .int .u8 0, .slice none 0 0], .int .i64 0, .int .i64 (er : Int)]) ∧ Below wo.heap.size wo w' := by
        intro hce
        have hR0 : R = [] := List.eq_nil_of_length_eq_zero (by rw [RL.out]; omega)
        have hz : len - n = 0 := by omega
        rw [HER.out]
        refine (first_any a 0 0 R wo (by rw [hR0]; exact Bys.nil _ _) (Nat.le_refl _) (Nat.zero_le _)).mono fun e w' h => first_zero h HN.out
      have F2 : Calls Try.prog 11 #[.slice (Option.map (fun x => x.add n) a) (len - n) (cap - n)] wo fun e w' => e = .returned (.tuple #[.agg #[.int .u16 0, .int .u8 0, .slice none 0 0], .int .i64 0, .int .i64 (er : Int)]) ∧ Below wo.heap.size wo w' := by
        rw [HER.out]
        refine (first_any _ (len - n) (cap - n) R wo (by rw [RD.out]; exact hRb.dropO n hnlen) (by omega) (by unfold maxLen at hcm ⊢; omega)).mono fun e w' h => first_zero h HN.out
      have FF1 := Lib.hid F1
      have FF2 := Lib.hid F2
      clear F1 F2 hRb
      unfold maxLen at hcm
      by_cases hce : cap = n
      · have FX := Lib.hid (FF1.out hce)
        have HCE := Lib.hid hce
        have hl : len = n := by omega
        have HLN := Lib.hid hl
        subst hce
        clear hl
        go_wp2_with fail
        refine FX.out.mono ?_
        rintro e w7 ⟨rfl, b7⟩
        have B7 := Lib.hid (BE.out.trans (b7.mono (by have := BE.out.size; omega)))
        have A7 := A.out.below B7.out
        have V7 := VA.out.below b7
        clear b7 FF1 FF2 FX HCE B1 BE hg d1 d2 d3 d3' A
        go_wp2_with fail
        have c0 : (w7.alloc (Obj.cells #[.int .u16 0, .int .u8 0, .slice none 0 0] 25)).cell? ⟨w7.heap.size, 0, none⟩ = some (.int .u16 0) := by go_simp
        have c1 : (w7.alloc (Obj.cells #[.int .u16 0, .int .u8 0, .slice none 0 0] 25)).cell? ⟨w7.heap.size, 1, none⟩ = some (.int .u8 0) := by go_simp
        have c2 : (w7.alloc (Obj.cells #[.int .u16 0, .int .u8 0, .slice none 0 0] 25)).cell? ⟨w7.heap.size, 2, none⟩ = some (.slice none 0 0) := by go_simp
        have b8 : Below w7.heap.size w7 (w7.alloc (Obj.cells #[.int .u16 0, .int .u8 0, .slice none 0 0] 25)) := Below.alloc (Below.refl _ _) (Nat.le_refl _) _
        have l8 : w7.heap.size < (w7.alloc (Obj.cells #[.int .u16 0, .int .u8 0, .slice none 0 0] 25)).heap.size := by simp
        have A8 := A7.below b8
        have V8 := V7.below b8
        have b8' := B7.out.trans (b8.mono B7.out.size)
        clear A7 V7 b8
        have l7 := B7.out.size
        generalize w7.heap.size = z at *
        generalize w7.alloc (Obj.cells #[.int .u16 0, .int .u8 0, .slice none 0 0] 25) = w8 at *
        have hS : strN (fb F) = strN (L.take cap) := by rw [FT.out]
        have B8 := Lib.hid b8'
        have KS := Lib.hid (fun (w' : World) (q : Gd w8 w') => show (convert 23 9 (.slice va cap vc)).run Try.prog w' = .ok (.string (strN (L.take cap))) w' ∧ (convert 23 9 (.slice a cap cap)).run Try.prog w' = .ok (.string (strN (L.take cap))) w' ∧ w'.cell? ⟨z, 0, none⟩ = some (.int .u16 0) ∧ w'.cell? ⟨z, 1, none⟩ = some (.int .u8 0) ∧ w'.cell? ⟨z, 2, none⟩ = some (.slice none 0 0) from
          ⟨by rw [← hS]; exact conv_bys (V8.row.below q), conv_bys ((A8.row.below q).take cap (by omega)), (q.cell (p := ⟨z, _, none⟩) l8).trans c0, (q.cell (p := ⟨z, _, none⟩) l8).trans c1, (q.cell (p := ⟨z, _, none⟩) l8).trans c2⟩)
        have SD := Lib.hid (fun (w' : World) (q : Gd w8 w') => same_ad ⟨0, 0, none, 0, 0, []⟩ ⟨0, 0, none, 0, 0, []⟩ w' ⟨by decide, by decide, Bys.nil _ _, Nat.le_refl _, Nat.zero_le _⟩ ⟨by decide, by decide, Bys.nil _ _, Nat.le_refl _, Nat.zero_le _⟩ rfl)
        have g0 : Gd w8 w8.drew := (Below.refl _ _).drew
        clear hS c0 c1 c2 A8 V8 b8' l8
        generalize strN (L.take cap) = SX at *
        have d4 : decide ((cap : Int) < 0) = false := by simp
        have d5 : decide ((cap : Int) < (cap : Int)) = false := by simp <;> omega
        have d6 : decide (cap < cap) = false := by simp <;> omega
        have i3 : (0 : Int) ≤ (cap : Int) := by omega
        have i4 : (cap : Int) ≤ (cap : Int) := by omega
        clear hcap hcm hnlen hFl hfm hfc sw s1 s2 l7 hk hkm hk' hle
        go_region_held3 (fun w' => (convert 23 9 (.slice va cap vc)).run Try.prog w' = .ok (.string SX) w' ∧ (convert 23 9 (.slice a cap cap)).run Try.prog w' = .ok (.string SX) w' ∧ w'.cell? ⟨z, 0, none⟩ = some (.int .u16 0) ∧ w'.cell? ⟨z, 1, none⟩ = some (.int .u8 0) ∧ w'.cell? ⟨z, 2, none⟩ = some (.slice none 0 0)) (first | exact KS.out _ (by assumption) | go_keep) (first
          | (go_at_call 17; refine (SD.out _ (by assumption)).mono ?_; rintro e w9 ⟨rfl, b17⟩; have g17 : Gd w8 w9 := Gd.step (by assumption) b17)
          | fail)
        all_goals
          go_wp2_with fail
          go_ret
          exact ⟨rfl, B8.out.trans (Below.mono g17 B8.out.size)⟩
      · have FX := FF2
        have HCE := Lib.hid hce
        have hlt : n < cap := by omega
        have d7 : (cap == n) = false := by simp [hce]
        have d8 : (cap - n = 0) = False := by simp; omega
        go_wp2_with fail
        refine FX.out.mono ?_
        rintro e w7 ⟨rfl, b7⟩
        have B7 := Lib.hid (BE.out.trans (b7.mono (by have := BE.out.size; omega)))
        have A7 := A.out.below B7.out
        have V7 := VA.out.below b7
        clear b7 FF1 FF2 FX HCE B1 BE hg d1 d2 d3 d3' A
        go_wp2_with fail
        have c0 : (w7.alloc (Obj.cells #[.int .u16 0, .int .u8 0, .slice none 0 0] 25)).cell? ⟨w7.heap.size, 0, none⟩ = some (.int .u16 0) := by go_simp
        have c1 : (w7.alloc (Obj.cells #[.int .u16 0, .int .u8 0, .slice none 0 0] 25)).cell? ⟨w7.heap.size, 1, none⟩ = some (.int .u8 0) := by go_simp
        have c2 : (w7.alloc (Obj.cells #[.int .u16 0, .int .u8 0, .slice none 0 0] 25)).cell? ⟨w7.heap.size, 2, none⟩ = some (.slice none 0 0) := by go_simp
        have b8 : Below w7.heap.size w7 (w7.alloc (Obj.cells #[.int .u16 0, .int .u8 0, .slice none 0 0] 25)) := Below.alloc (Below.refl _ _) (Nat.le_refl _) _
        have l8 : w7.heap.size < (w7.alloc (Obj.cells #[.int .u16 0, .int .u8 0, .slice none 0 0] 25)).heap.size := by simp
        have A8 := A7.below b8
        have V8 := V7.below b8
        have b8' := B7.out.trans (b8.mono B7.out.size)
        clear A7 V7 b8
        have l7 := B7.out.size
        generalize w7.heap.size = z at *
        generalize w7.alloc (Obj.cells #[.int .u16 0, .int .u8 0, .slice none 0 0] 25) = w8 at *
        have hS : strN (fb F) = strN (L.take n) := by rw [FT.out]
        have B8 := Lib.hid b8'
        have KS := Lib.hid (fun (w' : World) (q : Gd w8 w') => show (convert 23 9 (.slice va n vc)).run Try.prog w' = .ok (.string (strN (L.take n))) w' ∧ (convert 23 9 (.slice a n cap)).run Try.prog w' = .ok (.string (strN (L.take n))) w' ∧ w'.cell? ⟨z, 0, none⟩ = some (.int .u16 0) ∧ w'.cell? ⟨z, 1, none⟩ = some (.int .u8 0) ∧ w'.cell? ⟨z, 2, none⟩ = some (.slice none 0 0) from
          ⟨by rw [← hS]; exact conv_bys (V8.row.below q), conv_bys ((A8.row.below q).take n (by omega)), (q.cell (p := ⟨z, _, none⟩) l8).trans c0, (q.cell (p := ⟨z, _, none⟩) l8).trans c1, (q.cell (p := ⟨z, _, none⟩) l8).trans c2⟩)
        have SD := Lib.hid (fun (w' : World) (q : Gd w8 w') => same_ad ⟨0, 0, none, 0, 0, []⟩ ⟨0, 0, none, 0, 0, []⟩ w' ⟨by decide, by decide, Bys.nil _ _, Nat.le_refl _, Nat.zero_le _⟩ ⟨by decide, by decide, Bys.nil _ _, Nat.le_refl _, Nat.zero_le _⟩ rfl)
        have g0 : Gd w8 w8.drew := (Below.refl _ _).drew
        clear hS c0 c1 c2 A8 V8 b8' l8
        generalize strN (L.take n) = SX at *
        have d4 : decide ((n : Int) < 0) = false := by simp
        have d5 : decide ((cap : Int) < (n : Int)) = false := by simp <;> omega
        have d6 : decide (cap < n) = false := by simp <;> omega
        have i3 : (0 : Int) ≤ (n : Int) := by omega
        have i4 : (n : Int) ≤ (cap : Int) := by omega
        clear hcap hcm hnlen hFl hfm hfc sw s1 s2 l7 hk hkm hk' hle
        go_region_held3 (fun w' => (convert 23 9 (.slice va n vc)).run Try.prog w' = .ok (.string SX) w' ∧ (convert 23 9 (.slice a n cap)).run Try.prog w' = .ok (.string SX) w' ∧ w'.cell? ⟨z, 0, none⟩ = some (.int .u16 0) ∧ w'.cell? ⟨z, 1, none⟩ = some (.int .u8 0) ∧ w'.cell? ⟨z, 2, none⟩ = some (.slice none 0 0)) (first | exact KS.out _ (by assumption) | go_keep) (first
          | (go_at_call 17; refine (SD.out _ (by assumption)).mono ?_; rintro e w9 ⟨rfl, b17⟩; have g17 : Gd w8 w9 := Gd.step (by assumption) b17)
          | fail)
        all_goals
          go_wp2_with fail
          go_ret
          exact ⟨rfl, B8.out.trans (Below.mono g17 B8.out.size)⟩
end Go.Proofs.Ytnihgpaandodjaa
