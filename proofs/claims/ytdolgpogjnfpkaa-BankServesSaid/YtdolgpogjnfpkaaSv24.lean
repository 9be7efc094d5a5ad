/- The document's Get: bytes whose request has its shape. -/
import Derived.Test.YtdolgpogjnfpkaaSv23
import Derived.Deep.RegionHeld
namespace Go.Proofs.Ytdolgpogjnfpkaa
set_option linter.unusedVariables false
set_option linter.unusedSimpArgs false
open Go.ChangeShapes Go.WideShapes Go.ChangeAt Go.RowKit

theorem beq_bytes {a b : ByteArray} (h : a ≠ b) : (a.toList == b.toList) = false := by
  rw [beq_eq_false_iff_ne]
  intro e
  apply h
  rw [Lib.toList_data, Lib.toList_data] at e
  exact ByteArray.ext (Array.toList_inj.1 e)
theorem put_byN {L : List Nat} {f : Fo} (hL : ∀ b ∈ L, b < 256) (hk : formOf ((L.getD 0 0 : Nat) : Int) = some (fo ((L.getD 0 0 : Nat) : Int))) (hs : has (fo ((L.getD 0 0 : Nat) : Int)) (rq4 L) = true) (hf : f = fo ((L.getD 0 0 : Nat) : Int)) : ∀ b ∈ putR f (rq4 L), b < 256 := by
  have h00 := getD_lt hL 0
  have hl : (rdV L).length ≤ 2000 := by
    have h3 := ((has_iff _ _).1 hs).2.2.2.2.2.2.1
    have h4 := (formOf_small hk).mo
    have h5 : (rq4 L).V = rdV L := rfl
    rw [h5] at h3
    omega
  obtain ⟨W0, hW0⟩ : ∃ W0 : World, W0 = (default : World).alloc (.cells (wv (rdV L)).toArray 34 (0, 0)) := ⟨_, rfl⟩
  have hA : ArgW W0 (some ⟨(default : World).heap.size, 0, none⟩) (rdV L).length (rdV L).length (rdV L) := by
    rw [hW0]
    exact ⟨wds_block _ (by unfold maxLen; omega) (rdV_wd hL) (heap_alloc_new _ _), (fun e => by cases e), Nat.le_refl _, by unfold maxLen; omega⟩
  have e1 := fld f (r := wsl (rq4 L) (some ⟨(default : World).heap.size, 0, none⟩) (rdV L).length (rdV L).length) (s := rq4 L) ⟨rfl, rfl, rfl, rfl, rfl⟩
  have := put_by hk (rq4_ok hL hA) (by rw [← hf, e1.1, hf]; exact hs) (by show (0 : Int) ≤ ((L.getD 0 0 : Nat) : Int); omega) (by show ((L.getD 0 0 : Nat) : Int) < 256; omega)
  rw [← hf, e1.2.1] at this
  exact this
set_option maxRecDepth 100000 in
set_option maxHeartbeats 8000000 in
theorem getD_ne (a : Option Addr) (n c : Nat) (L : List Nat) (w : World) (h : ArgB w a n c L) (hn : n ≤ 100000) (h0 : 0 < n) (hk : formOf ((L.getD 0 0 : Nat) : Int) = some (fo ((L.getD 0 0 : Nat) : Int))) (hs : has (fo ((L.getD 0 0 : Nat) : Int)) (rq4 L) = true) (heq : ¬ putR (fo ((L.getD 0 0 : Nat) : Int)) (rq4 L) = L) : Calls Try.prog 23 #[.slice a n c] w (GetP w L) := by
  have hln := h.row.ln
  have hL0 : ¬ L = [] := fun e => by rw [e] at hln; simp at hln; omega
  have hrf : ref4 L = 3 := by
    unfold ref4
    rw [if_neg hL0, hk, if_neg (by simp), hs, Bool.true_and]
    rw [decide_eq_false heq]; rfl
  have hten := ten_of hk
  have RD := fun W (hb : Below w.heap.size w W) => readD_any a n c L W ⟨h.row.below hb, h.nil, h.le, h.mx⟩ hn h0 hten
  obtain ⟨f, hf⟩ : ∃ f, f = fo ((L.getD 0 0 : Nat) : Int) := ⟨_, rfl⟩
  have hfl := fun vs vn vc => fld f (r := wsl (rq4 L) vs vn vc) (s := rq4 L) ⟨rfl, rfl, rfl, rfl, rfl⟩
  have hsh : ∀ vs vn vc W, ArgW W vs vn vc (rdV L) → Calls Try.prog 45 #[rv (wsl (rq4 L) vs vn vc)] W (BoolB W true) := by
    intro vs vn vc W hA
    have hok := rq4_ok h.row.by' hA
    have := shape_any _ W hok
    rwa [shape_has hok, show (wsl (rq4 L) vs vn vc).fc = ((L.getD 0 0 : Nat) : Int) from rfl, hk, ← hf, (hfl vs vn vc).1, hf, hs] at this
  have hhw : ∀ vs vn vc, has (fo (wsl (rq4 L) vs vn vc).fc) (wsl (rq4 L) vs vn vc) = true := by
    intro vs vn vc
    show has (fo ((L.getD 0 0 : Nat) : Int)) _ = true
    rw [← hf, (hfl vs vn vc).1, hf]; exact hs
  have hby : ∀ vs vn vc W, ArgW W vs vn vc (rdV L) → Calls Try.prog 46 #[rv (wsl (rq4 L) vs vn vc)] W (fun e w5 => ∃ a6 m6 c6, e = .returned (.slice a6 m6 c6) ∧ (convert 33 9 (.slice a6 m6 c6)).run Try.prog w5 = .ok (.string (strN (putR f (rq4 L)))) w5 ∧ Below W.heap.size W w5) := by
    intro vs vn vc W hA
    have h00 := getD_lt h.row.by' 0
    have hok := rq4_ok h.row.by' hA
    have hM := put_by hk hok (by have := hhw vs vn vc; exact this) (by show (0 : Int) ≤ ((L.getD 0 0 : Nat) : Int); omega) (by show ((L.getD 0 0 : Nat) : Int) < 256; omega)
    rw [← hf, (hfl _ _ _).2.1] at hM
    have := bytesD_any _ W hok hk (hhw vs vn vc)
    rw [show (wsl (rq4 L) vs vn vc).fc = ((L.getD 0 0 : Nat) : Int) from rfl, ← hf, (hfl vs vn vc).2.1] at this
    refine this.mono ?_
    rintro e w5 ⟨v, rfl, ho, z5⟩
    obtain ⟨a6, c6, rfl, hA6, _⟩ := OwnV.argB ho hM
    exact ⟨a6, _, c6, rfl, conv_bys hA6.row, z5⟩
  have hmo : most ((L.getD 0 0 : Nat) : Int) ≠ 0 := fun e => by rw [(most_form _).1 e] at hk; cases hk
  have hc : getC L = 3 := by rw [← (ref4_get h.row.by').1]; exact hrf
  have HPB := Lib.hid (fun w' hb => getp_bad hc (by omega) (w := w) w' hb)
  obtain ⟨SX, hsx⟩ : ∃ s, s = strN L := ⟨_, rfl⟩
  have HCV : Hid (∀ W, Below w.heap.size w W → (convert 33 9 (.slice a n c)).run Try.prog W = .ok (.string SX) W) := Lib.hid (fun W hb => by rw [hsx]; exact conv_bys (h.row.below hb))
  have hsy : strN (putR f (rq4 L)) ≠ SX := by
    rw [hsx]
    intro e
    have hM : ∀ b ∈ putR f (rq4 L), b < 256 := by
      obtain ⟨V, hV⟩ : ∃ V, V = rdV L := ⟨_, rfl⟩
      refine put_byN h.row.by' hk hs hf
    rw [hf] at e hM
    exact heq ((strN_inj hM h.row.by').1 e)
  generalize strN (putR f (rq4 L)) = SY at hby hsy
  have n1 := beq_bytes hsy
  clear hsy
  clear hsx
  obtain ⟨b, off, rfl, hbl, hcc⟩ := h.row.pos h0
  have cb0 : w.cell? ⟨b, off, none⟩ = some (.int .u8 ((L.getD 0 0 : Nat) : Int)) := hcc 0 (by omega)
  have l0 := getD_lt h.row.by' 0
  have MO := fun W => most_any ((L.getD 0 0 : Nat) : Int) W
  have HMD := Lib.hid (⟨atN_lt h.row.by' 1, rdV_wd h.row.by'⟩ : atN L 1 < 65536 ∧ ∀ v ∈ rdV L, v < 65536)
  clear hf hfl hhw hs heq
  unfold ReadP at RD
  simp only [rv, wsl, rq4] at hsh hby 
  generalize L.getD 0 0 = x0 at cb0 l0 RD hsh hby MO hmo 
  generalize most (x0 : Int) = mo at MO hmo
  generalize atN L 1 = ad at RD hsh hby 
  generalize rdQn L = q at RD hsh hby 
  generalize rdT L = tt at RD hsh hby 
  generalize rdV L = V at RD hsh hby 
  have HMO := Lib.hid MO
  have HRD := Lib.hid RD
  have HSH := Lib.hid hsh
  have HBY := Lib.hid hby
  have u0 : IntKind.i64.wrap (x0 : Int) = (x0 : Int) := IntWalk.i64_in _ (by omega)
  have t0 : ((n : Int) == 0) = false := by simp; omega
  have t1 : (mo == 0) = false := by simp [hmo]
  have i0 : (0 : Int) < (n : Int) := by omega
  have BW := Lib.hid ((Below.refl w.heap.size w).alloc (Nat.le_refl _) Z32)
  have ZW := Lib.hid (heap_alloc_new w Z32)
  have cbA : (w.alloc Z32).cell? ⟨b, off, none⟩ = some (.int .u8 (x0 : Int)) := (Below.cell BW.out (p := ⟨b, off, none⟩) hbl).trans cb0
  clear h hln h0 hk hcc hten hL0 hmo MO RD hsh hby hrf HMD hc
  go_enter Try.func23, Try.ntmps23
  go_wp2_with fail
  refine (HMO.out _).mono ?_
  rintro e w1 ⟨rfl, e1⟩
  rw [e1]
  clear e1
  go_wp2_with fail
  refine (HRD.out _ BW.out).mono ?_
  rintro e w2 ⟨a2, n2, c2, rfl, A2, nw2, z2⟩
  have al := alloc_bq w2 (.cells #[.int .i64 (x0 : Int), .int .i64 (ad : Int), .int .i64 (q : Int), .slice a2 n2 c2, .int .i64 (tt : Int)] 32 (0, 0))
  have x2 := heap_alloc_new w2 (.cells #[.int .i64 (x0 : Int), .int .i64 (ad : Int), .int .i64 (q : Int), .slice a2 n2 c2, .int .i64 (tt : Int)] 32 (0, 0))
  have zR := low_of al (low_of z2 ZW.out)
  have b2 := BW.out.trans ((z2.trans (al.mono z2.size)).mono BW.out.size)
  have A3 := A2.below al
  have NW := Lib.hid (fun b off (e : a2 = some ⟨b, off, none⟩) => show w.heap.size ≤ b by have := nw2 b off e; simp at this; omega)
  go_upto_region 4 with fail
  obtain ⟨g, hg⟩ : ∃ g, g = w2.heap.size := ⟨_, rfl⟩
  obtain ⟨W, hW⟩ : ∃ W, W = w2.alloc (.cells #[.int .i64 (x0 : Int), .int .i64 (ad : Int), .int .i64 (q : Int), .slice a2 n2 c2, .int .i64 (tt : Int)] 32 (0, 0)) := ⟨_, rfl⟩
  rw [← hW] at x2 zR b2 A3 ⊢
  rw [← hg] at x2 ⊢
  have X2 := Lib.hid x2
  have ZR := Lib.hid zR
  have B2 := Lib.hid b2
  have A3 := Lib.hid A3
  have SH := Lib.hid (fun (w' : World) (hb : Gd W w') => HSH.out a2 n2 c2 w' (A3.out.below hb))
  have BY := Lib.hid (fun (w' : World) (hb : Gd W w') => HBY.out a2 n2 c2 w' (A3.out.below hb))
  have KS := Lib.hid (fun (w' : World) (hb : Gd W w') => show w'.cell? ⟨g, 0, none⟩ = some (.int .i64 (x0 : Int)) ∧ w'.cell? ⟨g, 1, none⟩ = some (.int .i64 (ad : Int)) ∧ w'.cell? ⟨g, 2, none⟩ = some (.int .i64 (q : Int)) ∧ w'.cell? ⟨g, 3, none⟩ = some (.slice a2 n2 c2) ∧ w'.cell? ⟨g, 4, none⟩ = some (.int .i64 (tt : Int)) ∧ (convert 33 9 (.slice (some ⟨b, off, none⟩) n c)).run Try.prog w' = .ok (.string SX) w' from (by
    obtain ⟨h0, h1, h2, h3, h4⟩ := cells5 (low_of hb X2.out)
    exact ⟨h0, h1, h2, h3, h4, HCV.out w' (B2.out.trans (Below.mono hb B2.out.size))⟩))
  have BE := Lib.hid (fun (w' : World) (hb : Gd W w') => B2.out.trans (Below.mono hb B2.out.size))
  have ZF := Lib.hid (fun (w' : World) (hb : Gd W w') => low_of hb ZR.out)
  have g0 : Gd W W.drew := (Below.refl _ _).drew
  have h0 := KS.out _ g0
  clear hg hW x2 zR b2 A2 nw2 z2 al hbl cb0 cbA
  go_region_held (fun w' => w'.cell? ⟨g, 0, none⟩ = some (.int .i64 (x0 : Int)) ∧ w'.cell? ⟨g, 1, none⟩ = some (.int .i64 (ad : Int)) ∧ w'.cell? ⟨g, 2, none⟩ = some (.int .i64 (q : Int)) ∧ w'.cell? ⟨g, 3, none⟩ = some (.slice a2 n2 c2) ∧ w'.cell? ⟨g, 4, none⟩ = some (.int .i64 (tt : Int)) ∧ (convert 33 9 (.slice (some ⟨b, off, none⟩) n c)).run Try.prog w' = .ok (.string SX) w') (first | exact h0 | exact s5 | exact s6 | go_keep) (first
    | (go_at_call 45; refine (SH.out _ g0).mono ?_; rintro e w5 ⟨rfl, z5⟩; have q5 : Gd W w5 := Gd.step g0 z5; have s5 := KS.out w5 q5; clear z5)
    | (go_at_call 46; refine (BY.out _ q5).mono ?_; rintro e w6 ⟨a6, m6, c6, rfl, cv6, z6⟩; have q6 : Gd W w6 := Gd.step q5 z6; have s6 := KS.out w6 q6; clear z6))
  all_goals
    have BE6 := Lib.hid (BE.out w6 q6)
    have zF := ZF.out w6 q6
    obtain ⟨d0, d1, d2, d3, d4⟩ := cells5 zF
    have s0 := froz (i := 0) zF
    have s1 := froz (i := 1) zF
    have s2 := froz (i := 2) zF
    have s3 := froz (i := 3) zF
    have s4 := froz (i := 4) zF
    clear zF q6 q5 g0
    go_wp2_with fail
    exact bodyPost_ret (v := .tuple #[.agg #[.int .i64 0, .int .i64 0, .int .i64 0, .slice none 0 0, .int .i64 0], .int .i64 3]) (by simp [results, Try.results23, go_sem, d0, d1, d2, d3, d4]) rfl (HPB.out _ (set5_bel BE6.out (Nat.le_refl _) _ _ _ _ _))
set_option maxRecDepth 100000 in
set_option maxHeartbeats 8000000 in
theorem getD_ends (a : Option Addr) (n c : Nat) (L : List Nat) (w : World) (h : ArgB w a n c L) (hn : n ≤ 100000) (h0 : 0 < n) (hk : formOf ((L.getD 0 0 : Nat) : Int) = some (fo ((L.getD 0 0 : Nat) : Int))) (hs : has (fo ((L.getD 0 0 : Nat) : Int)) (rq4 L) = true) (heq : putR (fo ((L.getD 0 0 : Nat) : Int)) (rq4 L) = L ∧ fits (fo ((L.getD 0 0 : Nat) : Int)) (rq4 L) = false) : Calls Try.prog 23 #[.slice a n c] w (GetP w L) := by
  have hln := h.row.ln
  have hL0 : ¬ L = [] := fun e => by rw [e] at hln; simp at hln; omega
  have hrf : ref4 L = 2 := by
    unfold ref4
    rw [if_neg hL0, hk, if_neg (by simp), hs, Bool.true_and]
    rw [decide_eq_true heq.1, if_pos rfl, heq.2]; rfl
  have hten := ten_of hk
  have RD := fun W (hb : Below w.heap.size w W) => readD_any a n c L W ⟨h.row.below hb, h.nil, h.le, h.mx⟩ hn h0 hten
  obtain ⟨f, hf⟩ : ∃ f, f = fo ((L.getD 0 0 : Nat) : Int) := ⟨_, rfl⟩
  have hfl := fun vs vn vc => fld f (r := wsl (rq4 L) vs vn vc) (s := rq4 L) ⟨rfl, rfl, rfl, rfl, rfl⟩
  have hsh : ∀ vs vn vc W, ArgW W vs vn vc (rdV L) → Calls Try.prog 45 #[rv (wsl (rq4 L) vs vn vc)] W (BoolB W true) := by
    intro vs vn vc W hA
    have hok := rq4_ok h.row.by' hA
    have := shape_any _ W hok
    rwa [shape_has hok, show (wsl (rq4 L) vs vn vc).fc = ((L.getD 0 0 : Nat) : Int) from rfl, hk, ← hf, (hfl vs vn vc).1, hf, hs] at this
  have hhw : ∀ vs vn vc, has (fo (wsl (rq4 L) vs vn vc).fc) (wsl (rq4 L) vs vn vc) = true := by
    intro vs vn vc
    show has (fo ((L.getD 0 0 : Nat) : Int)) _ = true
    rw [← hf, (hfl vs vn vc).1, hf]; exact hs
  have hby : ∀ vs vn vc W, ArgW W vs vn vc (rdV L) → Calls Try.prog 46 #[rv (wsl (rq4 L) vs vn vc)] W (fun e w5 => ∃ a6 m6 c6, e = .returned (.slice a6 m6 c6) ∧ (convert 33 9 (.slice a6 m6 c6)).run Try.prog w5 = .ok (.string (strN (putR f (rq4 L)))) w5 ∧ Below W.heap.size W w5) := by
    intro vs vn vc W hA
    have h00 := getD_lt h.row.by' 0
    have hok := rq4_ok h.row.by' hA
    have hM := put_by hk hok (by have := hhw vs vn vc; exact this) (by show (0 : Int) ≤ ((L.getD 0 0 : Nat) : Int); omega) (by show ((L.getD 0 0 : Nat) : Int) < 256; omega)
    rw [← hf, (hfl _ _ _).2.1] at hM
    have := bytesD_any _ W hok hk (hhw vs vn vc)
    rw [show (wsl (rq4 L) vs vn vc).fc = ((L.getD 0 0 : Nat) : Int) from rfl, ← hf, (hfl vs vn vc).2.1] at this
    refine this.mono ?_
    rintro e w5 ⟨v, rfl, ho, z5⟩
    obtain ⟨a6, c6, rfl, hA6, _⟩ := OwnV.argB ho hM
    exact ⟨a6, _, c6, rfl, conv_bys hA6.row, z5⟩
  have hen : ∀ vs vn vc W, ArgW W vs vn vc (rdV L) → Calls Try.prog 47 #[rv (wsl (rq4 L) vs vn vc)] W (BoolB W false) := by
    intro vs vn vc W hA
    have hok := rq4_ok h.row.by' hA
    have hh := (has_iff _ _).1 (hhw vs vn vc)
    have hsm := formOf_small hk
    rw [isPl_iff, isPl_iff] at hh
    have := ends_any _ W hok ⟨hh.1.1, hh.1.2, hh.2.1.1, hh.2.1.2, by have := hh.2.2.2.2.1; omega, by have := hh.2.2.2.1; have := hsm.q; show (rq4 L).q ≤ 2000; have h3 : (wsl (rq4 L) vs vn vc).q ≤ ((fo (wsl (rq4 L) vs vn vc).fc).q : Int) := hh.2.2.2.1; have h4 : (fo (wsl (rq4 L) vs vn vc).fc).q ≤ 2000 := hsm.q; have h5 : (rq4 L).q = (wsl (rq4 L) vs vn vc).q := rfl; omega, by have h3 : (wsl (rq4 L) vs vn vc).V.length ≤ (fo (wsl (rq4 L) vs vn vc).fc).mo := hh.2.2.2.2.2.2.1; have h4 : (fo (wsl (rq4 L) vs vn vc).fc).mo ≤ 2000 := hsm.mo; have h5 := hok.arg.row.ln; omega⟩
    rw [ends_fits hok hk (hhw vs vn vc)] at this
    have e := (hfl vs vn vc).2.2
    rw [show (wsl (rq4 L) vs vn vc).fc = ((L.getD 0 0 : Nat) : Int) from rfl, ← hf, e, hf, heq.2] at this
    exact this
  have hmo : most ((L.getD 0 0 : Nat) : Int) ≠ 0 := fun e => by rw [(most_form _).1 e] at hk; cases hk
  have hc : getC L = 2 := by rw [← (ref4_get h.row.by').1]; exact hrf
  have HPB := Lib.hid (fun w' hb => getp_bad hc (by omega) (w := w) w' hb)
  obtain ⟨SX, hsx⟩ : ∃ s, s = strN L := ⟨_, rfl⟩
  have HCV : Hid (∀ W, Below w.heap.size w W → (convert 33 9 (.slice a n c)).run Try.prog W = .ok (.string SX) W) := Lib.hid (fun W hb => by rw [hsx]; exact conv_bys (h.row.below hb))
  have hmm : putR f (rq4 L) = L := by rw [hf]; exact heq.1
  rw [hmm, ← hsx] at hby
  clear hmm
  clear hsx
  obtain ⟨b, off, rfl, hbl, hcc⟩ := h.row.pos h0
  have cb0 : w.cell? ⟨b, off, none⟩ = some (.int .u8 ((L.getD 0 0 : Nat) : Int)) := hcc 0 (by omega)
  have l0 := getD_lt h.row.by' 0
  have MO := fun W => most_any ((L.getD 0 0 : Nat) : Int) W
  have HMD := Lib.hid (⟨atN_lt h.row.by' 1, rdV_wd h.row.by'⟩ : atN L 1 < 65536 ∧ ∀ v ∈ rdV L, v < 65536)
  clear hf hfl hhw hs heq
  unfold ReadP at RD
  simp only [rv, wsl, rq4] at hsh hby hen
  generalize L.getD 0 0 = x0 at cb0 l0 RD hsh hby MO hmo hen
  generalize most (x0 : Int) = mo at MO hmo
  generalize atN L 1 = ad at RD hsh hby hen
  generalize rdQn L = q at RD hsh hby hen
  generalize rdT L = tt at RD hsh hby hen
  generalize rdV L = V at RD hsh hby hen
  have HMO := Lib.hid MO
  have HRD := Lib.hid RD
  have HSH := Lib.hid hsh
  have HBY := Lib.hid hby
  have HEN := Lib.hid hen
  have u0 : IntKind.i64.wrap (x0 : Int) = (x0 : Int) := IntWalk.i64_in _ (by omega)
  have t0 : ((n : Int) == 0) = false := by simp; omega
  have t1 : (mo == 0) = false := by simp [hmo]
  have i0 : (0 : Int) < (n : Int) := by omega
  have BW := Lib.hid ((Below.refl w.heap.size w).alloc (Nat.le_refl _) Z32)
  have ZW := Lib.hid (heap_alloc_new w Z32)
  have cbA : (w.alloc Z32).cell? ⟨b, off, none⟩ = some (.int .u8 (x0 : Int)) := (Below.cell BW.out (p := ⟨b, off, none⟩) hbl).trans cb0
  clear h hln h0 hk hcc hten hL0 hmo MO RD hsh hby hrf HMD hc hen
  go_enter Try.func23, Try.ntmps23
  go_wp2_with fail
  refine (HMO.out _).mono ?_
  rintro e w1 ⟨rfl, e1⟩
  rw [e1]
  clear e1
  go_wp2_with fail
  refine (HRD.out _ BW.out).mono ?_
  rintro e w2 ⟨a2, n2, c2, rfl, A2, nw2, z2⟩
  have al := alloc_bq w2 (.cells #[.int .i64 (x0 : Int), .int .i64 (ad : Int), .int .i64 (q : Int), .slice a2 n2 c2, .int .i64 (tt : Int)] 32 (0, 0))
  have x2 := heap_alloc_new w2 (.cells #[.int .i64 (x0 : Int), .int .i64 (ad : Int), .int .i64 (q : Int), .slice a2 n2 c2, .int .i64 (tt : Int)] 32 (0, 0))
  have zR := low_of al (low_of z2 ZW.out)
  have b2 := BW.out.trans ((z2.trans (al.mono z2.size)).mono BW.out.size)
  have A3 := A2.below al
  have NW := Lib.hid (fun b off (e : a2 = some ⟨b, off, none⟩) => show w.heap.size ≤ b by have := nw2 b off e; simp at this; omega)
  go_upto_region 4 with fail
  obtain ⟨g, hg⟩ : ∃ g, g = w2.heap.size := ⟨_, rfl⟩
  obtain ⟨W, hW⟩ : ∃ W, W = w2.alloc (.cells #[.int .i64 (x0 : Int), .int .i64 (ad : Int), .int .i64 (q : Int), .slice a2 n2 c2, .int .i64 (tt : Int)] 32 (0, 0)) := ⟨_, rfl⟩
  rw [← hW] at x2 zR b2 A3 ⊢
  rw [← hg] at x2 ⊢
  have X2 := Lib.hid x2
  have ZR := Lib.hid zR
  have B2 := Lib.hid b2
  have A3 := Lib.hid A3
  have SH := Lib.hid (fun (w' : World) (hb : Gd W w') => HSH.out a2 n2 c2 w' (A3.out.below hb))
  have BY := Lib.hid (fun (w' : World) (hb : Gd W w') => HBY.out a2 n2 c2 w' (A3.out.below hb))
  have EN := Lib.hid (fun (w' : World) (hb : Gd W w') => HEN.out a2 n2 c2 w' (A3.out.below hb))
  have KS := Lib.hid (fun (w' : World) (hb : Gd W w') => show w'.cell? ⟨g, 0, none⟩ = some (.int .i64 (x0 : Int)) ∧ w'.cell? ⟨g, 1, none⟩ = some (.int .i64 (ad : Int)) ∧ w'.cell? ⟨g, 2, none⟩ = some (.int .i64 (q : Int)) ∧ w'.cell? ⟨g, 3, none⟩ = some (.slice a2 n2 c2) ∧ w'.cell? ⟨g, 4, none⟩ = some (.int .i64 (tt : Int)) ∧ (convert 33 9 (.slice (some ⟨b, off, none⟩) n c)).run Try.prog w' = .ok (.string SX) w' from (by
    obtain ⟨h0, h1, h2, h3, h4⟩ := cells5 (low_of hb X2.out)
    exact ⟨h0, h1, h2, h3, h4, HCV.out w' (B2.out.trans (Below.mono hb B2.out.size))⟩))
  have BE := Lib.hid (fun (w' : World) (hb : Gd W w') => B2.out.trans (Below.mono hb B2.out.size))
  have ZF := Lib.hid (fun (w' : World) (hb : Gd W w') => low_of hb ZR.out)
  have g0 : Gd W W.drew := (Below.refl _ _).drew
  have h0 := KS.out _ g0
  clear hg hW x2 zR b2 A2 nw2 z2 al hbl cb0 cbA
  go_region_held (fun w' => w'.cell? ⟨g, 0, none⟩ = some (.int .i64 (x0 : Int)) ∧ w'.cell? ⟨g, 1, none⟩ = some (.int .i64 (ad : Int)) ∧ w'.cell? ⟨g, 2, none⟩ = some (.int .i64 (q : Int)) ∧ w'.cell? ⟨g, 3, none⟩ = some (.slice a2 n2 c2) ∧ w'.cell? ⟨g, 4, none⟩ = some (.int .i64 (tt : Int)) ∧ (convert 33 9 (.slice (some ⟨b, off, none⟩) n c)).run Try.prog w' = .ok (.string SX) w') (first | exact h0 | exact s5 | exact s6 | go_keep) (first
    | (go_at_call 45; refine (SH.out _ g0).mono ?_; rintro e w5 ⟨rfl, z5⟩; have q5 : Gd W w5 := Gd.step g0 z5; have s5 := KS.out w5 q5; clear z5)
    | (go_at_call 46; refine (BY.out _ q5).mono ?_; rintro e w6 ⟨a6, m6, c6, rfl, cv6, z6⟩; have q6 : Gd W w6 := Gd.step q5 z6; have s6 := KS.out w6 q6; clear z6))
  all_goals
    have XX6 := Lib.hid q6
    have s0 := EN.out w6 q6
    clear q6 q5 g0
    go_wp2_with fail
    refine s0.mono ?_
    rintro e w7 ⟨rfl, z7⟩
    have q7 : Gd W w7 := Gd.step XX6.out z7
    have BE7 := Lib.hid (BE.out w7 q7)
    have zF := ZF.out w7 q7
    have HZF := Lib.hid zF
    have A7 := Lib.hid (A3.out.below q7)
    obtain ⟨h0, h1, h2, h3, h4, _⟩ := KS.out w7 q7
    obtain ⟨d0, d1, d2, d3, d4⟩ := cells5 zF
    have s0 := froz (i := 0) zF
    have s1 := froz (i := 1) zF
    have s2 := froz (i := 2) zF
    have s3 := froz (i := 3) zF
    have s4 := froz (i := 4) zF
    clear zF z7 q7
    go_wp2_with fail
    exact bodyPost_ret (v := .tuple #[.agg #[.int .i64 0, .int .i64 0, .int .i64 0, .slice none 0 0, .int .i64 0], .int .i64 2]) (by simp [results, Try.results23, go_sem, d0, d1, d2, d3, d4]) rfl (HPB.out _ (set5_bel BE7.out (Nat.le_refl _) _ _ _ _ _))
set_option maxRecDepth 100000 in
set_option maxHeartbeats 8000000 in
theorem getD_fine (a : Option Addr) (n c : Nat) (L : List Nat) (w : World) (h : ArgB w a n c L) (hn : n ≤ 100000) (h0 : 0 < n) (hk : formOf ((L.getD 0 0 : Nat) : Int) = some (fo ((L.getD 0 0 : Nat) : Int))) (hs : has (fo ((L.getD 0 0 : Nat) : Int)) (rq4 L) = true) (heq : putR (fo ((L.getD 0 0 : Nat) : Int)) (rq4 L) = L ∧ fits (fo ((L.getD 0 0 : Nat) : Int)) (rq4 L) = true) : Calls Try.prog 23 #[.slice a n c] w (GetP w L) := by
  have hln := h.row.ln
  have hL0 : ¬ L = [] := fun e => by rw [e] at hln; simp at hln; omega
  have hrf : ref4 L = 0 := by
    unfold ref4
    rw [if_neg hL0, hk, if_neg (by simp), hs, Bool.true_and]
    rw [decide_eq_true heq.1, if_pos rfl, heq.2]; rfl
  have hten := ten_of hk
  have RD := fun W (hb : Below w.heap.size w W) => readD_any a n c L W ⟨h.row.below hb, h.nil, h.le, h.mx⟩ hn h0 hten
  obtain ⟨f, hf⟩ : ∃ f, f = fo ((L.getD 0 0 : Nat) : Int) := ⟨_, rfl⟩
  have hfl := fun vs vn vc => fld f (r := wsl (rq4 L) vs vn vc) (s := rq4 L) ⟨rfl, rfl, rfl, rfl, rfl⟩
  have hsh : ∀ vs vn vc W, ArgW W vs vn vc (rdV L) → Calls Try.prog 45 #[rv (wsl (rq4 L) vs vn vc)] W (BoolB W true) := by
    intro vs vn vc W hA
    have hok := rq4_ok h.row.by' hA
    have := shape_any _ W hok
    rwa [shape_has hok, show (wsl (rq4 L) vs vn vc).fc = ((L.getD 0 0 : Nat) : Int) from rfl, hk, ← hf, (hfl vs vn vc).1, hf, hs] at this
  have hhw : ∀ vs vn vc, has (fo (wsl (rq4 L) vs vn vc).fc) (wsl (rq4 L) vs vn vc) = true := by
    intro vs vn vc
    show has (fo ((L.getD 0 0 : Nat) : Int)) _ = true
    rw [← hf, (hfl vs vn vc).1, hf]; exact hs
  have hby : ∀ vs vn vc W, ArgW W vs vn vc (rdV L) → Calls Try.prog 46 #[rv (wsl (rq4 L) vs vn vc)] W (fun e w5 => ∃ a6 m6 c6, e = .returned (.slice a6 m6 c6) ∧ (convert 33 9 (.slice a6 m6 c6)).run Try.prog w5 = .ok (.string (strN (putR f (rq4 L)))) w5 ∧ Below W.heap.size W w5) := by
    intro vs vn vc W hA
    have h00 := getD_lt h.row.by' 0
    have hok := rq4_ok h.row.by' hA
    have hM := put_by hk hok (by have := hhw vs vn vc; exact this) (by show (0 : Int) ≤ ((L.getD 0 0 : Nat) : Int); omega) (by show ((L.getD 0 0 : Nat) : Int) < 256; omega)
    rw [← hf, (hfl _ _ _).2.1] at hM
    have := bytesD_any _ W hok hk (hhw vs vn vc)
    rw [show (wsl (rq4 L) vs vn vc).fc = ((L.getD 0 0 : Nat) : Int) from rfl, ← hf, (hfl vs vn vc).2.1] at this
    refine this.mono ?_
    rintro e w5 ⟨v, rfl, ho, z5⟩
    obtain ⟨a6, c6, rfl, hA6, _⟩ := OwnV.argB ho hM
    exact ⟨a6, _, c6, rfl, conv_bys hA6.row, z5⟩
  have hen : ∀ vs vn vc W, ArgW W vs vn vc (rdV L) → Calls Try.prog 47 #[rv (wsl (rq4 L) vs vn vc)] W (BoolB W true) := by
    intro vs vn vc W hA
    have hok := rq4_ok h.row.by' hA
    have hh := (has_iff _ _).1 (hhw vs vn vc)
    have hsm := formOf_small hk
    rw [isPl_iff, isPl_iff] at hh
    have := ends_any _ W hok ⟨hh.1.1, hh.1.2, hh.2.1.1, hh.2.1.2, by have := hh.2.2.2.2.1; omega, by have := hh.2.2.2.1; have := hsm.q; show (rq4 L).q ≤ 2000; have h3 : (wsl (rq4 L) vs vn vc).q ≤ ((fo (wsl (rq4 L) vs vn vc).fc).q : Int) := hh.2.2.2.1; have h4 : (fo (wsl (rq4 L) vs vn vc).fc).q ≤ 2000 := hsm.q; have h5 : (rq4 L).q = (wsl (rq4 L) vs vn vc).q := rfl; omega, by have h3 : (wsl (rq4 L) vs vn vc).V.length ≤ (fo (wsl (rq4 L) vs vn vc).fc).mo := hh.2.2.2.2.2.2.1; have h4 : (fo (wsl (rq4 L) vs vn vc).fc).mo ≤ 2000 := hsm.mo; have h5 := hok.arg.row.ln; omega⟩
    rw [ends_fits hok hk (hhw vs vn vc)] at this
    have e := (hfl vs vn vc).2.2
    rw [show (wsl (rq4 L) vs vn vc).fc = ((L.getD 0 0 : Nat) : Int) from rfl, ← hf, e, hf, heq.2] at this
    exact this
  have hmo : most ((L.getD 0 0 : Nat) : Int) ≠ 0 := fun e => by rw [(most_form _).1 e] at hk; cases hk
  have hc : getC L = 0 := by rw [← (ref4_get h.row.by').1]; exact hrf
  have hfin : ∀ a n c W', ArgW W' a n c (rdV L) → (∀ b off, a = some ⟨b, off, none⟩ → w.heap.size ≤ b) → Below w.heap.size w W' → GetP w L (.returned (.tuple #[.agg #[.int .i64 (L.getD 0 0 : Nat), .int .i64 (atN L 1 : Nat), .int .i64 (rdQn L : Nat), .slice a n c, .int .i64 (rdT L : Nat)], .int .i64 0])) W' := by
    intro a n c W' hA hnw hb
    obtain ⟨e1, e2, e3, e4, e5⟩ := (ref4_get h.row.by').2 hc
    refine ⟨a, n, c, ?_, by rw [← e5]; exact hA, hb, hnw⟩
    rw [hc]
    simp only [rv, wsl, ← e1, ← e2, ← e3, ← e4, rq4]
    rfl
  obtain ⟨SX, hsx⟩ : ∃ s, s = strN L := ⟨_, rfl⟩
  have HCV : Hid (∀ W, Below w.heap.size w W → (convert 33 9 (.slice a n c)).run Try.prog W = .ok (.string SX) W) := Lib.hid (fun W hb => by rw [hsx]; exact conv_bys (h.row.below hb))
  have hmm : putR f (rq4 L) = L := by rw [hf]; exact heq.1
  rw [hmm, ← hsx] at hby
  clear hmm
  clear hsx
  obtain ⟨b, off, rfl, hbl, hcc⟩ := h.row.pos h0
  have cb0 : w.cell? ⟨b, off, none⟩ = some (.int .u8 ((L.getD 0 0 : Nat) : Int)) := hcc 0 (by omega)
  have l0 := getD_lt h.row.by' 0
  have MO := fun W => most_any ((L.getD 0 0 : Nat) : Int) W
  have HMD := Lib.hid (⟨atN_lt h.row.by' 1, rdV_wd h.row.by'⟩ : atN L 1 < 65536 ∧ ∀ v ∈ rdV L, v < 65536)
  clear hf hfl hhw hs heq
  unfold ReadP at RD
  simp only [rv, wsl, rq4] at hsh hby hen hfin
  generalize L.getD 0 0 = x0 at cb0 l0 RD hsh hby MO hmo hen hfin
  generalize most (x0 : Int) = mo at MO hmo
  generalize atN L 1 = ad at RD hsh hby hen hfin
  generalize rdQn L = q at RD hsh hby hen hfin
  generalize rdT L = tt at RD hsh hby hen hfin
  generalize rdV L = V at RD hsh hby hen hfin
  have HMO := Lib.hid MO
  have HRD := Lib.hid RD
  have HSH := Lib.hid hsh
  have HBY := Lib.hid hby
  have HEN := Lib.hid hen
  have HFIN := Lib.hid hfin
  have u0 : IntKind.i64.wrap (x0 : Int) = (x0 : Int) := IntWalk.i64_in _ (by omega)
  have t0 : ((n : Int) == 0) = false := by simp; omega
  have t1 : (mo == 0) = false := by simp [hmo]
  have i0 : (0 : Int) < (n : Int) := by omega
  have BW := Lib.hid ((Below.refl w.heap.size w).alloc (Nat.le_refl _) Z32)
  have ZW := Lib.hid (heap_alloc_new w Z32)
  have cbA : (w.alloc Z32).cell? ⟨b, off, none⟩ = some (.int .u8 (x0 : Int)) := (Below.cell BW.out (p := ⟨b, off, none⟩) hbl).trans cb0
  clear h hln h0 hk hcc hten hL0 hmo MO RD hsh hby hrf HMD hc hen hfin
  go_enter Try.func23, Try.ntmps23
  go_wp2_with fail
  refine (HMO.out _).mono ?_
  rintro e w1 ⟨rfl, e1⟩
  rw [e1]
  clear e1
  go_wp2_with fail
  refine (HRD.out _ BW.out).mono ?_
  rintro e w2 ⟨a2, n2, c2, rfl, A2, nw2, z2⟩
  have al := alloc_bq w2 (.cells #[.int .i64 (x0 : Int), .int .i64 (ad : Int), .int .i64 (q : Int), .slice a2 n2 c2, .int .i64 (tt : Int)] 32 (0, 0))
  have x2 := heap_alloc_new w2 (.cells #[.int .i64 (x0 : Int), .int .i64 (ad : Int), .int .i64 (q : Int), .slice a2 n2 c2, .int .i64 (tt : Int)] 32 (0, 0))
  have zR := low_of al (low_of z2 ZW.out)
  have b2 := BW.out.trans ((z2.trans (al.mono z2.size)).mono BW.out.size)
  have A3 := A2.below al
  have NW := Lib.hid (fun b off (e : a2 = some ⟨b, off, none⟩) => show w.heap.size ≤ b by have := nw2 b off e; simp at this; omega)
  go_upto_region 4 with fail
  obtain ⟨g, hg⟩ : ∃ g, g = w2.heap.size := ⟨_, rfl⟩
  obtain ⟨W, hW⟩ : ∃ W, W = w2.alloc (.cells #[.int .i64 (x0 : Int), .int .i64 (ad : Int), .int .i64 (q : Int), .slice a2 n2 c2, .int .i64 (tt : Int)] 32 (0, 0)) := ⟨_, rfl⟩
  rw [← hW] at x2 zR b2 A3 ⊢
  rw [← hg] at x2 ⊢
  have X2 := Lib.hid x2
  have ZR := Lib.hid zR
  have B2 := Lib.hid b2
  have A3 := Lib.hid A3
  have SH := Lib.hid (fun (w' : World) (hb : Gd W w') => HSH.out a2 n2 c2 w' (A3.out.below hb))
  have BY := Lib.hid (fun (w' : World) (hb : Gd W w') => HBY.out a2 n2 c2 w' (A3.out.below hb))
  have EN := Lib.hid (fun (w' : World) (hb : Gd W w') => HEN.out a2 n2 c2 w' (A3.out.below hb))
  have KS := Lib.hid (fun (w' : World) (hb : Gd W w') => show w'.cell? ⟨g, 0, none⟩ = some (.int .i64 (x0 : Int)) ∧ w'.cell? ⟨g, 1, none⟩ = some (.int .i64 (ad : Int)) ∧ w'.cell? ⟨g, 2, none⟩ = some (.int .i64 (q : Int)) ∧ w'.cell? ⟨g, 3, none⟩ = some (.slice a2 n2 c2) ∧ w'.cell? ⟨g, 4, none⟩ = some (.int .i64 (tt : Int)) ∧ (convert 33 9 (.slice (some ⟨b, off, none⟩) n c)).run Try.prog w' = .ok (.string SX) w' from (by
    obtain ⟨h0, h1, h2, h3, h4⟩ := cells5 (low_of hb X2.out)
    exact ⟨h0, h1, h2, h3, h4, HCV.out w' (B2.out.trans (Below.mono hb B2.out.size))⟩))
  have BE := Lib.hid (fun (w' : World) (hb : Gd W w') => B2.out.trans (Below.mono hb B2.out.size))
  have ZF := Lib.hid (fun (w' : World) (hb : Gd W w') => low_of hb ZR.out)
  have g0 : Gd W W.drew := (Below.refl _ _).drew
  have h0 := KS.out _ g0
  clear hg hW x2 zR b2 A2 nw2 z2 al hbl cb0 cbA
  go_region_held (fun w' => w'.cell? ⟨g, 0, none⟩ = some (.int .i64 (x0 : Int)) ∧ w'.cell? ⟨g, 1, none⟩ = some (.int .i64 (ad : Int)) ∧ w'.cell? ⟨g, 2, none⟩ = some (.int .i64 (q : Int)) ∧ w'.cell? ⟨g, 3, none⟩ = some (.slice a2 n2 c2) ∧ w'.cell? ⟨g, 4, none⟩ = some (.int .i64 (tt : Int)) ∧ (convert 33 9 (.slice (some ⟨b, off, none⟩) n c)).run Try.prog w' = .ok (.string SX) w') (first | exact h0 | exact s5 | exact s6 | go_keep) (first
    | (go_at_call 45; refine (SH.out _ g0).mono ?_; rintro e w5 ⟨rfl, z5⟩; have q5 : Gd W w5 := Gd.step g0 z5; have s5 := KS.out w5 q5; clear z5)
    | (go_at_call 46; refine (BY.out _ q5).mono ?_; rintro e w6 ⟨a6, m6, c6, rfl, cv6, z6⟩; have q6 : Gd W w6 := Gd.step q5 z6; have s6 := KS.out w6 q6; clear z6))
  all_goals
    have XX6 := Lib.hid q6
    have s0 := EN.out w6 q6
    clear q6 q5 g0
    go_wp2_with fail
    refine s0.mono ?_
    rintro e w7 ⟨rfl, z7⟩
    have q7 : Gd W w7 := Gd.step XX6.out z7
    have BE7 := Lib.hid (BE.out w7 q7)
    have zF := ZF.out w7 q7
    have HZF := Lib.hid zF
    have A7 := Lib.hid (A3.out.below q7)
    obtain ⟨h0, h1, h2, h3, h4, _⟩ := KS.out w7 q7
    obtain ⟨d0, d1, d2, d3, d4⟩ := cells5 zF
    have s0 := froz (i := 0) zF
    have s1 := froz (i := 1) zF
    have s2 := froz (i := 2) zF
    have s3 := froz (i := 3) zF
    have s4 := froz (i := 4) zF
    clear zF z7 q7
    go_wp2_with fail
    exact bodyPost_ret (v := .tuple #[.agg #[.int .i64 (x0 : Int), .int .i64 (ad : Int), .int .i64 (q : Int), .slice a2 n2 c2, .int .i64 (tt : Int)], .int .i64 0]) (by simp [results, Try.results23, go_sem, d0, d1, d2, d3, d4]) rfl (HFIN.out _ _ _ _ (argw_set5 A7.out HZF.out _ _ _ _ _) NW.out (set5_bel BE7.out (Nat.le_refl _) _ _ _ _ _))
theorem getD_any (a : Option Addr) (n c : Nat) (L : List Nat) (w : World) (h : ArgB w a n c L) (hn : n ≤ 100000) : Calls Try.prog 23 #[.slice a n c] w (GetP w L) := by
  by_cases h0 : n = 0
  · exact getD_zero a n c L w h hn (.inl h0)
  cases hk : formOf ((L.getD 0 0 : Nat) : Int) with
  | none => exact getD_zero a n c L w h hn (.inr hk)
  | some f =>
    have hk2 : formOf ((L.getD 0 0 : Nat) : Int) = some (fo ((L.getD 0 0 : Nat) : Int)) := by rw [hk]; unfold fo; rw [hk]; rfl
    cases hs : has (fo ((L.getD 0 0 : Nat) : Int)) (rq4 L) with
    | false => exact getD_shape a n c L w h hn (by omega) hk2 hs
    | true =>
      by_cases he : putR (fo ((L.getD 0 0 : Nat) : Int)) (rq4 L) = L
      · cases hf : fits (fo ((L.getD 0 0 : Nat) : Int)) (rq4 L) with
        | false => exact getD_ends a n c L w h hn (by omega) hk2 hs ⟨he, hf⟩
        | true => exact getD_fine a n c L w h hn (by omega) hk2 hs ⟨he, hf⟩
      · exact getD_ne a n c L w h hn (by omega) hk2 hs he
end Go.Proofs.Ytdolgpogjnfpkaa
