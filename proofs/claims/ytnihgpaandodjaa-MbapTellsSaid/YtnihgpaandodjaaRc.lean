/- The document's Cut. -/
import Derived.Test.YtnihgpaandodjaaRz
import Derived.Test.YtnihgpaandodjaaBk
namespace Go.Proofs.Ytnihgpaandodjaa
set_option linter.unusedVariables false
open Go.ChangeShapes Go.WideShapes Go.ChangeAt Go.RowKit

/-- A frame of the document's. -/
def RAd (s : Nat) (W : World) (x : Ad) : Prop := ∃ g, x.s = some ⟨g, 0, none⟩ ∧ s ≤ g ∧ (tf x).ok ∧ x.n = x.P.length ∧ OwnB s W g x.c x.n x.P
theorem RAd.ok {s : Nat} {W : World} {x : Ad} (h : RAd s W x) : x.ok W := by
  obtain ⟨g, h1, h2, h3, h4, h5⟩ := h
  obtain ⟨q1, q2, q3, q4, q5⟩ := h3
  obtain ⟨cur, _, _, _, k1, k2, _⟩ := h5.at
  refine ⟨q1, q2, ?_, k1, k2⟩
  rw [h1]
  exact h5.bys q5
theorem RAd.below {s : Nat} {W W' : World} {x : Ad} (h : RAd s W x) (hb : Below W.heap.size W W') : RAd s W' x := by
  obtain ⟨g, h1, h2, h3, h4, h5⟩ := h
  exact ⟨g, h1, h2, h3, h4, h5.below hb⟩
theorem RAd.grow {s b n : Nat} {W w1 : World} {x : Ad} {v : Value} {L : List Value} (h : RAd s W x) (ho : W.ownsRow b 25 3 v n L) (hg : W.grownBy w1 v.ownBlock) : RAd s w1 x := by
  obtain ⟨g, h1, h2, h3, h4, h5⟩ := h
  exact ⟨g, h1, h2, h3, h4, own_grow ho h5 (by decide) hg⟩
def fba (A : List Ad) : List Nat := fb (A.map tf)
theorem fba_app (A B : List Ad) : fba (A ++ B) = fba A ++ fba B := by simp [fba, fb_app]
theorem fba_one (x : Ad) : fba [x] = putL x.id x.u x.P := by simp [fba, fb_one, tf]
theorem fba_count (A : List Ad) : A.length ≤ (fba A).length := by have := fb_count (A.map tf); simpa [fba] using this
def RCutP (w : World) (L : List Nat) (e : Ending) (W : World) : Prop :=
  ∃ A R v, e = .returned (.tuple #[v, .int .i64 ((fba A).length : Int), .int .i64 (firstE R : Nat)]) ∧ L = fba A ++ R ∧ firstN R = 0 ∧ W.ownsRow w.heap.size 25 3 v A.length (avl A) ∧ (∀ x ∈ A, RAd w.heap.size W x) ∧ Below w.heap.size w W
theorem rfirst_none {w : World} {R : List Nat} {e : Ending} {w' : World} (h : RFirstP w R e w') (h0 : firstN R = 0) : e = .returned (.tuple #[.agg #[.int .u16 0, .int .u8 0, .slice none 0 0], .int .i64 0, .int .i64 (firstE R : Nat)]) ∧ Below w.heap.size w w' := by
  obtain ⟨hb, hm⟩ := h
  unfold firstN at h0
  unfold firstE
  refine ⟨?_, hb⟩
  cases hf : firstR R with
  | bad => rw [hf] at hm; simpa using hm
  | more => rw [hf] at hm; simpa using hm
  | frame id u P => rw [hf] at h0; simp at h0
theorem rfirst_some {w : World} {R : List Nat} {e : Ending} {w' : World} {id u : Nat} {P : List Nat} (h : RFirstP w R e w') (hf : firstR R = .frame id u P) : ∃ g k, e = .returned (.tuple #[.agg #[.int .u16 (id : Nat), .int .u8 (u : Nat), .slice (some ⟨g, 0, none⟩) P.length k], .int .i64 ((P.length + 7 : Nat) : Int), .int .i64 0]) ∧ OwnB w.heap.size w' g k P.length P ∧ Below w.heap.size w w' := by
  obtain ⟨hb, hm⟩ := h
  rw [hf] at hm
  obtain ⟨g, k, h1, h2⟩ := hm
  exact ⟨g, k, h1, h2, hb⟩

set_option maxRecDepth 100000 in
set_option maxHeartbeats 8000000 in
theorem rcut_any (a : Option Addr) (len cap : Nat) (L : List Nat) (w : World) (h : Bys w a len L) (hcap : len ≤ cap) (hcm : cap ≤ maxLen) (hn : len ≤ 100000) :
    Calls Try.prog 14 #[.slice a len cap] w (RCutP w L) := by
  have H := Lib.hid h
  have HCM := Lib.hid hcm
  have hl := h.ln
  have HL := Lib.hid hl
  unfold maxLen at hcm
  clear h hl
  go_enter Try.func14, Try.ntmps14
  go_wp2_with fail
  go_loopw [5, 6] (fun v pv wr => ∃ (A : List Ad) (R : List Nat) (p : Nat), p ≤ len ∧ pv = .int .i64 p ∧ p = (fba A).length ∧ L = fba A ++ R ∧ wr.ownsRow w.heap.size 25 3 v A.length (avl A) ∧ (∀ x ∈ A, RAd w.heap.size wr x) ∧ Below w.heap.size w wr) (fun _ pv _ => len - (intOf pv).toNat)
  case atStart => exact ⟨[], L, 0, Nat.zero_le _, rfl, rfl, rfl, ⟨rfl, .inl ⟨rfl, rfl⟩⟩, fun x hx => by simp at hx, Below.refl _ _⟩
  case round =>
    obtain ⟨wo, rfl⟩ : ∃ wo : World, wo = wr := ⟨_, rfl⟩
    obtain ⟨A, R, p, hp, rfl, hpa, hLR, hown, hra, hbe⟩ := hrel
    have hRl : R.length = len - p := by
      have := congrArg List.length hLR
      rw [List.length_append, HL.out] at this
      omega
    have hRd : L.drop p = R := by rw [hLR, hpa]; exact List.drop_left' rfl
    have hHo := H.out.below hbe
    have hRb := hHo.by'
    have hRby : ∀ x ∈ R, x < 256 := fun x hx => hRb x (by rw [hLR]; simp [hx])
    have hac := fba_count A
    have F1 : cap = p → Calls Try.prog 12 #[.slice a 0 0] wo (RFirstP wo R) := by
      intro hce
      have : R = [] := List.eq_nil_of_length_eq_zero (by omega)
      rw [this]
      exact rfirst_any a 0 0 [] wo (Bys.nil _ _) (Nat.le_refl _) (Nat.zero_le _)
    have F2 : Calls Try.prog 12 #[.slice (Option.map (fun x => x.add p) a) (len - p) (cap - p)] wo (RFirstP wo R) := by
      exact rfirst_any _ (len - p) (cap - p) R wo (by rw [← hRd]; exact hHo.dropO p hp) (by omega) (by unfold maxLen; omega)
    have FF1 := Lib.hid F1
    have FF2 := Lib.hid F2
    have HPA := Lib.hid hpa
    have HLR := Lib.hid hLR
    have HO := Lib.hid hown
    have HRA := Lib.hid hra
    have HBE := Lib.hid hbe
    have HRL := Lib.hid hRl
    have HRB := Lib.hid hRby
    clear F1 F2 hRd hHo hRb hRby hpa hLR hown hra hbe hRl
    have i3 : (0 : Int) ≤ (p : Int) := by omega
    have i4 : (p : Int) ≤ (len : Int) := by omega
    have hnone : firstN R = 0 → ∀ w4 : World, Below wo.heap.size wo w4 → ∀ o, Hid (RCutP w L (.returned (.tuple #[u5, .int .i64 (p : Int), .int .i64 (firstE R : Nat)])) (w4.alloc o)) := by
      intro h0 w4 b4 o
      have b5 : Below wo.heap.size wo (w4.alloc o) := b4.alloc b4.size _
      exact Lib.hid ⟨A, R, u5, by rw [← HPA.out], HLR.out, h0, own_cs (Cs.below b5) HO.out, fun x hx => (HRA.out x hx).below b5, HBE.out.trans (b5.mono HBE.out.size)⟩
    have HNO := Lib.hid hnone
    clear hnone
    by_cases hce : cap = p
    · have hR0 : R = [] := List.eq_nil_of_length_eq_zero (by have := HRL.out; omega)
      have hN0 : firstN R = 0 := by rw [hR0]; exact firstN_nil
      have hE0 : firstE R = 0 := by rw [hR0]; exact firstE_nil
      have FX := Lib.hid (FF1.out hce)
      have HCE := Lib.hid hce
      have hl : len = p := by omega
      have HLN := Lib.hid hl
      have HN0 := Lib.hid hN0
      have HE0 := Lib.hid hE0
      subst hce
      clear hl hR0 hN0 hE0
      go_wp2_with fail
      refine FX.out.mono ?_
      rintro e w4 hP
      obtain ⟨rfl, b4⟩ := rfirst_none hP HN0.out
      have HF := HNO.out HN0.out w4 b4
      rw [HE0.out] at HF ⊢
      clear hP b4
      go_wp2_with fail
      go_ret3
      exact (HF _).out
    · go_wp2_with fail
      refine FF2.out.mono ?_
      rintro e w4 hP
      cases hfr : firstR R with
      | bad =>
        have hN0 : firstN R = 0 := by unfold firstN; rw [hfr]
        have hE0 : firstE R = 31 := by unfold firstE; rw [hfr]
        obtain ⟨rfl, b4⟩ := rfirst_none hP hN0
        have HF := HNO.out hN0 w4 b4
        rw [hE0] at HF ⊢
        clear hP b4 hN0 hE0 hfr
        go_wp2_with fail
        go_ret3
        exact (HF _).out
      | more =>
        have hN0 : firstN R = 0 := by unfold firstN; rw [hfr]
        have hE0 : firstE R = 0 := by unfold firstE; rw [hfr]
        obtain ⟨rfl, b4⟩ := rfirst_none hP hN0
        have HF := HNO.out hN0 w4 b4
        rw [hE0] at HF ⊢
        clear hP b4 hN0 hE0 hfr
        go_wp2_with fail
        go_ret3
        exact (HF _).out
      | frame id u P =>
        obtain ⟨g, k, rfl, ho4, b4⟩ := rfirst_some hP hfr
        obtain ⟨m1, m2, m3, m4, m5, m6, m7⟩ := frame_math HRB.out hfr
        have hRlen := HRL.out
        have hne : ((P.length + 7 : Nat) : Int) = (P.length : Int) + 7 := by omega
        rw [hne]
        have HM1 := Lib.hid m1
        have HO4 := Lib.hid ho4
        have B4 := Lib.hid b4
        have HFR := Lib.hid hfr
        have HM7 := Lib.hid m7
        obtain ⟨i0, hi, hz0, hz1, hz2⟩ := info_parts info25
        clear hP hfr m1 m7 ho4 b4 hne
        have t7 : (((P.length : Int) + 7) == 0) = false := by simp; omega
        have O4 := Lib.hid (own_cs (Cs.below B4.out) HO.out)
        have sw := HBE.out.size
        have s4 := B4.out.size
        have HAC := Lib.hid (show A.length ≤ 100000 by have := HPA.out; omega)
        have hmx := HAC.out
        go_wp2_with (at_builtin; refine wpList_append_own _ rfl (.tmp 27) (.tmp 29) 28 rfl w.heap.size 25 i0 _ 3 32 Try.underlying28 hi hz0 hz1 hz2 rfl (by decide) _ _ _ rfl ((O4.out.alloc _).alloc _) ⟨w4.heap.size + 1, 0, none⟩ 1 1 (adv ⟨id, u, some ⟨g, 0, none⟩, P.length, k, P⟩) rfl rfl ?cs ?one ?mx ?byt ?hB ?_)
        case cs =>
          intro j u' hu
          rw [addr_add_none, Nat.zero_add]
          have := cell_new (w4.alloc (.cells #[.int .u16 (id : Int), .int .u8 (u : Int), .slice (some ⟨g, 0, none⟩) P.length k] 25 (0, 0))) #[.int .u16 (id : Int), .int .u8 (u : Int), .slice (some ⟨g, 0, none⟩) P.length k] 25 (0, 0) j
          rw [show (w4.alloc (.cells #[.int .u16 (id : Int), .int .u8 (u : Int), .slice (some ⟨g, 0, none⟩) P.length k] 25 (0, 0))).heap.size = w4.heap.size + 1 by simp] at this
          rw [this]
          simpa [adv] using hu
        case one => intro u hu; simp [adv] at hu; rcases hu with rfl | rfl | rfl <;> rfl
        case mx => unfold maxLen; omega
        case byt => omega
        case hB => simp; omega
        intro v' w5 hown' hgrow hnn
        have c2 : Below w4.heap.size w4 ((w4.alloc (.cells #[.int .u16 (id : Int), .int .u8 (u : Int), .slice (some ⟨g, 0, none⟩) P.length k] 25 (0, 0))).alloc (.cells #[.int .u16 (id : Int), .int .u8 (u : Int), .slice (some ⟨g, 0, none⟩) P.length k] 25 (0, 0))) := ((Below.refl _ _).alloc (Nat.le_refl _) _).alloc (by simp) _
        have O4b := (O4.out.alloc (.cells #[.int .u16 (id : Int), .int .u8 (u : Int), .slice (some ⟨g, 0, none⟩) P.length k] 25)).alloc (.cells #[.int .u16 (id : Int), .int .u8 (u : Int), .slice (some ⟨g, 0, none⟩) P.length k] 25)
        have hbA : Below w.heap.size w4 w5 := (c2.mono (by omega)).grown hgrow (by simp; omega) (fun q hq => (O4b.lt q hq).1)
        have X5 : RAd w.heap.size w5 ⟨id, u, some ⟨g, 0, none⟩, P.length, k, P⟩ := by
          refine ⟨g, rfl, ?_, ⟨m3, m4, m5, m6, HM7.out⟩, rfl, own_grow O4b (((HO4.out.below c2)).mono sw) (by decide) hgrow⟩
          obtain ⟨_, _, hg, _⟩ := HO4.out.at
          omega
        have hra5 : ∀ x ∈ A ++ [Ad.mk id u (some ⟨g, 0, none⟩) P.length k P], RAd w.heap.size w5 x := by
          intro x hx
          rcases List.mem_append.1 hx with hx | hx
          · exact (((HRA.out x hx).below B4.out).below c2).grow O4b hgrow
          · simp at hx; subst hx; exact X5
        have O5 : Hid (w5.ownsRow w.heap.size 25 3 v' (A ++ [Ad.mk id u (some ⟨g, 0, none⟩) P.length k P]).length (avl (A ++ [Ad.mk id u (some ⟨g, 0, none⟩) P.length k P]))) := Lib.hid (by rw [avl_app, avl_one, List.length_append]; exact hown')
        have B5 := Lib.hid (HBE.out.trans ((B4.out.mono sw).trans hbA))
        have R5 := Lib.hid hra5
        have hfin : p + (P.length + 7) = (fba (A ++ [Ad.mk id u (some ⟨g, 0, none⟩) P.length k P])).length := by
          rw [fba_app, fba_one, List.length_append, putL_len, ← HPA.out]
        have hLf : L = fba (A ++ [Ad.mk id u (some ⟨g, 0, none⟩) P.length k P]) ++ R.drop (P.length + 7) := by
          rw [fba_app, fba_one, List.append_assoc, ← HM1.out]; exact HLR.out
        have FIN := Lib.hid hfin
        have LF := Lib.hid hLf
        clear hfin hLf hra5 X5 hbA O4b c2 hown' hgrow hnn
        go_wp2_with fail
        go_roundw
        case rel => exact ⟨A ++ [Ad.mk id u (some ⟨g, 0, none⟩) P.length k P], R.drop (P.length + 7), p + (P.length + 7), by omega, by go_num, FIN.out, LF.out, O5.out, R5.out, B5.out⟩
        case measure => simp [intOf]; omega
end Go.Proofs.Ytnihgpaandodjaa
