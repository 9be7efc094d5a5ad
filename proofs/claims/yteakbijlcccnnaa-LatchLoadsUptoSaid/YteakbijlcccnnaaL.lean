/- The document's Reset, Load, New. -/
import Derived.Test.YteakbijlcccnnaaK
import Derived.Deep.RegionLaw
namespace Go.Proofs.Yteakbijlcccnnaa
set_option linter.unusedVariables false
open Go.ChangeShapes Go.WideShapes Go.ChangeAt Go.RowKit
attribute [local go_sem ↓] Go.wp_at_zero Go.wp_at_succ

theorem rtrip_any {C t gb eb n : Nat} {w : World} {G : List Int} {S : List La} (h : Rt C w t gb eb n G S) (i now : Int) (hnow : (Lit.int .i64 now).wf = true) :
    Calls Try.prog 15 #[.pointer (some ⟨t, 0, none⟩), .int .i64 i, .int .i64 now] w (RTripP C w t gb eb n G S i now) := by
  by_cases hi : 0 ≤ i ∧ i < (n : Int)
  · obtain ⟨k, rfl⟩ := Int.eq_ofNat_of_zero_le hi.1
    cases hs : (sg S k).st with
    | true => exact rtrip_set h k now (by omega) hs
    | false => exact rtrip_yes h k now hnow (by omega) hs
  · exact rtrip_none h i now hi

def RResetP (C : Nat) (w : World) (t gb eb n : Nat) (G : List Int) (S : List La) (i : Int) (e : Ending) (w' : World) : Prop :=
  e = .returned (.bool (rsB S n i)) ∧ Rt C w' t gb eb n G (rsS S n i) ∧ Fs [eb] w w'
theorem rreset_same {C t gb eb n : Nat} {w : World} {G : List Int} {S : List La} (h : Rt C w t gb eb n G S) (i : Int) (hb : rsB S n i = false) : RResetP C w t gb eb n G S i (.returned (.bool false)) w := by
  refine ⟨by rw [hb], ?_, Fs.refl _ _⟩
  unfold rsS
  rw [hb]
  exact h
theorem rreset_any {C t gb eb n : Nat} {w : World} {G : List Int} {S : List La} (h : Rt C w t gb eb n G S) (i : Int) :
    Calls Try.prog 11 #[.pointer (some ⟨t, 0, none⟩), .int .i64 i] w (RResetP C w t gb eb n G S i) := by
  by_cases hi : 0 ≤ i ∧ i < (n : Int)
  · obtain ⟨k, rfl⟩ := Int.eq_ofNat_of_zero_le hi.1
    have hk : k < n := by omega
    have hb : (decide (0 ≤ (k : Int)) && decide ((k : Int) < (n : Int))) = true := by simp; omega
    obtain ⟨gc, ec, c0, c1, h1, h2, h3, h4, q0, q1, q2, q3, g0, g1, g2⟩ := h.mem hk
    cases hs : (sg S k).st with
    | false =>
      have HP := Lib.hid (rreset_same h (k : Int) (by unfold rsB; rw [hb, Int.toNat_natCast, hs]; rfl))
      rw [hs] at q1
      have HB := Lib.hid hb
      have H := Lib.hid h
      clear h hb hs hi
      go_enter Try.func11, Try.ntmps11
      go_wp2_with fail
      refine (there_any H.out (k : Int)).mono ?_
      rintro e w1 ⟨rfl, rfl⟩
      rw [HB.out]
      go_wp2_with fail
      go_ret
      exact HP.out
    | true =>
      have hkg : k < G.length := by rw [h.ln]; exact hk
      have htr : rsB S n (k : Int) = true := by unfold rsB; rw [hb, Int.toNat_natCast, hs]; rfl
      have hp : RResetP C w t gb eb n G S (k : Int) (.returned (.bool true)) (set3 w eb (k * 3) La.z) := by
        refine ⟨by rw [htr], ?_, set3_fs _ _ _ _⟩
        unfold rsS
        rw [if_pos htr, Int.toNat_natCast]
        exact h.upd (set3_fs _ _ _ _) (reset_ok h.ok hkg) (reset_wt h.ok hkg h.wt) (h.row.put _ hk (by rw [reset_sg h.ok hkg, if_pos rfl]) (fun i _ e => by rw [reset_sg h.ok hkg, if_neg e]))
      have HP := Lib.hid hp
      rw [hs] at q1
      have HB := Lib.hid hb
      have H := Lib.hid h
      clear h hb hs hi hp htr hkg
      go_enter Try.func11, Try.ntmps11
      go_wp2_with fail
      refine (there_any H.out (k : Int)).mono ?_
      rintro e w1 ⟨rfl, rfl⟩
      rw [HB.out]
      go_wp2_with fail
      go_ret
      exact HP.out
  · have hb : (decide (0 ≤ i) && decide (i < (n : Int))) = false := by simp; omega
    have HP := Lib.hid (rreset_same h i (by unfold rsB; rw [hb]; rfl))
    have HB := Lib.hid hb
    have H := Lib.hid h
    clear h hb hi
    go_enter Try.func11, Try.ntmps11
    go_wp2_with fail
    refine (there_any H.out i).mono ?_
    rintro e w1 ⟨rfl, rfl⟩
    rw [HB.out]
    go_wp2_with fail
    go_ret
    exact HP.out

def RLoadP (C : Nat) (w : World) (t gb n : Nat) (G : List Int) (S L : List La) (e : Ending) (w' : World) : Prop :=
  (e = .returned (.bool false) ∧ ¬ Ok G L ∧ Below w.heap.size w w') ∨ (e = .returned (.bool true) ∧ Ok G L ∧ (∃ eb', w.heap.size ≤ eb' ∧ Rt C w' t gb eb' n G L) ∧ Fs [t] w w')
/-- What of the first k speaks against one more. -/
def clash (G : List Int) (L : List La) (i k : Nat) : Prop := ∃ j, j < k ∧ (sg L i).fi = true ∧ (sg L j).fi = true ∧ gg G i = gg G j
theorem Okk.more {G : List Int} {L : List La} {k : Nat} (h : Okk G L k) (hz : (sg L k).st = false → sg L k = La.z) (hg : (sg L k).fi = true → gg G k ≠ 0) (hn : ¬ clash G L k k) : Okk G L (k + 1) := by
  cases hf : (sg L k).fi with
  | false => exact h.keep hz hf
  | true =>
    refine h.add hz (hg hf) ?_
    cases hc : fok G L k (gg G k) with
    | none => rfl
    | some j =>
      obtain ⟨r1, r2, r3⟩ := fok_some hc
      exact absurd ⟨j, r1, hf, r2, r3.symm⟩ hn
theorem Okk.not {G : List Int} {L : List La} {n i : Nat} (h : Okk G L n) (hi : i < n) : ¬ clash G L i i := by
  rintro ⟨j, h1, h2, h3, h4⟩
  have := h.un i j hi (by omega) h2 h3 h4
  omega
set_option maxRecDepth 100000 in
set_option maxHeartbeats 8000000 in
theorem rload_any {C t gb eb n : Nat} {w : World} {G : List Int} {S : List La} (h : Rt C w t gb eb n G S) (a : Option Addr) (l c : Nat) (L : List La) (hL : Lr w a l L) (hnil : a = none → c = 0) (hlc : l ≤ c) (hcm : c ≤ maxLen) (hn : n ≤ 2000000) :
    Calls Try.prog 13 #[.pointer (some ⟨t, 0, none⟩), .slice a l c] w (RLoadP C w t gb n G S L) := by
  obtain ⟨ga, gc, ec, c0, c1, f1, e0, h1, h2, h3, h4⟩ := h.cells
  have hll := hL.le
  unfold maxLen at hll
  by_cases hq : l = n
  · subst hq
    have HL := Lib.hid hL
    have H := Lib.hid h
    have E0 := Lib.hid e0
    have NIL := Lib.hid hnil
    have CM := Lib.hid hcm
    have lt1 := h.lt
    clear h hL e0 hnil hcm
    go_enter Try.func13, Try.ntmps13
    go_wp2_with fail
    go_loopw [5] (fun i wr => ∃ k : Nat, k ≤ l ∧ i = .int .i64 k ∧ Okk G L k ∧ Below w.heap.size w wr) (fun i _ => l - (intOf i).toNat)
    case atStart => exact ⟨0, Nat.zero_le _, rfl, Okk.zero _ _, Below.refl _ _⟩
    case round =>
      obtain ⟨wo, rfl⟩ : ∃ wo : World, wo = wr := ⟨_, rfl⟩
      obtain ⟨k, hk, rfl, hO, hbe⟩ := hrel
      have hT := H.out.below hbe
      have hLo := HL.out.below hbe
      by_cases hkn : k < l
      · obtain ⟨b, off, ha, hblt, hcs⟩ := hLo.pos (by omega)
        obtain ⟨x0, x1, x2⟩ := hcs k hkn
        subst ha
        obtain ⟨gc', ec', c0', c1', _, _, _, _, p0, _, _, _, _, _, _⟩ := hT.mem hkn
        have hBad : ¬ Okk G L (k + 1) → ¬ Ok G L := fun q1 q2 => q1 (q2.ok.mono (by rw [H.out.ln]; omega))
        have RET := Lib.hid (fun (q : ¬ Okk G L (k + 1)) (w' : World) (q2 : Below w.heap.size w w') => show RLoadP C w t gb l G S L (.returned (.bool false)) w' from .inl ⟨rfl, hBad q, q2⟩)
        have hze : Okk G L (k + 1) → (sg L k).st = false → sg L k = La.z := fun q => q.ze k (by omega)
        have hgr : Okk G L (k + 1) → (sg L k).fi = true → gg G k ≠ 0 := fun q => q.gr k (by omega)
        have hcl : Okk G L (k + 1) → ¬ clash G L k k := fun q => q.not (by omega)
        have hmore : ((sg L k).st = false → sg L k = La.z) → ((sg L k).fi = true → gg G k ≠ 0) → ¬ clash G L k k → Okk G L (k + 1) := fun q1 q2 q3 => hO.more q1 q2 q3
        have h0c : ¬ clash G L k 0 := fun ⟨j, q, _⟩ => by omega
        have hcs1 : ∀ j, (sg L k).fi = true → (sg L j).fi = true → gg G k = gg G j → j < k → clash G L k k := fun j q1 q2 q3 q4 => ⟨j, q4, q1, q2, q3⟩
        have hcs0 : ∀ j, ¬ clash G L k j → ¬ ((sg L k).fi = true ∧ (sg L j).fi = true ∧ gg G k = gg G j) → ¬ clash G L k (j + 1) := fun j q1 q2 ⟨i, r0, r1, r2, r3⟩ => by
          by_cases e : i = j
          · subst e; exact q2 ⟨r1, r2, r3⟩
          · exact q1 ⟨i, by omega, r1, r2, r3⟩
        have BE := Lib.hid hbe
        have C0 := Lib.hid h0c
        have C1 := Lib.hid hcs1
        have C2 := Lib.hid hcs0
        have Z1 := Lib.hid hze
        have Z2 := Lib.hid hgr
        have Z3 := Lib.hid hcl
        have Z4 := Lib.hid hmore
        have kle : k ≤ 9223372036854775806 := by omega
        have i1 : (0 : Int) ≤ (k : Int) := by omega
        have i2 : (k : Int) < (l : Int) := by omega
        clear hcs hT hLo hO hbe hBad hze hgr hcl hmore h0c hcs1 hcs0 c0 c1 f1 h1 h2 h3 h4
        obtain ⟨s, hs⟩ : ∃ s, s = (sg L k).st := ⟨_, rfl⟩
        obtain ⟨x, hx⟩ : ∃ x, x = (sg L k).tm := ⟨_, rfl⟩
        obtain ⟨f, hf⟩ : ∃ f, f = (sg L k).fi := ⟨_, rfl⟩
        obtain ⟨g, hg⟩ : ∃ g, g = gg G k := ⟨_, rfl⟩
        rw [← hs] at x0
        rw [← hx] at x1
        rw [← hf] at x2
        rw [← hg] at p0
        have HS := Lib.hid hs
        have HX := Lib.hid hx
        have HF := Lib.hid hf
        have HG := Lib.hid hg
        clear hs hx hf hg
        have hcase : (s = false ∧ ¬ (x = 0 ∧ f = false)) ∨ (s = true ∧ f = true ∧ g = 0) ∨ ((s = false → sg L k = La.z) ∧ (f = true → g ≠ 0) ∧ ((s = false ∧ x = 0 ∧ f = false) ∨ (s = true ∧ f = false) ∨ (s = true ∧ f = true ∧ (g == 0) = false))) := by
          cases s with
          | false =>
            by_cases e : x = 0 ∧ f = false
            · right; right
              refine ⟨fun _ => La.ext' HS.out.symm (by rw [← HX.out, e.1]; rfl) (by rw [← HF.out, e.2]; rfl), (fun q => by rw [e.2] at q; cases q), .inl ⟨rfl, e⟩⟩
            · exact .inl ⟨rfl, e⟩
          | true =>
            right
            cases f with
            | false => exact .inr ⟨(fun q => by cases q), (fun q => by cases q), .inr (.inl ⟨rfl, rfl⟩)⟩
            | true =>
              by_cases e : g = 0
              · exact .inl ⟨rfl, rfl, e⟩
              · exact .inr ⟨(fun q => by cases q), (fun _ => e), .inr (.inr ⟨rfl, rfl, by simpa using e⟩)⟩
        rcases hcase with ⟨rfl, hb⟩ | ⟨rfl, rfl, rfl⟩ | ⟨hok1, hok2, hcase⟩
        · have HP := Lib.hid (RET.out (fun q => hb (by have := Z1.out q HS.out.symm; rw [HX.out, HF.out, this]; exact ⟨rfl, rfl⟩)) wo BE.out)
          cases hx : (x == 0) with
          | false =>
            clear hb
            go_wp2_with fail
            go_ret
            exact HP.out
          | true =>
            have hx0 : x = 0 := by simpa using hx
            subst hx0
            cases f with
            | false => exact absurd ⟨rfl, rfl⟩ hb
            | true =>
              clear hb hx
              go_wp2_with fail
              go_ret
              exact HP.out
        · have HP := Lib.hid (RET.out (fun q => Z2.out q HF.out.symm HG.out.symm) wo BE.out)
          go_wp2_with fail
          go_ret
          exact HP.out
        · have MORE := Lib.hid (fun (q : ¬ clash G L k k) => Z4.out (fun q1 => hok1 (by rw [HS.out]; exact q1)) (fun q1 => by rw [← HG.out]; exact hok2 (by rw [HF.out]; exact q1)) q)
          clear hok1 hok2
          rcases hcase with ⟨rfl, rfl, rfl⟩ | ⟨rfl, rfl⟩ | ⟨rfl, rfl, hg0⟩
          all_goals
            go_wp2_with fail
            go_loopw [6] (fun i wr => ∃ j : Nat, j ≤ k ∧ i = .int .i64 j ∧ ¬ clash G L k j ∧ Below w.heap.size w wr) (fun i _ => k - (intOf i).toNat)
            case atStart => exact ⟨0, Nat.zero_le _, rfl, C0.out, BE.out⟩
            case round =>
              obtain ⟨wi, rfl⟩ : ∃ wi : World, wi = wr := ⟨_, rfl⟩
              obtain ⟨j, hj, rfl, hnc, hbi⟩ := hrel
              have NC := Lib.hid hnc
              have BI := Lib.hid hbi
              have hTi := H.out.below hbi
              have hLi := HL.out.below hbi
              clear hnc hbi x0 x1 x2 c0' c1' p0
              by_cases hjk : j < k
              · obtain ⟨b', off', ha', _, hcs⟩ := hLi.pos (by omega)
                simp only [Option.some.injEq, Addr.mk.injEq, and_true] at ha'
                obtain ⟨rfl, rfl⟩ := ha'
                obtain ⟨_, _, x2⟩ := hcs k hkn
                obtain ⟨_, _, y2⟩ := hcs j (by omega)
                obtain ⟨gc2, ec2, c02, c12, _, _, _, _, p0, _, _, _, _, _, _⟩ := hTi.mem hkn
                obtain ⟨_, _, _, _, _, _, _, _, r0, _, _, _, _, _, _⟩ := hTi.mem (show j < l by omega)
                rw [← HF.out] at x2
                rw [← HG.out] at p0
                have i3 : (0 : Int) ≤ (j : Int) := by omega
                have i4 : (j : Int) < (l : Int) := by omega
                have BAD := Lib.hid (fun (q1 : (sg L k).fi = true) (q2 : (sg L j).fi = true) (q3 : gg G k = gg G j) => C1.out j q1 q2 q3 hjk)
                have KP := Lib.hid (C2.out j NC.out)
                obtain ⟨fj, hfj⟩ : ∃ fj, fj = (sg L j).fi := ⟨_, rfl⟩
                obtain ⟨gj, hgj⟩ : ∃ gj, gj = gg G j := ⟨_, rfl⟩
                rw [← hfj] at y2
                rw [← hgj] at r0
                have HFJ := Lib.hid hfj
                have HGJ := Lib.hid hgj
                clear hcs hTi hLi hfj hgj
                cases fj <;> cases hge : (g == gj)
                all_goals
                  first
                    | (have KP2 := Lib.hid (KP.out (by rintro ⟨q1, q2, q3⟩; first | (rw [← HF.out] at q1; cases q1; done) | (rw [← HFJ.out] at q2; cases q2; done) | (rw [← HG.out, ← HGJ.out] at q3; simp [q3] at hge; done)))
                       go_wp2_with fail
                       go_quiet (fail)
                       go_wp2_with fail
                       go_roundw
                       case rel => exact ⟨j + 1, by omega, by go_num, KP2.out, below_drewN BI.out _⟩
                       case measure => simp [intOf]; omega)
                    | (have HP := Lib.hid (RET.out (fun q => Z3.out q (BAD.out HF.out.symm HFJ.out.symm (by rw [← HG.out, ← HGJ.out]; simpa using hge))))
                       go_wp2_with fail
                       go_quiet (fail)
                       go_wp2_with fail
                       go_ret
                       exact HP.out _ (below_drewN BI.out _))
              · have hj' : j = k := by omega
                subst hj'
                have OK1 := Lib.hid (MORE.out NC.out)
                clear hTi hLi
                go_wp2_with fail
                go_roundw
                case rel => exact ⟨j + 1, by omega, by go_num, OK1.out, BI.out⟩
                case measure => simp [intOf]; omega
      · have hk' : k = l := by omega
        subst hk'
        have hok : Ok G L := ⟨by rw [HL.out.ln, H.out.ln], by rw [H.out.ln]; exact hO⟩
        obtain ⟨ga', gc', ec', k0, k1, k2, k3, k4, k5⟩ := hT.blk
        have e1 : wo.cell? ⟨t, 1, none⟩ = some (.slice (some ⟨eb, 0, none⟩) k ec') := by simp [World.cell?, k0]
        have e3 : wo.frozen? ⟨t, 1, none⟩ = false := by simp [World.frozen?, k0]
        have hs := hbe.size
        have OK := Lib.hid hok
        have K0 := Lib.hid k0
        have K1 := Lib.hid k1
        have T := Lib.hid hT
        have LO := Lib.hid hLo
        have BE := Lib.hid hbe
        have tl := hT.lt
        clear hO hT hLo hok k0 k1 hbe c0 c1 f1
        go_wp2_with (at_builtin; refine append_lr rfl (.tmp 87) (.tmp 88) rfl w.heap.size _ ?hB (.slice (some ⟨wo.heap.size, 0, none⟩) 0 0) rfl ?own (by simp) a k c L rfl ?hby ?nil hn ?_)
        case hB => simp; omega
        case own => exact ⟨rfl, .inr ⟨wo.heap.size, 0, #[], rfl, hs, heap_alloc_new wo _, Nat.le_refl _, Nat.zero_le _, rfl, rfl⟩⟩
        case hby => exact LO.out.below (alloc_b wo _)
        case nil => exact NIL.out
        intro g cg w2 g1 g2 g3 g4 hg
        have b2 : Below wo.heap.size wo w2 := (alloc_b wo _).grown hg (by simp) (fun k hk => by simp [Value.ownBlock] at hk; omega)
        have T2 := T.out.below b2
        have k2t := (b2.block t tl).trans K0.out
        have s1 : w2.cell? ⟨t, 1, none⟩ = some (.slice (some ⟨eb, 0, none⟩) k ec') := by simp [World.cell?, k2t]
        have s2 : w2.frozen? ⟨t, 1, none⟩ = false := by simp [World.frozen?, k2t]
        have hfr := Fs.set w2 t 1 (.slice (some ⟨g, 0, none⟩) k cg)
        have hblk := set_block k2t 1 (.slice (some ⟨g, 0, none⟩) k cg)
        have hgt : g ≠ t := by
          rintro rfl
          obtain ⟨arr, q1, _⟩ := g4
          rw [k2t] at q1
          simp at q1
        have hbw : Below w.heap.size w w2 := BE.out.trans (b2.mono hs)
        have HP : Hid (RLoadP C w t gb k G S L (.returned (.bool true)) (w2.setCell ⟨t, 1, none⟩ (.slice (some ⟨g, 0, none⟩) k cg))) := Lib.hid (.inr ⟨rfl, OK.out, ⟨g, g1, by
          refine ⟨H.out.ht, by have := H.out.ht; omega, H.out.ln, H.out.le, H.out.wg, HL.out.wt, OK.out, ⟨ga', gc', cg, hblk, K1.out, k2, g2, k4, g3⟩, fun h0 => (T2.gs h0).same (hfr.block gb (T2.gs h0).lt (by simp; intro e; exact (T2.apart.2 h0).1 e.symm)), g4.same (hfr.block g g4.lt (by simpa using hgt))⟩⟩, (Fs.of_below hbw).trans hfr⟩)
        clear g1 g2 g3 g4 hg b2 T2 k2t hfr hblk hgt hbw
        go_wp2_with fail
        go_ret
        exact HP.out
  · have d1 : decide (l = n) = false := by simpa using hq
    have HP : Hid (RLoadP C w t gb n G S L (.returned (.bool false)) w) := Lib.hid (.inl ⟨rfl, fun q => hq (by rw [← hL.ln, q.ln, h.ln]), Below.refl _ _⟩)
    clear h hL e0
    go_enter Try.func13, Try.ntmps13
    go_wp2_with fail
    go_ret
    exact HP.out
end Go.Proofs.Yteakbijlcccnnaa
