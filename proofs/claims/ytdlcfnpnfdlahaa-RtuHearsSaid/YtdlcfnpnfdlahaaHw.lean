/- The walk of RtuHears. -/
import Derived.Test.YtdlcfnpnfdlahaaHe
namespace Go.Proofs.Ytdlcfnpnfdlahaa
set_option linter.unusedVariables false
open Go.ChangeShapes Go.WideShapes Go.ChangeAt Go.RowKit

theorem RowS.below {W w : World} {a : Option Addr} {len sz : Nat} {V : Nat → List Value} (h : RowS W a len sz V) (hb : Below W.heap.size W w) : RowS w a len sz V := by
  refine ⟨h.le, ?_⟩
  rcases h.at' with z | ⟨b, off, ha, hlt, hc⟩
  · exact .inl z
  · exact .inr ⟨b, off, ha, Nat.lt_of_lt_of_le hlt hb.size, fun i hi j hj => (hb.cell (p := ⟨b, off + (i * sz + j), none⟩) hlt).trans (hc i hi j hj)⟩
theorem Sl.below {W w : World} {a : Option Addr} {len : Nat} {g : Nat → Opn} (h : Sl W a len g) (hb : Below W.heap.size W w) : Sl w a len g :=
  ⟨h.row.below hb, fun i hi => ⟨(h.wf i hi).1, (h.wf i hi).2.below hb⟩⟩

/-- Both ears, of which each has heard T; base is where the call began. -/
structure Two (B : Nat) (w0 wr : World) (e r : Nat) (T : List Nat) : Prop where
  er : Er B wr e T
  rr : Rr e wr r T
  be : Below w0.heap.size w0 wr
  by' : ∀ b ∈ T, b < 256

set_option maxRecDepth 100000 in
set_option maxHeartbeats 8000000 in
theorem hears_walk (a : Option Addr) (len cap : Nat) (g : Nat → Opn) (w : World) (h : Sl w a len g) :
    Calls Try.prog 5 #[.slice a len cap] w fun e w' => e = .returned (.bool true) ∧ Below w.heap.size w w' := by
  have hl := h.row.le
  unfold maxLen at hl
  have H := Lib.hid h
  clear h
  go_enter Try.func5, Try.ntmps5
  go_wp2_with fail
  refine (head_any w).mono ?_
  rintro e w0 ⟨rfl, b0⟩
  have B0 := Lib.hid b0
  have hs0 := b0.size
  clear b0
  go_wp2_with fail
  refine (new_any w0).mono ?_
  rintro e w1 ⟨rfl, e1, b1⟩
  have E1 := Lib.hid e1
  have hlt1 := e1.lt
  have B1 := Lib.hid (B0.out.trans (b1.mono hs0))
  have hs1 := b1.size
  clear e1 b1
  go_wp2_with fail
  refine (rnew_any w0.heap.size w1 hlt1).mono ?_
  rintro e w2 ⟨rfl, r2, b2⟩
  have T2 := Lib.hid (⟨E1.out.below b2, r2, B1.out.trans (b2.mono B1.out.size), by simp⟩ : Two w0.heap.size w w2 w0.heap.size w1.heap.size [])
  have hs2 := b2.size
  clear r2 b2 E1
  go_wp2_with fail
  refine (great_any a len cap g w2 (H.out.below T2.out.be)).mono ?_
  rintro e w3 ⟨bb, rfl, hg, rfl⟩
  cases bb with
  | true =>
    go_wp2_with fail
    go_ret
    exact ⟨rfl, T2.out.be⟩
  | false =>
    have hg' := hg rfl
    clear hg
    go_wp2_with fail
    go_loopw [6] (fun i wr => ∃ (k : Nat) (T : List Nat), k ≤ len ∧ i = .int .i64 k ∧ T.length ≤ tot g k ∧ Two w0.heap.size w wr w0.heap.size w1.heap.size T) (fun i _ => len - (intOf i).toNat)
    case atStart => exact ⟨0, [], Nat.zero_le _, rfl, Nat.zero_le _, T2.out⟩
    case round =>
      clear T2
      obtain ⟨wo, rfl⟩ : ∃ wo : World, wo = wr := ⟨_, rfl⟩
      obtain ⟨k, T, hk, rfl, hT, h2⟩ := hrel
      have S2 := Lib.hid h2
      have hbe := h2.be
      have hse := hbe.size
      have her := h2.er.lt
      have hrr := h2.rr.lt
      by_cases hlt : k < len
      · have hsl := H.out.below hbe
        obtain ⟨b, off, rfl, hlb, _⟩ := H.out.row.pos (by omega)
        obtain ⟨b', off', eb, _, hcs⟩ := hsl.row.pos (by omega)
        simp only [Option.some.injEq, Addr.mk.injEq, and_true] at eb
        obtain ⟨rfl, rfl⟩ := eb
        have c0 : wo.cell? ⟨b, off + k * 2, none⟩ = some (.int .i64 (g k).wh) := hcs k hlt 0 (by omega)
        have c1 : wo.cell? ⟨b, off + k * 2 + 1, none⟩ = some (.slice (g k).a (g k).l (g k).c) := hcs k hlt 1 (by omega)
        have hA := (hsl.wf k hlt).2
        have hA0 := (H.out.wf k hlt).2
        have htk := tot_mono g (show k + 1 ≤ len by omega)
        have hts : tot g (k + 1) = tot g k + (if (g k).l < 20000 then (g k).l else 20000) := rfl
        have htb : tot g (k + 1) < 20000 := by omega
        have TS := Lib.hid hts
        have A := Lib.hid hA
        have A0 := Lib.hid hA0
        clear hcs hsl hbe h2 hA hA0 hts htk
        generalize (g k).wh = wh at *
        generalize (g k).a = ga at *
        generalize (g k).l = gl at *
        generalize (g k).c = gc at *
        generalize (g k).f = gf at *
        have hgl : tot g k + gl = tot g (k + 1) := by have := TS.out; split at this <;> omega
        by_cases hw : wh = 2
        · subst hw
          go_wp2_with fail
          refine (sil_u S2.out.er (by omega) S2.out.by').mono ?_
          rintro e w4 ⟨⟨xa, xl, xc, rfl, hx, hxf⟩, e4, f4⟩
          have R4 := Lib.hid (S2.out.rr.fr f4)
          have E4 := Lib.hid e4
          have F4 := Lib.hid f4
          have HX := Lib.hid hx
          have HXF := Lib.hid hxf
          have hs4 := f4.size
          clear e4 f4 hx hxf
          go_wp2_with fail
          refine (rsil_any R4.out).mono ?_
          rintro e w5 ⟨⟨ya, yl, yc, rfl, hy⟩, r5, f5⟩
          have hs5 := f5.size
          have be5 : Below w.heap.size w w5 := S2.out.be.trans ((F4.out.below (by omega) (by omega)).trans (f5.below (by omega) (by omega)))
          have S5 := Lib.hid (⟨E4.out.fr f5 (by omega), r5, be5, by simp⟩ : Two w0.heap.size w w5 w0.heap.size w1.heap.size [])
          have hcx := conv_bys (cap := xc) (HX.out.fr f5 (fun b off h0 e => by have := HXF.out b off e h0; omega))
          have hcy := conv_bys (cap := yc) hy
          generalize strN (sP T) = SS at hcx hcy
          generalize sU T = su at *
          generalize sC T = sc at *
          generalize nzB T = sd at *
          clear R4 E4 F4 HX HXF r5 f5 hy be5
          go_wp2_with fail
          refine (many_any S5.out.er).mono ?_
          rintro e w6 ⟨rfl, rfl⟩
          go_wp2_with fail
          refine (rmany_any S5.out.rr).mono ?_
          rintro e w6 ⟨rfl, rfl⟩
          go_wp2_with fail
          go_roundw
          case rel => exact ⟨k + 1, [], by omega, by go_num, Nat.zero_le _, S5.out⟩
          case measure => simp [intOf]; omega
        · have t1 : (wh == 2) = false := by simpa using hw
          go_wp2_with fail
          refine (hear_any S2.out.er ga gl gc gf A.out.row (by omega)).mono ?_
          rintro e w4 ⟨rfl, e4, f4⟩
          have R4 := Lib.hid (S2.out.rr.fr f4)
          have E4 := Lib.hid e4
          have F4 := Lib.hid f4
          have hs4 := f4.size
          have c1' : w4.cell? ⟨b, off + k * 2 + 1, none⟩ = some (.slice ga gl gc) := (World.cell?_of_block (a := ⟨b, off + k * 2 + 1, none⟩) (F4.out.block b (by omega) (by omega))).trans c1
          have A4 := Lib.hid (show ArgB w4 ga gl gc gf from A0.out.below (S2.out.be.trans (f4.below (by omega) (by omega))))
          clear e4 f4
          go_wp2_with fail
          refine (rhear_any R4.out (by omega) ga gl gc gf A4.out (by omega)).mono ?_
          rintro e w5 ⟨rfl, r5, f5⟩
          have hs5 := f5.size
          have be5 : Below w.heap.size w w5 := S2.out.be.trans ((F4.out.below (by omega) (by omega)).trans (f5.below (by omega) (by omega)))
          have S5 := Lib.hid (⟨E4.out.fr f5 (by omega), r5, be5, by_app S2.out.by' A.out.row.by'⟩ : Two w0.heap.size w w5 w0.heap.size w1.heap.size (T ++ gf))
          have hTl : (T ++ gf).length ≤ tot g (k + 1) := by rw [List.length_append, A.out.row.ln]; omega
          have HTL := Lib.hid hTl
          clear R4 E4 F4 A4 r5 f5 be5 hTl
          go_wp2_with fail
          refine (many_any S5.out.er).mono ?_
          rintro e w6 ⟨rfl, rfl⟩
          go_wp2_with fail
          refine (rmany_any S5.out.rr).mono ?_
          rintro e w6 ⟨rfl, rfl⟩
          go_wp2_with fail
          go_roundw
          case rel => exact ⟨k + 1, _, by omega, by go_num, HTL.out, S5.out⟩
          case measure => simp [intOf]; omega
      · have hk' : k = len := by omega
        subst hk'
        clear h2
        go_wp2_with fail
        go_ret
        exact ⟨rfl, S2.out.be⟩
end Go.Proofs.Ytdlcfnpnfdlahaa
