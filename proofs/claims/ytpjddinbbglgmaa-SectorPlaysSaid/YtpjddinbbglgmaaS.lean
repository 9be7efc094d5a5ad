/- The walk of SectorStays. -/
import Derived.Test.YtpjddinbbglgmaaR
namespace Go.Proofs.Ytpjddinbbglgmaa
set_option linter.unusedVariables false
open Go.ChangeShapes Go.WideShapes Go.ChangeAt Go.RowKit

def Small (ct : Option (Nat × Nat)) : Prop := ∀ x, ct = some x → x.1 ≤ 9223372036854775807

def WAny (B : Nat) (w : World) (d s m wr : Nat) (L : List Nat) (i : Int) (e : Ending) (w' : World) : Prop :=
  ∃ (v : Int) (pc' : Option Nat) (ct' : Option (Nat × Nat)) (dn' : Bool) (wr' : Nat) (L' : List Nat), e = .returned (.int .i64 v) ∧ Dk B w' d s pc' m ct' dn' wr' L' ∧ Below B w w' ∧ wr' ≤ wr + 1 ∧ (∀ q g, q < m → (q : Int) ≠ i → Reads L q g → Reads L' q g) ∧ Small ct'

theorem write_anyway {B : Nat} {w : World} {d s m wr : Nat} {pc : Option Nat} {ct : Option (Nat × Nat)} {dn : Bool} {L : List Nat} (i : Int) (a : Option Addr) (len cap : Nat) (f : List Nat) (h : Dk B w d s pc m ct dn wr L) (hf : Bys w a len f) (hl : len ≤ maxLen) (hw : wr ≤ 1000000000) (hct : Small ct) :
    Calls Try.prog 18 #[.pointer (some ⟨d, 0, none⟩), .int .i64 i, .slice a len cap] w (WAny B w d s m wr L i) := by
  have hB : B ≤ w.heap.size := by have := blk_lt h.db; have := h.hd; omega
  cases dn with
  | true =>
    refine (write_down i a len cap h).mono ?_
    rintro e w' ⟨rfl, rfl⟩
    exact ⟨_, pc, ct, true, wr, L, rfl, h, Below.refl _ _, by omega, fun _ _ _ _ h => h, hct⟩
  | false =>
    by_cases hbad : hasB m i = false ∨ 64 < len
    · refine (write_arg i a len cap hl h hbad).mono ?_
      rintro e w' ⟨rfl, rfl⟩
      exact ⟨_, pc, ct, false, wr, L, rfl, h, Below.refl _ _, by omega, fun _ _ _ _ h => h, hct⟩
    · have hi : hasB m i = true := by
        cases hb : hasB m i
        · exact absurd (.inl hb) hbad
        · rfl
      have hl64 : len ≤ 64 := by
        rcases Nat.lt_or_ge 64 len with c | c
        · exact absurd (.inr c) hbad
        · exact c
      simp only [hasB, Bool.and_eq_true, decide_eq_true_eq] at hi
      obtain ⟨k, rfl⟩ : ∃ k : Nat, i = (k : Int) := ⟨i.toNat, by omega⟩
      have hk : k < m := by omega
      have hfl : f.length ≤ 64 := by rw [hf.ln]; exact hl64
      rcases h.cb with ⟨rfl, rfl⟩ | ⟨c, ⟨x1, x2⟩, rfl, rfl, _, _⟩
      · refine (write_none k a len cap f h hk hf hl64 hw).mono ?_
        rintro e w' ⟨rfl, h', f'⟩
        exact ⟨_, _, _, _, _, _, rfl, h', h.step f', by omega, fun q g hq hne hr => reads_other h.len hk hq (fun e => hne (by rw [e])) _ (by rw [whole_len hfl]; exact Nat.le_refl _) hr, hct⟩
      · by_cases hx : 0 < x1
        · refine (write_some k a len cap f h hk hf hl64 hw hx (hct _ rfl)).mono ?_
          rintro e w' ⟨rfl, h', f'⟩
          refine ⟨_, _, _, _, _, _, rfl, h', h.step f', by omega, fun q g hq hne hr => reads_other h.len hk hq (fun e => hne (by rw [e])) _ (by rw [whole_len hfl]; exact Nat.le_refl _) hr, fun x e => ?_⟩
          cases e
          have := hct _ rfl
          simp at this ⊢
          omega
        · obtain rfl : x1 = 0 := by omega
          refine (write_torn k a len cap f h hk hf hl64 hw).mono ?_
          rintro e w' ⟨rfl, h', f'⟩
          exact ⟨_, _, _, _, _, _, rfl, h', h.step f', by omega, fun q g hq hne hr => reads_other h.len hk hq (fun e => hne (by rw [e])) _ (by rw [List.length_take, whole_len hfl]; omega) hr, fun x e => by cases e⟩

def CAny (B : Nat) (w : World) (d s m wr : Nat) (dn : Bool) (L : List Nat) (e : Ending) (w' : World) : Prop :=
  ∃ (pc' : Option Nat) (ct' : Option (Nat × Nat)), e = .returned (.tuple #[]) ∧ Dk B w' d s pc' m ct' dn wr L ∧ Below B w w' ∧ Small ct'

theorem cut_any {B : Nat} {w : World} {d s m wr : Nat} {pc : Option Nat} {ct : Option (Nat × Nat)} {dn : Bool} {L : List Nat} (at' n : Int) (ha : at' ≤ 9223372036854775807) (h : Dk B w d s pc m ct dn wr L) (hct : Small ct) :
    Calls Try.prog 14 #[.pointer (some ⟨d, 0, none⟩), .int .i64 at', .int .i64 n] w (CAny B w d s m wr dn L) := by
  have hB : B ≤ w.heap.size := by have := blk_lt h.db; have := h.hd; omega
  by_cases h0 : at' < 0
  · refine (cut_no (L := L) (ct := ct) (dn := dn) (wr := wr) (m := m) (s := s) (B := B) (pc := pc) at' n h0).mono ?_
    rintro e w' ⟨rfl, rfl⟩
    exact ⟨pc, ct, rfl, h, Below.refl _ _, hct⟩
  · obtain ⟨k, rfl⟩ : ∃ k : Nat, at' = (k : Int) := ⟨at'.toNat, by omega⟩
    refine (cut_yes h hB k n).mono ?_
    rintro e w' ⟨rfl, h', f'⟩
    exact ⟨_, _, rfl, h', h.step f', fun x e => by cases e; simp; omega⟩

set_option maxRecDepth 100000 in
set_option maxHeartbeats 4000000 in
theorem stays_walk (a : Option Addr) (len cap : Nat) (g : Nat → Opn) (ab : Option Addr) (lb cb : Nat) (fb : List Nat) (w : World) (h : Sl w a len g) (hb : Bys w ab lb fb) (hlb : lb ≤ maxLen) :
    Calls Try.prog 5 #[.slice a len cap, .slice ab lb cb] w fun e w' => e = .returned (.bool true) ∧ Below w.heap.size w w' := by
  have hl := h.row.le
  unfold maxLen at hl hlb
  have H := Lib.hid h
  have HBB := Lib.hid hb
  clear h hb
  go_enter Try.func5, Try.ntmps5
  go_wp2_with fail
  refine (head_any w).mono ?_
  rintro e w0 ⟨rfl, hb⟩
  have B0 := Lib.hid hb
  have hs0 := hb.size
  clear hb
  go_wp2_with fail
  refine (new_any 4 w0).mono ?_
  rintro e w1 ⟨d, rfl, hd1, hb1⟩
  rw [show (wi 4 1 256).toNat = 4 from rfl] at hd1
  obtain ⟨s, hs⟩ : ∃ s, s = w0.heap.size := ⟨_, rfl⟩
  have hd1' : Dk w0.heap.size w1 d s none 4 none false 0 (List.replicate (4 * 64) 0) := by rw [hs]; exact hd1
  have HD1 := Lib.hid hd1'
  have B1 := Lib.hid (B0.out.trans (hb1.mono hs0))
  clear hd1 hd1' hb1 hs
  have hsl1 : Sl w1 a len g := ⟨H.out.row.below B1.out, fun i hi => ⟨(H.out.wf i hi).1, (H.out.wf i hi).2.1, (H.out.wf i hi).2.2.below B1.out⟩⟩
  have HS1 := Lib.hid hsl1
  clear hsl1
  go_wp2_with fail
  refine (great_any a len cap g w1 HS1.out).mono ?_
  rintro e w2 ⟨bb, rfl, hg, rfl⟩
  have HG := Lib.hid hg
  clear hg
  cases bb
  case true =>
    go_wp2_with fail
    go_ret
    exact ⟨rfl, B1.out⟩
  case false =>
    have hl4 : len ≤ 400 := HG.out rfl
    clear HG
    by_cases h64 : 64 < lb
    · have t1 : decide (64 < (lb : Int)) = true := decide_eq_true (by omega)
      go_wp2_with fail
      go_ret
      exact ⟨rfl, B1.out⟩
    have t1 : decide (64 < (lb : Int)) = false := decide_eq_false (by omega)
    have hlb64 : lb ≤ 64 := by omega
    have hfl : fb.length ≤ 64 := by rw [HBB.out.ln]; exact hlb64
    go_wp2_with fail
    refine (write_none 3 ab lb cb fb HD1.out (by decide) (HBB.out.below B1.out) hlb64 (by decide)).mono ?_
    rintro e w3 ⟨rfl, hd3, fr3⟩
    have hr3 : Reads (splice (List.replicate (4 * 64) 0) (3 * 64) (whole fb)) 3 (fun j => fb.getD j 0) := reads_whole HD1.out.len (by decide) fb hfl
    obtain ⟨L3, hL3⟩ : ∃ L3, L3 = splice (List.replicate (4 * 64) 0) (3 * 64) (whole fb) := ⟨_, rfl⟩
    rw [← hL3] at hd3 hr3
    have HD3 := Lib.hid hd3
    have HR3 := Lib.hid hr3
    have HB3 := Lib.hid (B1.out.trans ((HD1.out.step fr3).mono hs0))
    clear hd3 hr3 fr3 hL3
    go_wp2_with fail
    go_loopw [7] (fun i wr => ∃ (k n : Nat) (pc : Option Nat) (ct : Option (Nat × Nat)) (dn : Bool) (L : List Nat), k ≤ len ∧ i = .int .i64 k ∧ Dk w0.heap.size wr d s pc 4 ct dn n L ∧ n ≤ k + 1 ∧ Reads L 3 (fun j => fb.getD j 0) ∧ Small ct ∧ Below w.heap.size w wr) (fun i _ => len - (intOf i).toNat)
    case atStart => exact ⟨0, 1, none, none, false, L3, Nat.zero_le _, rfl, HD3.out, by omega, HR3.out, (fun x e => by cases e), HB3.out⟩
    case round =>
      obtain ⟨k, n, pc, ct, dn, L, hk, rfl, hd, hn, hr, hct, hb⟩ := hrel
      obtain ⟨w4, hw4⟩ : ∃ w4, w4 = wr := ⟨_, rfl⟩
      subst hw4
      have HD := Lib.hid hd
      have HR := Lib.hid hr
      have HCT := Lib.hid hct
      have HB := Lib.hid hb
      have hbs := hb.size
      clear hd hr hct hb
      by_cases hlt : k < len
      · obtain ⟨b, off, rfl, hlt', hcs⟩ := (H.out.row.below HB.out).pos (by omega)
        have c0 : w4.cell? ⟨b, off + k * 4, none⟩ = some (.int .i64 (g k).wh) := hcs k hlt 0 (by omega)
        have c1 : w4.cell? ⟨b, off + k * 4 + 1, none⟩ = some (.int .i64 (g k).at') := hcs k hlt 1 (by omega)
        have c2 : w4.cell? ⟨b, off + k * 4 + 2, none⟩ = some (.int .i64 (g k).n) := hcs k hlt 2 (by omega)
        have c3 : w4.cell? ⟨b, off + k * 4 + 3, none⟩ = some (.slice (g k).a (g k).l (g k).c) := hcs k hlt 3 (by omega)
        obtain ⟨⟨_, wa, _⟩, hlk, hbk⟩ := H.out.wf k hlt
        have HBK := Lib.hid (hbk.below HB.out)
        have hatb := (bd_i64 wa).2
        clear hcs wa hbk
        generalize (g k).wh = wh at c0
        generalize (g k).at' = ga at c1 hatb
        generalize (g k).n = gn at c2
        generalize (g k).a = oa at c3 HBK
        generalize (g k).l = ol at c3 HBK hlk
        generalize (g k).c = oc at c3
        generalize (g k).f = of at HBK
        have HG : ∀ ob, Dk w0.heap.size (w4.alloc ob) d s pc 4 ct dn n L ∧ Below w.heap.size w (w4.alloc ob) ∧ Bys (w4.alloc ob) oa ol of := fun ob =>
          ⟨HD.out.below ((Below.refl _ _).alloc (Nat.le_refl _) _), HB.out.alloc hbs _, HBK.out.below ((Below.refl _ _).alloc (Nat.le_refl _) _)⟩
        have HG := Lib.hid HG
        by_cases h3 : wh = 3
        · subst h3
          go_wp2_with fail
          refine (cut_any ga gn hatb (HG.out _).1 HCT.out).mono ?_
          rintro e w5 ⟨pc', ct', rfl, hd5, hb5, hc5⟩
          have HD5 := Lib.hid hd5
          have HC5 := Lib.hid hc5
          have HB5 := Lib.hid ((HG.out _).2.1.trans (hb5.mono hs0))
          clear hd5 hc5 hb5 c0 c1 c2 c3 HG
          go_wp2_with fail
          go_roundw
          case rel => exact ⟨k + 1, n, pc', ct', dn, L, by omega, by go_num, HD5.out, by omega, HR.out, HC5.out, HB5.out⟩
          case measure => simp [intOf]; omega
        · have e3 : (wh == 3) = false := by simpa using h3
          by_cases h4 : wh = 4
          · subst h4
            go_wp2_with fail
            refine (boot_any (HG.out _).1).mono ?_
            rintro e w5 ⟨rfl, hd5, hf5⟩
            have HD5 := Lib.hid hd5
            have HB5 := Lib.hid ((HG.out _).2.1.trans (((HG.out _).1.step hf5).mono hs0))
            clear hd5 hf5 c0 c1 c2 c3 HG
            go_wp2_with fail
            go_roundw
            case rel => exact ⟨k + 1, n, none, none, false, L, by omega, by go_num, HD5.out, by omega, HR.out, (fun x e => by cases e), HB5.out⟩
            case measure => simp [intOf]; omega
          · have e4 : (wh == 4) = false := by simpa using h4
            by_cases ha3 : ga = 3
            · subst ha3
              have HG5 := Lib.hid (HG.out (.cells #[.int .i64 wh, .int .i64 3, .int .i64 gn, .slice oa ol oc] 31 (0, 0)))
              clear HG
              go_wp2_with fail
              go_roundw
              case rel => exact ⟨k + 1, n, pc, ct, dn, L, by omega, by go_num, HG5.out.1, by omega, HR.out, HCT.out, HG5.out.2.1⟩
              case measure => simp [intOf]; omega
            · have ea : (ga != 3) = true := by simpa using ha3
              have ea' : (ga == 3) = false := by simpa using ha3
              go_wp2_with fail
              refine (write_anyway ga oa ol oc of (HG.out _).1 (HG.out _).2.2 hlk (by omega) HCT.out).mono ?_
              rintro e w5 ⟨v, pc', ct', dn', wr', L', rfl, hd5, hb5, hw5, hr5, hc5⟩
              have HD5 := Lib.hid hd5
              have HC5 := Lib.hid hc5
              have HR5 := Lib.hid (hr5 3 _ (by decide) (fun e => ha3 e.symm) HR.out)
              have HB5 := Lib.hid ((HG.out _).2.1.trans (hb5.mono hs0))
              clear hd5 hc5 hb5 hr5 c0 c1 c2 c3 HG
              go_wp2_with fail
              go_roundw
              case rel => exact ⟨k + 1, wr', pc', ct', dn', L', by omega, by go_num, HD5.out, by omega, HR5.out, HC5.out, HB5.out⟩
              case measure => simp [intOf]; omega
      · have hk' : k = len := by omega
        subst hk'
        go_wp2_with fail
        refine (boot_any HD.out).mono ?_
        rintro e w5 ⟨rfl, hd5, hf5⟩
        have HD5 := Lib.hid hd5
        have HB5 := Lib.hid (HB.out.trans ((HD.out.step hf5).mono hs0))
        clear hd5 hf5
        go_wp2_with fail
        refine (read_ok 3 HD5.out (by decide)).mono ?_
        rintro e w9 ⟨gy, rfl, hgy, hy9, bl9⟩
        have hyl : (sec L 3).length = 64 := sec_len HD5.out.len (by decide)
        have hcy := conv_any w9.drew gy 0 lb 64 fb HBB.out.ln (fun i hi => by
          show w9.cell? _ = _
          rw [Nat.zero_add]
          simp only [World.cell?, hy9]
          have := bv_get (sec L 3) i (by omega)
          rw [getD_sec _ _ _ (by omega), HR.out i (by omega)] at this
          simpa using this)
        have hbw := HB5.out.trans (bl9.mono HB5.out.size)
        have hco := conv_bys (W := w9.drew) (cap := cb) (HBB.out.below hbw.drew)
        have HB9 := Lib.hid hbw
        have HD9 := Lib.hid ((HD5.out.below bl9).below (w' := w9.drew) (Below.refl _ _).drew)
        clear hy9 hgy bl9 hyl hbw
        have i3 : (0 : Int) ≤ (lb : Int) := by omega
        have i4 : (lb : Int) ≤ 64 := by omega
        go_upto_region 19 with fail
        refine wp_region_still_tail 25 (by kernel_rfl) (by kernel_rfl) ?_
        simp only [List.take_succ_cons, List.take_zero, List.drop_succ_cons, List.drop_zero]
        iterate 22 still_step
        clear hcy hco
        still_call ((many_any HD9.out).mono fun e w' h => ⟨h.1, h.2.symm⟩)
        iterate 2 still_step
        refine wpStill_nil ?_
        go_wp2_with fail
        go_ret
        exact ⟨rfl, HB9.out.drew⟩

theorem stays_all (a : Option Addr) (len cap : Nat) (g : Nat → Opn) (ab : Option Addr) (lb cb : Nat) (fb : Nat → Int) (w : World) (h : Sl w a len g) (r : Row w ab lb (fun i => .int .u8 (fb i))) (wf : ∀ i, i < lb → (Lit.int .u8 (fb i)).wf = true) :
    Calls Try.prog 5 #[.slice a len cap, .slice ab lb cb] w fun e w' => e = .returned (.bool true) ∧ Below w.heap.size w w' :=
  stays_walk a len cap g ab lb cb _ w h (bys_row r wf) r.le

end Go.Proofs.Ytpjddinbbglgmaa
