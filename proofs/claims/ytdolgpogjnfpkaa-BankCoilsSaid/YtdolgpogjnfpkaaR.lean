/- May, counted, wordBytes. -/
import Derived.Test.YtdolgpogjnfpkaaQ
namespace Go.Proofs.Ytdolgpogjnfpkaa
set_option linter.unusedVariables false
set_option linter.unusedSimpArgs false
open Go.ChangeShapes Go.WideShapes Go.ChangeAt Go.RowKit

def BoolB (w : World) (b : Bool) (e : Ending) (w' : World) : Prop := e = .returned (.bool b) ∧ Below w.heap.size w w'
set_option maxRecDepth 100000 in
set_option maxHeartbeats 4000000 in
theorem may_any (r : Rq) (rd bi : Bool) (p : Rp) (w : World) (hr : r.ok w) (hp : p.ok w) : Calls Try.prog 59 #[av r rd bi, rpv p] w (BoolB w (mayB r.q rd bi p.code p.V)) := by
  obtain ⟨P, hP⟩ : ∃ P, P = (BoolB w (mayB r.q rd bi p.code p.V) : Ending → World → Prop) := ⟨_, rfl⟩
  rw [← hP]
  have HP := Lib.hid hP
  have hln := hp.arg.row.ln
  have hle := hp.arg.row.le
  unfold maxLen at hle
  have HR := Lib.hid hp.arg.row
  clear hP hr hp
  obtain ⟨fc, ad, q, vs, vn, vc, V, rto⟩ := r
  obtain ⟨code, us, un, uc, U⟩ := p
  simp only [av, rpv]
  simp only at hln hle HP HR
  have b0 : Below w.heap.size w ((w.alloc (.cells #[.int .i64 fc, .int .i64 ad, .int .i64 q, .slice vs vn vc, .int .i64 rto, .bool rd, .bool bi] 87 (0, 0))).alloc (.cells #[.int .i64 code, .slice us un uc] 40 (0, 0))) := (alloc_bq _ _).trans ((alloc_bq _ _).mono (by simp))
  have B0 := Lib.hid b0
  have HRW := Lib.hid (HR.out.below b0)
  clear b0
  by_cases hc : code = 0
  · subst hc
    cases rd with
    | false =>
      by_cases hu : un = 0
      · have t1 : ((un : Int) == 0) = true := by simp; omega
        have hm : mayB q false bi 0 U = true := by unfold mayB; rw [if_pos (.inr rfl)]; simp; exact List.eq_nil_of_length_eq_zero (by omega)
        have HM := Lib.hid hm
        clear hm hu
        go_enter Try.func59, Try.ntmps59
        go_wp2_with fail
        rw [HP.out]
        exact ⟨by rw [HM.out]; rfl, B0.out⟩
      · have t1 : ((un : Int) == 0) = false := by simp; omega
        have hm : mayB q false bi 0 U = false := by unfold mayB; rw [if_pos (.inr rfl)]; simp; intro e; rw [e] at hln; simp at hln; omega
        have HM := Lib.hid hm
        clear hm hu
        go_enter Try.func59, Try.ntmps59
        go_wp2_with fail
        rw [HP.out]
        exact ⟨by rw [HM.out]; rfl, B0.out⟩
    | true =>
      have hm : mayB q true bi 0 U = (decide ((un : Int) = q) && (!bi || allB U)) := by unfold mayB; rw [if_neg (by simp)]; rw [hln]
      have HM := Lib.hid hm
      clear hm
      by_cases hq : (un : Int) = q
      · have t1 : ((un : Int) == q) = true := by simpa using hq
        have HQ : Hid (decide ((un : Int) = q) = true) := Lib.hid (by simpa using hq)
        clear hq
        cases bi with
        | false =>
          go_enter Try.func59, Try.ntmps59
          go_wp2_with fail
          rw [HP.out]
          exact ⟨by rw [HM.out, HQ.out]; rfl, B0.out⟩
        | true =>
          go_enter Try.func59, Try.ntmps59
          go_wp2_with fail
          refine (allBitsR_any us un uc U _ HRW.out).mono ?_
          rintro e w1 ⟨rfl, rfl⟩
          go_wp2_with fail
          rw [HP.out]
          exact ⟨by rw [HM.out, HQ.out]; simp, B0.out⟩
      · have t1 : ((un : Int) == q) = false := by simpa using hq
        have HQ : Hid (decide ((un : Int) = q) = false) := Lib.hid (by simpa using hq)
        clear hq
        go_enter Try.func59, Try.ntmps59
        go_wp2_with fail
        rw [HP.out]
        exact ⟨by rw [HM.out, HQ.out]; rfl, B0.out⟩
  · have t0 : (code == 0) = false := by simpa using hc
    have t0' : (code != 0) = true := by simpa using hc
    have hm : mayB q rd bi code U = (decide (un = 0) && isEx code) := by unfold mayB; rw [if_pos (.inl hc), hln]; simp [hc]
    have HM := Lib.hid hm
    clear hm hc
    by_cases hu : un = 0
    · have t1 : ((un : Int) == 0) = true := by simp; omega
      have HU : Hid (decide (un = 0) = true) := Lib.hid (by simpa using hu)
      clear hu
      go_enter Try.func59, Try.ntmps59
      go_wp2_with fail
      refine (isEx_any code _).mono ?_
      rintro e w1 ⟨rfl, rfl⟩
      go_wp2_with fail
      rw [HP.out]
      exact ⟨by rw [HM.out, HU.out]; simp, B0.out⟩
    · have t1 : ((un : Int) == 0) = false := by simp; omega
      have HU : Hid (decide (un = 0) = false) := Lib.hid (by simpa using hu)
      clear hu
      go_enter Try.func59, Try.ntmps59
      go_wp2_with fail
      rw [HP.out]
      exact ⟨by rw [HM.out, HU.out]; rfl, B0.out⟩
/-- Bytes of the call's own. -/
def OutP (w : World) (L : List Nat) (e : Ending) (w' : World) : Prop := ∃ v, e = .returned v ∧ OwnV w.heap.size w' v L ∧ Below w.heap.size w w'
set_option maxRecDepth 100000 in
set_option maxHeartbeats 4000000 in
theorem countedR_any (r : Rq) (rd bi : Bool) (a : Option Addr) (n c : Nat) (M : List Nat) (w : World) (h : Bys w a n M) (hnil : a = none → c = 0) (hn : n ≤ 255) (hf : 0 ≤ r.fc ∧ r.fc ≤ 127) :
    Calls Try.prog 79 #[av r rd bi, .slice a n c] w (OutP w (r.fc.toNat :: n :: M)) := by
  obtain ⟨P, hP⟩ : ∃ P, P = (OutP w (r.fc.toNat :: n :: M) : Ending → World → Prop) := ⟨_, rfl⟩
  rw [← hP]
  have HP := Lib.hid hP
  obtain ⟨fc, ad, q, vs, vn, vc, V, rto⟩ := r
  simp only at hf HP
  obtain ⟨fc, rfl⟩ : ∃ k : Nat, fc = (k : Int) := ⟨fc.toNat, by omega⟩
  simp only [av]
  have H := Lib.hid h
  have HN := Lib.hid hnil
  have b0 := alloc_bq w (.cells #[.int .i64 (fc : Int), .int .i64 ad, .int .i64 q, .slice vs vn vc, .int .i64 rto, .bool rd, .bool bi] 87 (0, 0))
  have B0 := Lib.hid b0
  have c1 : IntKind.u8.wrap (fc : Int) = (fc : Int) := by simp [IntKind.wrap, IntKind.bits, IntKind.signed]; omega
  have c2 : IntKind.u8.wrap (n : Int) = (n : Int) := by simp [IntKind.wrap, IntKind.bits, IntKind.signed]; omega
  clear hP h hnil b0
  go_enter Try.func79, Try.ntmps79
  go_wp2_with (at_builtin; refine wpList_append_bys rfl (.tmp 12) (.tmp 13) rfl w.heap.size _ ?hB (.slice (some ⟨w.heap.size + 1, 0, none⟩) 2 2) 2 [fc, n] rfl ?own a n c M rfl ?hby ?nil ?le ?_)
  case hB => simp; omega
  case own =>
    refine ⟨rfl, .inr ⟨w.heap.size + 1, 2, #[.int .u8 (fc : Int), .int .u8 (n : Int)], rfl, Nat.le_succ _, ?_, Nat.le_refl _, by unfold maxLen; omega, rfl, rfl⟩⟩
    have := heap_alloc_new (w.alloc (.cells #[.int .i64 (fc : Int), .int .i64 ad, .int .i64 q, .slice vs vn vc, .int .i64 rto, .bool rd, .bool bi] 87 (0, 0))) (.cells #[.int .u8 (fc : Int), .int .u8 (n : Int)] 5 (0, 0))
    rw [World.size_alloc] at this
    exact this
  case hby => exact (H.out.below B0.out).below (alloc_bq _ _)
  case nil => exact HN.out
  case le => omega
  intro v2 w2 ho2 hg2 _ _
  have hb2 : Below w.heap.size w w2 := (B0.out.alloc B0.out.size _).grown hg2 (by simp; omega) (fun k hk => by simp only [Value.ownBlock, Option.some.injEq] at hk; omega)
  have HF : Hid (OutP w (fc :: n :: M) (.returned v2) w2) := Lib.hid ⟨v2, rfl, by
    unfold OwnV
    rw [show (fc :: n :: M).length = 2 + n by simp [H.out.ln]; omega]
    exact ho2, hb2⟩
  clear ho2 hg2 hb2
  go_wp2_with fail
  rw [HP.out, Int.toNat_natCast]
  exact HF.out
set_option maxRecDepth 100000 in
set_option maxHeartbeats 4000000 in
theorem wordBytes_any (a : Option Addr) (n c : Nat) (V : List Nat) (w : World) (h : Wds w a n V) (hn : n ≤ 10000) :
    Calls Try.prog 80 #[.slice a n c] w (OutP w (wb V)) := by
  have H := Lib.hid h
  have hln := h.ln
  obtain ⟨ti, hi, hz0, hz1, hz2⟩ := info_parts info5
  have mk : (Instr.makeSlice 33 (.int .i64 0) (.int .i64 (2 * (n : Int)))).run Try.prog w = .ok (.slice (some ⟨w.heap.size, 0, none⟩) 0 (2 * n)) (w.alloc (.cells (bv (List.replicate (2 * n) 0)).toArray 5 (0, 0))) := by
    have hr := run_make (P := Try.prog) (w := w) 33 5 ti _ Try.underlying33 hi hz0 .i64 .i64 0 (2 * (n : Int)) (by omega) (by omega) (by rw [hz2]; omega) (by omega)
    rw [hz1] at hr
    have e : (2 * (n : Int)).toNat = 2 * n := by omega
    rw [e] at hr
    rw [hr]
    congr 2
    have := made_zero (2 * n)
    rw [← this]
  have w2n : wrap64 (2 * (n : Int)) = 2 * (n : Int) := by unfold wrap64; omega
  have own0 : OwnV w.heap.size (w.alloc (.cells (bv (List.replicate (2 * n) 0)).toArray 5 (0, 0))) (.slice (some ⟨w.heap.size, 0, none⟩) 0 (2 * n)) [] :=
    ⟨rfl, .inr ⟨w.heap.size, 2 * n, _, rfl, Nat.le_refl _, heap_alloc_new _ _, Nat.zero_le _, by unfold maxLen; omega, by simp [bv], by simp [bv]⟩⟩
  have OWN0 := Lib.hid own0
  obtain ⟨B, hB⟩ : ∃ B, B = w.heap.size := ⟨_, rfl⟩
  have HBQ := Lib.hid hB
  have hB0 : B ≤ w.heap.size := by omega
  clear h own0 hB
  go_enter Try.func80, Try.ntmps80
  go_wp2_with fail
  clear mk w2n
  go_loopw [3, 12] (fun v iv wr => ∃ k : Nat, k ≤ n ∧ iv = .int .i64 k ∧ OwnV B wr v (wb (V.take k)) ∧ Below B w wr ∧ (∀ i, i < n → ∀ b off, a = some ⟨b, off, none⟩ → wr.cell? ⟨b, off + i, none⟩ = some (.int .u16 ((V.getD i 0 : Nat) : Int)) ∧ b < wr.heap.size ∧ ∀ b', v.ownBlock = some b' → b ≠ b')) (fun _ iv _ => n - (intOf iv).toNat)
  case atStart =>
    refine ⟨0, Nat.zero_le _, rfl, by rw [HBQ.out]; simpa [wb] using OWN0.out, by rw [HBQ.out]; exact alloc_bq _ _, fun i hi b off e => ?_⟩
    obtain ⟨b', off', e', hlt, hc⟩ := H.out.pos (by omega)
    rw [e] at e'
    simp only [Option.some.injEq, Addr.mk.injEq, and_true] at e'
    obtain ⟨rfl, rfl⟩ := e'
    refine ⟨((alloc_bq w _).cell (p := ⟨b, off + i, none⟩) hlt).trans (hc i hi), by simp; omega, fun b' hb' => ?_⟩
    simp [Value.ownBlock] at hb'
    omega
  case round =>
    obtain ⟨wo, rfl⟩ : ∃ wo : World, wo = wr := ⟨_, rfl⟩
    obtain ⟨k, hk, rfl, hO, hb, hcc⟩ := hrel
    obtain ⟨wa, wc, rfl⟩ := own_form hO
    by_cases hkn : k < n
    · obtain ⟨b, off, rfl, hbl, hc⟩ := H.out.pos (by omega)
      obtain ⟨hc0, hbo, hbne⟩ := hcc k hkn b off rfl
      have ht := take_snoc' V k (by omega)
      have hv := wgetD_lt H.out.by' k
      generalize V.getD k 0 = v at hc0 ht hv
      have hwl := wb_len (V.take k)
      have htl : (V.take k).length = k := by rw [List.length_take]; omega
      have HT := Lib.hid ht
      have HO2 := Lib.hid hO
      have HBE := Lib.hid hb
      have sw := hb.size
      have d0 : (k : Int) < (n : Int) := by omega
      have hlen : (wb (V.take k)).length ≤ 40000 := by rw [hwl, htl]; omega
      have HLEN := Lib.hid hlen
      clear ht hO hb hc hwl htl hlen
      generalize hM : wb (V.take k) = M at *
      have HM := Lib.hid hM
      obtain ⟨m, hm⟩ : ∃ m, m = M.length := ⟨_, rfl⟩
      have Hm := Lib.hid hm
      have hO3 : wo.ownsRow B 5 1 (.slice wa M.length wc) M.length (bv M) := HO2.out
      rw [← hm] at hO3 hcc ⊢
      have HCC := Lib.hid hcc
      clear hcc
      have HO3 := Lib.hid hO3
      clear hM hm hO3
      go_wp2_with (at_builtin; refine wpList_append_bys rfl (.tmp 16) (.tmp 22) rfl B _ ?hB _ m M rfl ?own (some ⟨wo.heap.size, 0, none⟩) 2 2 [v / 256, v % 256] rfl ?hby ?nil ?le ?_)
      case hB => simp; omega
      case own => exact own_keep (w' := wo.alloc (.cells #[.int .u8 ((v / 256 : Nat) : Int), .int .u8 ((v % 256 : Nat) : Int)] 5 (0, 0))) HO3.out ((Below.refl _ _).alloc (Nat.le_refl _) _)
      case hby =>
        refine bys_block [v / 256, v % 256] (by simp [maxLen]) ?_ ?_ (t := 5) (m := (0, 0))
        · intro b hb
          simp at hb
          omega
        · rw [heap_alloc_new]; simp [bv]
      case nil => intro e; cases e
      case le => have := HLEN.out; have := Hm.out; omega
      intro v' w' ho' hg' _ hob
      have hbA : Below B wo w' := ((Below.refl B wo).alloc (Nat.le_trans hB0 sw) _).grown hg' (by simp; omega) (fun q hq => by
        have := (own_keep (w' := wo.alloc (.cells #[.int .u8 ((v / 256 : Nat) : Int), .int .u8 ((v % 256 : Nat) : Int)] 5 (0, 0))) HO3.out ((Below.refl _ _).alloc (Nat.le_refl _) _)).lt q hq
        exact this.1)
      have hO5 : OwnV B w' v' (wb (V.take (k + 1))) := by
        rw [HT.out, wb_app, wb_one, HM.out]
        have e : (M ++ [v / 256, v % 256]).length = m + 2 := by rw [List.length_append, Hm.out]; rfl
        unfold OwnV
        rw [e]
        exact ho'
      have hcc' : ∀ i, i < n → ∀ b2 off2, some (⟨b, off, none⟩ : Addr) = some ⟨b2, off2, none⟩ → w'.cell? ⟨b2, off2 + i, none⟩ = some (.int .u16 ((V.getD i 0 : Nat) : Int)) ∧ b2 < w'.heap.size ∧ ∀ b', v'.ownBlock = some b' → b2 ≠ b' := by
        intro i hi b2 off2 e
        obtain ⟨q1, q2, q3⟩ := HCC.out i hi b2 off2 e
        refine ⟨?_, Nat.lt_of_lt_of_le q2 hbA.size, fun b' hb' => ?_⟩
        · rw [← q1]
          refine World.cell?_of_block ((hg'.block b2 (by simp; omega) (fun e2 => q3 b2 e2.symm rfl)).trans ?_)
          exact heap_alloc_old _ _ q2
        · rcases hob with hob | hob
          · exact q3 b' (by rw [← hob]; exact hb')
          · rw [hb'] at hob
            simp at hob
            omega
      have O5 := Lib.hid hO5
      have B5 := Lib.hid (HBE.out.trans hbA)
      have C5 := Lib.hid hcc'
      clear hO5 hbA ho' hg' hob hcc' HO2 HO3 HCC
      go_wp2_with fail
      go_roundw
      case rel => exact ⟨k + 1, by omega, by go_num, O5.out, B5.out, C5.out⟩
      case measure => simp [intOf]; omega
    · have hk' : k = n := by omega
      subst hk'
      rw [List.take_of_length_le (by omega)] at hO
      have HF : Hid (OutP w (wb V) (.returned (.slice wa (wb (V.take k)).length wc)) wo) := Lib.hid (by
        refine ⟨_, rfl, ?_, by rw [← HBQ.out]; exact hb⟩
        rw [← HBQ.out]
        rw [List.take_of_length_le (by omega)]
        exact hO)
      clear hO hb hcc
      go_wp2_with fail
      go_ret
      exact HF.out
end Go.Proofs.Ytdolgpogjnfpkaa
